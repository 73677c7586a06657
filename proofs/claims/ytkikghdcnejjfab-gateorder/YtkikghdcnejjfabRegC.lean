/-
  The document's own answer: rgref1.Check, region by region (the others).
-/
import Derived.Test.YtkikghdcnejjfabRegB
namespace Go.Proofs.Ytkikghdcnejjfab
open Go.RowKit
set_option maxRecDepth 1000000 in
set_option maxHeartbeats 4000000 in
theorem reg14_wp (Q : Exit → Act → World → Prop) (K : Act → World → Prop) (w : World) (g : Nat) (op jt jf kk M : Int) (two b : Bool) (hb : B14 op kk M = b)
    (_c0 : w.cell? ⟨g, 0, none⟩ = some (.int .i64 op)) (_c1 : w.cell? ⟨g, 1, none⟩ = some (.int .i64 jt)) (_c2 : w.cell? ⟨g, 2, none⟩ = some (.int .i64 jf)) (_c3 : w.cell? ⟨g, 3, none⟩ = some (.int .i64 kk))
    (x0 x1 x2 x3 x4 x7 x9 x10 x11 x12 x13 x14 x15 x16 x17 x18 x19 x20 x21 x22 x23 x24 x25 x26 x27 x28 x29 x30 x31 x32 x33 x34 x35 x36 x37 x38 x39 x40 x41 x42 x43 x44 x45 x46 x47 x48 x49 x50 x51 x52 x53 x54 x55 x56 x57 x58 x59 x60 x61 x62 x63 x64 x65 x66 x67 x68 x69 x70 x71 x72 x73 x74 x75 x76 x77 x78 x79 x80 x81 x82 x83 x84 x85 x86 x87 x88 x89 x90 x91 x92 x93 x94 x95 x96 x97 x98 x99 x100 x101 x102 x103 x104 x105 x106 x107 x108 x109 x110 x111 x112 x113 x114 x115 x116 x117 x118 x119 x120 x121 x122 x123 x124 x125 x126 x127 x128 x129 x130 x131 x132 x133 x134 x135 x136 x137 x138 x139 x140 x141 x142 x143 x144 x145 x146 x147 x148 x149 x150 x151 x152 x153 x154 x155 x156 x157 x158 x159 x160 x161 x162 x163 x164 : Value)
    (h : ∀ y108 y109 y110 y111 y112 y113 y114 y115 y116 y117 y118 y119 y120 y121 : Value, K ⟨#[x0, x1, x2, x3, x4, .pointer (some ⟨g, 0, none⟩), .int .i64 (M - 1), x7, .bool two, x9, x10, x11, x12, x13, x14, x15, x16, x17, x18, x19, x20, x21, x22, x23, x24, x25, x26, x27, x28, x29, x30, x31, x32, x33, x34, x35, x36, x37, x38, x39, x40, x41, x42, x43, x44, x45, x46, x47, x48, x49, x50, .bool b, x52, x53, x54, x55, x56, x57, x58, x59, x60, x61, x62, x63, x64, x65, x66, x67, x68, x69, x70, x71, x72, x73, x74, x75, x76, x77, x78, x79, x80, x81, x82, x83, x84, x85, x86, x87, x88, x89, x90, x91, x92, x93, x94, x95, x96, x97, x98, x99, x100, x101, x102, x103, x104, x105, x106, x107, y108, y109, y110, y111, y112, y113, y114, y115, y116, y117, y118, y119, y120, y121, x122, x123, x124, x125, x126, x127, x128, x129, x130, x131, x132, x133, x134, x135, x136, x137, x138, x139, x140, x141, x142, x143, x144, x145, x146, x147, x148, x149, x150, x151, x152, x153, x154, x155, x156, x157, x158, x159, x160, x161, x162, x163, x164], []⟩ w) :
    Code.wp Try.prog ((Try.f16.body.bind (findRegion 14)).getD .skip) (Exit.then K Q) ⟨#[x0, x1, x2, x3, x4, .pointer (some ⟨g, 0, none⟩), .int .i64 (M - 1), x7, .bool two, x9, x10, x11, x12, x13, x14, x15, x16, x17, x18, x19, x20, x21, x22, x23, x24, x25, x26, x27, x28, x29, x30, x31, x32, x33, x34, x35, x36, x37, x38, x39, x40, x41, x42, x43, x44, x45, x46, x47, x48, x49, x50, x51, x52, x53, x54, x55, x56, x57, x58, x59, x60, x61, x62, x63, x64, x65, x66, x67, x68, x69, x70, x71, x72, x73, x74, x75, x76, x77, x78, x79, x80, x81, x82, x83, x84, x85, x86, x87, x88, x89, x90, x91, x92, x93, x94, x95, x96, x97, x98, x99, x100, x101, x102, x103, x104, x105, x106, x107, x108, x109, x110, x111, x112, x113, x114, x115, x116, x117, x118, x119, x120, x121, x122, x123, x124, x125, x126, x127, x128, x129, x130, x131, x132, x133, x134, x135, x136, x137, x138, x139, x140, x141, x142, x143, x144, x145, x146, x147, x148, x149, x150, x151, x152, x153, x154, x155, x156, x157, x158, x159, x160, x161, x162, x163, x164], []⟩ w := by
  have HH : Hid (∀ y108 y109 y110 y111 y112 y113 y114 y115 y116 y117 y118 y119 y120 y121 : Value, K ⟨#[x0, x1, x2, x3, x4, .pointer (some ⟨g, 0, none⟩), .int .i64 (M - 1), x7, .bool two, x9, x10, x11, x12, x13, x14, x15, x16, x17, x18, x19, x20, x21, x22, x23, x24, x25, x26, x27, x28, x29, x30, x31, x32, x33, x34, x35, x36, x37, x38, x39, x40, x41, x42, x43, x44, x45, x46, x47, x48, x49, x50, .bool b, x52, x53, x54, x55, x56, x57, x58, x59, x60, x61, x62, x63, x64, x65, x66, x67, x68, x69, x70, x71, x72, x73, x74, x75, x76, x77, x78, x79, x80, x81, x82, x83, x84, x85, x86, x87, x88, x89, x90, x91, x92, x93, x94, x95, x96, x97, x98, x99, x100, x101, x102, x103, x104, x105, x106, x107, y108, y109, y110, y111, y112, y113, y114, y115, y116, y117, y118, y119, y120, y121, x122, x123, x124, x125, x126, x127, x128, x129, x130, x131, x132, x133, x134, x135, x136, x137, x138, x139, x140, x141, x142, x143, x144, x145, x146, x147, x148, x149, x150, x151, x152, x153, x154, x155, x156, x157, x158, x159, x160, x161, x162, x163, x164], []⟩ w) := h
  have HB : Hid (B14 op kk M = b) := hb
  clear h hb
  conv => arg 2; whnf
  by_cases h1 : op = 5
  · subst h1
    by_cases h2 : kk < 0
    · obtain rfl : true = b := by rw [← HB.out]; unfold B14; simp [h2]
      go_wp2
      exact HH.out _ _ _ _ _ _ _ _ _ _ _ _ _ _
    by_cases h3 : M - 1 < kk
    · obtain rfl : true = b := by rw [← HB.out]; unfold B14; simp [h3]
      go_wp2
      exact HH.out _ _ _ _ _ _ _ _ _ _ _ _ _ _
    · obtain rfl : false = b := by rw [← HB.out]; symm; unfold B14; rw [decide_eq_false_iff_not]; omega
      go_wp2
      exact HH.out _ _ _ _ _ _ _ _ _ _ _ _ _ _
  · have h1' : (op == 5) = false := by simpa using h1
    obtain rfl : false = b := by rw [← HB.out]; symm; unfold B14; rw [decide_eq_false_iff_not]; omega
    go_wp2
    exact HH.out _ _ _ _ _ _ _ _ _ _ _ _ _ _
set_option maxRecDepth 1000000 in
set_option maxHeartbeats 4000000 in
theorem reg15_wp (Q : Exit → Act → World → Prop) (K : Act → World → Prop) (w : World) (g : Nat) (op jt jf kk M : Int) (two b : Bool) (hb : B15 op kk = b)
    (_c0 : w.cell? ⟨g, 0, none⟩ = some (.int .i64 op)) (_c1 : w.cell? ⟨g, 1, none⟩ = some (.int .i64 jt)) (_c2 : w.cell? ⟨g, 2, none⟩ = some (.int .i64 jf)) (_c3 : w.cell? ⟨g, 3, none⟩ = some (.int .i64 kk))
    (x0 x1 x2 x3 x4 x7 x9 x10 x11 x12 x13 x14 x15 x16 x17 x18 x19 x20 x21 x22 x23 x24 x25 x26 x27 x28 x29 x30 x31 x32 x33 x34 x35 x36 x37 x38 x39 x40 x41 x42 x43 x44 x45 x46 x47 x48 x49 x50 x51 x52 x53 x54 x55 x56 x57 x58 x59 x60 x61 x62 x63 x64 x65 x66 x67 x68 x69 x70 x71 x72 x73 x74 x75 x76 x77 x78 x79 x80 x81 x82 x83 x84 x85 x86 x87 x88 x89 x90 x91 x92 x93 x94 x95 x96 x97 x98 x99 x100 x101 x102 x103 x104 x105 x106 x107 x108 x109 x110 x111 x112 x113 x114 x115 x116 x117 x118 x119 x120 x121 x122 x123 x124 x125 x126 x127 x128 x129 x130 x131 x132 x133 x134 x135 x136 x137 x138 x139 x140 x141 x142 x143 x144 x145 x146 x147 x148 x149 x150 x151 x152 x153 x154 x155 x156 x157 x158 x159 x160 x161 x162 x163 x164 : Value)
    (h : ∀ y122 y123 y124 y125 y126 y127 y128 y129 y130 y131 y132 y133 y134 : Value, K ⟨#[x0, x1, x2, x3, x4, .pointer (some ⟨g, 0, none⟩), .int .i64 (M - 1), x7, .bool two, x9, x10, x11, x12, x13, x14, x15, x16, x17, x18, x19, x20, x21, x22, x23, x24, x25, x26, x27, x28, x29, x30, x31, x32, x33, x34, x35, x36, x37, x38, x39, x40, x41, x42, x43, x44, x45, x46, x47, x48, x49, x50, .bool b, x52, x53, x54, x55, x56, x57, x58, x59, x60, x61, x62, x63, x64, x65, x66, x67, x68, x69, x70, x71, x72, x73, x74, x75, x76, x77, x78, x79, x80, x81, x82, x83, x84, x85, x86, x87, x88, x89, x90, x91, x92, x93, x94, x95, x96, x97, x98, x99, x100, x101, x102, x103, x104, x105, x106, x107, x108, x109, x110, x111, x112, x113, x114, x115, x116, x117, x118, x119, x120, x121, y122, y123, y124, y125, y126, y127, y128, y129, y130, y131, y132, y133, y134, x135, x136, x137, x138, x139, x140, x141, x142, x143, x144, x145, x146, x147, x148, x149, x150, x151, x152, x153, x154, x155, x156, x157, x158, x159, x160, x161, x162, x163, x164], []⟩ w) :
    Code.wp Try.prog ((Try.f16.body.bind (findRegion 15)).getD .skip) (Exit.then K Q) ⟨#[x0, x1, x2, x3, x4, .pointer (some ⟨g, 0, none⟩), .int .i64 (M - 1), x7, .bool two, x9, x10, x11, x12, x13, x14, x15, x16, x17, x18, x19, x20, x21, x22, x23, x24, x25, x26, x27, x28, x29, x30, x31, x32, x33, x34, x35, x36, x37, x38, x39, x40, x41, x42, x43, x44, x45, x46, x47, x48, x49, x50, x51, x52, x53, x54, x55, x56, x57, x58, x59, x60, x61, x62, x63, x64, x65, x66, x67, x68, x69, x70, x71, x72, x73, x74, x75, x76, x77, x78, x79, x80, x81, x82, x83, x84, x85, x86, x87, x88, x89, x90, x91, x92, x93, x94, x95, x96, x97, x98, x99, x100, x101, x102, x103, x104, x105, x106, x107, x108, x109, x110, x111, x112, x113, x114, x115, x116, x117, x118, x119, x120, x121, x122, x123, x124, x125, x126, x127, x128, x129, x130, x131, x132, x133, x134, x135, x136, x137, x138, x139, x140, x141, x142, x143, x144, x145, x146, x147, x148, x149, x150, x151, x152, x153, x154, x155, x156, x157, x158, x159, x160, x161, x162, x163, x164], []⟩ w := by
  have HH : Hid (∀ y122 y123 y124 y125 y126 y127 y128 y129 y130 y131 y132 y133 y134 : Value, K ⟨#[x0, x1, x2, x3, x4, .pointer (some ⟨g, 0, none⟩), .int .i64 (M - 1), x7, .bool two, x9, x10, x11, x12, x13, x14, x15, x16, x17, x18, x19, x20, x21, x22, x23, x24, x25, x26, x27, x28, x29, x30, x31, x32, x33, x34, x35, x36, x37, x38, x39, x40, x41, x42, x43, x44, x45, x46, x47, x48, x49, x50, .bool b, x52, x53, x54, x55, x56, x57, x58, x59, x60, x61, x62, x63, x64, x65, x66, x67, x68, x69, x70, x71, x72, x73, x74, x75, x76, x77, x78, x79, x80, x81, x82, x83, x84, x85, x86, x87, x88, x89, x90, x91, x92, x93, x94, x95, x96, x97, x98, x99, x100, x101, x102, x103, x104, x105, x106, x107, x108, x109, x110, x111, x112, x113, x114, x115, x116, x117, x118, x119, x120, x121, y122, y123, y124, y125, y126, y127, y128, y129, y130, y131, y132, y133, y134, x135, x136, x137, x138, x139, x140, x141, x142, x143, x144, x145, x146, x147, x148, x149, x150, x151, x152, x153, x154, x155, x156, x157, x158, x159, x160, x161, x162, x163, x164], []⟩ w) := h
  have HB : Hid (B15 op kk = b) := hb
  clear h hb
  conv => arg 2; whnf
  by_cases h1 : op = 6
  · subst h1
    by_cases h2 : kk = 0
    · subst h2
      obtain rfl : false = b := by rw [← HB.out]; rfl
      go_wp2
      exact HH.out _ _ _ _ _ _ _ _ _ _ _ _ _
    by_cases h3 : kk = 1
    · subst h3
      obtain rfl : false = b := by rw [← HB.out]; rfl
      go_wp2
      exact HH.out _ _ _ _ _ _ _ _ _ _ _ _ _
    have k0 : (kk != 0) = true := by simp [h2]
    have k1 : (kk != 1) = true := by simp [h3]
    obtain rfl : true = b := by rw [← HB.out]; unfold B15; simp [h2, h3]
    go_wp2
    exact HH.out _ _ _ _ _ _ _ _ _ _ _ _ _
  · have h1' : (op == 6) = false := by simpa using h1
    obtain rfl : false = b := by rw [← HB.out]; unfold B15; simp [h1]
    go_wp2
    exact HH.out _ _ _ _ _ _ _ _ _ _ _ _ _
set_option maxRecDepth 1000000 in
set_option maxHeartbeats 4000000 in
theorem reg17_wp (Q : Exit → Act → World → Prop) (K : Act → World → Prop) (w : World) (g : Nat) (op jt jf kk M : Int) (two b : Bool) (hb : B17 two jt jf = b)
    (_c0 : w.cell? ⟨g, 0, none⟩ = some (.int .i64 op)) (_c1 : w.cell? ⟨g, 1, none⟩ = some (.int .i64 jt)) (_c2 : w.cell? ⟨g, 2, none⟩ = some (.int .i64 jf)) (_c3 : w.cell? ⟨g, 3, none⟩ = some (.int .i64 kk))
    (x0 x1 x2 x3 x4 x7 x9 x10 x11 x12 x13 x14 x15 x16 x17 x18 x19 x20 x21 x22 x23 x24 x25 x26 x27 x28 x29 x30 x31 x32 x33 x34 x35 x36 x37 x38 x39 x40 x41 x42 x43 x44 x45 x46 x47 x48 x49 x50 x51 x52 x53 x54 x55 x56 x57 x58 x59 x60 x61 x62 x63 x64 x65 x66 x67 x68 x69 x70 x71 x72 x73 x74 x75 x76 x77 x78 x79 x80 x81 x82 x83 x84 x85 x86 x87 x88 x89 x90 x91 x92 x93 x94 x95 x96 x97 x98 x99 x100 x101 x102 x103 x104 x105 x106 x107 x108 x109 x110 x111 x112 x113 x114 x115 x116 x117 x118 x119 x120 x121 x122 x123 x124 x125 x126 x127 x128 x129 x130 x131 x132 x133 x134 x135 x136 x137 x138 x139 x140 x141 x142 x143 x144 x145 x146 x147 x148 x149 x150 x151 x152 x153 x154 x155 x156 x157 x158 x159 x160 x161 x162 x163 x164 : Value)
    (h : ∀ y136 y137 y138 y139 y140 y141 y142 y143 y144 y145 y146 y147 : Value, K ⟨#[x0, x1, x2, x3, x4, .pointer (some ⟨g, 0, none⟩), .int .i64 (M - 1), x7, .bool two, x9, x10, x11, x12, x13, x14, x15, x16, x17, x18, x19, x20, x21, x22, x23, x24, x25, x26, x27, x28, x29, x30, x31, x32, x33, x34, x35, x36, x37, x38, x39, x40, x41, x42, x43, x44, x45, x46, x47, x48, x49, x50, x51, x52, x53, x54, x55, x56, x57, x58, x59, x60, x61, x62, x63, x64, x65, x66, x67, x68, x69, x70, x71, x72, x73, x74, x75, x76, x77, x78, x79, x80, x81, x82, x83, x84, x85, x86, x87, x88, x89, x90, x91, x92, x93, x94, x95, x96, x97, x98, x99, x100, x101, x102, x103, x104, x105, x106, x107, x108, x109, x110, x111, x112, x113, x114, x115, x116, x117, x118, x119, x120, x121, x122, x123, x124, x125, x126, x127, x128, x129, x130, x131, x132, x133, x134, .bool b, y136, y137, y138, y139, y140, y141, y142, y143, y144, y145, y146, y147, x148, x149, x150, x151, x152, x153, x154, x155, x156, x157, x158, x159, x160, x161, x162, x163, x164], []⟩ w) :
    Code.wp Try.prog ((Try.f16.body.bind (findRegion 17)).getD .skip) (Exit.then K Q) ⟨#[x0, x1, x2, x3, x4, .pointer (some ⟨g, 0, none⟩), .int .i64 (M - 1), x7, .bool two, x9, x10, x11, x12, x13, x14, x15, x16, x17, x18, x19, x20, x21, x22, x23, x24, x25, x26, x27, x28, x29, x30, x31, x32, x33, x34, x35, x36, x37, x38, x39, x40, x41, x42, x43, x44, x45, x46, x47, x48, x49, x50, x51, x52, x53, x54, x55, x56, x57, x58, x59, x60, x61, x62, x63, x64, x65, x66, x67, x68, x69, x70, x71, x72, x73, x74, x75, x76, x77, x78, x79, x80, x81, x82, x83, x84, x85, x86, x87, x88, x89, x90, x91, x92, x93, x94, x95, x96, x97, x98, x99, x100, x101, x102, x103, x104, x105, x106, x107, x108, x109, x110, x111, x112, x113, x114, x115, x116, x117, x118, x119, x120, x121, x122, x123, x124, x125, x126, x127, x128, x129, x130, x131, x132, x133, x134, x135, x136, x137, x138, x139, x140, x141, x142, x143, x144, x145, x146, x147, x148, x149, x150, x151, x152, x153, x154, x155, x156, x157, x158, x159, x160, x161, x162, x163, x164], []⟩ w := by
  have HH : Hid (∀ y136 y137 y138 y139 y140 y141 y142 y143 y144 y145 y146 y147 : Value, K ⟨#[x0, x1, x2, x3, x4, .pointer (some ⟨g, 0, none⟩), .int .i64 (M - 1), x7, .bool two, x9, x10, x11, x12, x13, x14, x15, x16, x17, x18, x19, x20, x21, x22, x23, x24, x25, x26, x27, x28, x29, x30, x31, x32, x33, x34, x35, x36, x37, x38, x39, x40, x41, x42, x43, x44, x45, x46, x47, x48, x49, x50, x51, x52, x53, x54, x55, x56, x57, x58, x59, x60, x61, x62, x63, x64, x65, x66, x67, x68, x69, x70, x71, x72, x73, x74, x75, x76, x77, x78, x79, x80, x81, x82, x83, x84, x85, x86, x87, x88, x89, x90, x91, x92, x93, x94, x95, x96, x97, x98, x99, x100, x101, x102, x103, x104, x105, x106, x107, x108, x109, x110, x111, x112, x113, x114, x115, x116, x117, x118, x119, x120, x121, x122, x123, x124, x125, x126, x127, x128, x129, x130, x131, x132, x133, x134, .bool b, y136, y137, y138, y139, y140, y141, y142, y143, y144, y145, y146, y147, x148, x149, x150, x151, x152, x153, x154, x155, x156, x157, x158, x159, x160, x161, x162, x163, x164], []⟩ w) := h
  have HB : Hid (B17 two jt jf = b) := hb
  clear h hb
  conv => arg 2; whnf
  cases two
  rotate_left
  · obtain rfl : false = b := by rw [← HB.out]; unfold B17; simp
    go_wp2
    exact HH.out _ _ _ _ _ _ _ _ _ _ _ _
  by_cases h2 : jt = 0
  · subst h2
    by_cases h3 : jf = 0
    · subst h3
      obtain rfl : false = b := by rw [← HB.out]; rfl
      go_wp2
      exact HH.out _ _ _ _ _ _ _ _ _ _ _ _
    · have k1 : (jf != 0) = true := by simp [h3]
      obtain rfl : true = b := by rw [← HB.out]; unfold B17; simp [h3]
      go_wp2
      exact HH.out _ _ _ _ _ _ _ _ _ _ _ _
  · have k1 : (jt != 0) = true := by simp [h2]
    obtain rfl : true = b := by rw [← HB.out]; unfold B17; simp [h2]
    go_wp2
    exact HH.out _ _ _ _ _ _ _ _ _ _ _ _
end Go.Proofs.Ytkikghdcnejjfab
