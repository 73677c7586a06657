/-
  The document's own answer: rgref1.Check, region by region (the first ones).
-/
import Derived.Test.YtkikghdcnejjfabWalkC
namespace Go.Proofs.Ytkikghdcnejjfab
open Go.RowKit
def B10 (op : Int) : Bool := decide (op < 1 ∨ 6 < op)
def B12 (op k : Int) : Bool := decide (op = 1 ∧ (k < 0 ∨ 5 < k))
def B13 (two : Bool) (jt jf k M : Int) : Bool := decide (two = true ∧ (k < 0 ∨ 2147483648 ≤ k ∨ jt < 0 ∨ jf < 0 ∨ 40 < jt ∨ 40 < jf ∨ M - 1 < jt ∨ M - 1 < jf))
def B14 (op k M : Int) : Bool := decide (op = 5 ∧ (k < 0 ∨ M - 1 < k))
def B15 (op k : Int) : Bool := decide (op = 6 ∧ k ≠ 0 ∧ k ≠ 1)
def B17 (two : Bool) (jt jf : Int) : Bool := decide (two = false ∧ (jt ≠ 0 ∨ jf ≠ 0))
def Wb (b10 b12 b13 b14 b15 b17 : Bool) : Int := if b10 then 1 else if b12 || b13 || b14 || b15 then 3 else if b17 then 2 else 0
theorem wrong_bools (op jt jf k : Int) (m : Nat) : Bp.wrong ⟨op, jt, jf, k⟩ m = Wb (B10 op) (B12 op k) (B13 (Bp.br op) jt jf k m) (B14 op k m) (B15 op k) (B17 (Bp.br op) jt jf) := by
  unfold Wb
  by_cases h : op < 1 ∨ 6 < op
  · have : B10 op = true := by unfold B10; rw [decide_eq_true_eq]; exact h
    rw [this]
    unfold Bp.wrong; rw [if_pos h]; rfl
  · have hb : B10 op = false := by unfold B10; rw [decide_eq_false_iff_not]; exact h
    rw [hb]
    have : op = 1 ∨ op = 2 ∨ op = 3 ∨ op = 4 ∨ op = 5 ∨ op = 6 := by omega
    unfold Bp.wrong Bp.fits Bp.br Bp.bel B12 B13 B14 B15 B17
    rcases this with rfl | rfl | rfl | rfl | rfl | rfl
    all_goals simp
    all_goals (repeat' split)
    all_goals omega
/-- One region of a function's code, by its number. -/
def findRegion (n : Nat) : Code → Option Code
  | .region k ops d => if k = n then some (.region k ops d) else none
  | .seq a b => match findRegion n a with
    | some c => some c
    | none => findRegion n b
  | .block _ c => findRegion n c
  | .loop c => findRegion n c
  | .scope c => findRegion n c
  | .cond _ a b => match findRegion n a with
    | some c => some c
    | none => findRegion n b
  | _ => none
set_option maxRecDepth 1000000 in
set_option maxHeartbeats 4000000 in
theorem reg9_wp (Q : Exit → Act → World → Prop) (K : Act → World → Prop) (w : World) (g : Nat) (op jt jf kk : Int) (b : Bool) (hb : Bp.br op = b)
    (_c0 : w.cell? ⟨g, 0, none⟩ = some (.int .i64 op)) (_c1 : w.cell? ⟨g, 1, none⟩ = some (.int .i64 jt)) (_c2 : w.cell? ⟨g, 2, none⟩ = some (.int .i64 jf)) (_c3 : w.cell? ⟨g, 3, none⟩ = some (.int .i64 kk))
    (x0 x1 x2 x3 x4 x6 x7 x8 x9 x10 x11 x12 x13 x14 x15 x16 x17 x18 x19 x20 x21 x22 x23 x24 x25 x26 x27 x28 x29 x30 x31 x32 x33 x34 x35 x36 x37 x38 x39 x40 x41 x42 x43 x44 x45 x46 x47 x48 x49 x50 x51 x52 x53 x54 x55 x56 x57 x58 x59 x60 x61 x62 x63 x64 x65 x66 x67 x68 x69 x70 x71 x72 x73 x74 x75 x76 x77 x78 x79 x80 x81 x82 x83 x84 x85 x86 x87 x88 x89 x90 x91 x92 x93 x94 x95 x96 x97 x98 x99 x100 x101 x102 x103 x104 x105 x106 x107 x108 x109 x110 x111 x112 x113 x114 x115 x116 x117 x118 x119 x120 x121 x122 x123 x124 x125 x126 x127 x128 x129 x130 x131 x132 x133 x134 x135 x136 x137 x138 x139 x140 x141 x142 x143 x144 x145 x146 x147 x148 x149 x150 x151 x152 x153 x154 x155 x156 x157 x158 x159 x160 x161 x162 x163 x164 : Value)
    (h : ∀ y29 y30 y31 y32 y33 y34 y35 y36 y37 y38 y39 y40 y41 : Value, K ⟨#[x0, x1, x2, x3, x4, .pointer (some ⟨g, 0, none⟩), x6, x7, .bool b, x9, x10, x11, x12, x13, x14, x15, x16, x17, x18, x19, x20, x21, x22, x23, x24, x25, x26, x27, x28, y29, y30, y31, y32, y33, y34, y35, y36, y37, y38, y39, y40, y41, x42, x43, x44, x45, x46, x47, x48, x49, x50, x51, x52, x53, x54, x55, x56, x57, x58, x59, x60, x61, x62, x63, x64, x65, x66, x67, x68, x69, x70, x71, x72, x73, x74, x75, x76, x77, x78, x79, x80, x81, x82, x83, x84, x85, x86, x87, x88, x89, x90, x91, x92, x93, x94, x95, x96, x97, x98, x99, x100, x101, x102, x103, x104, x105, x106, x107, x108, x109, x110, x111, x112, x113, x114, x115, x116, x117, x118, x119, x120, x121, x122, x123, x124, x125, x126, x127, x128, x129, x130, x131, x132, x133, x134, x135, x136, x137, x138, x139, x140, x141, x142, x143, x144, x145, x146, x147, x148, x149, x150, x151, x152, x153, x154, x155, x156, x157, x158, x159, x160, x161, x162, x163, x164], []⟩ w) :
    Code.wp Try.prog ((Try.f16.body.bind (findRegion 9)).getD .skip) (Exit.then K Q) ⟨#[x0, x1, x2, x3, x4, .pointer (some ⟨g, 0, none⟩), x6, x7, x8, x9, x10, x11, x12, x13, x14, x15, x16, x17, x18, x19, x20, x21, x22, x23, x24, x25, x26, x27, x28, x29, x30, x31, x32, x33, x34, x35, x36, x37, x38, x39, x40, x41, x42, x43, x44, x45, x46, x47, x48, x49, x50, x51, x52, x53, x54, x55, x56, x57, x58, x59, x60, x61, x62, x63, x64, x65, x66, x67, x68, x69, x70, x71, x72, x73, x74, x75, x76, x77, x78, x79, x80, x81, x82, x83, x84, x85, x86, x87, x88, x89, x90, x91, x92, x93, x94, x95, x96, x97, x98, x99, x100, x101, x102, x103, x104, x105, x106, x107, x108, x109, x110, x111, x112, x113, x114, x115, x116, x117, x118, x119, x120, x121, x122, x123, x124, x125, x126, x127, x128, x129, x130, x131, x132, x133, x134, x135, x136, x137, x138, x139, x140, x141, x142, x143, x144, x145, x146, x147, x148, x149, x150, x151, x152, x153, x154, x155, x156, x157, x158, x159, x160, x161, x162, x163, x164], []⟩ w := by
  have HH : Hid (∀ y29 y30 y31 y32 y33 y34 y35 y36 y37 y38 y39 y40 y41 : Value, K ⟨#[x0, x1, x2, x3, x4, .pointer (some ⟨g, 0, none⟩), x6, x7, .bool b, x9, x10, x11, x12, x13, x14, x15, x16, x17, x18, x19, x20, x21, x22, x23, x24, x25, x26, x27, x28, y29, y30, y31, y32, y33, y34, y35, y36, y37, y38, y39, y40, y41, x42, x43, x44, x45, x46, x47, x48, x49, x50, x51, x52, x53, x54, x55, x56, x57, x58, x59, x60, x61, x62, x63, x64, x65, x66, x67, x68, x69, x70, x71, x72, x73, x74, x75, x76, x77, x78, x79, x80, x81, x82, x83, x84, x85, x86, x87, x88, x89, x90, x91, x92, x93, x94, x95, x96, x97, x98, x99, x100, x101, x102, x103, x104, x105, x106, x107, x108, x109, x110, x111, x112, x113, x114, x115, x116, x117, x118, x119, x120, x121, x122, x123, x124, x125, x126, x127, x128, x129, x130, x131, x132, x133, x134, x135, x136, x137, x138, x139, x140, x141, x142, x143, x144, x145, x146, x147, x148, x149, x150, x151, x152, x153, x154, x155, x156, x157, x158, x159, x160, x161, x162, x163, x164], []⟩ w) := h
  have HB : Hid (Bp.br op = b) := hb
  clear h hb
  conv => arg 2; whnf
  by_cases h2 : op = 2
  · subst h2
    obtain rfl : true = b := by rw [← HB.out]; rfl
    go_wp2
    exact HH.out _ _ _ _ _ _ _ _ _ _ _ _ _
  by_cases h3 : op = 3
  · subst h3
    obtain rfl : true = b := by rw [← HB.out]; rfl
    go_wp2
    exact HH.out _ _ _ _ _ _ _ _ _ _ _ _ _
  by_cases h4 : op = 4
  · subst h4
    obtain rfl : true = b := by rw [← HB.out]; rfl
    go_wp2
    exact HH.out _ _ _ _ _ _ _ _ _ _ _ _ _
  have g2 : (op == 2) = false := by simpa using h2
  have g3 : (op == 3) = false := by simpa using h3
  have g4 : (op == 4) = false := by simpa using h4
  obtain rfl : false = b := by rw [← HB.out]; unfold Bp.br; simp [h2, h3, h4]
  go_wp2
  exact HH.out _ _ _ _ _ _ _ _ _ _ _ _ _
set_option maxRecDepth 1000000 in
set_option maxHeartbeats 4000000 in
theorem reg10_wp (Q : Exit → Act → World → Prop) (K : Act → World → Prop) (w : World) (g : Nat) (op jt jf kk M : Int) (two b : Bool) (hb : B10 op = b)
    (_c0 : w.cell? ⟨g, 0, none⟩ = some (.int .i64 op)) (_c1 : w.cell? ⟨g, 1, none⟩ = some (.int .i64 jt)) (_c2 : w.cell? ⟨g, 2, none⟩ = some (.int .i64 jf)) (_c3 : w.cell? ⟨g, 3, none⟩ = some (.int .i64 kk))
    (x0 x1 x2 x3 x4 x7 x9 x10 x11 x12 x13 x14 x15 x16 x17 x18 x19 x20 x21 x22 x23 x24 x25 x26 x27 x28 x29 x30 x31 x32 x33 x34 x35 x36 x37 x38 x39 x40 x41 x42 x43 x44 x45 x46 x47 x48 x49 x50 x51 x52 x53 x54 x55 x56 x57 x58 x59 x60 x61 x62 x63 x64 x65 x66 x67 x68 x69 x70 x71 x72 x73 x74 x75 x76 x77 x78 x79 x80 x81 x82 x83 x84 x85 x86 x87 x88 x89 x90 x91 x92 x93 x94 x95 x96 x97 x98 x99 x100 x101 x102 x103 x104 x105 x106 x107 x108 x109 x110 x111 x112 x113 x114 x115 x116 x117 x118 x119 x120 x121 x122 x123 x124 x125 x126 x127 x128 x129 x130 x131 x132 x133 x134 x135 x136 x137 x138 x139 x140 x141 x142 x143 x144 x145 x146 x147 x148 x149 x150 x151 x152 x153 x154 x155 x156 x157 x158 x159 x160 x161 x162 x163 x164 : Value)
    (h : ∀ y43 y44 y45 y46 y47 y48 y49 y50 : Value, K ⟨#[x0, x1, x2, x3, x4, .pointer (some ⟨g, 0, none⟩), .int .i64 (M - 1), x7, .bool two, x9, x10, x11, x12, x13, x14, x15, x16, x17, x18, x19, x20, x21, x22, x23, x24, x25, x26, x27, x28, x29, x30, x31, x32, x33, x34, x35, x36, x37, x38, x39, x40, x41, .bool b, y43, y44, y45, y46, y47, y48, y49, y50, x51, x52, x53, x54, x55, x56, x57, x58, x59, x60, x61, x62, x63, x64, x65, x66, x67, x68, x69, x70, x71, x72, x73, x74, x75, x76, x77, x78, x79, x80, x81, x82, x83, x84, x85, x86, x87, x88, x89, x90, x91, x92, x93, x94, x95, x96, x97, x98, x99, x100, x101, x102, x103, x104, x105, x106, x107, x108, x109, x110, x111, x112, x113, x114, x115, x116, x117, x118, x119, x120, x121, x122, x123, x124, x125, x126, x127, x128, x129, x130, x131, x132, x133, x134, x135, x136, x137, x138, x139, x140, x141, x142, x143, x144, x145, x146, x147, x148, x149, x150, x151, x152, x153, x154, x155, x156, x157, x158, x159, x160, x161, x162, x163, x164], []⟩ w) :
    Code.wp Try.prog ((Try.f16.body.bind (findRegion 10)).getD .skip) (Exit.then K Q) ⟨#[x0, x1, x2, x3, x4, .pointer (some ⟨g, 0, none⟩), .int .i64 (M - 1), x7, .bool two, x9, x10, x11, x12, x13, x14, x15, x16, x17, x18, x19, x20, x21, x22, x23, x24, x25, x26, x27, x28, x29, x30, x31, x32, x33, x34, x35, x36, x37, x38, x39, x40, x41, x42, x43, x44, x45, x46, x47, x48, x49, x50, x51, x52, x53, x54, x55, x56, x57, x58, x59, x60, x61, x62, x63, x64, x65, x66, x67, x68, x69, x70, x71, x72, x73, x74, x75, x76, x77, x78, x79, x80, x81, x82, x83, x84, x85, x86, x87, x88, x89, x90, x91, x92, x93, x94, x95, x96, x97, x98, x99, x100, x101, x102, x103, x104, x105, x106, x107, x108, x109, x110, x111, x112, x113, x114, x115, x116, x117, x118, x119, x120, x121, x122, x123, x124, x125, x126, x127, x128, x129, x130, x131, x132, x133, x134, x135, x136, x137, x138, x139, x140, x141, x142, x143, x144, x145, x146, x147, x148, x149, x150, x151, x152, x153, x154, x155, x156, x157, x158, x159, x160, x161, x162, x163, x164], []⟩ w := by
  have HH : Hid (∀ y43 y44 y45 y46 y47 y48 y49 y50 : Value, K ⟨#[x0, x1, x2, x3, x4, .pointer (some ⟨g, 0, none⟩), .int .i64 (M - 1), x7, .bool two, x9, x10, x11, x12, x13, x14, x15, x16, x17, x18, x19, x20, x21, x22, x23, x24, x25, x26, x27, x28, x29, x30, x31, x32, x33, x34, x35, x36, x37, x38, x39, x40, x41, .bool b, y43, y44, y45, y46, y47, y48, y49, y50, x51, x52, x53, x54, x55, x56, x57, x58, x59, x60, x61, x62, x63, x64, x65, x66, x67, x68, x69, x70, x71, x72, x73, x74, x75, x76, x77, x78, x79, x80, x81, x82, x83, x84, x85, x86, x87, x88, x89, x90, x91, x92, x93, x94, x95, x96, x97, x98, x99, x100, x101, x102, x103, x104, x105, x106, x107, x108, x109, x110, x111, x112, x113, x114, x115, x116, x117, x118, x119, x120, x121, x122, x123, x124, x125, x126, x127, x128, x129, x130, x131, x132, x133, x134, x135, x136, x137, x138, x139, x140, x141, x142, x143, x144, x145, x146, x147, x148, x149, x150, x151, x152, x153, x154, x155, x156, x157, x158, x159, x160, x161, x162, x163, x164], []⟩ w) := h
  have HB : Hid (B10 op = b) := hb
  clear h hb
  conv => arg 2; whnf
  by_cases h1 : op < 1
  · obtain rfl : true = b := by rw [← HB.out]; unfold B10; simp [h1]
    go_wp2
    exact HH.out _ _ _ _ _ _ _ _
  by_cases h2 : 6 < op
  · obtain rfl : true = b := by rw [← HB.out]; unfold B10; simp [h2]
    go_wp2
    exact HH.out _ _ _ _ _ _ _ _
  · obtain rfl : false = b := by rw [← HB.out]; symm; unfold B10; rw [decide_eq_false_iff_not]; omega
    go_wp2
    exact HH.out _ _ _ _ _ _ _ _
set_option maxRecDepth 1000000 in
set_option maxHeartbeats 4000000 in
theorem reg12_wp (Q : Exit → Act → World → Prop) (K : Act → World → Prop) (w : World) (g : Nat) (op jt jf kk M : Int) (two b : Bool) (hb : B12 op kk = b)
    (_c0 : w.cell? ⟨g, 0, none⟩ = some (.int .i64 op)) (_c1 : w.cell? ⟨g, 1, none⟩ = some (.int .i64 jt)) (_c2 : w.cell? ⟨g, 2, none⟩ = some (.int .i64 jf)) (_c3 : w.cell? ⟨g, 3, none⟩ = some (.int .i64 kk))
    (x0 x1 x2 x3 x4 x7 x9 x10 x11 x12 x13 x14 x15 x16 x17 x18 x19 x20 x21 x22 x23 x24 x25 x26 x27 x28 x29 x30 x31 x32 x33 x34 x35 x36 x37 x38 x39 x40 x41 x42 x43 x44 x45 x46 x47 x48 x49 x50 x51 x52 x53 x54 x55 x56 x57 x58 x59 x60 x61 x62 x63 x64 x65 x66 x67 x68 x69 x70 x71 x72 x73 x74 x75 x76 x77 x78 x79 x80 x81 x82 x83 x84 x85 x86 x87 x88 x89 x90 x91 x92 x93 x94 x95 x96 x97 x98 x99 x100 x101 x102 x103 x104 x105 x106 x107 x108 x109 x110 x111 x112 x113 x114 x115 x116 x117 x118 x119 x120 x121 x122 x123 x124 x125 x126 x127 x128 x129 x130 x131 x132 x133 x134 x135 x136 x137 x138 x139 x140 x141 x142 x143 x144 x145 x146 x147 x148 x149 x150 x151 x152 x153 x154 x155 x156 x157 x158 x159 x160 x161 x162 x163 x164 : Value)
    (h : ∀ y52 y53 y54 y55 y56 y57 y58 y59 y60 y61 y62 y63 y64 : Value, K ⟨#[x0, x1, x2, x3, x4, .pointer (some ⟨g, 0, none⟩), .int .i64 (M - 1), x7, .bool two, x9, x10, x11, x12, x13, x14, x15, x16, x17, x18, x19, x20, x21, x22, x23, x24, x25, x26, x27, x28, x29, x30, x31, x32, x33, x34, x35, x36, x37, x38, x39, x40, x41, x42, x43, x44, x45, x46, x47, x48, x49, x50, .bool b, y52, y53, y54, y55, y56, y57, y58, y59, y60, y61, y62, y63, y64, x65, x66, x67, x68, x69, x70, x71, x72, x73, x74, x75, x76, x77, x78, x79, x80, x81, x82, x83, x84, x85, x86, x87, x88, x89, x90, x91, x92, x93, x94, x95, x96, x97, x98, x99, x100, x101, x102, x103, x104, x105, x106, x107, x108, x109, x110, x111, x112, x113, x114, x115, x116, x117, x118, x119, x120, x121, x122, x123, x124, x125, x126, x127, x128, x129, x130, x131, x132, x133, x134, x135, x136, x137, x138, x139, x140, x141, x142, x143, x144, x145, x146, x147, x148, x149, x150, x151, x152, x153, x154, x155, x156, x157, x158, x159, x160, x161, x162, x163, x164], []⟩ w) :
    Code.wp Try.prog ((Try.f16.body.bind (findRegion 12)).getD .skip) (Exit.then K Q) ⟨#[x0, x1, x2, x3, x4, .pointer (some ⟨g, 0, none⟩), .int .i64 (M - 1), x7, .bool two, x9, x10, x11, x12, x13, x14, x15, x16, x17, x18, x19, x20, x21, x22, x23, x24, x25, x26, x27, x28, x29, x30, x31, x32, x33, x34, x35, x36, x37, x38, x39, x40, x41, x42, x43, x44, x45, x46, x47, x48, x49, x50, x51, x52, x53, x54, x55, x56, x57, x58, x59, x60, x61, x62, x63, x64, x65, x66, x67, x68, x69, x70, x71, x72, x73, x74, x75, x76, x77, x78, x79, x80, x81, x82, x83, x84, x85, x86, x87, x88, x89, x90, x91, x92, x93, x94, x95, x96, x97, x98, x99, x100, x101, x102, x103, x104, x105, x106, x107, x108, x109, x110, x111, x112, x113, x114, x115, x116, x117, x118, x119, x120, x121, x122, x123, x124, x125, x126, x127, x128, x129, x130, x131, x132, x133, x134, x135, x136, x137, x138, x139, x140, x141, x142, x143, x144, x145, x146, x147, x148, x149, x150, x151, x152, x153, x154, x155, x156, x157, x158, x159, x160, x161, x162, x163, x164], []⟩ w := by
  have HH : Hid (∀ y52 y53 y54 y55 y56 y57 y58 y59 y60 y61 y62 y63 y64 : Value, K ⟨#[x0, x1, x2, x3, x4, .pointer (some ⟨g, 0, none⟩), .int .i64 (M - 1), x7, .bool two, x9, x10, x11, x12, x13, x14, x15, x16, x17, x18, x19, x20, x21, x22, x23, x24, x25, x26, x27, x28, x29, x30, x31, x32, x33, x34, x35, x36, x37, x38, x39, x40, x41, x42, x43, x44, x45, x46, x47, x48, x49, x50, .bool b, y52, y53, y54, y55, y56, y57, y58, y59, y60, y61, y62, y63, y64, x65, x66, x67, x68, x69, x70, x71, x72, x73, x74, x75, x76, x77, x78, x79, x80, x81, x82, x83, x84, x85, x86, x87, x88, x89, x90, x91, x92, x93, x94, x95, x96, x97, x98, x99, x100, x101, x102, x103, x104, x105, x106, x107, x108, x109, x110, x111, x112, x113, x114, x115, x116, x117, x118, x119, x120, x121, x122, x123, x124, x125, x126, x127, x128, x129, x130, x131, x132, x133, x134, x135, x136, x137, x138, x139, x140, x141, x142, x143, x144, x145, x146, x147, x148, x149, x150, x151, x152, x153, x154, x155, x156, x157, x158, x159, x160, x161, x162, x163, x164], []⟩ w) := h
  have HB : Hid (B12 op kk = b) := hb
  clear h hb
  conv => arg 2; whnf
  by_cases h1 : op = 1
  · subst h1
    by_cases h2 : kk < 0
    · obtain rfl : true = b := by rw [← HB.out]; unfold B12; simp [h2]
      go_wp2
      exact HH.out _ _ _ _ _ _ _ _ _ _ _ _ _
    by_cases h3 : 5 < kk
    · obtain rfl : true = b := by rw [← HB.out]; unfold B12; simp [h3]
      go_wp2
      exact HH.out _ _ _ _ _ _ _ _ _ _ _ _ _
    · obtain rfl : false = b := by rw [← HB.out]; symm; unfold B12; rw [decide_eq_false_iff_not]; omega
      go_wp2
      exact HH.out _ _ _ _ _ _ _ _ _ _ _ _ _
  · have h1' : (op == 1) = false := by simpa using h1
    obtain rfl : false = b := by rw [← HB.out]; symm; unfold B12; rw [decide_eq_false_iff_not]; omega
    go_wp2
    exact HH.out _ _ _ _ _ _ _ _ _ _ _ _ _
end Go.Proofs.Ytkikghdcnejjfab
