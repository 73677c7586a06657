import Derived.Test.YthoacakdmnijcaaBW60
import Derived.Test.YthoacakdmnijcaaBW5
import Derived.Lib.SlBytesConst
import Derived.Deep.CutRange
import Derived.Deep.CutBlock
import Derived.Test.YthoacakdmnijcaaBW50
import Derived.Test.YthoacakdmnijcaaBW0
import Derived.Test.YthoacakdmnijcaaSAlive
import Derived.Test.YthoacakdmnijcaaBW2
import Derived.Laws.StructEq
import Derived.Deep.RegionHeld3
/-
  rgref5.Build, piece by piece: a process begins; a process is laid down.
-/
namespace Go.Proofs.Ythoacakdmnijcaa
open Go.RowKit
set_option maxRecDepth 1000000 in
set_option maxHeartbeats 8000000 in
theorem reg56_wp (Q : Exit → Act → World → Prop) (K : Act → World → Prop) (W : World) (g p : Nat) (Sb : Nat → Prop) (hSb : ∀ b, Sb b → b < g) (hmk : MK W g Sb)
    (x0 x1 x2 x4 x5 x6 x7 x8 x9 x10 x11 x12 x13 x14 x15 x16 x17 x18 x19 x20 x21 x22 x23 x24 x25 x27 x28 x29 x30 x31 x32 x33 x34 x35 x36 x37 x38 x39 x40 x41 x42 x43 x44 x45 x46 x47 x48 x49 x50 x51 x52 x53 x54 x55 x56 x57 x58 x59 x60 x61 x62 x63 x64 x65 x66 x67 x68 x69 x70 x71 x72 x73 x74 x75 x76 x77 x78 x79 x80 x81 x82 x83 x84 x85 x86 x87 x88 x89 x90 x91 x92 x93 x94 x95 x96 x97 x98 x99 x100 x101 x102 x103 x104 x105 x106 x107 x108 x109 x110 x111 x112 x113 x114 x115 x116 x117 x118 x119 x120 x121 x122 x123 x124 x125 x126 x127 x128 x129 x130 x131 x132 x133 x134 x135 x136 x137 x138 x139 x140 x141 x142 x143 x144 x145 x146 x147 x148 x149 x150 x151 x152 x153 x154 x155 x156 x157 x158 x159 x160 x161 x162 x163 x164 x165 x166 x167 x168 x169 x170 x171 x172 x173 x174 x175 x176 x177 x178 x179 x180 x181 x182 x183 x184 x185 x186 x187 x188 x189 x190 x191 x192 x193 x194 x195 x196 x197 x198 x199 x200 x201 x202 x203 x204 x205 x206 x207 x208 x209 x210 x211 x212 x213 x214 x215 x216 x217 x218 x219 x220 x221 x222 x223 x224 x225 x226 x227 x228 x229 x230 x231 x232 x233 x234 x235 x236 x237 x238 x239 x240 x241 x242 x243 x244 x245 x246 x247 x248 x249 x250 x251 x252 x253 x254 x255 x256 x257 x258 x259 x260 x261 x262 x263 x264 x265 x266 x267 x268 x269 x270 x271 x272 x273 x274 x275 x276 x277 x278 x279 x280 x281 x282 x283 x284 x285 x286 x287 x288 x289 x290 x291 x292 x293 x294 x295 x296 x297 x298 : Value)
    (h : ∀ (y188 y189 y190 y191 y192 y193 y194 y195 y196 y197 y198 : Value) (W' : World) (lv fe : Bool), (p = 0 → lv = true) → Blk W' W.heap.size #[.bool lv, .bool fe, .int .i64 0, .slice none 0 0] 43 → Pn g Sb W W' → W'.heap.size = W.heap.size + 1 → K ⟨#[x0, x1, x2, .pointer (some ⟨g, 0, none⟩), x4, x5, x6, x7, x8, x9, x10, x11, x12, x13, x14, x15, x16, x17, x18, x19, x20, x21, x22, x23, x24, x25, .int .i64 p, .pointer (some ⟨W.heap.size, 0, none⟩), x28, x29, x30, x31, x32, x33, x34, x35, x36, x37, x38, x39, x40, x41, x42, x43, x44, x45, x46, x47, x48, x49, x50, x51, x52, x53, x54, x55, x56, x57, x58, x59, x60, x61, x62, x63, x64, x65, x66, x67, x68, x69, x70, x71, x72, x73, x74, x75, x76, x77, x78, x79, x80, x81, x82, x83, x84, x85, x86, x87, x88, x89, x90, x91, x92, x93, x94, x95, x96, x97, x98, x99, x100, x101, x102, x103, x104, x105, x106, x107, x108, x109, x110, x111, x112, x113, x114, x115, x116, x117, x118, x119, x120, x121, x122, x123, x124, x125, x126, x127, x128, x129, x130, x131, x132, x133, x134, x135, x136, x137, x138, x139, x140, x141, x142, x143, x144, x145, x146, x147, x148, x149, x150, x151, x152, x153, x154, x155, x156, x157, x158, x159, x160, x161, x162, x163, x164, x165, x166, x167, x168, x169, x170, x171, x172, x173, x174, x175, x176, x177, x178, x179, x180, x181, x182, x183, x184, x185, x186, x187, y188, y189, y190, y191, y192, y193, y194, y195, y196, y197, y198, x199, x200, x201, x202, x203, x204, x205, x206, x207, x208, x209, x210, x211, x212, x213, x214, x215, x216, x217, x218, x219, x220, x221, x222, x223, x224, x225, x226, x227, x228, x229, x230, x231, x232, x233, x234, x235, x236, x237, x238, x239, x240, x241, x242, x243, x244, x245, x246, x247, x248, x249, x250, x251, x252, x253, x254, x255, x256, x257, x258, x259, x260, x261, x262, x263, x264, x265, x266, x267, x268, x269, x270, x271, x272, x273, x274, x275, x276, x277, x278, x279, x280, x281, x282, x283, x284, x285, x286, x287, x288, x289, x290, x291, x292, x293, x294, x295, x296, x297, x298], []⟩ W') :
    Code.wp Try.prog ((Try.f9.body.bind (findReg 56)).getD .skip) (Exit.then K Q) ⟨#[x0, x1, x2, .pointer (some ⟨g, 0, none⟩), x4, x5, x6, x7, x8, x9, x10, x11, x12, x13, x14, x15, x16, x17, x18, x19, x20, x21, x22, x23, x24, x25, .int .i64 p, x27, x28, x29, x30, x31, x32, x33, x34, x35, x36, x37, x38, x39, x40, x41, x42, x43, x44, x45, x46, x47, x48, x49, x50, x51, x52, x53, x54, x55, x56, x57, x58, x59, x60, x61, x62, x63, x64, x65, x66, x67, x68, x69, x70, x71, x72, x73, x74, x75, x76, x77, x78, x79, x80, x81, x82, x83, x84, x85, x86, x87, x88, x89, x90, x91, x92, x93, x94, x95, x96, x97, x98, x99, x100, x101, x102, x103, x104, x105, x106, x107, x108, x109, x110, x111, x112, x113, x114, x115, x116, x117, x118, x119, x120, x121, x122, x123, x124, x125, x126, x127, x128, x129, x130, x131, x132, x133, x134, x135, x136, x137, x138, x139, x140, x141, x142, x143, x144, x145, x146, x147, x148, x149, x150, x151, x152, x153, x154, x155, x156, x157, x158, x159, x160, x161, x162, x163, x164, x165, x166, x167, x168, x169, x170, x171, x172, x173, x174, x175, x176, x177, x178, x179, x180, x181, x182, x183, x184, x185, x186, x187, x188, x189, x190, x191, x192, x193, x194, x195, x196, x197, x198, x199, x200, x201, x202, x203, x204, x205, x206, x207, x208, x209, x210, x211, x212, x213, x214, x215, x216, x217, x218, x219, x220, x221, x222, x223, x224, x225, x226, x227, x228, x229, x230, x231, x232, x233, x234, x235, x236, x237, x238, x239, x240, x241, x242, x243, x244, x245, x246, x247, x248, x249, x250, x251, x252, x253, x254, x255, x256, x257, x258, x259, x260, x261, x262, x263, x264, x265, x266, x267, x268, x269, x270, x271, x272, x273, x274, x275, x276, x277, x278, x279, x280, x281, x282, x283, x284, x285, x286, x287, x288, x289, x290, x291, x292, x293, x294, x295, x296, x297, x298], []⟩ W := by
  have HH : Hid (∀ (y188 y189 y190 y191 y192 y193 y194 y195 y196 y197 y198 : Value) (W' : World) (lv fe : Bool), (p = 0 → lv = true) → Blk W' W.heap.size #[.bool lv, .bool fe, .int .i64 0, .slice none 0 0] 43 → Pn g Sb W W' → W'.heap.size = W.heap.size + 1 → K ⟨#[x0, x1, x2, .pointer (some ⟨g, 0, none⟩), x4, x5, x6, x7, x8, x9, x10, x11, x12, x13, x14, x15, x16, x17, x18, x19, x20, x21, x22, x23, x24, x25, .int .i64 p, .pointer (some ⟨W.heap.size, 0, none⟩), x28, x29, x30, x31, x32, x33, x34, x35, x36, x37, x38, x39, x40, x41, x42, x43, x44, x45, x46, x47, x48, x49, x50, x51, x52, x53, x54, x55, x56, x57, x58, x59, x60, x61, x62, x63, x64, x65, x66, x67, x68, x69, x70, x71, x72, x73, x74, x75, x76, x77, x78, x79, x80, x81, x82, x83, x84, x85, x86, x87, x88, x89, x90, x91, x92, x93, x94, x95, x96, x97, x98, x99, x100, x101, x102, x103, x104, x105, x106, x107, x108, x109, x110, x111, x112, x113, x114, x115, x116, x117, x118, x119, x120, x121, x122, x123, x124, x125, x126, x127, x128, x129, x130, x131, x132, x133, x134, x135, x136, x137, x138, x139, x140, x141, x142, x143, x144, x145, x146, x147, x148, x149, x150, x151, x152, x153, x154, x155, x156, x157, x158, x159, x160, x161, x162, x163, x164, x165, x166, x167, x168, x169, x170, x171, x172, x173, x174, x175, x176, x177, x178, x179, x180, x181, x182, x183, x184, x185, x186, x187, y188, y189, y190, y191, y192, y193, y194, y195, y196, y197, y198, x199, x200, x201, x202, x203, x204, x205, x206, x207, x208, x209, x210, x211, x212, x213, x214, x215, x216, x217, x218, x219, x220, x221, x222, x223, x224, x225, x226, x227, x228, x229, x230, x231, x232, x233, x234, x235, x236, x237, x238, x239, x240, x241, x242, x243, x244, x245, x246, x247, x248, x249, x250, x251, x252, x253, x254, x255, x256, x257, x258, x259, x260, x261, x262, x263, x264, x265, x266, x267, x268, x269, x270, x271, x272, x273, x274, x275, x276, x277, x278, x279, x280, x281, x282, x283, x284, x285, x286, x287, x288, x289, x290, x291, x292, x293, x294, x295, x296, x297, x298], []⟩ W') := h
  have HSb : Hid (∀ b, Sb b → b < g) := hSb
  have hgW : g < W.heap.size := by obtain ⟨_, _, _, _, hq, _⟩ := hmk; exact hq.lt
  have HM : Hid (MK W g Sb) := hmk
  clear h hSb hmk
  conv => arg 2; whnf
  by_cases hp : p = 0
  · subst hp
    go_wp2_with fail
    refine (pick_pn g Sb HSb.out 2 (by decide) (by decide) W W (Pn.refl HM.out)).mono ?_
    rintro e W2 ⟨x2, rfl, hx2, hp2, ho2, hz2⟩
    have HP2 : Hid (Pn g Sb W W2) := hp2
    have HZ2 : Hid (W2.heap.size = W.heap.size) := hz2
    generalize hfe : ((x2 : Int) == 1) = fe
    clear hp2 ho2 hz2
    go_wp2
    have hbn : Blk (W2.alloc (.cells #[.bool true, .bool fe, .int .i64 0, .slice none 0 0] 43)) W2.heap.size #[.bool true, .bool fe, .int .i64 0, .slice none 0 0] 43 := Blk.new W2 _ _
    rw [HZ2.out] at hbn ⊢
    exact HH.out _ _ _ _ _ _ _ _ _ _ _ _ true fe (fun _ => rfl) hbn (HP2.out.alloc HSb.out hgW _) (by simp; exact HZ2.out)
  · have hpz : ((p : Int) == 0) = false := by simpa using hp
    go_wp2_with fail
    refine (pick_pn g Sb HSb.out 5 (by decide) (by decide) W W (Pn.refl HM.out)).mono ?_
    rintro e W1 ⟨x1, rfl, hx1, hp1, ho1, hz1⟩
    have HP1 : Hid (Pn g Sb W W1) := hp1
    have HZ1 : Hid (W1.heap.size = W.heap.size) := hz1
    clear hp1 ho1 hz1
    go_wp2_with fail
    refine (pick_pn g Sb HSb.out 2 (by decide) (by decide) W W1 HP1.out).mono ?_
    rintro e W2 ⟨x2, rfl, hx2, hp2, ho2, hz2⟩
    have HP2 : Hid (Pn g Sb W W2) := hp2
    have HZ2 : Hid (W2.heap.size = W.heap.size) := hz2.trans HZ1.out
    clear hp2 ho2 hz2
    go_wp2
    have hbn : Blk (W2.alloc (.cells #[.bool (decide (0 < x1)), .bool ((x2 : Int) == 1), .int .i64 0, .slice none 0 0] 43)) W2.heap.size #[.bool (decide (0 < x1)), .bool ((x2 : Int) == 1), .int .i64 0, .slice none 0 0] 43 := Blk.new W2 _ _
    rw [HZ2.out] at hbn ⊢
    exact HH.out _ _ _ _ _ _ _ _ _ _ _ _ (decide (0 < x1)) ((x2 : Int) == 1) (fun e => absurd e hp) hbn (HP2.out.alloc HSb.out hgW _) (by simp; exact HZ2.out)
end Go.Proofs.Ythoacakdmnijcaa
/-
  rgref5.Build, piece by piece: processes.
-/
namespace Go.Proofs.Ythoacakdmnijcaa
open Go.RowKit
/-- A process's table, as it grows. -/
def XI (W0 : World) (g B : Nat) (Sb : Nat → Prop) (lv fe : Bool) (nO : Nat) (s : Sl) (ss : List Sp.Slt) (wr : World) : Prop :=
  MK wr g Sb ∧ Blk wr B #[.bool lv, .bool fe, .int .i64 0, .slice s.a s.n s.c] 43 ∧ Row wr (fun b => B < b ∧ b < wr.heap.size) 3 (.slice s.a s.n s.c) (ss.map sltC) ∧ (∀ x ∈ ss, Sp.SltOk nO x) ∧ (lv = false → ss = []) ∧ On (fun b => b < B ∧ b ≠ g) W0 wr ∧ W0.heap.size ≤ wr.heap.size ∧ (∀ C, C ≤ g → Below C W0 wr)
def XJ (W0 : World) (g B : Nat) (Sb : Nat → Prop) (lv fe : Bool) (nO n : Nat) (v : Value) (wr : World) : Prop :=
  ∃ (j : Nat) (s : Sl) (ss : List Sp.Slt), j ≤ n ∧ v = .int .i64 j ∧ ss.length ≤ j ∧ XI W0 g B Sb lv fe nO s ss wr
theorem XI.put {W0 W' : World} {g B nO : Nat} {Sb : Nat → Prop} {lv fe : Bool} {s : Sl} {ss : List Sp.Slt} {wr : World} (h : XI W0 g B Sb lv fe nO s ss wr) (hl : lv = true) (hSb : ∀ b, Sb b → b < g) (hgB : g < B) (hB0 : B < W0.heap.size) {a' : Option Addr} {c' : Nat} {op rt : Int} (hok : Sp.SltOk nO ⟨true, op, rt⟩) (hp : Pn g Sb wr W') (hr : Row W' (fun b => wr.heap.size ≤ b ∧ b < W'.heap.size) 3 (.slice a' (ss.length + 1) c') ((ss ++ [(⟨true, op, rt⟩ : Sp.Slt)]).map sltC)) :
    Blk W' B #[.bool lv, .bool fe, .int .i64 0, .slice s.a s.n s.c] 43 ∧ XI W0 g B Sb lv fe nO ⟨a', ss.length + 1, c'⟩ (ss ++ [⟨true, op, rt⟩]) (W'.setCell ⟨B, 3, none⟩ (.slice a' (ss.length + 1) c')) := by
  obtain ⟨h1, h2, h3, h4, h5, h6, h7, h8⟩ := h
  have hset := On.set W' ⟨B, 3, none⟩ (.slice a' (ss.length + 1) c')
  have hb' : Blk W' B #[.bool lv, .bool fe, .int .i64 0, .slice s.a s.n s.c] 43 := h2.on hp.2.1 ⟨by omega, by omega⟩
  have hz := hp.2.2.1
  refine ⟨hb', hp.1.on hset (by show g ≠ B; omega) (fun b hb => by have := hSb b hb; show b ≠ B; omega), hb'.set 3 _, ?_, ?_, fun e => (by rw [hl] at e; cases e), ?_, by simp; omega, fun C hC => ((h8 C hC).trans (hp.2.2.2 C hC)).setCell (by show C ≤ B; omega) _⟩
  · exact (hr.on (hset.less fun b hb => by show b ≠ B; omega)).more fun b hb => ⟨by omega, by simp; exact hb.2⟩
  · intro x hx
    rcases List.mem_append.1 hx with hx | hx
    · exact h4 x hx
    · simp at hx
      subst hx
      exact hok
  · exact (h6.trans (hp.2.1.less fun b hb => ⟨by omega, hb.2⟩)).trans (hset.less fun b hb => by show b ≠ B; omega)
set_option maxRecDepth 1000000 in
set_option maxHeartbeats 8000000 in
theorem blk15_wp (Q : Exit → Act → World → Prop) (K : Act → World → Prop) (W0 : World) (g gk B : Nat) (Sb : Nat → Prop) (nO pc n : Nat) (pa : Option Addr) (vo vq : Value) (lv fe : Bool) (hSb : ∀ b, Sb b → b < g) (hgk : g < gk) (hkB : gk < B) (hn : n ≤ 4) (hnO2 : nO ≤ 1000) (hbk : Blk W0 gk #[vo, .slice pa nO pc, vq] 27) (hmk : MK W0 g Sb) (hbx : Blk W0 B #[.bool lv, .bool fe, .int .i64 0, .slice none 0 0] 43)
    (x0 x1 x2 x4 x5 x6 x7 x8 x9 x10 x11 x12 x13 x14 x15 x16 x17 x18 x20 x21 x22 x23 x24 x25 x26 x28 x29 x30 x31 x32 x33 x34 x35 x36 x37 x38 x39 x40 x41 x42 x43 x44 x45 x46 x47 x48 x49 x50 x51 x52 x53 x54 x55 x56 x57 x58 x59 x60 x61 x62 x63 x64 x65 x66 x67 x68 x69 x70 x71 x72 x73 x74 x75 x76 x77 x78 x79 x80 x81 x82 x83 x84 x85 x86 x87 x88 x89 x90 x91 x92 x93 x94 x95 x96 x97 x98 x99 x100 x101 x102 x103 x104 x105 x106 x107 x108 x109 x110 x111 x112 x113 x114 x115 x116 x117 x118 x119 x120 x121 x122 x123 x124 x125 x126 x127 x128 x129 x130 x131 x132 x133 x134 x135 x136 x137 x138 x139 x140 x141 x142 x143 x144 x145 x146 x147 x148 x149 x150 x151 x152 x153 x154 x155 x156 x157 x158 x159 x160 x161 x162 x163 x164 x165 x166 x167 x168 x169 x170 x171 x172 x173 x174 x175 x176 x177 x178 x179 x180 x181 x182 x183 x184 x185 x186 x187 x188 x189 x190 x191 x192 x193 x194 x195 x196 x197 x198 x199 x202 x203 x204 x205 x206 x207 x208 x209 x210 x211 x212 x213 x214 x215 x216 x217 x218 x219 x220 x221 x222 x223 x224 x225 x226 x227 x228 x229 x230 x231 x232 x233 x234 x235 x236 x237 x238 x239 x240 x241 x242 x243 x244 x245 x246 x247 x248 x249 x250 x251 x252 x253 x254 x255 x256 x257 x258 x259 x260 x261 x262 x263 x264 x265 x266 x267 x268 x269 x270 x271 x272 x273 x274 x275 x276 x277 x278 x279 x280 x281 x282 x283 x284 x285 x286 x287 x288 x289 x290 x291 x292 x293 x294 x295 x296 x297 x298 : Value)
    (h : ∀ (y28 y29 y30 y201 y202 y203 y204 y205 y206 y207 y208 y209 y210 y211 y212 y213 y214 y215 y216 y217 y218 y219 y220 y221 y222 y223 y224 y225 y226 y227 y228 y229 y230 y231 y232 y233 : Value) (W' : World) (s : Sl) (ss : List Sp.Slt), ss.length ≤ 4 → XI W0 g B Sb lv fe nO s ss W' → K ⟨#[x0, x1, x2, .pointer (some ⟨g, 0, none⟩), x4, x5, x6, x7, x8, x9, x10, x11, x12, x13, x14, x15, x16, x17, x18, .pointer (some ⟨gk, 0, none⟩), x20, x21, x22, x23, x24, x25, x26, .pointer (some ⟨B, 0, none⟩), y28, y29, y30, x31, x32, x33, x34, x35, x36, x37, x38, x39, x40, x41, x42, x43, x44, x45, x46, x47, x48, x49, x50, x51, x52, x53, x54, x55, x56, x57, x58, x59, x60, x61, x62, x63, x64, x65, x66, x67, x68, x69, x70, x71, x72, x73, x74, x75, x76, x77, x78, x79, x80, x81, x82, x83, x84, x85, x86, x87, x88, x89, x90, x91, x92, x93, x94, x95, x96, x97, x98, x99, x100, x101, x102, x103, x104, x105, x106, x107, x108, x109, x110, x111, x112, x113, x114, x115, x116, x117, x118, x119, x120, x121, x122, x123, x124, x125, x126, x127, x128, x129, x130, x131, x132, x133, x134, x135, x136, x137, x138, x139, x140, x141, x142, x143, x144, x145, x146, x147, x148, x149, x150, x151, x152, x153, x154, x155, x156, x157, x158, x159, x160, x161, x162, x163, x164, x165, x166, x167, x168, x169, x170, x171, x172, x173, x174, x175, x176, x177, x178, x179, x180, x181, x182, x183, x184, x185, x186, x187, x188, x189, x190, x191, x192, x193, x194, x195, x196, x197, x198, x199, .int .i64 n, y201, y202, y203, y204, y205, y206, y207, y208, y209, y210, y211, y212, y213, y214, y215, y216, y217, y218, y219, y220, y221, y222, y223, y224, y225, y226, y227, y228, y229, y230, y231, y232, y233, x234, x235, x236, x237, x238, x239, x240, x241, x242, x243, x244, x245, x246, x247, x248, x249, x250, x251, x252, x253, x254, x255, x256, x257, x258, x259, x260, x261, x262, x263, x264, x265, x266, x267, x268, x269, x270, x271, x272, x273, x274, x275, x276, x277, x278, x279, x280, x281, x282, x283, x284, x285, x286, x287, x288, x289, x290, x291, x292, x293, x294, x295, x296, x297, x298], []⟩ W') :
    Code.wp Try.prog ((Try.f9.body.bind (findBlock 15)).getD .skip) (Exit.then K Q) ⟨#[x0, x1, x2, .pointer (some ⟨g, 0, none⟩), x4, x5, x6, x7, x8, x9, x10, x11, x12, x13, x14, x15, x16, x17, x18, .pointer (some ⟨gk, 0, none⟩), x20, x21, x22, x23, x24, x25, x26, .pointer (some ⟨B, 0, none⟩), x28, x29, x30, x31, x32, x33, x34, x35, x36, x37, x38, x39, x40, x41, x42, x43, x44, x45, x46, x47, x48, x49, x50, x51, x52, x53, x54, x55, x56, x57, x58, x59, x60, x61, x62, x63, x64, x65, x66, x67, x68, x69, x70, x71, x72, x73, x74, x75, x76, x77, x78, x79, x80, x81, x82, x83, x84, x85, x86, x87, x88, x89, x90, x91, x92, x93, x94, x95, x96, x97, x98, x99, x100, x101, x102, x103, x104, x105, x106, x107, x108, x109, x110, x111, x112, x113, x114, x115, x116, x117, x118, x119, x120, x121, x122, x123, x124, x125, x126, x127, x128, x129, x130, x131, x132, x133, x134, x135, x136, x137, x138, x139, x140, x141, x142, x143, x144, x145, x146, x147, x148, x149, x150, x151, x152, x153, x154, x155, x156, x157, x158, x159, x160, x161, x162, x163, x164, x165, x166, x167, x168, x169, x170, x171, x172, x173, x174, x175, x176, x177, x178, x179, x180, x181, x182, x183, x184, x185, x186, x187, x188, x189, x190, x191, x192, x193, x194, x195, x196, x197, x198, x199, .int .i64 n, .int .i64 0, x202, x203, x204, x205, x206, x207, x208, x209, x210, x211, x212, x213, x214, x215, x216, x217, x218, x219, x220, x221, x222, x223, x224, x225, x226, x227, x228, x229, x230, x231, x232, x233, x234, x235, x236, x237, x238, x239, x240, x241, x242, x243, x244, x245, x246, x247, x248, x249, x250, x251, x252, x253, x254, x255, x256, x257, x258, x259, x260, x261, x262, x263, x264, x265, x266, x267, x268, x269, x270, x271, x272, x273, x274, x275, x276, x277, x278, x279, x280, x281, x282, x283, x284, x285, x286, x287, x288, x289, x290, x291, x292, x293, x294, x295, x296, x297, x298], []⟩ W0 := by
  have HH : Hid (∀ (y28 y29 y30 y201 y202 y203 y204 y205 y206 y207 y208 y209 y210 y211 y212 y213 y214 y215 y216 y217 y218 y219 y220 y221 y222 y223 y224 y225 y226 y227 y228 y229 y230 y231 y232 y233 : Value) (W' : World) (s : Sl) (ss : List Sp.Slt), ss.length ≤ 4 → XI W0 g B Sb lv fe nO s ss W' → K ⟨#[x0, x1, x2, .pointer (some ⟨g, 0, none⟩), x4, x5, x6, x7, x8, x9, x10, x11, x12, x13, x14, x15, x16, x17, x18, .pointer (some ⟨gk, 0, none⟩), x20, x21, x22, x23, x24, x25, x26, .pointer (some ⟨B, 0, none⟩), y28, y29, y30, x31, x32, x33, x34, x35, x36, x37, x38, x39, x40, x41, x42, x43, x44, x45, x46, x47, x48, x49, x50, x51, x52, x53, x54, x55, x56, x57, x58, x59, x60, x61, x62, x63, x64, x65, x66, x67, x68, x69, x70, x71, x72, x73, x74, x75, x76, x77, x78, x79, x80, x81, x82, x83, x84, x85, x86, x87, x88, x89, x90, x91, x92, x93, x94, x95, x96, x97, x98, x99, x100, x101, x102, x103, x104, x105, x106, x107, x108, x109, x110, x111, x112, x113, x114, x115, x116, x117, x118, x119, x120, x121, x122, x123, x124, x125, x126, x127, x128, x129, x130, x131, x132, x133, x134, x135, x136, x137, x138, x139, x140, x141, x142, x143, x144, x145, x146, x147, x148, x149, x150, x151, x152, x153, x154, x155, x156, x157, x158, x159, x160, x161, x162, x163, x164, x165, x166, x167, x168, x169, x170, x171, x172, x173, x174, x175, x176, x177, x178, x179, x180, x181, x182, x183, x184, x185, x186, x187, x188, x189, x190, x191, x192, x193, x194, x195, x196, x197, x198, x199, .int .i64 n, y201, y202, y203, y204, y205, y206, y207, y208, y209, y210, y211, y212, y213, y214, y215, y216, y217, y218, y219, y220, y221, y222, y223, y224, y225, y226, y227, y228, y229, y230, y231, y232, y233, x234, x235, x236, x237, x238, x239, x240, x241, x242, x243, x244, x245, x246, x247, x248, x249, x250, x251, x252, x253, x254, x255, x256, x257, x258, x259, x260, x261, x262, x263, x264, x265, x266, x267, x268, x269, x270, x271, x272, x273, x274, x275, x276, x277, x278, x279, x280, x281, x282, x283, x284, x285, x286, x287, x288, x289, x290, x291, x292, x293, x294, x295, x296, x297, x298], []⟩ W') := h
  have HS0 : Hid (XJ W0 g B Sb lv fe nO n (.int .i64 0) W0) := ⟨0, nilSl, [], Nat.zero_le _, rfl, by simp, hmk, hbx, Row.nil _ _ _ _ _, fun x hx => by simp at hx, fun _ => rfl, fun _ _ => rfl, Nat.le_refl _, fun C _ => Below.refl C W0⟩
  have HSb : Hid (∀ b, Sb b → b < g) := hSb
  have HBK : Hid (Blk W0 gk #[vo, .slice pa nO pc, vq] 27) := hbk
  have hBl := hbx.lt
  have hnz : (n : Int) ≤ 4 := by omega
  clear h hSb hbk hmk hbx
  conv => arg 2; whnf
  go_wp2_with fail
  go_loopw [201] (fun v wz => XJ W0 g B Sb lv fe nO n v wz) (fun v _ => n - (intOf v).toNat)
  case atStart => exact HS0.out
  case round =>
    obtain ⟨j, s, ss, hj, rfl, hss, hX⟩ := hrel
    clear HS0
    have HX : Hid (XI W0 g B Sb lv fe nO s ss wr) := hX
    have HSS : Hid (ss.length ≤ j) := hss
    have hbk := Blk.on HBK.out hX.2.2.2.2.2.1 ⟨hkB, by omega⟩
    have HBKr : Hid (Blk wr gk #[vo, .slice pa nO pc, vq] 27) := hbk
    have hck := hbk.cell
    have hcb := hX.2.1.cell
    have hzr : W0.heap.size ≤ wr.heap.size := hX.2.2.2.2.2.2.1
    clear hX hss hbk
    by_cases hlt : j < n
    · by_cases hnO : nO = 0
      · have hz0 : ¬ (0 : Int) < (nO : Int) := by omega
        go_wp2
        exact ⟨⟨j + 1, s, ss, by omega, by go_num, by have := HSS.out; omega, HX.out⟩, by simp [intOf]; omega⟩
      · have hz0 : (0 : Int) < (nO : Int) := by omega
        cases lv with
        | false =>
          go_wp2
          exact ⟨⟨j + 1, s, ss, by omega, by go_num, by have := HSS.out; omega, HX.out⟩, by simp [intOf]; omega⟩
        | true =>
          go_upto_region 60 with fail
          refine reg60_wp _ _ wr g gk B Sb (fun b => B < b ∧ b < wr.heap.size) nO pc pa vo vq true fe 0 s ss HSb.out hgk (by omega) HX.out.1 HBKr.out HX.out.2.1 HX.out.2.2.1 (fun b hb => ⟨hb.2, by omega⟩) HX.out.2.2.2.1 (by have := HSS.out; omega) (by omega) hnO2 _ _ _ _ _ _ _ _ _ _ _ _ _ _ _ _ _ _ _ _ _ _ _ _ _ _ _ _ _ _ _ _ _ _ _ _ _ _ _ _ _ _ _ _ _ _ _ _ _ _ _ _ _ _ _ _ _ _ _ _ _ _ _ _ _ _ _ _ _ _ _ _ _ _ _ _ _ _ _ _ _ _ _ _ _ _ _ _ _ _ _ _ _ _ _ _ _ _ _ _ _ _ _ _ _ _ _ _ _ _ _ _ _ _ _ _ _ _ _ _ _ _ _ _ _ _ _ _ _ _ _ _ _ _ _ _ _ _ _ _ _ _ _ _ _ _ _ _ _ _ _ _ _ _ _ _ _ _ _ _ _ _ _ _ _ _ _ _ _ _ _ _ _ _ _ _ _ _ _ _ _ _ _ _ _ _ _ _ _ _ _ _ _ _ _ _ _ _ _ _ _ _ _ _ _ _ _ _ _ _ _ _ _ _ _ _ _ _ _ _ _ _ _ _ _ _ _ _ _ _ _ _ _ _ _ _ _ _ _ _ _ _ _ _ _ _ _ _ _ _ _ _ _ _ _ _ _ _ _ _ _ _ _ _ _ _ _ _ _ _ _ _ _ _ _ _ _ _ _ _ _ _ _ _ _ _ _ _ _ _ _ _ _ _ _ _ ?_
          intro y211 y212 y213 y214 y215 y216 y217 y218 y219 y220 y221 y222 y223 y224 y225 y226 y227 y228 W2 a2 c2 op rt hok hp2 hr2
          dsimp only
          obtain ⟨q1, q2⟩ := HX.out.put rfl HSb.out (by omega) hBl hok hp2 hr2
          have hc2 := q1.cell
          have hf2 := q1.free
          have HX2 : Hid (XI W0 g B Sb true fe nO ⟨a2, ss.length + 1, c2⟩ (ss ++ [⟨true, op, rt⟩]) (W2.setCell ⟨B, 3, none⟩ (.slice a2 (ss.length + 1) c2))) := q2
          clear hok hp2 hr2 q1 q2 hck hcb
          go_wp2
          exact ⟨⟨j + 1, ⟨a2, ss.length + 1, c2⟩, ss ++ [⟨true, op, rt⟩], by omega, by go_num, by have := HSS.out; simp; omega, HX2.out⟩, by simp [intOf]; omega⟩
    · go_wp2
      exact HH.out _ _ _ _ _ _ _ _ _ _ _ _ _ _ _ _ _ _ _ _ _ _ _ _ _ _ _ _ _ _ _ _ _ _ _ _ _ s ss (by have := HSS.out; omega) HX.out
end Go.Proofs.Ythoacakdmnijcaa
/-
  rgref5.Build, piece by piece: processes, all of them.
-/
namespace Go.Proofs.Ythoacakdmnijcaa
open Go.RowKit
/-- Processes, as they are gathered. -/
def PI (W : World) (g gk : Nat) (Sb : Nat → Prop) (vo vp : Value) (nO : Nat) (r : Sl) (ts : List (Sl × Sp.Prc)) (wr : World) : Prop :=
  MK wr g Sb ∧ Blk wr gk #[vo, vp, .slice r.a r.n r.c] 27 ∧ Mine wr W.heap.size 43 4 (.slice r.a r.n r.c) (ts.map prcC) ∧ (∀ t ∈ ts, Row wr (fun b => W.heap.size ≤ b ∧ b < wr.heap.size ∧ some b ≠ (Value.slice r.a r.n r.c).ownBlock) 3 (.slice t.1.a t.1.n t.1.c) (t.2.slots.map sltC) ∧ Sp.PrcOk nO t.2) ∧ (∀ t, ts[0]? = some t → t.2.live = true) ∧ On (fun b => b < W.heap.size ∧ b ≠ g ∧ b ≠ gk) W wr ∧ (∀ C, C ≤ g → Below C W wr)
theorem PI.next {W W' : World} {g gk nO : Nat} {Sb : Nat → Prop} {vo vp : Value} {r : Sl} {ts : List (Sl × Sp.Prc)} {wr : World} (h : PI W g gk Sb vo vp nO r ts wr) (hgk : g < gk) (hgW : gk < W.heap.size) (hm : MK W' g Sb) (hon : On (fun b => b < wr.heap.size ∧ b ≠ g) wr W') (hz : wr.heap.size ≤ W'.heap.size) (hb : ∀ C, C ≤ g → Below C wr W') : PI W g gk Sb vo vp nO r ts W' := by
  obtain ⟨h1, h2, h3, h4, h5, h6, h7⟩ := h
  have hz0 : W.heap.size ≤ wr.heap.size := (h7 0 (Nat.zero_le _)).size
  refine ⟨hm, h2.on hon ⟨h2.lt, by omega⟩, h3.on hon fun k hk => ⟨(h3.lt k hk).2, by have := (h3.lt k hk).1; omega⟩, fun t ht => ⟨?_, (h4 t ht).2⟩, h5, h6.trans (hon.less fun b hb => ⟨by omega, hb.2.1⟩), fun C hC => (h7 C hC).trans (hb C hC)⟩
  exact ((h4 t ht).1.on (hon.less fun b hb => ⟨hb.2.1, by omega⟩)).more fun b hb => ⟨hb.1, by omega, hb.2.2⟩
/-- One process more. -/
theorem PI.more {W W2 : World} {g gk nO B : Nat} {Sb : Nat → Prop} {vo vp : Value} {r r' s : Sl} {ts : List (Sl × Sp.Prc)} {wr : World} {x : Sp.Prc} (h : PI W g gk Sb vo vp nO r ts wr) (hSb : ∀ b, Sb b → b < g) (hgk : g < gk) (hgW : gk < W.heap.size) (hrow : Row wr (fun b => W.heap.size ≤ b ∧ b < wr.heap.size ∧ some b ≠ (Value.slice r.a r.n r.c).ownBlock) 3 (.slice s.a s.n s.c) (x.slots.map sltC)) (hok : Sp.PrcOk nO x) (hlive : ts = [] → x.live = true)
    (hm : Mine W2 W.heap.size 43 4 (.slice r'.a r'.n r'.c) (ts.map prcC ++ [prcC (s, x)])) (hg : (wr.alloc (.cells (prcC (s, x)).toArray 43)).grownBy W2 (Value.slice r.a r.n r.c).ownBlock) (hat : (Value.slice r'.a r'.n r'.c).ownBlock = (Value.slice r.a r.n r.c).ownBlock ∨ (Value.slice r'.a r'.n r'.c).ownBlock = some (wr.alloc (.cells (prcC (s, x)).toArray 43)).heap.size) (_hB : B = B) :
    Blk W2 gk #[vo, vp, .slice r.a r.n r.c] 27 ∧ PI W g gk Sb vo vp nO r' (ts ++ [(s, x)]) (W2.setCell ⟨gk, 2, none⟩ (.slice r'.a r'.n r'.c)) := by
  obtain ⟨h1, h2, h3, h4, h5, h6, h7⟩ := h
  have hz0 : W.heap.size ≤ wr.heap.size := (h7 0 (Nat.zero_le _)).size
  have hal := On.alloc wr (.cells (prcC (s, x)).toArray 43)
  have hzA : (wr.alloc (.cells (prcC (s, x)).toArray 43)).heap.size = wr.heap.size + 1 := by simp
  rw [hzA] at hat
  have honG : On (fun b => b < wr.heap.size ∧ some b ≠ (Value.slice r.a r.n r.c).ownBlock) wr W2 := (hal.less fun b hb => hb.1).trans (fun b hb => hg.block b (by omega) hb.2)
  have hset := On.set W2 ⟨gk, 2, none⟩ (.slice r'.a r'.n r'.c)
  have hlow : ∀ b, b < W.heap.size → some b ≠ (Value.slice r.a r.n r.c).ownBlock := fun b hb e => by have := (h3.lt b e.symm).1; omega
  have hb2 : Blk W2 gk #[vo, vp, .slice r.a r.n r.c] 27 := h2.on honG ⟨by omega, hlow gk hgW⟩
  have hB2 : ∀ C, C ≤ g → Below C wr W2 := fun C hC => ((Below.refl C wr).alloc (by omega) _).grown hg (by omega) (fun k hk => by have := (h3.lt k hk).1; omega)
  have hz2 : wr.heap.size + 1 ≤ W2.heap.size := by
    have := ((Below.refl 0 (wr.alloc (.cells (prcC (s, x)).toArray 43))).grown hg (Nat.zero_le _) (fun k hk => Nat.zero_le _)).size
    omega
  have key : ∀ (t : Sl × Sp.Prc), Row wr (fun b => W.heap.size ≤ b ∧ b < wr.heap.size ∧ some b ≠ (Value.slice r.a r.n r.c).ownBlock) 3 (.slice t.1.a t.1.n t.1.c) (t.2.slots.map sltC) → Row (W2.setCell ⟨gk, 2, none⟩ (.slice r'.a r'.n r'.c)) (fun b => W.heap.size ≤ b ∧ b < (W2.setCell ⟨gk, 2, none⟩ (.slice r'.a r'.n r'.c)).heap.size ∧ some b ≠ (Value.slice r'.a r'.n r'.c).ownBlock) 3 (.slice t.1.a t.1.n t.1.c) (t.2.slots.map sltC) := fun t ht => by
    refine ((ht.on (honG.less fun b hb => hb.2)).on (hset.less fun b hb => by show b ≠ gk; omega)).more fun b hb => ⟨hb.1, by simp; omega, ?_⟩
    rcases hat with e | e
    · rw [e]; exact hb.2.2
    · rw [e]; intro e'; injection e' with e'; omega
  refine ⟨hb2, ?_, hb2.set 2 _, ?_, ?_, ?_, ?_, fun C hC => ((h7 C hC).trans (hB2 C hC)).setCell (by show C ≤ gk; omega) _⟩
  · exact (h1.on (honG.less fun b hb => hb) ⟨by omega, hlow g (by omega)⟩ (fun b hb => ⟨by have := hSb b hb; omega, hlow b (by have := hSb b hb; omega)⟩)).on hset (by show g ≠ gk; omega) (fun b hb => by have := hSb b hb; show b ≠ gk; omega)
  · rw [List.map_append]
    exact hm.on hset fun k hk => by have := (hm.lt k hk).1; show k ≠ gk; omega
  · intro t ht
    rcases List.mem_append.1 ht with ht | ht
    · exact ⟨key t (h4 t ht).1, (h4 t ht).2⟩
    · simp at ht
      subst ht
      exact ⟨key (s, x) hrow, hok⟩
  · intro t ht
    cases ts with
    | nil => simp at ht; subst ht; exact hlive rfl
    | cons a b => exact h5 t (by simpa using ht)
  · exact ((h6.trans (honG.less fun b hb => ⟨by omega, hlow b hb.1⟩))).trans (hset.less fun b hb => hb.2.2)
set_option maxRecDepth 1000000 in
set_option maxHeartbeats 8000000 in
theorem reg66_wp (Q : Exit → Act → World → Prop) (W wr : World) (g gk B : Nat) (Sb : Nat → Prop) (vo vp : Value) (nO : Nat) (r s : Sl) (ts : List (Sl × Sp.Prc)) (x : Sp.Prc) (hSb : ∀ b, Sb b → b < g) (hgk : g < gk) (hgW : gk < W.heap.size) (hI : PI W g gk Sb vo vp nO r ts wr) (hbx : Blk wr B (prcC (s, x)).toArray 43) (hrow : Row wr (fun b => W.heap.size ≤ b ∧ b < wr.heap.size ∧ some b ≠ (Value.slice r.a r.n r.c).ownBlock) 3 (.slice s.a s.n s.c) (x.slots.map sltC)) (hok : Sp.PrcOk nO x) (hlive : ts = [] → x.live = true) (hn : ts.length ≤ 100)
    (x0 x1 x2 x3 x4 x5 x6 x7 x8 x9 x10 x11 x12 x13 x14 x15 x16 x17 x18 x20 x21 x22 x23 x24 x25 x26 x28 x29 x30 x31 x32 x33 x34 x35 x36 x37 x38 x39 x40 x41 x42 x43 x44 x45 x46 x47 x48 x49 x50 x51 x52 x53 x54 x55 x56 x57 x58 x59 x60 x61 x62 x63 x64 x65 x66 x67 x68 x69 x70 x71 x72 x73 x74 x75 x76 x77 x78 x79 x80 x81 x82 x83 x84 x85 x86 x87 x88 x89 x90 x91 x92 x93 x94 x95 x96 x97 x98 x99 x100 x101 x102 x103 x104 x105 x106 x107 x108 x109 x110 x111 x112 x113 x114 x115 x116 x117 x118 x119 x120 x121 x122 x123 x124 x125 x126 x127 x128 x129 x130 x131 x132 x133 x134 x135 x136 x137 x138 x139 x140 x141 x142 x143 x144 x145 x146 x147 x148 x149 x150 x151 x152 x153 x154 x155 x156 x157 x158 x159 x160 x161 x162 x163 x164 x165 x166 x167 x168 x169 x170 x171 x172 x173 x174 x175 x176 x177 x178 x179 x180 x181 x182 x183 x184 x185 x186 x187 x188 x189 x190 x191 x192 x193 x194 x195 x196 x197 x198 x199 x200 x201 x202 x203 x204 x205 x206 x207 x208 x209 x210 x211 x212 x213 x214 x215 x216 x217 x218 x219 x220 x221 x222 x223 x224 x225 x226 x227 x228 x229 x230 x231 x232 x233 x234 x235 x236 x237 x238 x239 x240 x241 x242 x243 x244 x245 x246 x247 x248 x249 x250 x251 x252 x253 x254 x255 x256 x257 x258 x259 x260 x261 x262 x263 x264 x265 x266 x267 x268 x269 x270 x271 x272 x273 x274 x275 x276 x277 x278 x279 x280 x281 x282 x283 x284 x285 x286 x287 x288 x289 x290 x291 x292 x293 x294 x295 x296 x297 x298 : Value)
    (h : ∀ (y240 y241 y242 y243 y244 y245 : Value) (W' : World) (r' : Sl), PI W g gk Sb vo vp nO r' (ts ++ [(s, x)]) W' → Q .normal ⟨#[x0, x1, x2, x3, x4, x5, x6, x7, x8, x9, x10, x11, x12, x13, x14, x15, x16, x17, x18, .pointer (some ⟨gk, 0, none⟩), x20, x21, x22, x23, x24, x25, x26, .pointer (some ⟨B, 0, none⟩), x28, x29, x30, x31, x32, x33, x34, x35, x36, x37, x38, x39, x40, x41, x42, x43, x44, x45, x46, x47, x48, x49, x50, x51, x52, x53, x54, x55, x56, x57, x58, x59, x60, x61, x62, x63, x64, x65, x66, x67, x68, x69, x70, x71, x72, x73, x74, x75, x76, x77, x78, x79, x80, x81, x82, x83, x84, x85, x86, x87, x88, x89, x90, x91, x92, x93, x94, x95, x96, x97, x98, x99, x100, x101, x102, x103, x104, x105, x106, x107, x108, x109, x110, x111, x112, x113, x114, x115, x116, x117, x118, x119, x120, x121, x122, x123, x124, x125, x126, x127, x128, x129, x130, x131, x132, x133, x134, x135, x136, x137, x138, x139, x140, x141, x142, x143, x144, x145, x146, x147, x148, x149, x150, x151, x152, x153, x154, x155, x156, x157, x158, x159, x160, x161, x162, x163, x164, x165, x166, x167, x168, x169, x170, x171, x172, x173, x174, x175, x176, x177, x178, x179, x180, x181, x182, x183, x184, x185, x186, x187, x188, x189, x190, x191, x192, x193, x194, x195, x196, x197, x198, x199, x200, x201, x202, x203, x204, x205, x206, x207, x208, x209, x210, x211, x212, x213, x214, x215, x216, x217, x218, x219, x220, x221, x222, x223, x224, x225, x226, x227, x228, x229, x230, x231, x232, x233, x234, x235, x236, x237, x238, x239, y240, y241, y242, y243, y244, y245, x246, x247, x248, x249, x250, x251, x252, x253, x254, x255, x256, x257, x258, x259, x260, x261, x262, x263, x264, x265, x266, x267, x268, x269, x270, x271, x272, x273, x274, x275, x276, x277, x278, x279, x280, x281, x282, x283, x284, x285, x286, x287, x288, x289, x290, x291, x292, x293, x294, x295, x296, x297, x298], []⟩ W') :
    Code.wp Try.prog ((Try.f9.body.bind (findReg 66)).getD .skip) Q ⟨#[x0, x1, x2, x3, x4, x5, x6, x7, x8, x9, x10, x11, x12, x13, x14, x15, x16, x17, x18, .pointer (some ⟨gk, 0, none⟩), x20, x21, x22, x23, x24, x25, x26, .pointer (some ⟨B, 0, none⟩), x28, x29, x30, x31, x32, x33, x34, x35, x36, x37, x38, x39, x40, x41, x42, x43, x44, x45, x46, x47, x48, x49, x50, x51, x52, x53, x54, x55, x56, x57, x58, x59, x60, x61, x62, x63, x64, x65, x66, x67, x68, x69, x70, x71, x72, x73, x74, x75, x76, x77, x78, x79, x80, x81, x82, x83, x84, x85, x86, x87, x88, x89, x90, x91, x92, x93, x94, x95, x96, x97, x98, x99, x100, x101, x102, x103, x104, x105, x106, x107, x108, x109, x110, x111, x112, x113, x114, x115, x116, x117, x118, x119, x120, x121, x122, x123, x124, x125, x126, x127, x128, x129, x130, x131, x132, x133, x134, x135, x136, x137, x138, x139, x140, x141, x142, x143, x144, x145, x146, x147, x148, x149, x150, x151, x152, x153, x154, x155, x156, x157, x158, x159, x160, x161, x162, x163, x164, x165, x166, x167, x168, x169, x170, x171, x172, x173, x174, x175, x176, x177, x178, x179, x180, x181, x182, x183, x184, x185, x186, x187, x188, x189, x190, x191, x192, x193, x194, x195, x196, x197, x198, x199, x200, x201, x202, x203, x204, x205, x206, x207, x208, x209, x210, x211, x212, x213, x214, x215, x216, x217, x218, x219, x220, x221, x222, x223, x224, x225, x226, x227, x228, x229, x230, x231, x232, x233, x234, x235, x236, x237, x238, x239, x240, x241, x242, x243, x244, x245, x246, x247, x248, x249, x250, x251, x252, x253, x254, x255, x256, x257, x258, x259, x260, x261, x262, x263, x264, x265, x266, x267, x268, x269, x270, x271, x272, x273, x274, x275, x276, x277, x278, x279, x280, x281, x282, x283, x284, x285, x286, x287, x288, x289, x290, x291, x292, x293, x294, x295, x296, x297, x298], []⟩ wr := by
  have HH : Hid (∀ (y240 y241 y242 y243 y244 y245 : Value) (W' : World) (r' : Sl), PI W g gk Sb vo vp nO r' (ts ++ [(s, x)]) W' → Q .normal ⟨#[x0, x1, x2, x3, x4, x5, x6, x7, x8, x9, x10, x11, x12, x13, x14, x15, x16, x17, x18, .pointer (some ⟨gk, 0, none⟩), x20, x21, x22, x23, x24, x25, x26, .pointer (some ⟨B, 0, none⟩), x28, x29, x30, x31, x32, x33, x34, x35, x36, x37, x38, x39, x40, x41, x42, x43, x44, x45, x46, x47, x48, x49, x50, x51, x52, x53, x54, x55, x56, x57, x58, x59, x60, x61, x62, x63, x64, x65, x66, x67, x68, x69, x70, x71, x72, x73, x74, x75, x76, x77, x78, x79, x80, x81, x82, x83, x84, x85, x86, x87, x88, x89, x90, x91, x92, x93, x94, x95, x96, x97, x98, x99, x100, x101, x102, x103, x104, x105, x106, x107, x108, x109, x110, x111, x112, x113, x114, x115, x116, x117, x118, x119, x120, x121, x122, x123, x124, x125, x126, x127, x128, x129, x130, x131, x132, x133, x134, x135, x136, x137, x138, x139, x140, x141, x142, x143, x144, x145, x146, x147, x148, x149, x150, x151, x152, x153, x154, x155, x156, x157, x158, x159, x160, x161, x162, x163, x164, x165, x166, x167, x168, x169, x170, x171, x172, x173, x174, x175, x176, x177, x178, x179, x180, x181, x182, x183, x184, x185, x186, x187, x188, x189, x190, x191, x192, x193, x194, x195, x196, x197, x198, x199, x200, x201, x202, x203, x204, x205, x206, x207, x208, x209, x210, x211, x212, x213, x214, x215, x216, x217, x218, x219, x220, x221, x222, x223, x224, x225, x226, x227, x228, x229, x230, x231, x232, x233, x234, x235, x236, x237, x238, x239, y240, y241, y242, y243, y244, y245, x246, x247, x248, x249, x250, x251, x252, x253, x254, x255, x256, x257, x258, x259, x260, x261, x262, x263, x264, x265, x266, x267, x268, x269, x270, x271, x272, x273, x274, x275, x276, x277, x278, x279, x280, x281, x282, x283, x284, x285, x286, x287, x288, x289, x290, x291, x292, x293, x294, x295, x296, x297, x298], []⟩ W') := h
  have HI : Hid (PI W g gk Sb vo vp nO r ts wr) := hI
  have HMO : Hid (∀ (r' : Sl) (W2 : World), Mine W2 W.heap.size 43 4 (.slice r'.a r'.n r'.c) (ts.map prcC ++ [prcC (s, x)]) → (wr.alloc (.cells (prcC (s, x)).toArray 43)).grownBy W2 (Value.slice r.a r.n r.c).ownBlock → ((Value.slice r'.a r'.n r'.c).ownBlock = (Value.slice r.a r.n r.c).ownBlock ∨ (Value.slice r'.a r'.n r'.c).ownBlock = some (wr.alloc (.cells (prcC (s, x)).toArray 43)).heap.size) → Blk W2 gk #[vo, vp, .slice r.a r.n r.c] 27 ∧ PI W g gk Sb vo vp nO r' (ts ++ [(s, x)]) (W2.setCell ⟨gk, 2, none⟩ (.slice r'.a r'.n r'.c))) := fun r' W2 h1 h2 h3 => hI.more (B := B) hSb hgk hgW hrow hok hlive h1 h2 h3 rfl
  have hM1 : Mine (wr.alloc (.cells (prcC (s, x)).toArray 43)) W.heap.size 43 4 (.slice r.a r.n r.c) (ts.map prcC) := hI.2.2.1.on (On.alloc wr _) fun k hk => (hI.2.2.1.lt k hk).2
  have hbn := Blk.new wr (prcC (s, x)).toArray 43
  have hz0 : W.heap.size ≤ wr.heap.size := (hI.2.2.2.2.2.2 0 (Nat.zero_le _)).size
  have hzA : W.heap.size ≤ (wr.alloc (.cells (prcC (s, x)).toArray 43)).heap.size := by simp; omega
  have HM1 : Hid _ := hM1
  have HBN : Hid _ := hbn
  have HZA : Hid _ := hzA
  have hck := hI.2.1.cell
  have hcb := hbx.cell
  have hfk := hI.2.1.free
  clear h hI hSb hrow hok hlive hbx hM1 hbn hzA
  have e4 : (prcC (s, x)).toArray = #[.bool x.live, .bool x.fenced, .int .i64 x.code, .slice s.a s.n s.c] := rfl
  rw [e4] at hcb HM1 HBN HMO HZA
  conv => arg 2; whnf
  go_wp2_with (with_reducible refine stop_at (.call { callee := .builtin .append, args := #[.tmp 241, .tmp 243], argTypes := #[25, 25] }) rfl ?_)
  unfold Hold
  clear e4 hck hcb hfk
  obtain ⟨i0, hi, hi0, hi1, hi2⟩ := info_parts Try.infoProc
  refine wpList_append_one rfl _ _ _ rfl W.heap.size 43 43 i0 (.agg #[.bool false, .bool false, .int .i64 0, .slice none 0 0]) 4 40 Try.underlying25 hi hi0 hi1 hi2 rfl (by decide) _ (ts.map prcC) rfl HM1.out (even_prc ts) wr.heap.size rfl (prcC (s, x)) HBN.out rfl (fun u hu => ones_prc [(s, x)] _ (List.mem_singleton.2 rfl) u hu) (by rw [List.length_map]; omega) (by decide) HZA.out ?_
  intro r2 W2 hm2 hg2 hat2
  clear hi hi0 hi1 hi2
  obtain ⟨q1, q2⟩ := HMO.out r2 W2 hm2 hg2 hat2
  have HQ2 : Hid (PI W g gk Sb vo vp nO r2 (ts ++ [(s, x)]) (W2.setCell ⟨gk, 2, none⟩ (.slice r2.a r2.n r2.c))) := q2
  have hc2 := q1.cell
  have hf2 := q1.free
  clear hm2 hg2 hat2 q1 q2 HMO HM1 HBN
  go_wp2
  exact HH.out _ _ _ _ _ _ _ r2 HQ2.out
/-- The processes' loop. -/
def PJ (W : World) (g gk : Nat) (Sb : Nat → Prop) (vo vp : Value) (nO n : Nat) (v : Value) (wr : World) : Prop :=
  ∃ (p : Nat) (r : Sl) (ts : List (Sl × Sp.Prc)), p ≤ n ∧ v = .int .i64 p ∧ ts.length = p ∧ PI W g gk Sb vo vp nO r ts wr
set_option maxRecDepth 1000000 in
set_option maxHeartbeats 8000000 in
theorem blk13_wp (Q : Exit → Act → World → Prop) (K : Act → World → Prop) (W : World) (g gk : Nat) (Sb : Nat → Prop) (nO pc n : Nat) (pa : Option Addr) (vo : Value) (hSb : ∀ b, Sb b → b < g) (hgk : g < gk) (hn : n ≤ 3) (hnO2 : nO ≤ 1000) (hmk : MK W g Sb) (hbk : Blk W gk #[vo, .slice pa nO pc, .slice none 0 0] 27)
    (x0 x1 x2 x4 x5 x6 x7 x8 x9 x10 x11 x12 x13 x14 x15 x16 x17 x18 x20 x21 x22 x23 x24 x25 x26 x27 x28 x29 x30 x31 x32 x33 x34 x35 x36 x37 x38 x39 x40 x41 x42 x43 x44 x45 x46 x47 x48 x49 x50 x51 x52 x53 x54 x55 x56 x57 x58 x59 x60 x61 x62 x63 x64 x65 x66 x67 x68 x69 x70 x71 x72 x73 x74 x75 x76 x77 x78 x79 x80 x81 x82 x83 x84 x85 x86 x87 x88 x89 x90 x91 x92 x93 x94 x95 x96 x97 x98 x99 x100 x101 x102 x103 x104 x105 x106 x107 x108 x109 x110 x111 x112 x113 x114 x115 x116 x117 x118 x119 x120 x121 x122 x123 x124 x125 x126 x127 x128 x129 x130 x131 x132 x133 x134 x135 x136 x137 x138 x139 x140 x141 x142 x143 x144 x145 x146 x147 x148 x149 x150 x151 x152 x153 x154 x155 x156 x157 x158 x159 x160 x161 x162 x163 x164 x165 x166 x167 x168 x169 x170 x171 x172 x173 x174 x175 x176 x177 x178 x179 x180 x181 x182 x183 x186 x187 x188 x189 x190 x191 x192 x193 x194 x195 x196 x197 x198 x199 x200 x201 x202 x203 x204 x205 x206 x207 x208 x209 x210 x211 x212 x213 x214 x215 x216 x217 x218 x219 x220 x221 x222 x223 x224 x225 x226 x227 x228 x229 x230 x231 x232 x233 x234 x235 x236 x237 x238 x239 x240 x241 x242 x243 x244 x245 x246 x247 x248 x249 x250 x251 x252 x253 x254 x255 x256 x257 x258 x259 x260 x261 x262 x263 x264 x265 x266 x267 x268 x269 x270 x271 x272 x273 x274 x275 x276 x277 x278 x279 x280 x281 x282 x283 x284 x285 x286 x287 x288 x289 x290 x291 x292 x293 x294 x295 x296 x297 x298 : Value)
    (h : ∀ (y26 y27 y28 y29 y30 y185 y186 y187 y188 y189 y190 y191 y192 y193 y194 y195 y196 y197 y198 y199 y200 y201 y202 y203 y204 y205 y206 y207 y208 y209 y210 y211 y212 y213 y214 y215 y216 y217 y218 y219 y220 y221 y222 y223 y224 y225 y226 y227 y228 y229 y230 y231 y232 y233 y234 y235 y236 y237 y238 y239 y240 y241 y242 y243 y244 y245 y246 : Value) (W' : World) (r' : Sl) (ts : List (Sl × Sp.Prc)), ts.length = n → PI W g gk Sb vo (.slice pa nO pc) nO r' ts W' → K ⟨#[x0, x1, x2, .pointer (some ⟨g, 0, none⟩), x4, x5, x6, x7, x8, x9, x10, x11, x12, x13, x14, x15, x16, x17, x18, .pointer (some ⟨gk, 0, none⟩), x20, x21, x22, x23, x24, x25, y26, y27, y28, y29, y30, x31, x32, x33, x34, x35, x36, x37, x38, x39, x40, x41, x42, x43, x44, x45, x46, x47, x48, x49, x50, x51, x52, x53, x54, x55, x56, x57, x58, x59, x60, x61, x62, x63, x64, x65, x66, x67, x68, x69, x70, x71, x72, x73, x74, x75, x76, x77, x78, x79, x80, x81, x82, x83, x84, x85, x86, x87, x88, x89, x90, x91, x92, x93, x94, x95, x96, x97, x98, x99, x100, x101, x102, x103, x104, x105, x106, x107, x108, x109, x110, x111, x112, x113, x114, x115, x116, x117, x118, x119, x120, x121, x122, x123, x124, x125, x126, x127, x128, x129, x130, x131, x132, x133, x134, x135, x136, x137, x138, x139, x140, x141, x142, x143, x144, x145, x146, x147, x148, x149, x150, x151, x152, x153, x154, x155, x156, x157, x158, x159, x160, x161, x162, x163, x164, x165, x166, x167, x168, x169, x170, x171, x172, x173, x174, x175, x176, x177, x178, x179, x180, x181, x182, x183, .int .i64 n, y185, y186, y187, y188, y189, y190, y191, y192, y193, y194, y195, y196, y197, y198, y199, y200, y201, y202, y203, y204, y205, y206, y207, y208, y209, y210, y211, y212, y213, y214, y215, y216, y217, y218, y219, y220, y221, y222, y223, y224, y225, y226, y227, y228, y229, y230, y231, y232, y233, y234, y235, y236, y237, y238, y239, y240, y241, y242, y243, y244, y245, y246, x247, x248, x249, x250, x251, x252, x253, x254, x255, x256, x257, x258, x259, x260, x261, x262, x263, x264, x265, x266, x267, x268, x269, x270, x271, x272, x273, x274, x275, x276, x277, x278, x279, x280, x281, x282, x283, x284, x285, x286, x287, x288, x289, x290, x291, x292, x293, x294, x295, x296, x297, x298], []⟩ W') :
    Code.wp Try.prog ((Try.f9.body.bind (findBlock 13)).getD .skip) (Exit.then K Q) ⟨#[x0, x1, x2, .pointer (some ⟨g, 0, none⟩), x4, x5, x6, x7, x8, x9, x10, x11, x12, x13, x14, x15, x16, x17, x18, .pointer (some ⟨gk, 0, none⟩), x20, x21, x22, x23, x24, x25, x26, x27, x28, x29, x30, x31, x32, x33, x34, x35, x36, x37, x38, x39, x40, x41, x42, x43, x44, x45, x46, x47, x48, x49, x50, x51, x52, x53, x54, x55, x56, x57, x58, x59, x60, x61, x62, x63, x64, x65, x66, x67, x68, x69, x70, x71, x72, x73, x74, x75, x76, x77, x78, x79, x80, x81, x82, x83, x84, x85, x86, x87, x88, x89, x90, x91, x92, x93, x94, x95, x96, x97, x98, x99, x100, x101, x102, x103, x104, x105, x106, x107, x108, x109, x110, x111, x112, x113, x114, x115, x116, x117, x118, x119, x120, x121, x122, x123, x124, x125, x126, x127, x128, x129, x130, x131, x132, x133, x134, x135, x136, x137, x138, x139, x140, x141, x142, x143, x144, x145, x146, x147, x148, x149, x150, x151, x152, x153, x154, x155, x156, x157, x158, x159, x160, x161, x162, x163, x164, x165, x166, x167, x168, x169, x170, x171, x172, x173, x174, x175, x176, x177, x178, x179, x180, x181, x182, x183, .int .i64 n, .int .i64 0, x186, x187, x188, x189, x190, x191, x192, x193, x194, x195, x196, x197, x198, x199, x200, x201, x202, x203, x204, x205, x206, x207, x208, x209, x210, x211, x212, x213, x214, x215, x216, x217, x218, x219, x220, x221, x222, x223, x224, x225, x226, x227, x228, x229, x230, x231, x232, x233, x234, x235, x236, x237, x238, x239, x240, x241, x242, x243, x244, x245, x246, x247, x248, x249, x250, x251, x252, x253, x254, x255, x256, x257, x258, x259, x260, x261, x262, x263, x264, x265, x266, x267, x268, x269, x270, x271, x272, x273, x274, x275, x276, x277, x278, x279, x280, x281, x282, x283, x284, x285, x286, x287, x288, x289, x290, x291, x292, x293, x294, x295, x296, x297, x298], []⟩ W := by
  have HH : Hid (∀ (y26 y27 y28 y29 y30 y185 y186 y187 y188 y189 y190 y191 y192 y193 y194 y195 y196 y197 y198 y199 y200 y201 y202 y203 y204 y205 y206 y207 y208 y209 y210 y211 y212 y213 y214 y215 y216 y217 y218 y219 y220 y221 y222 y223 y224 y225 y226 y227 y228 y229 y230 y231 y232 y233 y234 y235 y236 y237 y238 y239 y240 y241 y242 y243 y244 y245 y246 : Value) (W' : World) (r' : Sl) (ts : List (Sl × Sp.Prc)), ts.length = n → PI W g gk Sb vo (.slice pa nO pc) nO r' ts W' → K ⟨#[x0, x1, x2, .pointer (some ⟨g, 0, none⟩), x4, x5, x6, x7, x8, x9, x10, x11, x12, x13, x14, x15, x16, x17, x18, .pointer (some ⟨gk, 0, none⟩), x20, x21, x22, x23, x24, x25, y26, y27, y28, y29, y30, x31, x32, x33, x34, x35, x36, x37, x38, x39, x40, x41, x42, x43, x44, x45, x46, x47, x48, x49, x50, x51, x52, x53, x54, x55, x56, x57, x58, x59, x60, x61, x62, x63, x64, x65, x66, x67, x68, x69, x70, x71, x72, x73, x74, x75, x76, x77, x78, x79, x80, x81, x82, x83, x84, x85, x86, x87, x88, x89, x90, x91, x92, x93, x94, x95, x96, x97, x98, x99, x100, x101, x102, x103, x104, x105, x106, x107, x108, x109, x110, x111, x112, x113, x114, x115, x116, x117, x118, x119, x120, x121, x122, x123, x124, x125, x126, x127, x128, x129, x130, x131, x132, x133, x134, x135, x136, x137, x138, x139, x140, x141, x142, x143, x144, x145, x146, x147, x148, x149, x150, x151, x152, x153, x154, x155, x156, x157, x158, x159, x160, x161, x162, x163, x164, x165, x166, x167, x168, x169, x170, x171, x172, x173, x174, x175, x176, x177, x178, x179, x180, x181, x182, x183, .int .i64 n, y185, y186, y187, y188, y189, y190, y191, y192, y193, y194, y195, y196, y197, y198, y199, y200, y201, y202, y203, y204, y205, y206, y207, y208, y209, y210, y211, y212, y213, y214, y215, y216, y217, y218, y219, y220, y221, y222, y223, y224, y225, y226, y227, y228, y229, y230, y231, y232, y233, y234, y235, y236, y237, y238, y239, y240, y241, y242, y243, y244, y245, y246, x247, x248, x249, x250, x251, x252, x253, x254, x255, x256, x257, x258, x259, x260, x261, x262, x263, x264, x265, x266, x267, x268, x269, x270, x271, x272, x273, x274, x275, x276, x277, x278, x279, x280, x281, x282, x283, x284, x285, x286, x287, x288, x289, x290, x291, x292, x293, x294, x295, x296, x297, x298], []⟩ W') := h
  have HS0 : Hid (PJ W g gk Sb vo (.slice pa nO pc) nO n (.int .i64 0) W) := ⟨0, nilSl, [], Nat.zero_le _, rfl, rfl, hmk, hbk, Mine.nil _ _ _ _, fun t ht => by simp at ht, fun t ht => by simp at ht, fun _ _ => rfl, fun C _ => Below.refl C W⟩
  have HSb : Hid (∀ b, Sb b → b < g) := hSb
  have hgW := hbk.lt
  have hnz : (n : Int) ≤ 3 := by omega
  clear h hSb hbk hmk
  conv => arg 2; whnf
  go_wp2_with fail
  go_loopw [185] (fun v wz => PJ W g gk Sb vo (.slice pa nO pc) nO n v wz) (fun v _ => n - (intOf v).toNat)
  case atStart => exact HS0.out
  case round =>
    obtain ⟨p, r, ts, hp, rfl, hts, hI⟩ := hrel
    clear HS0
    have HI : Hid (PI W g gk Sb vo (.slice pa nO pc) nO r ts wr) := hI
    have HTS : Hid (ts.length = p) := hts
    have hz0 : W.heap.size ≤ wr.heap.size := (hI.2.2.2.2.2.2 0 (Nat.zero_le _)).size
    have hown : ∀ b, wr.heap.size ≤ b → some b ≠ (Value.slice r.a r.n r.c).ownBlock := fun b hb e => by have := (hI.2.2.1.lt b e.symm).2; omega
    have HOW : Hid (∀ b, wr.heap.size ≤ b → some b ≠ (Value.slice r.a r.n r.c).ownBlock) := hown
    clear hI hts hown
    by_cases hlt : p < n
    · go_upto_region 56 with fail
      refine reg56_wp _ _ wr g p Sb HSb.out HI.out.1 _ _ _ _ _ _ _ _ _ _ _ _ _ _ _ _ _ _ _ _ _ _ _ _ _ _ _ _ _ _ _ _ _ _ _ _ _ _ _ _ _ _ _ _ _ _ _ _ _ _ _ _ _ _ _ _ _ _ _ _ _ _ _ _ _ _ _ _ _ _ _ _ _ _ _ _ _ _ _ _ _ _ _ _ _ _ _ _ _ _ _ _ _ _ _ _ _ _ _ _ _ _ _ _ _ _ _ _ _ _ _ _ _ _ _ _ _ _ _ _ _ _ _ _ _ _ _ _ _ _ _ _ _ _ _ _ _ _ _ _ _ _ _ _ _ _ _ _ _ _ _ _ _ _ _ _ _ _ _ _ _ _ _ _ _ _ _ _ _ _ _ _ _ _ _ _ _ _ _ _ _ _ _ _ _ _ _ _ _ _ _ _ _ _ _ _ _ _ _ _ _ _ _ _ _ _ _ _ _ _ _ _ _ _ _ _ _ _ _ _ _ _ _ _ _ _ _ _ _ _ _ _ _ _ _ _ _ _ _ _ _ _ _ _ _ _ _ _ _ _ _ _ _ _ _ _ _ _ _ _ _ _ _ _ _ _ _ _ _ _ _ _ _ _ _ _ _ _ _ _ _ _ _ _ _ _ _ _ _ _ _ _ _ _ _ _ _ ?_
      intro y188 y189 y190 y191 y192 y193 y194 y195 y196 y197 y198 W1 lv fe hlv hbx1 hp1 hz1
      dsimp only
      have HLV : Hid (p = 0 → lv = true) := hlv
      have HX1 : Hid (Blk W1 wr.heap.size #[.bool lv, .bool fe, .int .i64 0, .slice none 0 0] 43) := hbx1
      have HP1 : Hid (Pn g Sb wr W1) := hp1
      clear hlv hbx1 hp1
      go_wp2_with fail
      refine (pick_pn g Sb HSb.out 5 (by decide) (by decide) wr W1 HP1.out).mono ?_
      rintro e W2 ⟨n5, rfl, hn5, hp2, ho2, hz2⟩
      have HX2 : Hid (Blk W2 wr.heap.size #[.bool lv, .bool fe, .int .i64 0, .slice none 0 0] 43) := Blk.on HX1.out ho2 (by show wr.heap.size ≠ g; omega)
      have HP2 : Hid (Pn g Sb wr W2) := hp2
      have hz2' : W2.heap.size = wr.heap.size + 1 := by omega
      have HI2 : Hid (PI W g gk Sb vo (.slice pa nO pc) nO r ts W2) := HI.out.next hgk hgW hp2.1 hp2.2.1 hp2.2.2.1 hp2.2.2.2
      clear HX1 HP1 hp2 ho2 hz2 hz1
      go_upto_block 15 with fail
      refine blk15_wp _ _ W2 g gk wr.heap.size Sb nO pc n5 pa vo (.slice r.a r.n r.c) lv fe HSb.out hgk (by omega) (by omega) hnO2 HI2.out.2.1 HP2.out.1 HX2.out _ _ _ _ _ _ _ _ _ _ _ _ _ _ _ _ _ _ _ _ _ _ _ _ _ _ _ _ _ _ _ _ _ _ _ _ _ _ _ _ _ _ _ _ _ _ _ _ _ _ _ _ _ _ _ _ _ _ _ _ _ _ _ _ _ _ _ _ _ _ _ _ _ _ _ _ _ _ _ _ _ _ _ _ _ _ _ _ _ _ _ _ _ _ _ _ _ _ _ _ _ _ _ _ _ _ _ _ _ _ _ _ _ _ _ _ _ _ _ _ _ _ _ _ _ _ _ _ _ _ _ _ _ _ _ _ _ _ _ _ _ _ _ _ _ _ _ _ _ _ _ _ _ _ _ _ _ _ _ _ _ _ _ _ _ _ _ _ _ _ _ _ _ _ _ _ _ _ _ _ _ _ _ _ _ _ _ _ _ _ _ _ _ _ _ _ _ _ _ _ _ _ _ _ _ _ _ _ _ _ _ _ _ _ _ _ _ _ _ _ _ _ _ _ _ _ _ _ _ _ _ _ _ _ _ _ _ _ _ _ _ _ _ _ _ _ _ _ _ _ _ _ _ _ _ _ _ _ _ _ _ _ _ _ _ _ _ _ _ _ _ _ _ _ _ _ _ _ _ _ _ _ _ _ _ _ _ _ _ _ _ _ _ _ ?_
      intro y28 y29 y30 y201 y202 y203 y204 y205 y206 y207 y208 y209 y210 y211 y212 y213 y214 y215 y216 y217 y218 y219 y220 y221 y222 y223 y224 y225 y226 y227 y228 y229 y230 y231 y232 y233 W3 s ss hss hX3
      dsimp only
      have hz3 : wr.heap.size + 1 ≤ W3.heap.size := by have := hX3.2.2.2.2.2.2.1; omega
      have HX3 : Hid (XI W2 g wr.heap.size Sb lv fe nO s ss W3) := hX3
      have HSS : Hid (ss.length ≤ 4) := hss
      have HI3 : Hid (PI W g gk Sb vo (.slice pa nO pc) nO r ts W3) := HI.out.next hgk hgW hX3.1 ((HP2.out.2.1.less fun b hb => hb).trans (hX3.2.2.2.2.2.1)) (by omega) (fun C hC => (HP2.out.2.2.2 C hC).trans (hX3.2.2.2.2.2.2.2 C hC))
      have hcb := hX3.2.1.cell
      have HW23 : Hid (On (fun b => b < wr.heap.size ∧ b ≠ g) wr W3) := HP2.out.2.1.trans hX3.2.2.2.2.2.1
      have HB23 : Hid (∀ C, C ≤ g → Below C wr W3) := fun C hC => (HP2.out.2.2.2 C hC).trans (hX3.2.2.2.2.2.2.2 C hC)
      clear hX3 hss HX2 HP2 HI2
      cases lv with
      | true =>
        go_upto_region 66 with fail
        refine reg66_wp _ W W3 g gk wr.heap.size Sb vo (.slice pa nO pc) nO r s ts ⟨true, fe, 0, ss⟩ HSb.out hgk hgW HI3.out HX3.out.2.1 (HX3.out.2.2.1.more fun b hb => ⟨by omega, hb.2, HOW.out b (by omega)⟩) ⟨HSS.out, HX3.out.2.2.2.1, Int.le_refl 0, by show (0 : Int) ≤ 8; decide, fun _ => rfl, fun e => by cases e⟩ (fun _ => rfl) (by have := HTS.out; omega) _ _ _ _ _ _ _ _ _ _ _ _ _ _ _ _ _ _ _ _ _ _ _ _ _ _ _ _ _ _ _ _ _ _ _ _ _ _ _ _ _ _ _ _ _ _ _ _ _ _ _ _ _ _ _ _ _ _ _ _ _ _ _ _ _ _ _ _ _ _ _ _ _ _ _ _ _ _ _ _ _ _ _ _ _ _ _ _ _ _ _ _ _ _ _ _ _ _ _ _ _ _ _ _ _ _ _ _ _ _ _ _ _ _ _ _ _ _ _ _ _ _ _ _ _ _ _ _ _ _ _ _ _ _ _ _ _ _ _ _ _ _ _ _ _ _ _ _ _ _ _ _ _ _ _ _ _ _ _ _ _ _ _ _ _ _ _ _ _ _ _ _ _ _ _ _ _ _ _ _ _ _ _ _ _ _ _ _ _ _ _ _ _ _ _ _ _ _ _ _ _ _ _ _ _ _ _ _ _ _ _ _ _ _ _ _ _ _ _ _ _ _ _ _ _ _ _ _ _ _ _ _ _ _ _ _ _ _ _ _ _ _ _ _ _ _ _ _ _ _ _ _ _ _ _ _ _ _ _ _ _ _ _ _ _ _ _ _ _ _ _ _ _ _ _ _ _ _ _ _ _ _ _ _ _ _ _ _ _ _ _ _ _ _ _ _ _ ?_
        intro y240 y241 y242 y243 y244 y245 W4 r4 hI4
        dsimp only
        have HI4 : Hid (PI W g gk Sb vo (.slice pa nO pc) nO r4 (ts ++ [(s, ⟨true, fe, 0, ss⟩)]) W4) := hI4
        clear hI4 hcb
        go_wp2
        exact ⟨⟨p + 1, r4, ts ++ [(s, ⟨true, fe, 0, ss⟩)], by omega, by go_num, by have := HTS.out; simp; omega, HI4.out⟩, by simp [intOf]; omega⟩
      | false =>
        go_wp2_with fail
        refine (pick_pn g Sb HSb.out 9 (by decide) (by decide) W3 W3 (Pn.refl HX3.out.1)).mono ?_
        rintro e W4 ⟨y, rfl, hy, hp4, ho4, hz4⟩
        have hb4 : Blk W4 wr.heap.size #[.bool false, .bool fe, .int .i64 0, .slice s.a s.n s.c] 43 := Blk.on HX3.out.2.1 ho4 (by show wr.heap.size ≠ g; omega)
        have HB4 : Hid _ := hb4
        have hc4 := hb4.cell
        have hf4 := hb4.free
        have HP4 : Hid (Pn g Sb W3 W4) := hp4
        have HZ4 : Hid (W4.heap.size = W3.heap.size) := hz4
        clear hcb hb4 hp4 ho4 hz4
        go_upto_region 66 with fail
        have s1 := On.set W4 ⟨wr.heap.size, 0, none⟩ (.bool false)
        have s2 := On.set (W4.setCell ⟨wr.heap.size, 0, none⟩ (.bool false)) ⟨wr.heap.size, 1, none⟩ (.bool false)
        have s3 := On.set ((W4.setCell ⟨wr.heap.size, 0, none⟩ (.bool false)).setCell ⟨wr.heap.size, 1, none⟩ (.bool false)) ⟨wr.heap.size, 2, none⟩ (.int .i64 (y : Int))
        have s4 := On.set (((W4.setCell ⟨wr.heap.size, 0, none⟩ (.bool false)).setCell ⟨wr.heap.size, 1, none⟩ (.bool false)).setCell ⟨wr.heap.size, 2, none⟩ (.int .i64 (y : Int))) ⟨wr.heap.size, 3, none⟩ (.slice none 0 0)
        have b1 : Blk (W4.setCell ⟨wr.heap.size, 0, none⟩ (.bool false)) wr.heap.size #[.bool false, .bool fe, .int .i64 0, .slice s.a s.n s.c] 43 := Blk.set HB4.out 0 _
        have b2 : Blk ((W4.setCell ⟨wr.heap.size, 0, none⟩ (.bool false)).setCell ⟨wr.heap.size, 1, none⟩ (.bool false)) wr.heap.size #[.bool false, .bool false, .int .i64 0, .slice s.a s.n s.c] 43 := Blk.set b1 1 _
        have b3 : Blk (((W4.setCell ⟨wr.heap.size, 0, none⟩ (.bool false)).setCell ⟨wr.heap.size, 1, none⟩ (.bool false)).setCell ⟨wr.heap.size, 2, none⟩ (.int .i64 (y : Int))) wr.heap.size #[.bool false, .bool false, .int .i64 (y : Int), .slice s.a s.n s.c] 43 := Blk.set b2 2 _
        have b5 : Blk ((((W4.setCell ⟨wr.heap.size, 0, none⟩ (.bool false)).setCell ⟨wr.heap.size, 1, none⟩ (.bool false)).setCell ⟨wr.heap.size, 2, none⟩ (.int .i64 (y : Int))).setCell ⟨wr.heap.size, 3, none⟩ (.slice none 0 0)) wr.heap.size #[.bool false, .bool false, .int .i64 (y : Int), .slice none 0 0] 43 := Blk.set b3 3 _
        have hon5 : On (fun b => b ≠ wr.heap.size) W4 ((((W4.setCell ⟨wr.heap.size, 0, none⟩ (.bool false)).setCell ⟨wr.heap.size, 1, none⟩ (.bool false)).setCell ⟨wr.heap.size, 2, none⟩ (.int .i64 (y : Int))).setCell ⟨wr.heap.size, 3, none⟩ (.slice none 0 0)) := ((s1.trans s2).trans s3).trans s4
        have hz5 : ((((W4.setCell ⟨wr.heap.size, 0, none⟩ (.bool false)).setCell ⟨wr.heap.size, 1, none⟩ (.bool false)).setCell ⟨wr.heap.size, 2, none⟩ (.int .i64 (y : Int))).setCell ⟨wr.heap.size, 3, none⟩ (.slice none 0 0)).heap.size = W4.heap.size := by simp
        have hbl5 : ∀ C, C ≤ g → Below C W4 ((((W4.setCell ⟨wr.heap.size, 0, none⟩ (.bool false)).setCell ⟨wr.heap.size, 1, none⟩ (.bool false)).setCell ⟨wr.heap.size, 2, none⟩ (.int .i64 (y : Int))).setCell ⟨wr.heap.size, 3, none⟩ (.slice none 0 0)) := fun C hC => ((((Below.refl C W4).setCell (by show C ≤ wr.heap.size; omega) _).setCell (by show C ≤ wr.heap.size; omega) _).setCell (by show C ≤ wr.heap.size; omega) _).setCell (by show C ≤ wr.heap.size; omega) _
        generalize (((W4.setCell ⟨wr.heap.size, 0, none⟩ (.bool false)).setCell ⟨wr.heap.size, 1, none⟩ (.bool false)).setCell ⟨wr.heap.size, 2, none⟩ (.int .i64 (y : Int))).setCell ⟨wr.heap.size, 3, none⟩ (.slice none 0 0) = W5 at *
        have hmk5 : MK W5 g Sb := HP4.out.1.on hon5 (by show g ≠ wr.heap.size; omega) (fun b hb => by have := HSb.out b hb; show b ≠ wr.heap.size; omega)
        have HI5 : Hid (PI W g gk Sb vo (.slice pa nO pc) nO r ts W5) := by
          have hx := HX3.out
          have hi := HI.out
          obtain ⟨-, -, -, -, -, x6, x7, x8⟩ := hx
          have hw2 : On (fun b => b < wr.heap.size ∧ b ≠ g) wr W3 := HW23.out
          refine hi.next hgk hgW hmk5 ((hw2.trans (HP4.out.2.1.less fun b hb => ⟨by omega, hb.2⟩)).trans (hon5.less fun b hb => by show b ≠ wr.heap.size; omega)) (by have := HZ4.out; omega) (fun C hC => ((HB23.out C hC).trans (HP4.out.2.2.2 C hC)).trans (hbl5 C hC))
        refine reg66_wp _ W W5 g gk wr.heap.size Sb vo (.slice pa nO pc) nO r nilSl ts ⟨false, false, (y : Int), []⟩ HSb.out hgk hgW HI5.out b5 (Row.nil _ _ _ _ _) ⟨Nat.zero_le _, fun s hs => by simp at hs, by show (0 : Int) ≤ y; omega, by show (y : Int) ≤ 8; omega, (fun e => by cases e), fun _ => ⟨rfl, rfl⟩⟩ (fun e => by have h1 := HLV.out; have h2 := HTS.out; rw [e] at h2; exact h1 h2.symm) (by have := HTS.out; omega) _ _ _ _ _ _ _ _ _ _ _ _ _ _ _ _ _ _ _ _ _ _ _ _ _ _ _ _ _ _ _ _ _ _ _ _ _ _ _ _ _ _ _ _ _ _ _ _ _ _ _ _ _ _ _ _ _ _ _ _ _ _ _ _ _ _ _ _ _ _ _ _ _ _ _ _ _ _ _ _ _ _ _ _ _ _ _ _ _ _ _ _ _ _ _ _ _ _ _ _ _ _ _ _ _ _ _ _ _ _ _ _ _ _ _ _ _ _ _ _ _ _ _ _ _ _ _ _ _ _ _ _ _ _ _ _ _ _ _ _ _ _ _ _ _ _ _ _ _ _ _ _ _ _ _ _ _ _ _ _ _ _ _ _ _ _ _ _ _ _ _ _ _ _ _ _ _ _ _ _ _ _ _ _ _ _ _ _ _ _ _ _ _ _ _ _ _ _ _ _ _ _ _ _ _ _ _ _ _ _ _ _ _ _ _ _ _ _ _ _ _ _ _ _ _ _ _ _ _ _ _ _ _ _ _ _ _ _ _ _ _ _ _ _ _ _ _ _ _ _ _ _ _ _ _ _ _ _ _ _ _ _ _ _ _ _ _ _ _ _ _ _ _ _ _ _ _ _ _ _ _ _ _ _ _ _ _ _ _ _ _ _ _ _ _ _ _ ?_
        intro y240 y241 y242 y243 y244 y245 W6 r6 hI6
        dsimp only
        have HI6 : Hid (PI W g gk Sb vo (.slice pa nO pc) nO r6 (ts ++ [(nilSl, ⟨false, false, (y : Int), []⟩)]) W6) := hI6
        clear hI6 s1 s2 s3 s4 b1 b2 b3 b5 hon5 hz5 hbl5 hmk5 hc4 hf4
        go_wp2
        exact ⟨⟨p + 1, r6, ts ++ [(nilSl, ⟨false, false, (y : Int), []⟩)], by omega, by go_num, by have := HTS.out; simp; omega, HI6.out⟩, by simp [intOf]; omega⟩
    · go_wp2
      obtain rfl : p = n := by omega
      exact HH.out _ _ _ _ _ _ _ _ _ _ _ _ _ _ _ _ _ _ _ _ _ _ _ _ _ _ _ _ _ _ _ _ _ _ _ _ _ _ _ _ _ _ _ _ _ _ _ _ _ _ _ _ _ _ _ _ _ _ _ _ _ _ _ _ _ _ _ _ r ts HTS.out HI.out
end Go.Proofs.Ythoacakdmnijcaa
/-
  rgref5.Build, piece by piece: messages that wait.
-/
namespace Go.Proofs.Ythoacakdmnijcaa
open Go.RowKit
/-- Messages, as they are laid down: what is still to be looked at is as it was. -/
def QI (W : World) (g gk : Nat) (Sb : Nat → Prop) (vp vq : Value) (nO : Nat) (L : List Sp.Ob) (i : Nat) (wr : World) : Prop :=
  ∃ (a : Option Addr) (c : Nat) (M : List Sp.Ob), M.length = L.length ∧ Sp.TOk M ∧ (∀ j, i ≤ j → M[j]? = L[j]?) ∧ (∀ (j : Nat) (o : Sp.Ob), M[j]? = some o → ∃ o' : Sp.Ob, L[j]? = some o' ∧ o.kind = o'.kind ∧ o.proc = o'.proc) ∧ (∀ o ∈ M, ∀ m ∈ o.queue, Sp.MsgOk nO m) ∧ MK wr g Sb ∧ Blk wr gk #[.slice a M.length c, vp, vq] 27 ∧ Objs wr (fun b => g < b ∧ b < wr.heap.size ∧ b ≠ gk) (.slice a M.length c) M ∧ On (fun b => b < W.heap.size ∧ b ≠ g ∧ b ≠ gk) W wr ∧ (∀ C, C ≤ g → Below C W wr)
theorem QI.next {W W' : World} {g gk nO i i' : Nat} {Sb : Nat → Prop} {vp vq : Value} {L : List Sp.Ob} {wr : World} (h : QI W g gk Sb vp vq nO L i wr) (hi : i ≤ i') (hgk : g < gk) (hp : Pn g Sb wr W') : QI W g gk Sb vp vq nO L i' W' := by
  obtain ⟨a, c, M, h1, h2, h3, h4, h5, h6, h7, h8, h9, h10⟩ := h
  have hz0 : W.heap.size ≤ wr.heap.size := (h10 0 (Nat.zero_le _)).size
  have hz := hp.2.2.1
  exact ⟨a, c, M, h1, h2, fun j hj => h3 j (by omega), h4, h5, hp.1, h7.on hp.2.1 ⟨h7.lt, by omega⟩, (h8.on (hp.2.1.less fun b hb => ⟨hb.2.1, by omega⟩)).more fun b hb => ⟨hb.1, by omega, hb.2.2⟩, h9.trans (hp.2.1.less fun b hb => ⟨by omega, hb.2.1⟩), fun C hC => (h10 C hC).trans (hp.2.2.2 C hC)⟩
/-- A message's box: bytes, and perhaps a capability. -/
def msgB (b : Nat) (h : Bool) (op rt : Int) : Array Value := #[.slice (some ⟨b, 0, none⟩) 1 1, .bool h, .int .i64 op, .int .i64 rt]
set_option maxRecDepth 1000000 in
set_option maxHeartbeats 8000000 in
/-- A message is made, with or without a capability. -/
theorem reg73_wp (Q : Exit → Act → World → Prop) (_K : Act → World → Prop) (W : World) (g gk G b : Nat) (Sb : Nat → Prop) (nO pc : Nat) (pa : Option Addr) (vo vq : Value) (hSb : ∀ b, Sb b → b < g) (hgk : g < gk) (hgG : gk < G) (hnO2 : nO ≤ 1000) (hmk : MK W g Sb) (hbk : Blk W gk #[vo, .slice pa nO pc, vq] 27) (hbx : Blk W G (msgB b false 0 0) 49)
    (x0 x1 x2 x4 x5 x6 x7 x8 x9 x10 x11 x12 x13 x14 x15 x16 x17 x18 x20 x21 x22 x23 x24 x25 x26 x27 x28 x29 x30 x31 x32 x34 x35 x36 x37 x38 x39 x40 x41 x42 x43 x44 x45 x46 x47 x48 x49 x50 x51 x52 x53 x54 x55 x56 x57 x58 x59 x60 x61 x62 x63 x64 x65 x66 x67 x68 x69 x70 x71 x72 x73 x74 x75 x76 x77 x78 x79 x80 x81 x82 x83 x84 x85 x86 x87 x88 x89 x90 x91 x92 x93 x94 x95 x96 x97 x98 x99 x100 x101 x102 x103 x104 x105 x106 x107 x108 x109 x110 x111 x112 x113 x114 x115 x116 x117 x118 x119 x120 x121 x122 x123 x124 x125 x126 x127 x128 x129 x130 x131 x132 x133 x134 x135 x136 x137 x138 x139 x140 x141 x142 x143 x144 x145 x146 x147 x148 x149 x150 x151 x152 x153 x154 x155 x156 x157 x158 x159 x160 x161 x162 x163 x164 x165 x166 x167 x168 x169 x170 x171 x172 x173 x174 x175 x176 x177 x178 x179 x180 x181 x182 x183 x184 x185 x186 x187 x188 x189 x190 x191 x192 x193 x194 x195 x196 x197 x198 x199 x200 x201 x202 x203 x204 x205 x206 x207 x208 x209 x210 x211 x212 x213 x214 x215 x216 x217 x218 x219 x220 x221 x222 x223 x224 x225 x226 x227 x228 x229 x230 x231 x232 x233 x234 x235 x236 x237 x238 x239 x240 x241 x242 x243 x244 x245 x246 x247 x248 x249 x250 x251 x252 x253 x254 x255 x256 x257 x258 x259 x260 x261 x262 x263 x264 x265 x266 x267 x268 x269 x270 x271 x272 x273 x274 x275 x276 x277 x278 x279 x280 x281 x282 x283 x284 x285 x286 x287 x288 x289 x290 x291 x292 x293 x294 x295 x296 x297 x298 : Value)
    (h : ∀ (y275 y276 y277 y278 y279 y280 y281 y282 y283 y284 : Value) (W' : World) (op rt : Nat), op < nO → rt < 200 → Blk W' G (msgB b true (op : Int) (rt : Int)) 49 → MK W' g Sb → On (fun b => b < W.heap.size ∧ b ≠ g ∧ b ≠ G) W W' → W'.heap.size = W.heap.size → (∀ C, C ≤ g → Below C W W') → Q .normal ⟨#[x0, x1, x2, .pointer (some ⟨g, 0, none⟩), x4, x5, x6, x7, x8, x9, x10, x11, x12, x13, x14, x15, x16, x17, x18, .pointer (some ⟨gk, 0, none⟩), x20, x21, x22, x23, x24, x25, x26, x27, x28, x29, x30, x31, x32, .pointer (some ⟨G, 0, none⟩), x34, x35, x36, x37, x38, x39, x40, x41, x42, x43, x44, x45, x46, x47, x48, x49, x50, x51, x52, x53, x54, x55, x56, x57, x58, x59, x60, x61, x62, x63, x64, x65, x66, x67, x68, x69, x70, x71, x72, x73, x74, x75, x76, x77, x78, x79, x80, x81, x82, x83, x84, x85, x86, x87, x88, x89, x90, x91, x92, x93, x94, x95, x96, x97, x98, x99, x100, x101, x102, x103, x104, x105, x106, x107, x108, x109, x110, x111, x112, x113, x114, x115, x116, x117, x118, x119, x120, x121, x122, x123, x124, x125, x126, x127, x128, x129, x130, x131, x132, x133, x134, x135, x136, x137, x138, x139, x140, x141, x142, x143, x144, x145, x146, x147, x148, x149, x150, x151, x152, x153, x154, x155, x156, x157, x158, x159, x160, x161, x162, x163, x164, x165, x166, x167, x168, x169, x170, x171, x172, x173, x174, x175, x176, x177, x178, x179, x180, x181, x182, x183, x184, x185, x186, x187, x188, x189, x190, x191, x192, x193, x194, x195, x196, x197, x198, x199, x200, x201, x202, x203, x204, x205, x206, x207, x208, x209, x210, x211, x212, x213, x214, x215, x216, x217, x218, x219, x220, x221, x222, x223, x224, x225, x226, x227, x228, x229, x230, x231, x232, x233, x234, x235, x236, x237, x238, x239, x240, x241, x242, x243, x244, x245, x246, x247, x248, x249, x250, x251, x252, x253, x254, x255, x256, x257, x258, x259, x260, x261, x262, x263, x264, x265, x266, x267, x268, x269, x270, x271, x272, x273, x274, y275, y276, y277, y278, y279, y280, y281, y282, y283, y284, x285, x286, x287, x288, x289, x290, x291, x292, x293, x294, x295, x296, x297, x298], []⟩ W') (hnO : 1 ≤ nO) :
    Code.wp Try.prog ((Try.f9.body.bind (findReg 74)).getD .skip) Q ⟨#[x0, x1, x2, .pointer (some ⟨g, 0, none⟩), x4, x5, x6, x7, x8, x9, x10, x11, x12, x13, x14, x15, x16, x17, x18, .pointer (some ⟨gk, 0, none⟩), x20, x21, x22, x23, x24, x25, x26, x27, x28, x29, x30, x31, x32, .pointer (some ⟨G, 0, none⟩), x34, x35, x36, x37, x38, x39, x40, x41, x42, x43, x44, x45, x46, x47, x48, x49, x50, x51, x52, x53, x54, x55, x56, x57, x58, x59, x60, x61, x62, x63, x64, x65, x66, x67, x68, x69, x70, x71, x72, x73, x74, x75, x76, x77, x78, x79, x80, x81, x82, x83, x84, x85, x86, x87, x88, x89, x90, x91, x92, x93, x94, x95, x96, x97, x98, x99, x100, x101, x102, x103, x104, x105, x106, x107, x108, x109, x110, x111, x112, x113, x114, x115, x116, x117, x118, x119, x120, x121, x122, x123, x124, x125, x126, x127, x128, x129, x130, x131, x132, x133, x134, x135, x136, x137, x138, x139, x140, x141, x142, x143, x144, x145, x146, x147, x148, x149, x150, x151, x152, x153, x154, x155, x156, x157, x158, x159, x160, x161, x162, x163, x164, x165, x166, x167, x168, x169, x170, x171, x172, x173, x174, x175, x176, x177, x178, x179, x180, x181, x182, x183, x184, x185, x186, x187, x188, x189, x190, x191, x192, x193, x194, x195, x196, x197, x198, x199, x200, x201, x202, x203, x204, x205, x206, x207, x208, x209, x210, x211, x212, x213, x214, x215, x216, x217, x218, x219, x220, x221, x222, x223, x224, x225, x226, x227, x228, x229, x230, x231, x232, x233, x234, x235, x236, x237, x238, x239, x240, x241, x242, x243, x244, x245, x246, x247, x248, x249, x250, x251, x252, x253, x254, x255, x256, x257, x258, x259, x260, x261, x262, x263, x264, x265, x266, x267, x268, x269, x270, x271, x272, x273, x274, x275, x276, x277, x278, x279, x280, x281, x282, x283, x284, x285, x286, x287, x288, x289, x290, x291, x292, x293, x294, x295, x296, x297, x298], []⟩ W := by
  have HH : Hid (∀ (y275 y276 y277 y278 y279 y280 y281 y282 y283 y284 : Value) (W' : World) (op rt : Nat), op < nO → rt < 200 → Blk W' G (msgB b true (op : Int) (rt : Int)) 49 → MK W' g Sb → On (fun b => b < W.heap.size ∧ b ≠ g ∧ b ≠ G) W W' → W'.heap.size = W.heap.size → (∀ C, C ≤ g → Below C W W') → Q .normal ⟨#[x0, x1, x2, .pointer (some ⟨g, 0, none⟩), x4, x5, x6, x7, x8, x9, x10, x11, x12, x13, x14, x15, x16, x17, x18, .pointer (some ⟨gk, 0, none⟩), x20, x21, x22, x23, x24, x25, x26, x27, x28, x29, x30, x31, x32, .pointer (some ⟨G, 0, none⟩), x34, x35, x36, x37, x38, x39, x40, x41, x42, x43, x44, x45, x46, x47, x48, x49, x50, x51, x52, x53, x54, x55, x56, x57, x58, x59, x60, x61, x62, x63, x64, x65, x66, x67, x68, x69, x70, x71, x72, x73, x74, x75, x76, x77, x78, x79, x80, x81, x82, x83, x84, x85, x86, x87, x88, x89, x90, x91, x92, x93, x94, x95, x96, x97, x98, x99, x100, x101, x102, x103, x104, x105, x106, x107, x108, x109, x110, x111, x112, x113, x114, x115, x116, x117, x118, x119, x120, x121, x122, x123, x124, x125, x126, x127, x128, x129, x130, x131, x132, x133, x134, x135, x136, x137, x138, x139, x140, x141, x142, x143, x144, x145, x146, x147, x148, x149, x150, x151, x152, x153, x154, x155, x156, x157, x158, x159, x160, x161, x162, x163, x164, x165, x166, x167, x168, x169, x170, x171, x172, x173, x174, x175, x176, x177, x178, x179, x180, x181, x182, x183, x184, x185, x186, x187, x188, x189, x190, x191, x192, x193, x194, x195, x196, x197, x198, x199, x200, x201, x202, x203, x204, x205, x206, x207, x208, x209, x210, x211, x212, x213, x214, x215, x216, x217, x218, x219, x220, x221, x222, x223, x224, x225, x226, x227, x228, x229, x230, x231, x232, x233, x234, x235, x236, x237, x238, x239, x240, x241, x242, x243, x244, x245, x246, x247, x248, x249, x250, x251, x252, x253, x254, x255, x256, x257, x258, x259, x260, x261, x262, x263, x264, x265, x266, x267, x268, x269, x270, x271, x272, x273, x274, y275, y276, y277, y278, y279, y280, y281, y282, y283, y284, x285, x286, x287, x288, x289, x290, x291, x292, x293, x294, x295, x296, x297, x298], []⟩ W') := h
  have HSb : Hid (∀ b, Sb b → b < g) := hSb
  have HM : Hid (MK W g Sb) := hmk
  have HX : Hid (Blk W G (msgB b false 0 0) 49) := hbx
  have hck := hbk.cell
  have hKl := hbk.lt
  clear h hSb hmk hbk hbx
  conv => arg 2; whnf
  go_wp2_with fail
  refine (pick_pk g Sb HSb.out nO hnO (by omega) W W (Pk.refl HM.out)).mono ?_
  rintro e W1 ⟨op, rfl, hop, hp1⟩
  have HP1 : Hid (Pk g Sb W W1) := hp1
  clear hp1
  go_wp2_with fail
  refine (pick_pk g Sb HSb.out 200 (by decide) (by decide) W W1 HP1.out).mono ?_
  rintro e W2 ⟨rt, rfl, hrt, hp2⟩
  have HP2 : Hid (Pk g Sb W W2) := hp2
  have HX2 : Hid (Blk W2 G (msgB b false 0 0) 49) := Blk.on HX.out hp2.2.1 (by show G ≠ g; omega)
  have hc2 := Blk.cell HX2.out
  have hf2 := Blk.free HX2.out
  unfold msgB at hc2
  clear hp2 HP1 hck
  go_wp2
  have s1 := On.set W2 ⟨G, 1, none⟩ (.bool true)
  have s2 := On.set (W2.setCell ⟨G, 1, none⟩ (.bool true)) ⟨G, 2, none⟩ (.int .i64 (op : Int))
  have s3 := On.set ((W2.setCell ⟨G, 1, none⟩ (.bool true)).setCell ⟨G, 2, none⟩ (.int .i64 (op : Int))) ⟨G, 3, none⟩ (.int .i64 (rt : Int))
  have b1 : Blk (W2.setCell ⟨G, 1, none⟩ (.bool true)) G (msgB b true 0 0) 49 := Blk.set HX2.out 1 _
  have b2 : Blk ((W2.setCell ⟨G, 1, none⟩ (.bool true)).setCell ⟨G, 2, none⟩ (.int .i64 (op : Int))) G (msgB b true (op : Int) 0) 49 := Blk.set b1 2 _
  have b3 : Blk (((W2.setCell ⟨G, 1, none⟩ (.bool true)).setCell ⟨G, 2, none⟩ (.int .i64 (op : Int))).setCell ⟨G, 3, none⟩ (.int .i64 (rt : Int))) G (msgB b true (op : Int) (rt : Int)) 49 := Blk.set b2 3 _
  have hon := (s1.trans s2).trans s3
  exact HH.out _ _ _ _ _ _ _ _ _ _ _ op rt hop hrt b3 (HP2.out.1.on hon (by show g ≠ G; omega) (fun b hb => by have := HSb.out b hb; show b ≠ G; omega)) ((HP2.out.2.1.less fun b hb => hb.2.1).trans (hon.less fun b hb => hb.2.2)) (by simp; exact HP2.out.2.2.1) (fun C hC => (((HP2.out.2.2.2 C hC).setCell (by show C ≤ G; omega) _).setCell (by show C ≤ G; omega) _).setCell (by show C ≤ G; omega) _)
/-- An object's box, another queue. -/
theorem objC_q (s : Sls) (x : Sp.Ob) (r : Sl) (l : List Sp.Msg) : objC (⟨s.d, s.e, r⟩, { x with queue := l }) = objC (⟨s.d, s.e, r⟩, x) := rfl
set_option maxRecDepth 1000000 in
set_option maxHeartbeats 8000000 in
theorem reg75_wp (Q : Exit → Act → World → Prop) (K : Act → World → Prop) (W : World) (B G b : Nat) (s : Sls) (x : Sp.Ob) (hh : Bool) (op rt : Int) (hq : s.q = nilSl) (hbx : Blk W B (objC (s, x)).toArray 40) (hbg : Blk W G (msgB b hh op rt) 49)
    (x0 x1 x2 x3 x4 x5 x6 x7 x8 x9 x10 x11 x12 x13 x14 x15 x16 x17 x18 x19 x20 x21 x22 x23 x24 x25 x26 x27 x28 x29 x30 x31 x34 x35 x36 x37 x38 x39 x40 x41 x42 x43 x44 x45 x46 x47 x48 x49 x50 x51 x52 x53 x54 x55 x56 x57 x58 x59 x60 x61 x62 x63 x64 x65 x66 x67 x68 x69 x70 x71 x72 x73 x74 x75 x76 x77 x78 x79 x80 x81 x82 x83 x84 x85 x86 x87 x88 x89 x90 x91 x92 x93 x94 x95 x96 x97 x98 x99 x100 x101 x102 x103 x104 x105 x106 x107 x108 x109 x110 x111 x112 x113 x114 x115 x116 x117 x118 x119 x120 x121 x122 x123 x124 x125 x126 x127 x128 x129 x130 x131 x132 x133 x134 x135 x136 x137 x138 x139 x140 x141 x142 x143 x144 x145 x146 x147 x148 x149 x150 x151 x152 x153 x154 x155 x156 x157 x158 x159 x160 x161 x162 x163 x164 x165 x166 x167 x168 x169 x170 x171 x172 x173 x174 x175 x176 x177 x178 x179 x180 x181 x182 x183 x184 x185 x186 x187 x188 x189 x190 x191 x192 x193 x194 x195 x196 x197 x198 x199 x200 x201 x202 x203 x204 x205 x206 x207 x208 x209 x210 x211 x212 x213 x214 x215 x216 x217 x218 x219 x220 x221 x222 x223 x224 x225 x226 x227 x228 x229 x230 x231 x232 x233 x234 x235 x236 x237 x238 x239 x240 x241 x242 x243 x244 x245 x246 x247 x248 x249 x250 x251 x252 x253 x254 x255 x256 x257 x258 x259 x260 x261 x262 x263 x264 x265 x266 x267 x268 x269 x270 x271 x272 x273 x274 x275 x276 x277 x278 x279 x280 x281 x282 x283 x284 x285 x286 x287 x288 x289 x290 x291 x292 x293 x294 x295 x296 x297 x298 : Value)
    (h : ∀ (y285 y286 y287 y288 y289 y290 : Value) (W' : World) (r : Sl), Blk W' B (objC (⟨s.d, s.e, r⟩, x)).toArray 40 → Row W' (fun c => W.heap.size ≤ c ∧ c < W'.heap.size) 4 (.slice r.a r.n r.c) [msgC (⟨some ⟨b, 0, none⟩, 1, 1⟩, ⟨[109], hh, op, rt⟩)] → On (fun c => c < W.heap.size ∧ c ≠ B) W W' → W.heap.size ≤ W'.heap.size → (∀ C, C ≤ B → Below C W W') → K ⟨#[x0, x1, x2, x3, x4, x5, x6, x7, x8, x9, x10, x11, x12, x13, x14, x15, x16, x17, x18, x19, x20, x21, x22, x23, x24, x25, x26, x27, x28, x29, x30, x31, .pointer (some ⟨B, 0, none⟩), .pointer (some ⟨G, 0, none⟩), x34, x35, x36, x37, x38, x39, x40, x41, x42, x43, x44, x45, x46, x47, x48, x49, x50, x51, x52, x53, x54, x55, x56, x57, x58, x59, x60, x61, x62, x63, x64, x65, x66, x67, x68, x69, x70, x71, x72, x73, x74, x75, x76, x77, x78, x79, x80, x81, x82, x83, x84, x85, x86, x87, x88, x89, x90, x91, x92, x93, x94, x95, x96, x97, x98, x99, x100, x101, x102, x103, x104, x105, x106, x107, x108, x109, x110, x111, x112, x113, x114, x115, x116, x117, x118, x119, x120, x121, x122, x123, x124, x125, x126, x127, x128, x129, x130, x131, x132, x133, x134, x135, x136, x137, x138, x139, x140, x141, x142, x143, x144, x145, x146, x147, x148, x149, x150, x151, x152, x153, x154, x155, x156, x157, x158, x159, x160, x161, x162, x163, x164, x165, x166, x167, x168, x169, x170, x171, x172, x173, x174, x175, x176, x177, x178, x179, x180, x181, x182, x183, x184, x185, x186, x187, x188, x189, x190, x191, x192, x193, x194, x195, x196, x197, x198, x199, x200, x201, x202, x203, x204, x205, x206, x207, x208, x209, x210, x211, x212, x213, x214, x215, x216, x217, x218, x219, x220, x221, x222, x223, x224, x225, x226, x227, x228, x229, x230, x231, x232, x233, x234, x235, x236, x237, x238, x239, x240, x241, x242, x243, x244, x245, x246, x247, x248, x249, x250, x251, x252, x253, x254, x255, x256, x257, x258, x259, x260, x261, x262, x263, x264, x265, x266, x267, x268, x269, x270, x271, x272, x273, x274, x275, x276, x277, x278, x279, x280, x281, x282, x283, x284, y285, y286, y287, y288, y289, y290, x291, x292, x293, x294, x295, x296, x297, x298], []⟩ W') :
    Code.wp Try.prog ((Try.f9.body.bind (findReg 75)).getD .skip) (Exit.then K Q) ⟨#[x0, x1, x2, x3, x4, x5, x6, x7, x8, x9, x10, x11, x12, x13, x14, x15, x16, x17, x18, x19, x20, x21, x22, x23, x24, x25, x26, x27, x28, x29, x30, x31, .pointer (some ⟨B, 0, none⟩), .pointer (some ⟨G, 0, none⟩), x34, x35, x36, x37, x38, x39, x40, x41, x42, x43, x44, x45, x46, x47, x48, x49, x50, x51, x52, x53, x54, x55, x56, x57, x58, x59, x60, x61, x62, x63, x64, x65, x66, x67, x68, x69, x70, x71, x72, x73, x74, x75, x76, x77, x78, x79, x80, x81, x82, x83, x84, x85, x86, x87, x88, x89, x90, x91, x92, x93, x94, x95, x96, x97, x98, x99, x100, x101, x102, x103, x104, x105, x106, x107, x108, x109, x110, x111, x112, x113, x114, x115, x116, x117, x118, x119, x120, x121, x122, x123, x124, x125, x126, x127, x128, x129, x130, x131, x132, x133, x134, x135, x136, x137, x138, x139, x140, x141, x142, x143, x144, x145, x146, x147, x148, x149, x150, x151, x152, x153, x154, x155, x156, x157, x158, x159, x160, x161, x162, x163, x164, x165, x166, x167, x168, x169, x170, x171, x172, x173, x174, x175, x176, x177, x178, x179, x180, x181, x182, x183, x184, x185, x186, x187, x188, x189, x190, x191, x192, x193, x194, x195, x196, x197, x198, x199, x200, x201, x202, x203, x204, x205, x206, x207, x208, x209, x210, x211, x212, x213, x214, x215, x216, x217, x218, x219, x220, x221, x222, x223, x224, x225, x226, x227, x228, x229, x230, x231, x232, x233, x234, x235, x236, x237, x238, x239, x240, x241, x242, x243, x244, x245, x246, x247, x248, x249, x250, x251, x252, x253, x254, x255, x256, x257, x258, x259, x260, x261, x262, x263, x264, x265, x266, x267, x268, x269, x270, x271, x272, x273, x274, x275, x276, x277, x278, x279, x280, x281, x282, x283, x284, x285, x286, x287, x288, x289, x290, x291, x292, x293, x294, x295, x296, x297, x298], []⟩ W := by
  have HH : Hid (∀ (y285 y286 y287 y288 y289 y290 : Value) (W' : World) (r : Sl), Blk W' B (objC (⟨s.d, s.e, r⟩, x)).toArray 40 → Row W' (fun c => W.heap.size ≤ c ∧ c < W'.heap.size) 4 (.slice r.a r.n r.c) [msgC (⟨some ⟨b, 0, none⟩, 1, 1⟩, ⟨[109], hh, op, rt⟩)] → On (fun c => c < W.heap.size ∧ c ≠ B) W W' → W.heap.size ≤ W'.heap.size → (∀ C, C ≤ B → Below C W W') → K ⟨#[x0, x1, x2, x3, x4, x5, x6, x7, x8, x9, x10, x11, x12, x13, x14, x15, x16, x17, x18, x19, x20, x21, x22, x23, x24, x25, x26, x27, x28, x29, x30, x31, .pointer (some ⟨B, 0, none⟩), .pointer (some ⟨G, 0, none⟩), x34, x35, x36, x37, x38, x39, x40, x41, x42, x43, x44, x45, x46, x47, x48, x49, x50, x51, x52, x53, x54, x55, x56, x57, x58, x59, x60, x61, x62, x63, x64, x65, x66, x67, x68, x69, x70, x71, x72, x73, x74, x75, x76, x77, x78, x79, x80, x81, x82, x83, x84, x85, x86, x87, x88, x89, x90, x91, x92, x93, x94, x95, x96, x97, x98, x99, x100, x101, x102, x103, x104, x105, x106, x107, x108, x109, x110, x111, x112, x113, x114, x115, x116, x117, x118, x119, x120, x121, x122, x123, x124, x125, x126, x127, x128, x129, x130, x131, x132, x133, x134, x135, x136, x137, x138, x139, x140, x141, x142, x143, x144, x145, x146, x147, x148, x149, x150, x151, x152, x153, x154, x155, x156, x157, x158, x159, x160, x161, x162, x163, x164, x165, x166, x167, x168, x169, x170, x171, x172, x173, x174, x175, x176, x177, x178, x179, x180, x181, x182, x183, x184, x185, x186, x187, x188, x189, x190, x191, x192, x193, x194, x195, x196, x197, x198, x199, x200, x201, x202, x203, x204, x205, x206, x207, x208, x209, x210, x211, x212, x213, x214, x215, x216, x217, x218, x219, x220, x221, x222, x223, x224, x225, x226, x227, x228, x229, x230, x231, x232, x233, x234, x235, x236, x237, x238, x239, x240, x241, x242, x243, x244, x245, x246, x247, x248, x249, x250, x251, x252, x253, x254, x255, x256, x257, x258, x259, x260, x261, x262, x263, x264, x265, x266, x267, x268, x269, x270, x271, x272, x273, x274, x275, x276, x277, x278, x279, x280, x281, x282, x283, x284, y285, y286, y287, y288, y289, y290, x291, x292, x293, x294, x295, x296, x297, x298], []⟩ W') := h
  obtain ⟨sd, se, sq⟩ := s
  dsimp only at hq
  subst hq
  have hBl := hbx.lt
  rw [objV_eq] at hbx
  have HX : Hid _ := hbx
  have hcb := hbx.cell
  have hfb := hbx.free
  have hcg := hbg.cell
  unfold msgB at hcg
  dsimp only [nilSl] at hcb
  clear h hbx hbg
  conv => arg 2; whnf
  go_wp2_with (with_reducible refine stop_at (.call { callee := .builtin .append, args := #[.tmp 286, .tmp 288], argTypes := #[38, 38] }) rfl ?_)
  unfold Hold
  have hbn := Blk.new W #[.slice (some ⟨b, 0, none⟩) 1 1, .bool hh, .int .i64 op, .int .i64 rt] 49
  have hon1 := On.alloc W (.cells #[.slice (some ⟨b, 0, none⟩) 1 1, .bool hh, .int .i64 op, .int .i64 rt] 49)
  have hz1 : (W.alloc (.cells #[.slice (some ⟨b, 0, none⟩) 1 1, .bool hh, .int .i64 op, .int .i64 rt] 49)).heap.size = W.heap.size + 1 := by simp
  have hB1 : ∀ C, C ≤ W.heap.size → Below C W (W.alloc (.cells #[.slice (some ⟨b, 0, none⟩) 1 1, .bool hh, .int .i64 op, .int .i64 rt] 49)) := fun C hC => (Below.refl C W).alloc hC _
  generalize W.alloc (.cells #[.slice (some ⟨b, 0, none⟩) 1 1, .bool hh, .int .i64 op, .int .i64 rt] 49) = W1 at *
  obtain ⟨i0, hi, hi0, hi1, hi2⟩ := info_parts Try.infoMsg
  clear hcb hfb hcg
  refine wpList_append_one rfl _ _ _ rfl W.heap.size 49 49 i0 (.agg #[.slice none 0 0, .bool false, .int .i64 0, .int .i64 0]) 4 48 Try.underlying38 hi hi0 hi1 hi2 rfl (by decide) _ [] rfl (Mine.nil W1 W.heap.size 49 4) (fun _ h => by simp at h) W.heap.size rfl (msgC (⟨some ⟨b, 0, none⟩, 1, 1⟩, ⟨[109], hh, op, rt⟩)) hbn rfl (fun u hu => ones_msg [(⟨some ⟨b, 0, none⟩, 1, 1⟩, ⟨[109], hh, op, rt⟩)] _ (List.mem_singleton.2 rfl) u hu) (by decide) (by decide) (by omega) ?_
  intro r W2 hm2 hg2 _
  rw [List.nil_append] at hm2
  clear hi hi0 hi1 hi2
  have hon2 : On (fun c => c < W.heap.size) W W2 := hon1.trans (fun c hc => hg2.block c (by omega) (by intro e; cases e))
  have hB2 : ∀ C, C ≤ W.heap.size → Below C W W2 := fun C hC => (hB1 C hC).grown hg2 (by omega) (fun k hk => by cases hk)
  have hz2 := (hB2 0 (Nat.zero_le _)).size
  have hb2 := Blk.on HX.out hon2 hBl
  have HB2 : Hid _ := hb2
  have hc2 := hb2.cell
  have hf2 := hb2.free
  have HR2 : Hid (Row W2 (fun c => W.heap.size ≤ c ∧ c < W2.heap.size) 4 (.slice r.a r.n r.c) [msgC (⟨some ⟨b, 0, none⟩, 1, 1⟩, ⟨[109], hh, op, rt⟩)]) := hm2.row (even_msg [(⟨some ⟨b, 0, none⟩, 1, 1⟩, ⟨[109], hh, op, rt⟩)])
  have HO2 : Hid (On (fun c => c < W.heap.size) W W2) := hon2
  have HBB : Hid (∀ C, C ≤ W.heap.size → Below C W W2) := hB2
  clear hm2 hg2 hon2 hB2 hb2 hbn hon1 hB1 hz1
  go_wp2
  have hset := On.set W2 ⟨B, 5, none⟩ (.slice r.a r.n r.c)
  refine HH.out _ _ _ _ _ _ _ r (Blk.set HB2.out 5 _) ((HR2.out.on (hset.less fun c hc => by show c ≠ B; omega)).more fun c hc => ⟨hc.1, by simp; exact hc.2⟩) ((HO2.out.less fun c hc => hc.1).trans (hset.less fun c hc => hc.2)) (by simp; omega) (fun C hC => (HBB.out C (by omega)).setCell (by show C ≤ B; omega) _)
set_option maxRecDepth 1000000 in
set_option maxHeartbeats 8000000 in
theorem reg76_wp (Q : Exit → Act → World → Prop) (W0 W : World) (g gk B i : Nat) (Sb : Nat → Prop) (vp vq : Value) (nO : Nat) (L : List Sp.Ob) (s : Sls) (x : Sp.Ob) (m : Sp.Msg) (hSb : ∀ b, Sb b → b < g) (hgk : g < gk) (_hgW : gk < W0.heap.size) (hL : L.length ≤ 100) (hx : L[i]? = some x) (hxk : x.kind = 4) (hm : Sp.MsgOk nO m) (hI : QI W0 g gk Sb vp vq nO L i W) (hbx : Blk W B (objC (s, { x with queue := [m] })).toArray 40) (hls : Lists W (fun b => g < b ∧ b < W.heap.size ∧ b ≠ gk) (s, { x with queue := [m] }))
    (x0 x1 x2 x3 x4 x5 x6 x7 x8 x9 x10 x11 x12 x13 x14 x15 x16 x17 x18 x20 x21 x22 x23 x24 x25 x26 x27 x28 x29 x30 x33 x34 x35 x36 x37 x38 x39 x40 x41 x42 x43 x44 x45 x46 x47 x48 x49 x50 x51 x52 x53 x54 x55 x56 x57 x58 x59 x60 x61 x62 x63 x64 x65 x66 x67 x68 x69 x70 x71 x72 x73 x74 x75 x76 x77 x78 x79 x80 x81 x82 x83 x84 x85 x86 x87 x88 x89 x90 x91 x92 x93 x94 x95 x96 x97 x98 x99 x100 x101 x102 x103 x104 x105 x106 x107 x108 x109 x110 x111 x112 x113 x114 x115 x116 x117 x118 x119 x120 x121 x122 x123 x124 x125 x126 x127 x128 x129 x130 x131 x132 x133 x134 x135 x136 x137 x138 x139 x140 x141 x142 x143 x144 x145 x146 x147 x148 x149 x150 x151 x152 x153 x154 x155 x156 x157 x158 x159 x160 x161 x162 x163 x164 x165 x166 x167 x168 x169 x170 x171 x172 x173 x174 x175 x176 x177 x178 x179 x180 x181 x182 x183 x184 x185 x186 x187 x188 x189 x190 x191 x192 x193 x194 x195 x196 x197 x198 x199 x200 x201 x202 x203 x204 x205 x206 x207 x208 x209 x210 x211 x212 x213 x214 x215 x216 x217 x218 x219 x220 x221 x222 x223 x224 x225 x226 x227 x228 x229 x230 x231 x232 x233 x234 x235 x236 x237 x238 x239 x240 x241 x242 x243 x244 x245 x246 x247 x248 x249 x250 x251 x252 x253 x254 x255 x256 x257 x258 x259 x260 x261 x262 x263 x264 x265 x266 x267 x268 x269 x270 x271 x272 x273 x274 x275 x276 x277 x278 x279 x280 x281 x282 x283 x284 x285 x286 x287 x288 x289 x290 x291 x292 x293 x294 x295 x296 x297 x298 : Value)
    (h : ∀ (y291 y292 y293 y294 y295 y296 : Value) (W' : World), QI W0 g gk Sb vp vq nO L (i + 1) W' → Q .normal ⟨#[x0, x1, x2, x3, x4, x5, x6, x7, x8, x9, x10, x11, x12, x13, x14, x15, x16, x17, x18, .pointer (some ⟨gk, 0, none⟩), x20, x21, x22, x23, x24, x25, x26, x27, x28, x29, x30, .int .i64 i, .pointer (some ⟨B, 0, none⟩), x33, x34, x35, x36, x37, x38, x39, x40, x41, x42, x43, x44, x45, x46, x47, x48, x49, x50, x51, x52, x53, x54, x55, x56, x57, x58, x59, x60, x61, x62, x63, x64, x65, x66, x67, x68, x69, x70, x71, x72, x73, x74, x75, x76, x77, x78, x79, x80, x81, x82, x83, x84, x85, x86, x87, x88, x89, x90, x91, x92, x93, x94, x95, x96, x97, x98, x99, x100, x101, x102, x103, x104, x105, x106, x107, x108, x109, x110, x111, x112, x113, x114, x115, x116, x117, x118, x119, x120, x121, x122, x123, x124, x125, x126, x127, x128, x129, x130, x131, x132, x133, x134, x135, x136, x137, x138, x139, x140, x141, x142, x143, x144, x145, x146, x147, x148, x149, x150, x151, x152, x153, x154, x155, x156, x157, x158, x159, x160, x161, x162, x163, x164, x165, x166, x167, x168, x169, x170, x171, x172, x173, x174, x175, x176, x177, x178, x179, x180, x181, x182, x183, x184, x185, x186, x187, x188, x189, x190, x191, x192, x193, x194, x195, x196, x197, x198, x199, x200, x201, x202, x203, x204, x205, x206, x207, x208, x209, x210, x211, x212, x213, x214, x215, x216, x217, x218, x219, x220, x221, x222, x223, x224, x225, x226, x227, x228, x229, x230, x231, x232, x233, x234, x235, x236, x237, x238, x239, x240, x241, x242, x243, x244, x245, x246, x247, x248, x249, x250, x251, x252, x253, x254, x255, x256, x257, x258, x259, x260, x261, x262, x263, x264, x265, x266, x267, x268, x269, x270, x271, x272, x273, x274, x275, x276, x277, x278, x279, x280, x281, x282, x283, x284, x285, x286, x287, x288, x289, x290, y291, y292, y293, y294, y295, y296, x297, x298], []⟩ W') :
    Code.wp Try.prog ((Try.f9.body.bind (findReg 76)).getD .skip) Q ⟨#[x0, x1, x2, x3, x4, x5, x6, x7, x8, x9, x10, x11, x12, x13, x14, x15, x16, x17, x18, .pointer (some ⟨gk, 0, none⟩), x20, x21, x22, x23, x24, x25, x26, x27, x28, x29, x30, .int .i64 i, .pointer (some ⟨B, 0, none⟩), x33, x34, x35, x36, x37, x38, x39, x40, x41, x42, x43, x44, x45, x46, x47, x48, x49, x50, x51, x52, x53, x54, x55, x56, x57, x58, x59, x60, x61, x62, x63, x64, x65, x66, x67, x68, x69, x70, x71, x72, x73, x74, x75, x76, x77, x78, x79, x80, x81, x82, x83, x84, x85, x86, x87, x88, x89, x90, x91, x92, x93, x94, x95, x96, x97, x98, x99, x100, x101, x102, x103, x104, x105, x106, x107, x108, x109, x110, x111, x112, x113, x114, x115, x116, x117, x118, x119, x120, x121, x122, x123, x124, x125, x126, x127, x128, x129, x130, x131, x132, x133, x134, x135, x136, x137, x138, x139, x140, x141, x142, x143, x144, x145, x146, x147, x148, x149, x150, x151, x152, x153, x154, x155, x156, x157, x158, x159, x160, x161, x162, x163, x164, x165, x166, x167, x168, x169, x170, x171, x172, x173, x174, x175, x176, x177, x178, x179, x180, x181, x182, x183, x184, x185, x186, x187, x188, x189, x190, x191, x192, x193, x194, x195, x196, x197, x198, x199, x200, x201, x202, x203, x204, x205, x206, x207, x208, x209, x210, x211, x212, x213, x214, x215, x216, x217, x218, x219, x220, x221, x222, x223, x224, x225, x226, x227, x228, x229, x230, x231, x232, x233, x234, x235, x236, x237, x238, x239, x240, x241, x242, x243, x244, x245, x246, x247, x248, x249, x250, x251, x252, x253, x254, x255, x256, x257, x258, x259, x260, x261, x262, x263, x264, x265, x266, x267, x268, x269, x270, x271, x272, x273, x274, x275, x276, x277, x278, x279, x280, x281, x282, x283, x284, x285, x286, x287, x288, x289, x290, x291, x292, x293, x294, x295, x296, x297, x298], []⟩ W := by
  have HH : Hid (∀ (y291 y292 y293 y294 y295 y296 : Value) (W' : World), QI W0 g gk Sb vp vq nO L (i + 1) W' → Q .normal ⟨#[x0, x1, x2, x3, x4, x5, x6, x7, x8, x9, x10, x11, x12, x13, x14, x15, x16, x17, x18, .pointer (some ⟨gk, 0, none⟩), x20, x21, x22, x23, x24, x25, x26, x27, x28, x29, x30, .int .i64 i, .pointer (some ⟨B, 0, none⟩), x33, x34, x35, x36, x37, x38, x39, x40, x41, x42, x43, x44, x45, x46, x47, x48, x49, x50, x51, x52, x53, x54, x55, x56, x57, x58, x59, x60, x61, x62, x63, x64, x65, x66, x67, x68, x69, x70, x71, x72, x73, x74, x75, x76, x77, x78, x79, x80, x81, x82, x83, x84, x85, x86, x87, x88, x89, x90, x91, x92, x93, x94, x95, x96, x97, x98, x99, x100, x101, x102, x103, x104, x105, x106, x107, x108, x109, x110, x111, x112, x113, x114, x115, x116, x117, x118, x119, x120, x121, x122, x123, x124, x125, x126, x127, x128, x129, x130, x131, x132, x133, x134, x135, x136, x137, x138, x139, x140, x141, x142, x143, x144, x145, x146, x147, x148, x149, x150, x151, x152, x153, x154, x155, x156, x157, x158, x159, x160, x161, x162, x163, x164, x165, x166, x167, x168, x169, x170, x171, x172, x173, x174, x175, x176, x177, x178, x179, x180, x181, x182, x183, x184, x185, x186, x187, x188, x189, x190, x191, x192, x193, x194, x195, x196, x197, x198, x199, x200, x201, x202, x203, x204, x205, x206, x207, x208, x209, x210, x211, x212, x213, x214, x215, x216, x217, x218, x219, x220, x221, x222, x223, x224, x225, x226, x227, x228, x229, x230, x231, x232, x233, x234, x235, x236, x237, x238, x239, x240, x241, x242, x243, x244, x245, x246, x247, x248, x249, x250, x251, x252, x253, x254, x255, x256, x257, x258, x259, x260, x261, x262, x263, x264, x265, x266, x267, x268, x269, x270, x271, x272, x273, x274, x275, x276, x277, x278, x279, x280, x281, x282, x283, x284, x285, x286, x287, x288, x289, x290, y291, y292, y293, y294, y295, y296, x297, x298], []⟩ W') := h
  obtain ⟨a, c, M, h1, h2, h3, h4, h5, h6, h7, h8, h9, h10⟩ := hI
  have hil := (List.getElem?_eq_some_iff.1 hx).1
  have hMi : M[i]? = some x := (h3 i (Nat.le_refl _)).trans hx
  have hR := rwith_any M i s { x with queue := [m] } (.slice a M.length c) (fun b => g < b ∧ b < W.heap.size ∧ b ≠ gk) W h8 (fun b hb => hb.2.1) (by omega) (by omega) hls
  have e1 : Sp.rwith M i { x with queue := [m] } = M.set i { x with queue := [m] } := if_neg (by omega)
  rw [e1, List.length_set, objV_eq] at hR
  have HR : Hid _ := hR
  rw [objV_eq] at hbx
  have hcb := hbx.cell
  have hck := h7.cell
  have hgl := h7.lt
  have hz0 : W0.heap.size ≤ W.heap.size := (h10 0 (Nat.zero_le _)).size
  have H6 : Hid (MK W g Sb) := h6
  have H7 : Hid (Blk W gk #[.slice a M.length c, vp, vq] 27) := h7
  have HF : Hid (∀ (W2 : World) (a' : Option Addr) (c' : Nat), Objs W2 (Or' (fun b => g < b ∧ b < W.heap.size ∧ b ≠ gk) W.heap.size W2.heap.size) (.slice a' M.length c') (M.set i { x with queue := [m] }) → Below W.heap.size W W2 → Blk W2 gk #[.slice a M.length c, vp, vq] 27 ∧ QI W0 g gk Sb vp vq nO L (i + 1) (W2.setCell ⟨gk, 0, none⟩ (.slice a' M.length c'))) := fun W2 a' c' ho hb => by
    have hb2 : Blk W2 gk #[.slice a M.length c, vp, vq] 27 := h7.below hb hgl
    have hset := On.set W2 ⟨gk, 0, none⟩ (.slice a' M.length c')
    have hz := hb.size
    refine ⟨hb2, a', c', M.set i { x with queue := [m] }, by rw [List.length_set]; exact h1, h2.send hMi hxk hm.1, fun j hj => by rw [List.getElem?_set_ne (by omega)]; exact h3 j (by omega), ?_, ?_, ?_, ?_, ?_, ?_, ?_⟩
    · intro j o hj
      by_cases hji : j = i
      · subst hji
        rw [List.getElem?_set_self (by omega)] at hj
        cases hj
        exact ⟨x, hx, rfl, rfl⟩
      · rw [List.getElem?_set_ne (by omega)] at hj
        exact h4 j o hj
    · intro o ho q hq
      rcases List.mem_or_eq_of_mem_set ho with h | h
      · exact h5 o h q hq
      · subst h
        simp at hq
        subst hq
        exact hm
    · exact (h6.on (On.of hb) (by show g < W.heap.size; omega) (fun b hb => by have := hSb b hb; show b < W.heap.size; omega)).on hset (by show g ≠ gk; omega) (fun b hb => by have := hSb b hb; show b ≠ gk; omega)
    · rw [List.length_set]; exact hb2.set 0 _
    · rw [List.length_set]
      exact (ho.on (hset.less fun b hb => by
        show b ≠ gk
        rcases hb with hb | hb
        · exact hb.2.2
        · omega)).more fun b hb => by
          rcases hb with hb | hb
          · exact ⟨hb.1, by simp; omega, hb.2.2⟩
          · exact ⟨by omega, by simp; exact hb.2, by omega⟩
    · exact (h9.trans ((On.of hb).less fun b hb => by omega)).trans (hset.less fun b hb => hb.2.2)
    · intro C hC
      exact ((h10 C hC).trans (hb.mono (by omega))).setCell (by show C ≤ gk; omega) _
  dsimp only at hcb HR
  clear h hSb hm hbx hls h1 h2 h3 h4 h5 h6 h7 h8 h9 h10 hR e1 hMi hx hxk
  conv => arg 2; whnf
  go_wp2_with fail
  refine Calls.mono HR.out ?_
  rintro e W2 ⟨a2, c2, rfl, ho2, hb2⟩
  obtain ⟨q1, q2⟩ := HF.out W2 a2 c2 ho2 hb2
  have HQ : Hid (QI W0 g gk Sb vp vq nO L (i + 1) (W2.setCell ⟨gk, 0, none⟩ (.slice a2 M.length c2))) := q2
  have hc2 := q1.cell
  have hf2 := q1.free
  clear ho2 hb2 q1 q2 hcb hck HR
  go_wp2
  exact HH.out _ _ _ _ _ _ _ HQ.out
set_option maxRecDepth 1000000 in
set_option maxHeartbeats 8000000 in
theorem blk17_wp (Q : Exit → Act → World → Prop) (K : Act → World → Prop) (W : World) (g gk : Nat) (Sb : Nat → Prop) (nO pc : Nat) (pa : Option Addr) (vq : Value) (a : Option Addr) (c : Nat) (L : List Sp.Ob) (hSb : ∀ b, Sb b → b < g) (hgk : g < gk) (hnO2 : nO ≤ 1000) (hL : L.length ≤ 100) (hT : Sp.TOk L) (hmk : MK W g Sb) (hbk : Blk W gk #[.slice a L.length c, .slice pa nO pc, vq] 27) (hv : ObjsP QN W (fun b => g < b ∧ b < W.heap.size ∧ b ≠ gk) (.slice a L.length c) L) (hq0 : ∀ o ∈ L, o.queue = [])
    (x0 x1 x2 x4 x5 x6 x7 x8 x9 x10 x11 x12 x13 x14 x15 x16 x17 x18 x20 x21 x22 x23 x24 x25 x26 x27 x28 x29 x30 x31 x32 x33 x34 x35 x36 x37 x38 x39 x40 x41 x42 x43 x44 x45 x46 x47 x48 x49 x50 x51 x52 x53 x54 x55 x56 x57 x58 x59 x60 x61 x62 x63 x64 x65 x66 x67 x68 x69 x70 x71 x72 x73 x74 x75 x76 x77 x78 x79 x80 x81 x82 x83 x84 x85 x86 x87 x88 x89 x90 x91 x92 x93 x94 x95 x96 x97 x98 x99 x100 x101 x102 x103 x104 x105 x106 x107 x108 x109 x110 x111 x112 x113 x114 x115 x116 x117 x118 x119 x120 x121 x122 x123 x124 x125 x126 x127 x128 x129 x130 x131 x132 x133 x134 x135 x136 x137 x138 x139 x140 x141 x142 x143 x144 x145 x146 x147 x148 x149 x150 x151 x152 x153 x154 x155 x156 x157 x158 x159 x160 x161 x162 x163 x164 x165 x166 x167 x168 x169 x170 x171 x172 x173 x174 x175 x176 x177 x178 x179 x180 x181 x182 x183 x184 x185 x186 x187 x188 x189 x190 x191 x192 x193 x194 x195 x196 x197 x198 x199 x200 x201 x202 x203 x204 x205 x206 x207 x208 x209 x210 x211 x212 x213 x214 x215 x216 x217 x218 x219 x220 x221 x222 x223 x224 x225 x226 x227 x228 x229 x230 x231 x232 x233 x234 x235 x236 x237 x238 x239 x240 x241 x242 x243 x244 x245 x246 x247 x251 x252 x253 x254 x255 x256 x257 x258 x259 x260 x261 x262 x263 x264 x265 x266 x267 x268 x269 x270 x271 x272 x273 x274 x275 x276 x277 x278 x279 x280 x281 x282 x283 x284 x285 x286 x287 x288 x289 x290 x291 x292 x293 x294 x295 x296 x297 x298 : Value)
    (h : ∀ (y31 y32 y33 y250 y251 y252 y253 y254 y255 y256 y257 y258 y259 y260 y261 y262 y263 y264 y265 y266 y267 y268 y269 y270 y271 y272 y273 y274 y275 y276 y277 y278 y279 y280 y281 y282 y283 y284 y285 y286 y287 y288 y289 y290 y291 y292 y293 y294 y295 y296 y297 : Value) (W' : World), QI W g gk Sb (.slice pa nO pc) vq nO L L.length W' → K ⟨#[x0, x1, x2, .pointer (some ⟨g, 0, none⟩), x4, x5, x6, x7, x8, x9, x10, x11, x12, x13, x14, x15, x16, x17, x18, .pointer (some ⟨gk, 0, none⟩), x20, x21, x22, x23, x24, x25, x26, x27, x28, x29, x30, y31, y32, y33, x34, x35, x36, x37, x38, x39, x40, x41, x42, x43, x44, x45, x46, x47, x48, x49, x50, x51, x52, x53, x54, x55, x56, x57, x58, x59, x60, x61, x62, x63, x64, x65, x66, x67, x68, x69, x70, x71, x72, x73, x74, x75, x76, x77, x78, x79, x80, x81, x82, x83, x84, x85, x86, x87, x88, x89, x90, x91, x92, x93, x94, x95, x96, x97, x98, x99, x100, x101, x102, x103, x104, x105, x106, x107, x108, x109, x110, x111, x112, x113, x114, x115, x116, x117, x118, x119, x120, x121, x122, x123, x124, x125, x126, x127, x128, x129, x130, x131, x132, x133, x134, x135, x136, x137, x138, x139, x140, x141, x142, x143, x144, x145, x146, x147, x148, x149, x150, x151, x152, x153, x154, x155, x156, x157, x158, x159, x160, x161, x162, x163, x164, x165, x166, x167, x168, x169, x170, x171, x172, x173, x174, x175, x176, x177, x178, x179, x180, x181, x182, x183, x184, x185, x186, x187, x188, x189, x190, x191, x192, x193, x194, x195, x196, x197, x198, x199, x200, x201, x202, x203, x204, x205, x206, x207, x208, x209, x210, x211, x212, x213, x214, x215, x216, x217, x218, x219, x220, x221, x222, x223, x224, x225, x226, x227, x228, x229, x230, x231, x232, x233, x234, x235, x236, x237, x238, x239, x240, x241, x242, x243, x244, x245, x246, x247, .slice a L.length c, .int .i64 L.length, y250, y251, y252, y253, y254, y255, y256, y257, y258, y259, y260, y261, y262, y263, y264, y265, y266, y267, y268, y269, y270, y271, y272, y273, y274, y275, y276, y277, y278, y279, y280, y281, y282, y283, y284, y285, y286, y287, y288, y289, y290, y291, y292, y293, y294, y295, y296, y297, x298], []⟩ W') :
    Code.wp Try.prog ((Try.f9.body.bind (findBlock 17)).getD .skip) (Exit.then K Q) ⟨#[x0, x1, x2, .pointer (some ⟨g, 0, none⟩), x4, x5, x6, x7, x8, x9, x10, x11, x12, x13, x14, x15, x16, x17, x18, .pointer (some ⟨gk, 0, none⟩), x20, x21, x22, x23, x24, x25, x26, x27, x28, x29, x30, x31, x32, x33, x34, x35, x36, x37, x38, x39, x40, x41, x42, x43, x44, x45, x46, x47, x48, x49, x50, x51, x52, x53, x54, x55, x56, x57, x58, x59, x60, x61, x62, x63, x64, x65, x66, x67, x68, x69, x70, x71, x72, x73, x74, x75, x76, x77, x78, x79, x80, x81, x82, x83, x84, x85, x86, x87, x88, x89, x90, x91, x92, x93, x94, x95, x96, x97, x98, x99, x100, x101, x102, x103, x104, x105, x106, x107, x108, x109, x110, x111, x112, x113, x114, x115, x116, x117, x118, x119, x120, x121, x122, x123, x124, x125, x126, x127, x128, x129, x130, x131, x132, x133, x134, x135, x136, x137, x138, x139, x140, x141, x142, x143, x144, x145, x146, x147, x148, x149, x150, x151, x152, x153, x154, x155, x156, x157, x158, x159, x160, x161, x162, x163, x164, x165, x166, x167, x168, x169, x170, x171, x172, x173, x174, x175, x176, x177, x178, x179, x180, x181, x182, x183, x184, x185, x186, x187, x188, x189, x190, x191, x192, x193, x194, x195, x196, x197, x198, x199, x200, x201, x202, x203, x204, x205, x206, x207, x208, x209, x210, x211, x212, x213, x214, x215, x216, x217, x218, x219, x220, x221, x222, x223, x224, x225, x226, x227, x228, x229, x230, x231, x232, x233, x234, x235, x236, x237, x238, x239, x240, x241, x242, x243, x244, x245, x246, x247, .slice a L.length c, .int .i64 L.length, .int .i64 0, x251, x252, x253, x254, x255, x256, x257, x258, x259, x260, x261, x262, x263, x264, x265, x266, x267, x268, x269, x270, x271, x272, x273, x274, x275, x276, x277, x278, x279, x280, x281, x282, x283, x284, x285, x286, x287, x288, x289, x290, x291, x292, x293, x294, x295, x296, x297, x298], []⟩ W := by
  have HH : Hid (∀ (y31 y32 y33 y250 y251 y252 y253 y254 y255 y256 y257 y258 y259 y260 y261 y262 y263 y264 y265 y266 y267 y268 y269 y270 y271 y272 y273 y274 y275 y276 y277 y278 y279 y280 y281 y282 y283 y284 y285 y286 y287 y288 y289 y290 y291 y292 y293 y294 y295 y296 y297 : Value) (W' : World), QI W g gk Sb (.slice pa nO pc) vq nO L L.length W' → K ⟨#[x0, x1, x2, .pointer (some ⟨g, 0, none⟩), x4, x5, x6, x7, x8, x9, x10, x11, x12, x13, x14, x15, x16, x17, x18, .pointer (some ⟨gk, 0, none⟩), x20, x21, x22, x23, x24, x25, x26, x27, x28, x29, x30, y31, y32, y33, x34, x35, x36, x37, x38, x39, x40, x41, x42, x43, x44, x45, x46, x47, x48, x49, x50, x51, x52, x53, x54, x55, x56, x57, x58, x59, x60, x61, x62, x63, x64, x65, x66, x67, x68, x69, x70, x71, x72, x73, x74, x75, x76, x77, x78, x79, x80, x81, x82, x83, x84, x85, x86, x87, x88, x89, x90, x91, x92, x93, x94, x95, x96, x97, x98, x99, x100, x101, x102, x103, x104, x105, x106, x107, x108, x109, x110, x111, x112, x113, x114, x115, x116, x117, x118, x119, x120, x121, x122, x123, x124, x125, x126, x127, x128, x129, x130, x131, x132, x133, x134, x135, x136, x137, x138, x139, x140, x141, x142, x143, x144, x145, x146, x147, x148, x149, x150, x151, x152, x153, x154, x155, x156, x157, x158, x159, x160, x161, x162, x163, x164, x165, x166, x167, x168, x169, x170, x171, x172, x173, x174, x175, x176, x177, x178, x179, x180, x181, x182, x183, x184, x185, x186, x187, x188, x189, x190, x191, x192, x193, x194, x195, x196, x197, x198, x199, x200, x201, x202, x203, x204, x205, x206, x207, x208, x209, x210, x211, x212, x213, x214, x215, x216, x217, x218, x219, x220, x221, x222, x223, x224, x225, x226, x227, x228, x229, x230, x231, x232, x233, x234, x235, x236, x237, x238, x239, x240, x241, x242, x243, x244, x245, x246, x247, .slice a L.length c, .int .i64 L.length, y250, y251, y252, y253, y254, y255, y256, y257, y258, y259, y260, y261, y262, y263, y264, y265, y266, y267, y268, y269, y270, y271, y272, y273, y274, y275, y276, y277, y278, y279, y280, y281, y282, y283, y284, y285, y286, y287, y288, y289, y290, y291, y292, y293, y294, y295, y296, y297, x298], []⟩ W') := h
  have HS0 : Hid (QI W g gk Sb (.slice pa nO pc) vq nO L 0 W) := ⟨a, c, L, rfl, hT, fun _ _ => rfl, fun j o h => ⟨o, h, rfl, rfl⟩, fun o ho m hm => by rw [hq0 o ho] at hm; simp at hm, hmk, hbk, hv.objs, fun _ _ => rfl, fun C _ => Below.refl C W⟩
  have HSb : Hid (∀ b, Sb b → b < g) := hSb
  have HV : Hid (ObjsP QN W (fun b => g < b ∧ b < W.heap.size ∧ b ≠ gk) (.slice a L.length c) L) := hv
  have hgW := hbk.lt
  have hLz : (L.length : Int) ≤ 100 := by omega
  clear h hSb hbk hmk hv hq0 hT
  conv => arg 2; whnf
  go_wp2_with fail
  go_loopw [250] (fun v wz => ∃ i : Nat, i ≤ L.length ∧ v = .int .i64 i ∧ QI W g gk Sb (.slice pa nO pc) vq nO L i wz) (fun v _ => L.length - (intOf v).toNat)
  case atStart => exact ⟨0, Nat.zero_le _, rfl, HS0.out⟩
  case round =>
    obtain ⟨i, hi, rfl, hI⟩ := hrel
    clear HS0
    have HI : Hid (QI W g gk Sb (.slice pa nO pc) vq nO L i wr) := hI
    have HON : Hid (On (fun b => b < W.heap.size ∧ b ≠ g ∧ b ≠ gk) W wr) := by obtain ⟨_, _, _, _, _, _, _, _, _, _, _, h9, _⟩ := hI; exact h9
    have HMK : Hid (MK wr g Sb) := by obtain ⟨_, _, _, _, _, _, _, _, h6, _⟩ := hI; exact h6
    have hz0 : W.heap.size ≤ wr.heap.size := by obtain ⟨_, _, _, _, _, _, _, _, _, _, _, _, h10⟩ := hI; exact (h10 0 (Nat.zero_le _)).size
    clear hI
    by_cases hlt : i < L.length
    · have hx : L[i]? = some L[i] := List.getElem?_eq_getElem hlt
      obtain ⟨b, o, c', s, he, hb, h3, h4, hl, hZ, c0, c1, c2, c3, c4, c5, c6, c7, c8⟩ := (HV.out.on (HON.out.less fun b hb => ⟨hb.2.1, by omega, hb.2.2⟩)).open hx
      obtain ⟨rfl, -, rfl⟩ := Value.slice.inj he
      have HX : Hid (L[i]? = some L[i]) := hx
      have HZ : Hid (QN (s, L[i])) := hZ
      have HLS : Hid (Lists wr (fun b => g < b ∧ b < W.heap.size ∧ b ≠ gk) (s, L[i])) := hl
      unfold maxLen at h4
      generalize L[i] = x at *
      clear hx he hb hZ hl
      by_cases hk4 : x.kind = 4
      · have hkz : (x.kind == 4) = true := by simpa using hk4
        have HK4 : Hid (x.kind = 4) := hk4
        clear hk4
        go_wp2_with fail
        have hbx : Blk (wr.alloc (.cells #[.int .i64 x.kind, .slice s.d.a s.d.n s.d.c, .slice s.e.a s.e.n s.e.c, .string x.target, .int .i64 x.peer, .slice s.q.a s.q.n s.q.c, .int .i64 x.proc, .int .i64 x.links, .int .i64 x.up] 40)) wr.heap.size #[.int .i64 x.kind, .slice s.d.a s.d.n s.d.c, .slice s.e.a s.e.n s.e.c, .string x.target, .int .i64 x.peer, .slice s.q.a s.q.n s.q.c, .int .i64 x.proc, .int .i64 x.links, .int .i64 x.up] 40 := Blk.new wr _ _
        have hp1 := Pn.alloc (Pn.refl HMK.out) HSb.out (by omega) (.cells #[.int .i64 x.kind, .slice s.d.a s.d.n s.d.c, .slice s.e.a s.e.n s.e.c, .string x.target, .int .i64 x.peer, .slice s.q.a s.q.n s.q.c, .int .i64 x.proc, .int .i64 x.links, .int .i64 x.up] 40)
        have hz1 : (wr.alloc (.cells #[.int .i64 x.kind, .slice s.d.a s.d.n s.d.c, .slice s.e.a s.e.n s.e.c, .string x.target, .int .i64 x.peer, .slice s.q.a s.q.n s.q.c, .int .i64 x.proc, .int .i64 x.links, .int .i64 x.up] 40)).heap.size = wr.heap.size + 1 := by simp
        generalize wr.alloc (.cells #[.int .i64 x.kind, .slice s.d.a s.d.n s.d.c, .slice s.e.a s.e.n s.e.c, .string x.target, .int .i64 x.peer, .slice s.q.a s.q.n s.q.c, .int .i64 x.proc, .int .i64 x.links, .int .i64 x.up] 40) = W1 at *
        have HB1 : Hid _ := hbx
        clear hbx c0 c1 c2 c3 c4 c5 c6 c7 c8
        refine (pick_pn g Sb HSb.out 2 (by decide) (by decide) wr W1 hp1).mono ?_
        rintro e W2 ⟨y, rfl, hy, hp2, ho2, hz2⟩
        have HP2 : Hid (Pn g Sb wr W2) := hp2
        have HB2 : Hid (Blk W2 wr.heap.size #[.int .i64 x.kind, .slice s.d.a s.d.n s.d.c, .slice s.e.a s.e.n s.e.c, .string x.target, .int .i64 x.peer, .slice s.q.a s.q.n s.q.c, .int .i64 x.proc, .int .i64 x.links, .int .i64 x.up] 40) := Blk.on HB1.out ho2 (by show wr.heap.size ≠ g; omega)
        have HZ2 : Hid (W2.heap.size = wr.heap.size + 1) := by unfold Hid; omega
        clear hp1 hp2 ho2 hz2 hz1 HB1
        by_cases hy1 : y = 1
        · subst hy1
          have kc := fun (w : World) (C : Array Value) (n c : Nat) => Lib.run_convert_bytes_const (P := Try.prog) w 22 5 C n c Try.underlying22 Try.underlying5
          go_upto_region 73 with fail
          have hby : Bytes (W2.alloc (.cells #[.int .u8 109] 5 (1, 2))) (fun b => b = W2.heap.size) (.slice (some ⟨W2.heap.size, 0, none⟩) 1 1) [109] := litB W2 [109] (1, 2) (by decide)
          have hza : (W2.alloc (.cells #[.int .u8 109] 5 (1, 2))).heap.size = W2.heap.size + 1 := by simp
          have hpa := Pn.alloc HP2.out HSb.out (by omega) (.cells #[.int .u8 109] 5 (1, 2))
          have hba := Blk.alloc HB2.out (.cells #[.int .u8 109] 5 (1, 2))
          generalize W2.alloc (.cells #[.int .u8 109] 5 (1, 2)) = Wa at *
          have hbg : Blk (Wa.alloc (.cells #[.slice (some ⟨W2.heap.size, 0, none⟩) 1 1, .bool false, .int .i64 0, .int .i64 0] 49)) (W2.heap.size + 1) (msgB W2.heap.size false 0 0) 49 := by rw [← hza]; exact Blk.new Wa _ _
          have hby3 := Row.on hby ((On.alloc Wa (.cells #[.slice (some ⟨W2.heap.size, 0, none⟩) 1 1, .bool false, .int .i64 0, .int .i64 0] 49)).less fun b hb => by show b < Wa.heap.size; omega)
          have hp3 := Pn.alloc hpa HSb.out (by omega) (.cells #[.slice (some ⟨W2.heap.size, 0, none⟩) 1 1, .bool false, .int .i64 0, .int .i64 0] 49)
          have hb3 := Blk.alloc hba (.cells #[.slice (some ⟨W2.heap.size, 0, none⟩) 1 1, .bool false, .int .i64 0, .int .i64 0] 49)
          have hz3 : (Wa.alloc (.cells #[.slice (some ⟨W2.heap.size, 0, none⟩) 1 1, .bool false, .int .i64 0, .int .i64 0] 49)).heap.size = W2.heap.size + 2 := by simp; omega
          generalize Wa.alloc (.cells #[.slice (some ⟨W2.heap.size, 0, none⟩) 1 1, .bool false, .int .i64 0, .int .i64 0] 49) = W3 at *
          have HBY3 : Hid (Bytes W3 (fun b => b = W2.heap.size) (.slice (some ⟨W2.heap.size, 0, none⟩) 1 1) [109]) := hby3
          have HG3 : Hid (Blk W3 (W2.heap.size + 1) (msgB W2.heap.size false 0 0) 49) := hbg
          have HP3 : Hid (Pn g Sb wr W3) := hp3
          have HB3 : Hid (Blk W3 wr.heap.size (objC (s, x)).toArray 40) := by unfold Hid; rw [objV_eq]; exact hb3
          have HZ3 : Hid (W3.heap.size = W2.heap.size + 2) := hz3
          have hQ3 : QI W g gk Sb (.slice pa nO pc) vq nO L i W3 := HI.out.next (Nat.le_refl _) hgk hp3
          obtain ⟨aK, cK, MK3, -, -, -, -, -, -, hbk3, -, -, -⟩ := hQ3
          have HBK3 : Hid (Blk W3 gk #[.slice aK MK3.length cK, .slice pa nO pc, vq] 27) := hbk3
          have hck3 := hbk3.cell
          have hgl3 := hbk3.lt
          clear hby hza hpa hba hbg hby3 hp3 hb3 hz3 hbk3 kc
          by_cases hnO : nO = 0
          · have hz0' : ¬ (0 : Int) < (nO : Int) := by omega
            have HB4 := HB3
            have HG4 := HG3
            have HBY4 := HBY3
            have HP4 := HP3
            have HZ4 := HZ3
            have HMS : Hid (Sp.MsgOk nO ⟨[109], false, 0, 0⟩) := ⟨rfl, Or.inr ⟨rfl, rfl, rfl⟩⟩
            generalize W3 = W4 at *
            go_upto_region 75 with fail
            refine reg75_wp _ _ W4 wr.heap.size (W2.heap.size + 1) W2.heap.size s x false 0 0 (HZ.out HK4.out).1 HB4.out HG4.out _ _ _ _ _ _ _ _ _ _ _ _ _ _ _ _ _ _ _ _ _ _ _ _ _ _ _ _ _ _ _ _ _ _ _ _ _ _ _ _ _ _ _ _ _ _ _ _ _ _ _ _ _ _ _ _ _ _ _ _ _ _ _ _ _ _ _ _ _ _ _ _ _ _ _ _ _ _ _ _ _ _ _ _ _ _ _ _ _ _ _ _ _ _ _ _ _ _ _ _ _ _ _ _ _ _ _ _ _ _ _ _ _ _ _ _ _ _ _ _ _ _ _ _ _ _ _ _ _ _ _ _ _ _ _ _ _ _ _ _ _ _ _ _ _ _ _ _ _ _ _ _ _ _ _ _ _ _ _ _ _ _ _ _ _ _ _ _ _ _ _ _ _ _ _ _ _ _ _ _ _ _ _ _ _ _ _ _ _ _ _ _ _ _ _ _ _ _ _ _ _ _ _ _ _ _ _ _ _ _ _ _ _ _ _ _ _ _ _ _ _ _ _ _ _ _ _ _ _ _ _ _ _ _ _ _ _ _ _ _ _ _ _ _ _ _ _ _ _ _ _ _ _ _ _ _ _ _ _ _ _ _ _ _ _ _ _ _ _ _ _ _ _ _ _ _ _ _ _ _ _ _ _ _ _ _ _ _ _ _ _ _ _ _ _ _ _ ?_
            intro y285 y286 y287 y288 y289 y290 W5 r hb5 hr5 ho5 hz5 hbl5
            dsimp only
            have hp4 := HP4.out
            have hz45 := hp4.2.2.1
            have hzz2 := HZ2.out
            have hz24 := HZ4.out
            have HP5 : Hid (Pn g Sb wr W5) := ⟨hp4.1.on ho5 ⟨by omega, by omega⟩ (fun b hb => by have := HSb.out b hb; exact ⟨by omega, by omega⟩), hp4.2.1.trans (ho5.less fun b hb => ⟨by omega, by omega⟩), by omega, fun C hC => (hp4.2.2.2 C hC).trans (hbl5 C (by omega))⟩
            have HB5 : Hid (Blk W5 wr.heap.size (objC (⟨s.d, s.e, r⟩, { x with queue := [⟨[109], false, 0, 0⟩] })).toArray 40) := hb5
            have HL5 : Hid (Lists W5 (fun b => g < b ∧ b < W5.heap.size ∧ b ≠ gk) (⟨s.d, s.e, r⟩, { x with queue := [⟨[109], false, 0, 0⟩] })) := by
              have hon : On (fun b => b < wr.heap.size ∧ b ≠ g) wr W5 := HP5.out.2.1
              refine ⟨(Row.on HLS.out.1 (hon.less fun b hb => ⟨by omega, by omega⟩)).more fun b hb => ⟨hb.1, by omega, hb.2.2⟩, (Row.on HLS.out.2.1 (hon.less fun b hb => ⟨by omega, by omega⟩)).more fun b hb => ⟨hb.1, by omega, hb.2.2⟩, [(⟨some ⟨W2.heap.size, 0, none⟩, 1, 1⟩, ⟨[109], false, 0, 0⟩)], rfl, hr5.more fun b hb => ⟨by omega, hb.2, by omega⟩, fun t ht => ?_⟩
              simp at ht
              subst ht
              exact (Row.on HBY4.out (ho5.less fun b hb => ⟨by omega, by omega⟩)).more fun b hb => ⟨by omega, by omega, by omega⟩
            clear hb5 hr5 ho5 hbl5 hp4
            go_upto_region 76 with fail
            refine reg76_wp _ W W5 g gk wr.heap.size i Sb (.slice pa nO pc) vq nO L ⟨s.d, s.e, r⟩ x ⟨[109], false, 0, 0⟩ HSb.out hgk hgW hL HX.out HK4.out HMS.out (HI.out.next (Nat.le_refl _) hgk HP5.out) HB5.out HL5.out _ _ _ _ _ _ _ _ _ _ _ _ _ _ _ _ _ _ _ _ _ _ _ _ _ _ _ _ _ _ _ _ _ _ _ _ _ _ _ _ _ _ _ _ _ _ _ _ _ _ _ _ _ _ _ _ _ _ _ _ _ _ _ _ _ _ _ _ _ _ _ _ _ _ _ _ _ _ _ _ _ _ _ _ _ _ _ _ _ _ _ _ _ _ _ _ _ _ _ _ _ _ _ _ _ _ _ _ _ _ _ _ _ _ _ _ _ _ _ _ _ _ _ _ _ _ _ _ _ _ _ _ _ _ _ _ _ _ _ _ _ _ _ _ _ _ _ _ _ _ _ _ _ _ _ _ _ _ _ _ _ _ _ _ _ _ _ _ _ _ _ _ _ _ _ _ _ _ _ _ _ _ _ _ _ _ _ _ _ _ _ _ _ _ _ _ _ _ _ _ _ _ _ _ _ _ _ _ _ _ _ _ _ _ _ _ _ _ _ _ _ _ _ _ _ _ _ _ _ _ _ _ _ _ _ _ _ _ _ _ _ _ _ _ _ _ _ _ _ _ _ _ _ _ _ _ _ _ _ _ _ _ _ _ _ _ _ _ _ _ _ _ _ _ _ _ _ _ _ _ _ _ _ _ _ _ _ _ _ _ _ _ _ _ _ _ ?_
            intro y291 y292 y293 y294 y295 y296 W6 hI6
            dsimp only
            have HI6 : Hid (QI W g gk Sb (.slice pa nO pc) vq nO L (i + 1) W6) := hI6
            clear hI6
            go_wp2
            exact ⟨⟨i + 1, by omega, by go_num, HI6.out⟩, by simp [intOf]; omega⟩
          · have hz0' : (0 : Int) < (nO : Int) := by omega
            go_wp2_with fail
            refine (pick_pn g Sb HSb.out 2 (by decide) (by decide) W3 W3 (Pn.refl HP3.out.1)).mono ?_
            rintro e W4 ⟨z, rfl, hz, hp4', ho4, hz4⟩
            have HP34 : Hid (Pn g Sb wr W4) := HP3.out.trans hp4'
            have HB34 : Hid (Blk W4 wr.heap.size (objC (s, x)).toArray 40) := Blk.on HB3.out ho4 (by show wr.heap.size ≠ g; omega)
            have HG34 : Hid (Blk W4 (W2.heap.size + 1) (msgB W2.heap.size false 0 0) 49) := Blk.on HG3.out ho4 (by show W2.heap.size + 1 ≠ g; have := HZ2.out; omega)
            have HBY34 : Hid (Bytes W4 (fun b => b = W2.heap.size) (.slice (some ⟨W2.heap.size, 0, none⟩) 1 1) [109]) := Row.on HBY3.out (ho4.less fun b hb => by show b ≠ g; have := HZ2.out; omega)
            have HZ34 : Hid (W4.heap.size = W2.heap.size + 2) := hz4.trans HZ3.out
            have HBK4 : Hid (Blk W4 gk #[.slice aK MK3.length cK, .slice pa nO pc, vq] 27) := Blk.on HBK3.out ho4 (by show gk ≠ g; omega)
            clear hp4' ho4 hz4 hck3 hgl3
            by_cases hz1 : z = 1
            · subst hz1
              go_upto_region 74 with fail
              refine reg73_wp _ (fun _ _ => True) W4 g gk (W2.heap.size + 1) W2.heap.size Sb nO pc pa (.slice aK MK3.length cK) vq HSb.out hgk (by have := HZ2.out; omega) hnO2 HP34.out.1 HBK4.out HG34.out _ _ _ _ _ _ _ _ _ _ _ _ _ _ _ _ _ _ _ _ _ _ _ _ _ _ _ _ _ _ _ _ _ _ _ _ _ _ _ _ _ _ _ _ _ _ _ _ _ _ _ _ _ _ _ _ _ _ _ _ _ _ _ _ _ _ _ _ _ _ _ _ _ _ _ _ _ _ _ _ _ _ _ _ _ _ _ _ _ _ _ _ _ _ _ _ _ _ _ _ _ _ _ _ _ _ _ _ _ _ _ _ _ _ _ _ _ _ _ _ _ _ _ _ _ _ _ _ _ _ _ _ _ _ _ _ _ _ _ _ _ _ _ _ _ _ _ _ _ _ _ _ _ _ _ _ _ _ _ _ _ _ _ _ _ _ _ _ _ _ _ _ _ _ _ _ _ _ _ _ _ _ _ _ _ _ _ _ _ _ _ _ _ _ _ _ _ _ _ _ _ _ _ _ _ _ _ _ _ _ _ _ _ _ _ _ _ _ _ _ _ _ _ _ _ _ _ _ _ _ _ _ _ _ _ _ _ _ _ _ _ _ _ _ _ _ _ _ _ _ _ _ _ _ _ _ _ _ _ _ _ _ _ _ _ _ _ _ _ _ _ _ _ _ _ _ _ _ _ _ _ _ _ _ _ _ _ _ _ _ _ _ _ _ _ _ ?_ (by omega)
              intro y275 y276 y277 y278 y279 y280 y281 y282 y283 y284 W7 op' rt' hop hrt hg7 hm7 ho7 hz7 hb7
              have HMS : Hid (Sp.MsgOk nO ⟨[109], true, (op' : Int), (rt' : Int)⟩) := ⟨rfl, Or.inl ⟨rfl, by show (0 : Int) ≤ op'; omega, by show (op' : Int) < nO; omega, by show (0 : Int) ≤ rt'; omega, by show (rt' : Int) < 200; omega⟩⟩
              have HG4 : Hid (Blk W7 (W2.heap.size + 1) (msgB W2.heap.size true (op' : Int) (rt' : Int)) 49) := hg7
              have HB4 : Hid (Blk W7 wr.heap.size (objC (s, x)).toArray 40) := Blk.on HB34.out ho7 ⟨by have := HZ34.out; have := HZ2.out; omega, by omega, by have := HZ2.out; omega⟩
              have HBY4 : Hid (Bytes W7 (fun b => b = W2.heap.size) (.slice (some ⟨W2.heap.size, 0, none⟩) 1 1) [109]) := Row.on HBY34.out (ho7.less fun b hb => ⟨by have := HZ34.out; omega, by have := HZ2.out; omega, by omega⟩)
              have HP4 : Hid (Pn g Sb wr W7) := ⟨hm7, HP34.out.2.1.trans (ho7.less fun b hb => ⟨by have := HP34.out.2.2.1; omega, hb.2, by have := HZ2.out; omega⟩), by have := HP34.out.2.2.1; omega, fun C hC => (HP34.out.2.2.2 C hC).trans (hb7 C hC)⟩
              have HZ4 : Hid (W7.heap.size = W2.heap.size + 2) := hz7.trans HZ34.out
              clear hg7 hm7 ho7 hz7 hb7 hop hrt HB34 HG34 HBY34 HP34 HZ34
              generalize (op' : Int) = op at *
              generalize (rt' : Int) = rt at *
              obtain ⟨hh, hhe⟩ : ∃ hh : Bool, hh = true := ⟨_, rfl⟩
              rw [← hhe] at HMS HG4
              clear hhe
              dsimp only
              go_upto_region 75 with fail
              refine reg75_wp _ _ W7 wr.heap.size (W2.heap.size + 1) W2.heap.size s x hh op rt (HZ.out HK4.out).1 HB4.out HG4.out _ _ _ _ _ _ _ _ _ _ _ _ _ _ _ _ _ _ _ _ _ _ _ _ _ _ _ _ _ _ _ _ _ _ _ _ _ _ _ _ _ _ _ _ _ _ _ _ _ _ _ _ _ _ _ _ _ _ _ _ _ _ _ _ _ _ _ _ _ _ _ _ _ _ _ _ _ _ _ _ _ _ _ _ _ _ _ _ _ _ _ _ _ _ _ _ _ _ _ _ _ _ _ _ _ _ _ _ _ _ _ _ _ _ _ _ _ _ _ _ _ _ _ _ _ _ _ _ _ _ _ _ _ _ _ _ _ _ _ _ _ _ _ _ _ _ _ _ _ _ _ _ _ _ _ _ _ _ _ _ _ _ _ _ _ _ _ _ _ _ _ _ _ _ _ _ _ _ _ _ _ _ _ _ _ _ _ _ _ _ _ _ _ _ _ _ _ _ _ _ _ _ _ _ _ _ _ _ _ _ _ _ _ _ _ _ _ _ _ _ _ _ _ _ _ _ _ _ _ _ _ _ _ _ _ _ _ _ _ _ _ _ _ _ _ _ _ _ _ _ _ _ _ _ _ _ _ _ _ _ _ _ _ _ _ _ _ _ _ _ _ _ _ _ _ _ _ _ _ _ _ _ _ _ _ _ _ _ _ _ _ _ _ _ _ _ _ ?_
              intro y285 y286 y287 y288 y289 y290 W5 r hb5 hr5 ho5 hz5 hbl5
              dsimp only
              have hp4 := HP4.out
              have hz45 := hp4.2.2.1
              have hzz2 := HZ2.out
              have hz24 := HZ4.out
              have HP5 : Hid (Pn g Sb wr W5) := ⟨hp4.1.on ho5 ⟨by omega, by omega⟩ (fun b hb => by have := HSb.out b hb; exact ⟨by omega, by omega⟩), hp4.2.1.trans (ho5.less fun b hb => ⟨by omega, by omega⟩), by omega, fun C hC => (hp4.2.2.2 C hC).trans (hbl5 C (by omega))⟩
              have HB5 : Hid (Blk W5 wr.heap.size (objC (⟨s.d, s.e, r⟩, { x with queue := [⟨[109], hh, op, rt⟩] })).toArray 40) := hb5
              have HL5 : Hid (Lists W5 (fun b => g < b ∧ b < W5.heap.size ∧ b ≠ gk) (⟨s.d, s.e, r⟩, { x with queue := [⟨[109], hh, op, rt⟩] })) := by
                have hon : On (fun b => b < wr.heap.size ∧ b ≠ g) wr W5 := HP5.out.2.1
                refine ⟨(Row.on HLS.out.1 (hon.less fun b hb => ⟨by omega, by omega⟩)).more fun b hb => ⟨hb.1, by omega, hb.2.2⟩, (Row.on HLS.out.2.1 (hon.less fun b hb => ⟨by omega, by omega⟩)).more fun b hb => ⟨hb.1, by omega, hb.2.2⟩, [(⟨some ⟨W2.heap.size, 0, none⟩, 1, 1⟩, ⟨[109], hh, op, rt⟩)], rfl, hr5.more fun b hb => ⟨by omega, hb.2, by omega⟩, fun t ht => ?_⟩
                simp at ht
                subst ht
                exact (Row.on HBY4.out (ho5.less fun b hb => ⟨by omega, by omega⟩)).more fun b hb => ⟨by omega, by omega, by omega⟩
              clear hb5 hr5 ho5 hbl5 hp4
              go_upto_region 76 with fail
              refine reg76_wp _ W W5 g gk wr.heap.size i Sb (.slice pa nO pc) vq nO L ⟨s.d, s.e, r⟩ x ⟨[109], hh, op, rt⟩ HSb.out hgk hgW hL HX.out HK4.out HMS.out (HI.out.next (Nat.le_refl _) hgk HP5.out) HB5.out HL5.out _ _ _ _ _ _ _ _ _ _ _ _ _ _ _ _ _ _ _ _ _ _ _ _ _ _ _ _ _ _ _ _ _ _ _ _ _ _ _ _ _ _ _ _ _ _ _ _ _ _ _ _ _ _ _ _ _ _ _ _ _ _ _ _ _ _ _ _ _ _ _ _ _ _ _ _ _ _ _ _ _ _ _ _ _ _ _ _ _ _ _ _ _ _ _ _ _ _ _ _ _ _ _ _ _ _ _ _ _ _ _ _ _ _ _ _ _ _ _ _ _ _ _ _ _ _ _ _ _ _ _ _ _ _ _ _ _ _ _ _ _ _ _ _ _ _ _ _ _ _ _ _ _ _ _ _ _ _ _ _ _ _ _ _ _ _ _ _ _ _ _ _ _ _ _ _ _ _ _ _ _ _ _ _ _ _ _ _ _ _ _ _ _ _ _ _ _ _ _ _ _ _ _ _ _ _ _ _ _ _ _ _ _ _ _ _ _ _ _ _ _ _ _ _ _ _ _ _ _ _ _ _ _ _ _ _ _ _ _ _ _ _ _ _ _ _ _ _ _ _ _ _ _ _ _ _ _ _ _ _ _ _ _ _ _ _ _ _ _ _ _ _ _ _ _ _ _ _ _ _ _ _ _ _ _ _ _ _ _ _ _ _ _ _ _ _ ?_
              intro y291 y292 y293 y294 y295 y296 W6 hI6
              dsimp only
              have HI6 : Hid (QI W g gk Sb (.slice pa nO pc) vq nO L (i + 1) W6) := hI6
              clear hI6
              go_wp2
              exact ⟨⟨i + 1, by omega, by go_num, HI6.out⟩, by simp [intOf]; omega⟩
            · have hzz : ((z : Int) == 1) = false := by simp; omega
              have HB4 := HB34
              have HG4 := HG34
              have HBY4 := HBY34
              have HP4 := HP34
              have HZ4 := HZ34
              have HMS : Hid (Sp.MsgOk nO ⟨[109], false, 0, 0⟩) := ⟨rfl, Or.inr ⟨rfl, rfl, rfl⟩⟩
              go_upto_region 75 with fail
              refine reg75_wp _ _ W4 wr.heap.size (W2.heap.size + 1) W2.heap.size s x false 0 0 (HZ.out HK4.out).1 HB4.out HG4.out _ _ _ _ _ _ _ _ _ _ _ _ _ _ _ _ _ _ _ _ _ _ _ _ _ _ _ _ _ _ _ _ _ _ _ _ _ _ _ _ _ _ _ _ _ _ _ _ _ _ _ _ _ _ _ _ _ _ _ _ _ _ _ _ _ _ _ _ _ _ _ _ _ _ _ _ _ _ _ _ _ _ _ _ _ _ _ _ _ _ _ _ _ _ _ _ _ _ _ _ _ _ _ _ _ _ _ _ _ _ _ _ _ _ _ _ _ _ _ _ _ _ _ _ _ _ _ _ _ _ _ _ _ _ _ _ _ _ _ _ _ _ _ _ _ _ _ _ _ _ _ _ _ _ _ _ _ _ _ _ _ _ _ _ _ _ _ _ _ _ _ _ _ _ _ _ _ _ _ _ _ _ _ _ _ _ _ _ _ _ _ _ _ _ _ _ _ _ _ _ _ _ _ _ _ _ _ _ _ _ _ _ _ _ _ _ _ _ _ _ _ _ _ _ _ _ _ _ _ _ _ _ _ _ _ _ _ _ _ _ _ _ _ _ _ _ _ _ _ _ _ _ _ _ _ _ _ _ _ _ _ _ _ _ _ _ _ _ _ _ _ _ _ _ _ _ _ _ _ _ _ _ _ _ _ _ _ _ _ _ _ _ _ _ _ _ _ ?_
              intro y285 y286 y287 y288 y289 y290 W5 r hb5 hr5 ho5 hz5 hbl5
              dsimp only
              have hp4 := HP4.out
              have hz45 := hp4.2.2.1
              have hzz2 := HZ2.out
              have hz24 := HZ4.out
              have HP5 : Hid (Pn g Sb wr W5) := ⟨hp4.1.on ho5 ⟨by omega, by omega⟩ (fun b hb => by have := HSb.out b hb; exact ⟨by omega, by omega⟩), hp4.2.1.trans (ho5.less fun b hb => ⟨by omega, by omega⟩), by omega, fun C hC => (hp4.2.2.2 C hC).trans (hbl5 C (by omega))⟩
              have HB5 : Hid (Blk W5 wr.heap.size (objC (⟨s.d, s.e, r⟩, { x with queue := [⟨[109], false, 0, 0⟩] })).toArray 40) := hb5
              have HL5 : Hid (Lists W5 (fun b => g < b ∧ b < W5.heap.size ∧ b ≠ gk) (⟨s.d, s.e, r⟩, { x with queue := [⟨[109], false, 0, 0⟩] })) := by
                have hon : On (fun b => b < wr.heap.size ∧ b ≠ g) wr W5 := HP5.out.2.1
                refine ⟨(Row.on HLS.out.1 (hon.less fun b hb => ⟨by omega, by omega⟩)).more fun b hb => ⟨hb.1, by omega, hb.2.2⟩, (Row.on HLS.out.2.1 (hon.less fun b hb => ⟨by omega, by omega⟩)).more fun b hb => ⟨hb.1, by omega, hb.2.2⟩, [(⟨some ⟨W2.heap.size, 0, none⟩, 1, 1⟩, ⟨[109], false, 0, 0⟩)], rfl, hr5.more fun b hb => ⟨by omega, hb.2, by omega⟩, fun t ht => ?_⟩
                simp at ht
                subst ht
                exact (Row.on HBY4.out (ho5.less fun b hb => ⟨by omega, by omega⟩)).more fun b hb => ⟨by omega, by omega, by omega⟩
              clear hb5 hr5 ho5 hbl5 hp4
              go_upto_region 76 with fail
              refine reg76_wp _ W W5 g gk wr.heap.size i Sb (.slice pa nO pc) vq nO L ⟨s.d, s.e, r⟩ x ⟨[109], false, 0, 0⟩ HSb.out hgk hgW hL HX.out HK4.out HMS.out (HI.out.next (Nat.le_refl _) hgk HP5.out) HB5.out HL5.out _ _ _ _ _ _ _ _ _ _ _ _ _ _ _ _ _ _ _ _ _ _ _ _ _ _ _ _ _ _ _ _ _ _ _ _ _ _ _ _ _ _ _ _ _ _ _ _ _ _ _ _ _ _ _ _ _ _ _ _ _ _ _ _ _ _ _ _ _ _ _ _ _ _ _ _ _ _ _ _ _ _ _ _ _ _ _ _ _ _ _ _ _ _ _ _ _ _ _ _ _ _ _ _ _ _ _ _ _ _ _ _ _ _ _ _ _ _ _ _ _ _ _ _ _ _ _ _ _ _ _ _ _ _ _ _ _ _ _ _ _ _ _ _ _ _ _ _ _ _ _ _ _ _ _ _ _ _ _ _ _ _ _ _ _ _ _ _ _ _ _ _ _ _ _ _ _ _ _ _ _ _ _ _ _ _ _ _ _ _ _ _ _ _ _ _ _ _ _ _ _ _ _ _ _ _ _ _ _ _ _ _ _ _ _ _ _ _ _ _ _ _ _ _ _ _ _ _ _ _ _ _ _ _ _ _ _ _ _ _ _ _ _ _ _ _ _ _ _ _ _ _ _ _ _ _ _ _ _ _ _ _ _ _ _ _ _ _ _ _ _ _ _ _ _ _ _ _ _ _ _ _ _ _ _ _ _ _ _ _ _ _ _ _ _ _ ?_
              intro y291 y292 y293 y294 y295 y296 W6 hI6
              dsimp only
              have HI6 : Hid (QI W g gk Sb (.slice pa nO pc) vq nO L (i + 1) W6) := hI6
              clear hI6
              go_wp2
              exact ⟨⟨i + 1, by omega, by go_num, HI6.out⟩, by simp [intOf]; omega⟩
        · have hyz : ((y : Int) == 1) = false := by simp; omega
          go_wp2
          exact ⟨⟨i + 1, by omega, by go_num, HI.out.next (by omega) hgk HP2.out⟩, by simp [intOf]; omega⟩
      · have hkz : (x.kind == 4) = false := by simpa using hk4
        clear hk4
        go_wp2
        exact ⟨⟨i + 1, by omega, by go_num, HI.out.next (by omega) hgk (Pn.alloc (Pn.refl HMK.out) HSb.out (by omega) _)⟩, by simp [intOf]; omega⟩
    · obtain rfl : i = L.length := by omega
      go_wp2
      exact HH.out _ _ _ _ _ _ _ _ _ _ _ _ _ _ _ _ _ _ _ _ _ _ _ _ _ _ _ _ _ _ _ _ _ _ _ _ _ _ _ _ _ _ _ _ _ _ _ _ _ _ _ _ HI.out
end Go.Proofs.Ythoacakdmnijcaa
/-
  rgref5.Build, piece by piece: open files, all of them.
-/
namespace Go.Proofs.Ythoacakdmnijcaa
open Go.RowKit
/-- Open files of one object. -/
def OJ (W : World) (g gk : Nat) (Sb : Nat → Prop) (vo : Value) (m n M : Nat) (s : Value) (wr : World) : Prop :=
  ∃ (j : Nat) (r : Sl) (O : List Sp.Opn), j ≤ n ∧ s = .int .i64 j ∧ O.length ≤ M + j ∧ OI W g gk Sb vo m r O wr
set_option maxRecDepth 1000000 in
set_option maxHeartbeats 8000000 in
theorem blk11_wp (Q : Exit → Act → World → Prop) (W wr : World) (g gk : Nat) (Sb : Nat → Prop) (vo : Value) (m i n M : Nat) (r : Sl) (O : List Sp.Opn) (hSb : ∀ b, Sb b → b < g) (hgk : g < gk) (hgW : gk < W.heap.size) (hi : i < m) (hn : n ≤ 2) (hM : M ≤ 90) (hO : O.length ≤ M) (hI : OI W g gk Sb vo m r O wr)
    (x0 x1 x2 x4 x5 x6 x7 x8 x9 x10 x11 x12 x13 x14 x15 x16 x17 x18 x20 x21 x22 x23 x24 x26 x27 x28 x29 x30 x31 x32 x33 x34 x35 x36 x37 x38 x39 x40 x41 x42 x43 x44 x45 x46 x47 x48 x49 x50 x51 x52 x53 x54 x55 x56 x57 x58 x59 x60 x61 x62 x63 x64 x65 x66 x67 x68 x69 x70 x71 x72 x73 x74 x75 x76 x77 x78 x79 x80 x81 x82 x83 x84 x85 x86 x87 x88 x89 x90 x91 x92 x93 x94 x95 x96 x97 x98 x99 x100 x101 x102 x103 x104 x105 x106 x107 x108 x109 x110 x111 x112 x113 x114 x115 x116 x117 x118 x119 x120 x121 x122 x123 x124 x125 x126 x127 x128 x129 x130 x131 x132 x133 x134 x135 x136 x137 x138 x139 x140 x141 x142 x143 x144 x145 x146 x147 x148 x149 x150 x151 x152 x153 x154 x155 x156 x157 x158 x159 x160 x161 x162 x163 x164 x165 x166 x167 x168 x169 x172 x173 x174 x175 x176 x177 x178 x179 x180 x181 x182 x183 x184 x185 x186 x187 x188 x189 x190 x191 x192 x193 x194 x195 x196 x197 x198 x199 x200 x201 x202 x203 x204 x205 x206 x207 x208 x209 x210 x211 x212 x213 x214 x215 x216 x217 x218 x219 x220 x221 x222 x223 x224 x225 x226 x227 x228 x229 x230 x231 x232 x233 x234 x235 x236 x237 x238 x239 x240 x241 x242 x243 x244 x245 x246 x247 x248 x249 x250 x251 x252 x253 x254 x255 x256 x257 x258 x259 x260 x261 x262 x263 x264 x265 x266 x267 x268 x269 x270 x271 x272 x273 x274 x275 x276 x277 x278 x279 x280 x281 x282 x283 x284 x285 x286 x287 x288 x289 x290 x291 x292 x293 x294 x295 x296 x297 x298 : Value)
    (h : ∀ (y171 y172 y173 y174 y175 y176 y177 y178 y179 y180 y181 y182 : Value) (W' : World) (r' : Sl) (O' : List Sp.Opn), O'.length ≤ M + 2 → OI W g gk Sb vo m r' O' W' → Q .normal ⟨#[x0, x1, x2, .pointer (some ⟨g, 0, none⟩), x4, x5, x6, x7, x8, x9, x10, x11, x12, x13, x14, x15, x16, x17, x18, .pointer (some ⟨gk, 0, none⟩), x20, x21, x22, x23, x24, .int .i64 i, x26, x27, x28, x29, x30, x31, x32, x33, x34, x35, x36, x37, x38, x39, x40, x41, x42, x43, x44, x45, x46, x47, x48, x49, x50, x51, x52, x53, x54, x55, x56, x57, x58, x59, x60, x61, x62, x63, x64, x65, x66, x67, x68, x69, x70, x71, x72, x73, x74, x75, x76, x77, x78, x79, x80, x81, x82, x83, x84, x85, x86, x87, x88, x89, x90, x91, x92, x93, x94, x95, x96, x97, x98, x99, x100, x101, x102, x103, x104, x105, x106, x107, x108, x109, x110, x111, x112, x113, x114, x115, x116, x117, x118, x119, x120, x121, x122, x123, x124, x125, x126, x127, x128, x129, x130, x131, x132, x133, x134, x135, x136, x137, x138, x139, x140, x141, x142, x143, x144, x145, x146, x147, x148, x149, x150, x151, x152, x153, x154, x155, x156, x157, x158, x159, x160, x161, x162, x163, x164, x165, x166, x167, x168, x169, .int .i64 n, y171, y172, y173, y174, y175, y176, y177, y178, y179, y180, y181, y182, x183, x184, x185, x186, x187, x188, x189, x190, x191, x192, x193, x194, x195, x196, x197, x198, x199, x200, x201, x202, x203, x204, x205, x206, x207, x208, x209, x210, x211, x212, x213, x214, x215, x216, x217, x218, x219, x220, x221, x222, x223, x224, x225, x226, x227, x228, x229, x230, x231, x232, x233, x234, x235, x236, x237, x238, x239, x240, x241, x242, x243, x244, x245, x246, x247, x248, x249, x250, x251, x252, x253, x254, x255, x256, x257, x258, x259, x260, x261, x262, x263, x264, x265, x266, x267, x268, x269, x270, x271, x272, x273, x274, x275, x276, x277, x278, x279, x280, x281, x282, x283, x284, x285, x286, x287, x288, x289, x290, x291, x292, x293, x294, x295, x296, x297, x298], []⟩ W') :
    Code.wp Try.prog ((Try.f9.body.bind (findBlock 11)).getD .skip) Q ⟨#[x0, x1, x2, .pointer (some ⟨g, 0, none⟩), x4, x5, x6, x7, x8, x9, x10, x11, x12, x13, x14, x15, x16, x17, x18, .pointer (some ⟨gk, 0, none⟩), x20, x21, x22, x23, x24, .int .i64 i, x26, x27, x28, x29, x30, x31, x32, x33, x34, x35, x36, x37, x38, x39, x40, x41, x42, x43, x44, x45, x46, x47, x48, x49, x50, x51, x52, x53, x54, x55, x56, x57, x58, x59, x60, x61, x62, x63, x64, x65, x66, x67, x68, x69, x70, x71, x72, x73, x74, x75, x76, x77, x78, x79, x80, x81, x82, x83, x84, x85, x86, x87, x88, x89, x90, x91, x92, x93, x94, x95, x96, x97, x98, x99, x100, x101, x102, x103, x104, x105, x106, x107, x108, x109, x110, x111, x112, x113, x114, x115, x116, x117, x118, x119, x120, x121, x122, x123, x124, x125, x126, x127, x128, x129, x130, x131, x132, x133, x134, x135, x136, x137, x138, x139, x140, x141, x142, x143, x144, x145, x146, x147, x148, x149, x150, x151, x152, x153, x154, x155, x156, x157, x158, x159, x160, x161, x162, x163, x164, x165, x166, x167, x168, x169, .int .i64 n, .int .i64 0, x172, x173, x174, x175, x176, x177, x178, x179, x180, x181, x182, x183, x184, x185, x186, x187, x188, x189, x190, x191, x192, x193, x194, x195, x196, x197, x198, x199, x200, x201, x202, x203, x204, x205, x206, x207, x208, x209, x210, x211, x212, x213, x214, x215, x216, x217, x218, x219, x220, x221, x222, x223, x224, x225, x226, x227, x228, x229, x230, x231, x232, x233, x234, x235, x236, x237, x238, x239, x240, x241, x242, x243, x244, x245, x246, x247, x248, x249, x250, x251, x252, x253, x254, x255, x256, x257, x258, x259, x260, x261, x262, x263, x264, x265, x266, x267, x268, x269, x270, x271, x272, x273, x274, x275, x276, x277, x278, x279, x280, x281, x282, x283, x284, x285, x286, x287, x288, x289, x290, x291, x292, x293, x294, x295, x296, x297, x298], []⟩ wr := by
  have HH : Hid (∀ (y171 y172 y173 y174 y175 y176 y177 y178 y179 y180 y181 y182 : Value) (W' : World) (r' : Sl) (O' : List Sp.Opn), O'.length ≤ M + 2 → OI W g gk Sb vo m r' O' W' → Q .normal ⟨#[x0, x1, x2, .pointer (some ⟨g, 0, none⟩), x4, x5, x6, x7, x8, x9, x10, x11, x12, x13, x14, x15, x16, x17, x18, .pointer (some ⟨gk, 0, none⟩), x20, x21, x22, x23, x24, .int .i64 i, x26, x27, x28, x29, x30, x31, x32, x33, x34, x35, x36, x37, x38, x39, x40, x41, x42, x43, x44, x45, x46, x47, x48, x49, x50, x51, x52, x53, x54, x55, x56, x57, x58, x59, x60, x61, x62, x63, x64, x65, x66, x67, x68, x69, x70, x71, x72, x73, x74, x75, x76, x77, x78, x79, x80, x81, x82, x83, x84, x85, x86, x87, x88, x89, x90, x91, x92, x93, x94, x95, x96, x97, x98, x99, x100, x101, x102, x103, x104, x105, x106, x107, x108, x109, x110, x111, x112, x113, x114, x115, x116, x117, x118, x119, x120, x121, x122, x123, x124, x125, x126, x127, x128, x129, x130, x131, x132, x133, x134, x135, x136, x137, x138, x139, x140, x141, x142, x143, x144, x145, x146, x147, x148, x149, x150, x151, x152, x153, x154, x155, x156, x157, x158, x159, x160, x161, x162, x163, x164, x165, x166, x167, x168, x169, .int .i64 n, y171, y172, y173, y174, y175, y176, y177, y178, y179, y180, y181, y182, x183, x184, x185, x186, x187, x188, x189, x190, x191, x192, x193, x194, x195, x196, x197, x198, x199, x200, x201, x202, x203, x204, x205, x206, x207, x208, x209, x210, x211, x212, x213, x214, x215, x216, x217, x218, x219, x220, x221, x222, x223, x224, x225, x226, x227, x228, x229, x230, x231, x232, x233, x234, x235, x236, x237, x238, x239, x240, x241, x242, x243, x244, x245, x246, x247, x248, x249, x250, x251, x252, x253, x254, x255, x256, x257, x258, x259, x260, x261, x262, x263, x264, x265, x266, x267, x268, x269, x270, x271, x272, x273, x274, x275, x276, x277, x278, x279, x280, x281, x282, x283, x284, x285, x286, x287, x288, x289, x290, x291, x292, x293, x294, x295, x296, x297, x298], []⟩ W') := h
  have HS0 : Hid (OJ W g gk Sb vo m n M (.int .i64 0) wr) := ⟨0, r, O, Nat.zero_le _, rfl, hO, hI⟩
  have HSb : Hid (∀ b, Sb b → b < g) := hSb
  have hnz : (n : Int) ≤ 2 := by omega
  clear h hI hSb hO
  conv => arg 2; whnf
  go_wp2_with fail
  go_loopw [171] (fun s wz => OJ W g gk Sb vo m n M s wz) (fun s _ => n - (intOf s).toNat)
  case atStart => exact HS0.out
  case round =>
    obtain ⟨j, r, O, hj, rfl, hO, hI⟩ := hrel
    clear HS0
    have HI : Hid (OI W g gk Sb vo m r O wr) := hI
    have HO : Hid (O.length ≤ M + j) := hO
    clear hI hO
    by_cases hlt : j < n
    · go_upto_region 50 with fail
      refine reg50_wp _ W _ g gk Sb vo m i r O HSb.out hgk hgW hi (by have := HO.out; omega) HI.out _ _ _ _ _ _ _ _ _ _ _ _ _ _ _ _ _ _ _ _ _ _ _ _ _ _ _ _ _ _ _ _ _ _ _ _ _ _ _ _ _ _ _ _ _ _ _ _ _ _ _ _ _ _ _ _ _ _ _ _ _ _ _ _ _ _ _ _ _ _ _ _ _ _ _ _ _ _ _ _ _ _ _ _ _ _ _ _ _ _ _ _ _ _ _ _ _ _ _ _ _ _ _ _ _ _ _ _ _ _ _ _ _ _ _ _ _ _ _ _ _ _ _ _ _ _ _ _ _ _ _ _ _ _ _ _ _ _ _ _ _ _ _ _ _ _ _ _ _ _ _ _ _ _ _ _ _ _ _ _ _ _ _ _ _ _ _ _ _ _ _ _ _ _ _ _ _ _ _ _ _ _ _ _ _ _ _ _ _ _ _ _ _ _ _ _ _ _ _ _ _ _ _ _ _ _ _ _ _ _ _ _ _ _ _ _ _ _ _ _ _ _ _ _ _ _ _ _ _ _ _ _ _ _ _ _ _ _ _ _ _ _ _ _ _ _ _ _ _ _ _ _ _ _ _ _ _ _ _ _ _ _ _ _ _ _ _ _ _ _ _ _ _ _ _ _ _ _ _ _ _ _ _ _ _ _ _ _ _ _ _ _ _ _ _ _ ?_
      intro y173 y174 y175 y176 y177 y178 y179 y180 y181 W2 r2 y hI2
      dsimp only
      have HI2 : Hid (OI W g gk Sb vo m r2 (O ++ [(⟨(i : Int), (y : Int)⟩ : Sp.Opn)]) W2) := hI2
      clear hI2
      go_wp2
      exact ⟨⟨j + 1, r2, O ++ [(⟨(i : Int), (y : Int)⟩ : Sp.Opn)], by omega, by go_num, by have := HO.out; simp; omega, HI2.out⟩, by simp [intOf]; omega⟩
    · go_wp2
      exact HH.out _ _ _ _ _ _ _ _ _ _ _ _ _ r O (by have := HO.out; omega) HI.out
/-- Open files, object by object. -/
def OK9 (W : World) (g gk : Nat) (Sb : Nat → Prop) (vo : Value) (m : Nat) (s : Value) (wr : World) : Prop :=
  ∃ (i : Nat) (r : Sl) (O : List Sp.Opn), i ≤ m ∧ s = .int .i64 i ∧ O.length ≤ 2 * i ∧ OI W g gk Sb vo m r O wr
set_option maxRecDepth 1000000 in
set_option maxHeartbeats 8000000 in
theorem blk9_wp (Q : Exit → Act → World → Prop) (K : Act → World → Prop) (W : World) (g gk : Nat) (Sb : Nat → Prop) (vo : Value) (m : Nat) (hm : m ≤ 14) (hSb : ∀ b, Sb b → b < g) (hgk : g < gk) (hmk : MK W g Sb) (hbk : Blk W gk #[vo, .slice none 0 0, .slice none 0 0] 27)
    (x0 x1 x2 x4 x5 x6 x7 x8 x9 x10 x11 x12 x13 x14 x15 x16 x17 x18 x20 x21 x22 x23 x24 x25 x26 x27 x28 x29 x30 x31 x32 x33 x34 x35 x36 x37 x38 x39 x40 x41 x42 x43 x44 x45 x46 x47 x48 x49 x50 x51 x52 x53 x54 x55 x56 x57 x58 x59 x60 x61 x62 x63 x64 x65 x66 x67 x68 x69 x70 x71 x72 x73 x74 x75 x76 x77 x78 x79 x80 x81 x82 x83 x84 x85 x86 x87 x88 x89 x90 x91 x92 x93 x94 x95 x96 x97 x98 x99 x100 x101 x102 x103 x104 x105 x106 x107 x108 x109 x110 x111 x112 x113 x114 x115 x116 x117 x118 x119 x120 x121 x122 x123 x124 x125 x126 x127 x128 x129 x130 x131 x132 x133 x134 x135 x136 x137 x138 x139 x140 x141 x142 x143 x144 x145 x146 x147 x148 x149 x150 x151 x152 x153 x154 x155 x156 x157 x158 x159 x160 x161 x162 x163 x164 x167 x168 x169 x170 x171 x172 x173 x174 x175 x176 x177 x178 x179 x180 x181 x182 x183 x184 x185 x186 x187 x188 x189 x190 x191 x192 x193 x194 x195 x196 x197 x198 x199 x200 x201 x202 x203 x204 x205 x206 x207 x208 x209 x210 x211 x212 x213 x214 x215 x216 x217 x218 x219 x220 x221 x222 x223 x224 x225 x226 x227 x228 x229 x230 x231 x232 x233 x234 x235 x236 x237 x238 x239 x240 x241 x242 x243 x244 x245 x246 x247 x248 x249 x250 x251 x252 x253 x254 x255 x256 x257 x258 x259 x260 x261 x262 x263 x264 x265 x266 x267 x268 x269 x270 x271 x272 x273 x274 x275 x276 x277 x278 x279 x280 x281 x282 x283 x284 x285 x286 x287 x288 x289 x290 x291 x292 x293 x294 x295 x296 x297 x298 : Value)
    (h : ∀ (y25 y166 y167 y168 y169 y170 y171 y172 y173 y174 y175 y176 y177 y178 y179 y180 y181 y182 y183 : Value) (W' : World) (r' : Sl) (O' : List Sp.Opn), O'.length ≤ 28 → OI W g gk Sb vo m r' O' W' → K ⟨#[x0, x1, x2, .pointer (some ⟨g, 0, none⟩), x4, x5, x6, x7, x8, x9, x10, x11, x12, x13, x14, x15, x16, x17, x18, .pointer (some ⟨gk, 0, none⟩), x20, x21, x22, x23, x24, y25, x26, x27, x28, x29, x30, x31, x32, x33, x34, x35, x36, x37, x38, x39, x40, x41, x42, x43, x44, x45, x46, x47, x48, x49, x50, x51, x52, x53, x54, x55, x56, x57, x58, x59, x60, x61, x62, x63, x64, x65, x66, x67, x68, x69, x70, x71, x72, x73, x74, x75, x76, x77, x78, x79, x80, x81, x82, x83, x84, x85, x86, x87, x88, x89, x90, x91, x92, x93, x94, x95, x96, x97, x98, x99, x100, x101, x102, x103, x104, x105, x106, x107, x108, x109, x110, x111, x112, x113, x114, x115, x116, x117, x118, x119, x120, x121, x122, x123, x124, x125, x126, x127, x128, x129, x130, x131, x132, x133, x134, x135, x136, x137, x138, x139, x140, x141, x142, x143, x144, x145, x146, x147, x148, x149, x150, x151, x152, x153, x154, x155, x156, x157, x158, x159, x160, x161, x162, x163, x164, .int .i64 m, y166, y167, y168, y169, y170, y171, y172, y173, y174, y175, y176, y177, y178, y179, y180, y181, y182, y183, x184, x185, x186, x187, x188, x189, x190, x191, x192, x193, x194, x195, x196, x197, x198, x199, x200, x201, x202, x203, x204, x205, x206, x207, x208, x209, x210, x211, x212, x213, x214, x215, x216, x217, x218, x219, x220, x221, x222, x223, x224, x225, x226, x227, x228, x229, x230, x231, x232, x233, x234, x235, x236, x237, x238, x239, x240, x241, x242, x243, x244, x245, x246, x247, x248, x249, x250, x251, x252, x253, x254, x255, x256, x257, x258, x259, x260, x261, x262, x263, x264, x265, x266, x267, x268, x269, x270, x271, x272, x273, x274, x275, x276, x277, x278, x279, x280, x281, x282, x283, x284, x285, x286, x287, x288, x289, x290, x291, x292, x293, x294, x295, x296, x297, x298], []⟩ W') :
    Code.wp Try.prog ((Try.f9.body.bind (findBlock 9)).getD .skip) (Exit.then K Q) ⟨#[x0, x1, x2, .pointer (some ⟨g, 0, none⟩), x4, x5, x6, x7, x8, x9, x10, x11, x12, x13, x14, x15, x16, x17, x18, .pointer (some ⟨gk, 0, none⟩), x20, x21, x22, x23, x24, x25, x26, x27, x28, x29, x30, x31, x32, x33, x34, x35, x36, x37, x38, x39, x40, x41, x42, x43, x44, x45, x46, x47, x48, x49, x50, x51, x52, x53, x54, x55, x56, x57, x58, x59, x60, x61, x62, x63, x64, x65, x66, x67, x68, x69, x70, x71, x72, x73, x74, x75, x76, x77, x78, x79, x80, x81, x82, x83, x84, x85, x86, x87, x88, x89, x90, x91, x92, x93, x94, x95, x96, x97, x98, x99, x100, x101, x102, x103, x104, x105, x106, x107, x108, x109, x110, x111, x112, x113, x114, x115, x116, x117, x118, x119, x120, x121, x122, x123, x124, x125, x126, x127, x128, x129, x130, x131, x132, x133, x134, x135, x136, x137, x138, x139, x140, x141, x142, x143, x144, x145, x146, x147, x148, x149, x150, x151, x152, x153, x154, x155, x156, x157, x158, x159, x160, x161, x162, x163, x164, .int .i64 m, .int .i64 0, x167, x168, x169, x170, x171, x172, x173, x174, x175, x176, x177, x178, x179, x180, x181, x182, x183, x184, x185, x186, x187, x188, x189, x190, x191, x192, x193, x194, x195, x196, x197, x198, x199, x200, x201, x202, x203, x204, x205, x206, x207, x208, x209, x210, x211, x212, x213, x214, x215, x216, x217, x218, x219, x220, x221, x222, x223, x224, x225, x226, x227, x228, x229, x230, x231, x232, x233, x234, x235, x236, x237, x238, x239, x240, x241, x242, x243, x244, x245, x246, x247, x248, x249, x250, x251, x252, x253, x254, x255, x256, x257, x258, x259, x260, x261, x262, x263, x264, x265, x266, x267, x268, x269, x270, x271, x272, x273, x274, x275, x276, x277, x278, x279, x280, x281, x282, x283, x284, x285, x286, x287, x288, x289, x290, x291, x292, x293, x294, x295, x296, x297, x298], []⟩ W := by
  have HH : Hid (∀ (y25 y166 y167 y168 y169 y170 y171 y172 y173 y174 y175 y176 y177 y178 y179 y180 y181 y182 y183 : Value) (W' : World) (r' : Sl) (O' : List Sp.Opn), O'.length ≤ 28 → OI W g gk Sb vo m r' O' W' → K ⟨#[x0, x1, x2, .pointer (some ⟨g, 0, none⟩), x4, x5, x6, x7, x8, x9, x10, x11, x12, x13, x14, x15, x16, x17, x18, .pointer (some ⟨gk, 0, none⟩), x20, x21, x22, x23, x24, y25, x26, x27, x28, x29, x30, x31, x32, x33, x34, x35, x36, x37, x38, x39, x40, x41, x42, x43, x44, x45, x46, x47, x48, x49, x50, x51, x52, x53, x54, x55, x56, x57, x58, x59, x60, x61, x62, x63, x64, x65, x66, x67, x68, x69, x70, x71, x72, x73, x74, x75, x76, x77, x78, x79, x80, x81, x82, x83, x84, x85, x86, x87, x88, x89, x90, x91, x92, x93, x94, x95, x96, x97, x98, x99, x100, x101, x102, x103, x104, x105, x106, x107, x108, x109, x110, x111, x112, x113, x114, x115, x116, x117, x118, x119, x120, x121, x122, x123, x124, x125, x126, x127, x128, x129, x130, x131, x132, x133, x134, x135, x136, x137, x138, x139, x140, x141, x142, x143, x144, x145, x146, x147, x148, x149, x150, x151, x152, x153, x154, x155, x156, x157, x158, x159, x160, x161, x162, x163, x164, .int .i64 m, y166, y167, y168, y169, y170, y171, y172, y173, y174, y175, y176, y177, y178, y179, y180, y181, y182, y183, x184, x185, x186, x187, x188, x189, x190, x191, x192, x193, x194, x195, x196, x197, x198, x199, x200, x201, x202, x203, x204, x205, x206, x207, x208, x209, x210, x211, x212, x213, x214, x215, x216, x217, x218, x219, x220, x221, x222, x223, x224, x225, x226, x227, x228, x229, x230, x231, x232, x233, x234, x235, x236, x237, x238, x239, x240, x241, x242, x243, x244, x245, x246, x247, x248, x249, x250, x251, x252, x253, x254, x255, x256, x257, x258, x259, x260, x261, x262, x263, x264, x265, x266, x267, x268, x269, x270, x271, x272, x273, x274, x275, x276, x277, x278, x279, x280, x281, x282, x283, x284, x285, x286, x287, x288, x289, x290, x291, x292, x293, x294, x295, x296, x297, x298], []⟩ W') := h
  have HS0 : Hid (OK9 W g gk Sb vo m (.int .i64 0) W) := ⟨0, nilSl, [], Nat.zero_le _, rfl, by simp, hmk, hbk, Mine.nil _ _ _ _, fun x hx => by simp at hx, fun _ _ => rfl, fun C _ => Below.refl C W⟩
  have HSb : Hid (∀ b, Sb b → b < g) := hSb
  have hgW := hbk.lt
  have hmz : (m : Int) ≤ 14 := by omega
  clear h hSb hmk hbk
  conv => arg 2; whnf
  go_wp2_with fail
  go_loopw [166] (fun s wz => OK9 W g gk Sb vo m s wz) (fun s _ => m - (intOf s).toNat)
  case atStart => exact HS0.out
  case round =>
    obtain ⟨i, r, O, hi, rfl, hO, hI⟩ := hrel
    clear HS0
    have HI : Hid (OI W g gk Sb vo m r O wr) := hI
    have HO : Hid (O.length ≤ 2 * i) := hO
    clear hI hO
    by_cases hlt : i < m
    · go_wp2_with fail
      refine (pick_any g Sb 3 (by decide) (by decide) _ HI.out.1 (fun b hb => by have := HSb.out b hb; omega)).mono ?_
      rintro e W1 ⟨n, rfl, hn, hmk1, hon1, hz1, hbl1⟩
      have HI1 : Hid (OI W g gk Sb vo m r O W1) := by
        obtain ⟨h1, h2, h3, h4, h5, h6⟩ := HI.out
        exact ⟨hmk1, h2.on hon1 (by show gk ≠ g; omega), h3.on hon1 fun k hk => by have := (h3.lt k hk).1; show k ≠ g; omega, h4, h5.trans (hon1.less fun b hb => hb.2.1), fun C hC => (h6 C hC).trans (hbl1 C hC)⟩
      clear hmk1 hon1 hz1 hbl1
      go_upto_block 11 with fail
      refine blk11_wp _ W W1 g gk Sb vo m i n (2 * i) r O HSb.out hgk hgW hlt (by omega) (by omega) HO.out HI1.out _ _ _ _ _ _ _ _ _ _ _ _ _ _ _ _ _ _ _ _ _ _ _ _ _ _ _ _ _ _ _ _ _ _ _ _ _ _ _ _ _ _ _ _ _ _ _ _ _ _ _ _ _ _ _ _ _ _ _ _ _ _ _ _ _ _ _ _ _ _ _ _ _ _ _ _ _ _ _ _ _ _ _ _ _ _ _ _ _ _ _ _ _ _ _ _ _ _ _ _ _ _ _ _ _ _ _ _ _ _ _ _ _ _ _ _ _ _ _ _ _ _ _ _ _ _ _ _ _ _ _ _ _ _ _ _ _ _ _ _ _ _ _ _ _ _ _ _ _ _ _ _ _ _ _ _ _ _ _ _ _ _ _ _ _ _ _ _ _ _ _ _ _ _ _ _ _ _ _ _ _ _ _ _ _ _ _ _ _ _ _ _ _ _ _ _ _ _ _ _ _ _ _ _ _ _ _ _ _ _ _ _ _ _ _ _ _ _ _ _ _ _ _ _ _ _ _ _ _ _ _ _ _ _ _ _ _ _ _ _ _ _ _ _ _ _ _ _ _ _ _ _ _ _ _ _ _ _ _ _ _ _ _ _ _ _ _ _ _ _ _ _ _ _ _ _ _ _ _ _ _ _ _ _ _ _ _ _ _ _ _ _ _ _ ?_
      intro y171 y172 y173 y174 y175 y176 y177 y178 y179 y180 y181 y182 W2 r2 O2 hO2 hI2
      dsimp only
      have HI2 : Hid (OI W g gk Sb vo m r2 O2 W2) := hI2
      have HO2 : Hid (O2.length ≤ 2 * i + 2) := hO2
      clear hI2 hO2
      go_wp2
      exact ⟨⟨i + 1, r2, O2, by omega, by go_num, by have := HO2.out; omega, HI2.out⟩, by simp [intOf]; omega⟩
    · go_wp2
      exact HH.out _ _ _ _ _ _ _ _ _ _ _ _ _ _ _ _ _ _ _ _ r O (by have := HO.out; omega) HI.out
end Go.Proofs.Ythoacakdmnijcaa
/-
  rgref5.Build, whole.
-/
namespace Go.Proofs.Ythoacakdmnijcaa
open Go.RowKit
/-- Processes lie there, with their tables. -/
def Procs (w : World) (S : Nat → Prop) (v : Value) (P : List Sp.Prc) : Prop :=
  ∃ ts : List (Sl × Sp.Prc), P = ts.map Prod.snd ∧ Row w S 4 v (ts.map prcC) ∧ ∀ t ∈ ts, Row w S 3 (.slice t.1.a t.1.n t.1.c) (t.2.slots.map sltC)
/-- A kernel lies there. -/
def Kern (w : World) (S : Nat → Prop) (vo vp vq : Value) (L : List Sp.Ob) (O : List Sp.Opn) (P : List Sp.Prc) : Prop :=
  Objs w S vo L ∧ Row w S 2 vp (O.map opnC) ∧ Procs w S vq P
def nil3 : Array Value := #[.slice none 0 0, .slice none 0 0, .slice none 0 0]
theorem procs_lt {L : List Sp.Ob} {n : Nat} (hK : ∀ o ∈ L, o.kind ≤ 4) (hn : 1 ≤ n) : ∀ o ∈ L ++ procsL n, o.kind = 5 → o.proc < (n : Int) := by
  intro o ho hk
  rcases List.mem_append.1 ho with h | h
  · have := hK o h; omega
  · obtain ⟨p, hp, rfl⟩ := List.mem_map.1 h
    have := List.mem_range.1 hp
    show (p : Int) + 1 < n
    omega
theorem procs_all {L : List Sp.Ob} {n p : Nat} (h1 : 1 ≤ p) (h2 : p < n) : Sp.obP (p : Int) ∈ L ++ procsL n := by
  refine List.mem_append.2 (Or.inr (List.mem_map.2 ⟨p - 1, List.mem_range.2 (by omega), ?_⟩))
  congr 1
  omega
theorem kok_of {L M : List Sp.Ob} {O : List Sp.Opn} {ts : List (Sl × Sp.Prc)} {n : Nat} (hn1 : 1 ≤ n) (hn3 : n ≤ 3) (hK : ∀ o ∈ L, o.kind ≤ 4) (hL : L.length ≤ 12) (hM : M.length = (L ++ procsL n).length) (hT : Sp.TOk M) (h4 : ∀ (j : Nat) (o : Sp.Ob), M[j]? = some o → ∃ o' : Sp.Ob, (L ++ procsL n)[j]? = some o' ∧ o.kind = o'.kind ∧ o.proc = o'.proc) (h5 : ∀ o ∈ M, ∀ m ∈ o.queue, Sp.MsgOk O.length m) (hO : ∀ x ∈ O, Sp.OpnOk (L ++ procsL n).length x) (hO2 : O.length ≤ 28) (hts : ts.length = n) (hp : ∀ t ∈ ts, Sp.PrcOk O.length t.2) (hf : ∀ t, ts[0]? = some t → t.2.live = true) : Sp.KOk M O (ts.map Prod.snd) := by
  have hlen : (L ++ procsL n).length = L.length + (n - 1) := by rw [List.length_append, procsL_len]
  refine ⟨hT, by omega, fun x hx => by rw [hM]; exact hO x hx, hO2, fun x hx => ?_, by rw [List.length_map]; omega, fun x hx => ?_, h5, fun o ho hk => ?_, fun p h1 h2 => ?_⟩
  · obtain ⟨t, ht, rfl⟩ := List.mem_map.1 hx
    exact hp t ht
  · rw [List.getElem?_map] at hx
    cases h0 : ts[0]? with
    | none => rw [h0] at hx; cases hx
    | some t => rw [h0] at hx; cases hx; exact hf t h0
  · obtain ⟨j, hj, rfl⟩ := List.getElem_of_mem ho
    obtain ⟨o', g1, g2, g3⟩ := h4 j _ (List.getElem?_eq_getElem hj)
    rw [List.length_map, hts, g3]
    exact procs_lt hK hn1 o' (List.mem_of_getElem? g1) (g2 ▸ hk)
  · rw [List.length_map, hts] at h2
    obtain ⟨j, hj, he⟩ := List.getElem_of_mem (procs_all (L := L) h1 h2)
    have hjM : j < M.length := by omega
    obtain ⟨o', g1, g2, g3⟩ := h4 j _ (List.getElem?_eq_getElem hjM)
    rw [List.getElem?_eq_getElem hj, he] at g1
    cases g1
    exact ⟨M[j], List.getElem_mem hjM, g2, g3⟩
theorem qn_none {L : List Sp.Ob} {w : World} {S : Nat → Prop} {v : Value} (hT : Sp.TOk L) (h : ObjsP QN w S v L) : ∀ o ∈ L, o.queue = [] := by
  intro o ho
  obtain ⟨i, hi, rfl⟩ := List.getElem_of_mem ho
  by_cases hk : L[i].kind = 4
  · obtain ⟨ts, rfl, _, _, h4⟩ := h
    rw [List.length_map] at hi
    rw [List.getElem_map] at hk ⊢
    exact (h4 _ (List.getElem_mem hi) hk).2
  · exact (hT.all i _ (List.getElem?_eq_getElem hi)).noqueue hk
theorem start_ok (l : List UInt8) (va : Option Addr) (vc : Nat) (w W1 : World) (hv : Bytes w (fun b => b < w.heap.size) (.slice va (l.map byteC).length vc) l) (hW : W1 = ((((w.alloc (.cells #[.slice none 0 0, .slice none 0 0, .slice none 0 0] 27)).alloc (.cells #[.slice va l.length vc] 66)).alloc (.cells #[.int .i64 2, .slice none 0 0, .slice none 0 0, .string ⟨#[]⟩, .int .i64 (-1), .slice none 0 0, .int .i64 (-1), .int .i64 1, .int .i64 0] 40)).alloc (.cells #[.string ⟨#[97]⟩, .string ⟨#[98]⟩, .string ⟨#[99]⟩, .string ⟨#[100]⟩] 9))) :
    BI w (w.heap.size + 1) (some ⟨w.heap.size + 1 + 1, 0, none⟩) 1 [Sp.rootO] W1 := by
  rw [List.length_map] at hv
  have b0 := Blk.new w #[.slice none 0 0, .slice none 0 0, .slice none 0 0] 27
  have z0 : (w.alloc (.cells #[.slice none 0 0, .slice none 0 0, .slice none 0 0] 27)).heap.size = w.heap.size + 1 := by simp
  have o0 := On.alloc w (.cells #[.slice none 0 0, .slice none 0 0, .slice none 0 0] 27)
  have l0 : Below w.heap.size w (w.alloc (.cells #[.slice none 0 0, .slice none 0 0, .slice none 0 0] 27)) := (Below.refl _ _).alloc (Nat.le_refl _) _
  generalize w.alloc (.cells #[.slice none 0 0, .slice none 0 0, .slice none 0 0] 27) = A0 at *
  have b1 := Blk.new A0 #[.slice va l.length vc] 66
  have z1 : (A0.alloc (.cells #[.slice va l.length vc] 66)).heap.size = w.heap.size + 2 := by simp; omega
  have o1 := On.alloc A0 (.cells #[.slice va l.length vc] 66)
  have l1 : Below w.heap.size w (A0.alloc (.cells #[.slice va l.length vc] 66)) := l0.alloc (by omega) _
  rw [z0] at b1
  generalize A0.alloc (.cells #[.slice va l.length vc] 66) = A1 at *
  have b2 := Blk.new A1 #[.int .i64 2, .slice none 0 0, .slice none 0 0, .string ⟨#[]⟩, .int .i64 (-1), .slice none 0 0, .int .i64 (-1), .int .i64 1, .int .i64 0] 40
  have z2 : (A1.alloc (.cells #[.int .i64 2, .slice none 0 0, .slice none 0 0, .string ⟨#[]⟩, .int .i64 (-1), .slice none 0 0, .int .i64 (-1), .int .i64 1, .int .i64 0] 40)).heap.size = w.heap.size + 3 := by simp; omega
  have o2 := On.alloc A1 (.cells #[.int .i64 2, .slice none 0 0, .slice none 0 0, .string ⟨#[]⟩, .int .i64 (-1), .slice none 0 0, .int .i64 (-1), .int .i64 1, .int .i64 0] 40)
  have l2 : Below w.heap.size w (A1.alloc (.cells #[.int .i64 2, .slice none 0 0, .slice none 0 0, .string ⟨#[]⟩, .int .i64 (-1), .slice none 0 0, .int .i64 (-1), .int .i64 1, .int .i64 0] 40)) := l1.alloc (by omega) _
  rw [z1] at b2
  generalize A1.alloc (.cells #[.int .i64 2, .slice none 0 0, .slice none 0 0, .string ⟨#[]⟩, .int .i64 (-1), .slice none 0 0, .int .i64 (-1), .int .i64 1, .int .i64 0] 40) = A2 at *
  have b3 := Blk.new A2 #[.string ⟨#[97]⟩, .string ⟨#[98]⟩, .string ⟨#[99]⟩, .string ⟨#[100]⟩] 9
  have z3 : (A2.alloc (.cells #[.string ⟨#[97]⟩, .string ⟨#[98]⟩, .string ⟨#[99]⟩, .string ⟨#[100]⟩] 9)).heap.size = w.heap.size + 4 := by simp; omega
  have o3 := On.alloc A2 (.cells #[.string ⟨#[97]⟩, .string ⟨#[98]⟩, .string ⟨#[99]⟩, .string ⟨#[100]⟩] 9)
  have l3 : Below w.heap.size w (A2.alloc (.cells #[.string ⟨#[97]⟩, .string ⟨#[98]⟩, .string ⟨#[99]⟩, .string ⟨#[100]⟩] 9)) := l2.alloc (by omega) _
  rw [z2] at b3
  rw [← hW] at b3 z3 o3 l3
  have e1 : On (fun b => b < w.heap.size + 2) A1 W1 := (o2.less fun b hb => by show b < _; omega).trans (o3.less fun b hb => by show b < _; omega)
  have e0 : On (fun b => b < w.heap.size + 1) A0 W1 := (o1.less fun b hb => by show b < _; omega).trans (e1.less fun b hb => by omega)
  refine ⟨⟨va, l.length, vc, l, b1.on e1 (by show _ < _; omega), hv.on ((o0.less fun b hb => hb).trans (e0.less fun b hb => by omega))⟩, ⟨[(⟨nilSl, nilSl, nilSl⟩, Sp.rootO)], rfl, ?_, fun t ht => ?_⟩, b3, b0.on e0 (by show _ < _; omega), l3⟩
  · have hr : Row A2 (fun b => b = w.heap.size + 2) 9 (.slice (some ⟨w.heap.size + 2, 0, none⟩) 1 1) [objC (⟨nilSl, nilSl, nilSl⟩, Sp.rootO)] := obj_row (s := ⟨nilSl, nilSl, nilSl⟩) (o := Sp.rootO) b2
    exact (hr.on (o3.less fun b hb => by show b < _; omega)).more fun b hb => ⟨by omega, by omega⟩
  · simp at ht
    subst ht
    exact ⟨Row.nil _ _ _ _ _, Row.nil _ _ _ _ _, [], rfl, Row.nil _ _ _ _ _, fun t ht => by simp at ht⟩
set_option maxRecDepth 1000000 in
set_option maxHeartbeats 8000000 in
theorem build_any (l : List UInt8) (v : Value) (w : World) (hv : Bytes w (fun b => b < w.heap.size) v l) :
    Calls Try.prog 9 #[v] w fun e w' => ∃ (vo vp vq : Value) (L : List Sp.Ob) (O : List Sp.Opn) (P : List Sp.Prc), e = .returned (.agg #[vo, vp, vq]) ∧ Kern w' (fun b => w.heap.size ≤ b ∧ b < w'.heap.size) vo vp vq L O P ∧ Sp.KOk L O P ∧ Below w.heap.size w w' := by
  obtain ⟨va, vc, rfl, -⟩ := Row.form hv
  have HV : Hid _ := hv
  clear hv
  go_enter Try.func9, Try.ntmps9
  go_wp2_with fail
  have hA : ∃ W1, W1 = ((((w.alloc (.cells #[.slice none 0 0, .slice none 0 0, .slice none 0 0] 27)).alloc (.cells #[.slice va l.length vc] 66)).alloc (.cells #[.int .i64 2, .slice none 0 0, .slice none 0 0, .string ⟨#[]⟩, .int .i64 (-1), .slice none 0 0, .int .i64 (-1), .int .i64 1, .int .i64 0] 40)).alloc (.cells #[.string ⟨#[97]⟩, .string ⟨#[98]⟩, .string ⟨#[99]⟩, .string ⟨#[100]⟩] 9)) := ⟨_, rfl⟩
  obtain ⟨W1, hW1⟩ := hA
  rw [← hW1]
  have HI1 : Hid (BI w (w.heap.size + 1) (some ⟨w.heap.size + 1 + 1, 0, none⟩) 1 [Sp.rootO] W1) := start_ok l va vc w W1 HV.out hW1
  clear hW1
  refine (pick_any (w.heap.size + 1) (fun b => b < w.heap.size) 8 (by decide) (by decide) W1 HI1.out.1 (fun b hb => by omega)).mono ?_
  rintro e W2 ⟨n, rfl, hn, hmk2, hon2, hz2, hbl2⟩
  have HI2 : Hid (BI w (w.heap.size + 1) (some ⟨w.heap.size + 1 + 1, 0, none⟩) 1 [Sp.rootO] W2) := HI1.out.next rfl hmk2 (hon2.less fun b hb => hb.2) hbl2 ((HI1.out.2.1.on (hon2.less fun b hb => by show b ≠ _; omega)).more fun b hb => ⟨hb.1, by omega⟩)
  clear hmk2 hon2 hz2 hbl2 HI1
  go_upto_block 0 with fail
  refine blk0_wp _ _ w W2 (w.heap.size + 1) rfl (some ⟨w.heap.size + 1 + 1, 0, none⟩) 1 [Sp.rootO] n (by omega) Sp.TOk.first (fun o ho => by simp at ho; subst ho; decide) rfl HI2.out _ _ _ _ _ _ _ _ _ _ _ _ _ _ _ _ _ _ _ _ _ _ _ _ _ _ _ _ _ _ _ _ _ _ _ _ _ _ _ _ _ _ _ _ _ _ _ _ _ _ _ _ _ _ _ _ _ _ _ _ _ _ _ _ _ _ _ _ _ _ _ _ _ _ _ _ _ _ _ _ _ _ _ _ _ _ _ _ _ _ _ _ _ _ _ _ _ _ _ _ _ _ _ _ _ _ _ _ _ _ _ _ _ _ _ _ _ _ _ _ _ _ _ _ _ _ _ _ _ _ _ _ _ _ _ _ _ _ _ _ _ _ _ _ _ _ _ _ _ _ _ _ _ _ _ _ _ _ _ _ _ _ _ _ _ _ _ _ _ _ _ _ _ _ _ _ _ _ _ _ _ _ _ _ _ _ _ _ _ _ _ _ _ _ _ _ _ _ _ _ _ _ _ _ _ _ _ _ _ _ _ _ _ _ _ _ _ _ _ _ _ _ _ _ _ _ _ _ _ _ _ _ _ _ _ _ _ _ _ _ _ _ _ _ _ _ _ _ _ _ _ _ _ _ _ _ _ _ _ _ _ _ _ _ _ _ _ _ _ _ _ _ _ _ _ _ _ _ _ _ _ _ _ _ _ _ _ _ _ _ _ _ _ _ ?_
  intro y6 y7 y8 y9 y10 y11 y12 y13 y14 y15 y42 y43 y44 y45 y46 y47 y48 y49 y50 y51 y52 y53 y54 y55 y56 y57 y58 y59 y60 y61 y62 y63 y64 y65 y66 y67 y68 y69 y70 y71 y72 y73 y74 y75 y76 y77 y78 y79 y80 y81 y82 y83 y84 y85 y86 y87 y88 y89 y90 y91 y92 y93 y94 y95 y96 y97 y98 y99 y100 y101 y102 y103 y104 y105 y106 y107 y108 y109 y110 y111 y112 y113 y114 y115 y116 y117 y118 y119 y120 y121 y122 y123 y124 y125 W3 a3 c3 L3 hT3 hK3 hL3 hI3
  dsimp only
  have HI3 : Hid (BI w (w.heap.size + 1) a3 c3 L3 W3) := hI3
  have HT3 : Hid (Sp.TOk L3) := hT3
  have HK3 : Hid (∀ o ∈ L3, o.kind ≤ 3) := hK3
  have HL3 : Hid (L3.length ≤ 8) := hL3
  clear hI3 hT3 hK3 hL3 HI2
  go_wp2_with fail
  refine (pick_any (w.heap.size + 1) (fun b => b < w.heap.size) 3 (by decide) (by decide) W3 HI3.out.1 (fun b hb => by omega)).mono ?_
  rintro e W4 ⟨m, rfl, hm, hmk4, hon4, hz4, hbl4⟩
  have HI4 : Hid (BI w (w.heap.size + 1) a3 c3 L3 W4) := HI3.out.next rfl hmk4 (hon4.less fun b hb => hb.2) hbl4 ((HI3.out.2.1.on (hon4.less fun b hb => by show b ≠ _; omega)).more fun b hb => ⟨hb.1, by omega⟩)
  clear hmk4 hon4 hz4 hbl4 HI3
  have hg4 : w.heap.size + 1 < W4.heap.size := by obtain ⟨_, _, _, _, hq, _⟩ := HI4.out.1; exact hq.lt
  go_upto_block 5 with fail
  refine blk5_wp _ _ W4 (w.heap.size + 1) a3 c3 L3 m (by omega) HT3.out (fun o ho => by have := HK3.out o ho; omega) HL3.out hg4 (HI4.out.2.1.withP fun s o ho hk => by have := HK3.out o ho; dsimp only at hk; omega) _ _ _ _ _ _ _ _ _ _ _ _ _ _ _ _ _ _ _ _ _ _ _ _ _ _ _ _ _ _ _ _ _ _ _ _ _ _ _ _ _ _ _ _ _ _ _ _ _ _ _ _ _ _ _ _ _ _ _ _ _ _ _ _ _ _ _ _ _ _ _ _ _ _ _ _ _ _ _ _ _ _ _ _ _ _ _ _ _ _ _ _ _ _ _ _ _ _ _ _ _ _ _ _ _ _ _ _ _ _ _ _ _ _ _ _ _ _ _ _ _ _ _ _ _ _ _ _ _ _ _ _ _ _ _ _ _ _ _ _ _ _ _ _ _ _ _ _ _ _ _ _ _ _ _ _ _ _ _ _ _ _ _ _ _ _ _ _ _ _ _ _ _ _ _ _ _ _ _ _ _ _ _ _ _ _ _ _ _ _ _ _ _ _ _ _ _ _ _ _ _ _ _ _ _ _ _ _ _ _ _ _ _ _ _ _ _ _ _ _ _ _ _ _ _ _ _ _ _ _ _ _ _ _ _ _ _ _ _ _ _ _ _ _ _ _ _ _ _ _ _ _ _ _ _ _ _ _ _ _ _ _ _ _ _ _ _ _ _ _ _ _ _ _ _ _ _ _ _ _ _ _ _ _ _ _ _ _ _ _ _ _ _ _ _ _ ?_
  intro y16 y17 y18 y128 y129 y130 y131 y132 y133 y134 y135 y136 y137 y138 y139 W5 a5 c5 L5 hT5 hK5 hL5 hO5 hB5
  dsimp only
  have HT5 : Hid (Sp.TOk L5) := hT5
  have HK5 : Hid (∀ o ∈ L5, o.kind ≤ 4) := hK5
  have HL5 : Hid (L5.length ≤ 12) := hL5
  have HO5 : Hid (ObjsP QN W5 (fun b => w.heap.size + 1 < b ∧ b < W5.heap.size) (.slice a5 L5.length c5) L5) := hO5
  have hz5 := hB5.size
  have HM5 : Hid (MK W5 (w.heap.size + 1) (fun b => b < w.heap.size)) := HI4.out.1.on (On.of hB5) hg4 (fun b hb => by show b < W4.heap.size; omega)
  have HR5 : Hid (Blk W5 w.heap.size nil3 27) := Blk.below HI4.out.2.2.2.1 hB5 (by omega)
  have HW5 : Hid (Below w.heap.size w W5) := HI4.out.2.2.2.2.trans (hB5.mono (by omega))
  clear hT5 hK5 hL5 hO5 hB5 HI4 HT3 HK3 HL3
  go_wp2_with fail
  have hbk6 : Blk (W5.alloc (.cells #[.slice a5 L5.length c5, .slice none 0 0, .slice none 0 0] 27)) W5.heap.size (kC a5 L5.length c5 (.slice none 0 0) (.slice none 0 0)) 27 := Blk.new W5 _ _
  have hz6 : (W5.alloc (.cells #[.slice a5 L5.length c5, .slice none 0 0, .slice none 0 0] 27)).heap.size = W5.heap.size + 1 := by simp
  have hon6 := On.alloc W5 (.cells #[.slice a5 L5.length c5, .slice none 0 0, .slice none 0 0] 27)
  have hbl6 : ∀ C, C ≤ W5.heap.size → Below C W5 (W5.alloc (.cells #[.slice a5 L5.length c5, .slice none 0 0, .slice none 0 0] 27)) := fun C hC => (Below.refl C W5).alloc hC _
  generalize W5.alloc (.cells #[.slice a5 L5.length c5, .slice none 0 0, .slice none 0 0] 27) = W6 at *
  have hmk6 : MK W6 (w.heap.size + 1) (fun b => b < w.heap.size) := HM5.out.on hon6 (by show _ < W5.heap.size; omega) (fun b hb => by show b < W5.heap.size; omega)
  refine (pick_any (w.heap.size + 1) (fun b => b < w.heap.size) 3 (by decide) (by decide) W6 hmk6 (fun b hb => by omega)).mono ?_
  rintro e W7 ⟨x, rfl, hx, hmk7, hon7, hz7, hbl7⟩
  have HM7 : Hid (MK W7 (w.heap.size + 1) (fun b => b < w.heap.size)) := hmk7
  have HBK7 : Hid (Blk W7 W5.heap.size (kC a5 L5.length c5 (.slice none 0 0) (.slice none 0 0)) 27) := hbk6.on hon7 (by show W5.heap.size ≠ _; omega)
  have hz7' : W7.heap.size = W5.heap.size + 1 := by omega
  have HO7 : Hid (ObjsP QN W7 (fun b => w.heap.size + 1 < b ∧ b < W7.heap.size ∧ b ≠ W5.heap.size) (.slice a5 L5.length c5) L5) := ((HO5.out.on (hon6.less fun b hb => hb.2)).on (hon7.less fun b hb => by show b ≠ _; omega)).more fun b hb => ⟨hb.1, by omega, by omega⟩
  have HR7 : Hid (Blk W7 w.heap.size nil3 27) := (Blk.on HR5.out hon6 (by show _ < W5.heap.size; omega)).on hon7 (by show w.heap.size ≠ _; omega)
  have HW7 : Hid (Below w.heap.size w W7) := (HW5.out.trans (hbl6 _ (by omega))).trans (hbl7 _ (by omega))
  have HZ7 : Hid (W7.heap.size = W5.heap.size + 1) := hz7'
  have HNX : Hid ((1 + (x : Int)) = ((1 + x : Nat) : Int)) := by unfold Hid; omega
  have hx3 : (x : Int) < 3 := by omega
  clear hbk6 hz6 hon6 hbl6 hmk6 hmk7 hon7 hz7 hbl7 hz7' HM5 HR5 HW5 HO5
  go_upto_block 7 with fail
  rw [HNX.out]
  refine blk7_wp _ _ W7 (w.heap.size + 1) W5.heap.size a5 c5 L5 (1 + x) (by omega) HT5.out HL5.out (by omega) HBK7.out HO7.out _ _ _ _ _ _ _ _ _ _ _ _ _ _ _ _ _ _ _ _ _ _ _ _ _ _ _ _ _ _ _ _ _ _ _ _ _ _ _ _ _ _ _ _ _ _ _ _ _ _ _ _ _ _ _ _ _ _ _ _ _ _ _ _ _ _ _ _ _ _ _ _ _ _ _ _ _ _ _ _ _ _ _ _ _ _ _ _ _ _ _ _ _ _ _ _ _ _ _ _ _ _ _ _ _ _ _ _ _ _ _ _ _ _ _ _ _ _ _ _ _ _ _ _ _ _ _ _ _ _ _ _ _ _ _ _ _ _ _ _ _ _ _ _ _ _ _ _ _ _ _ _ _ _ _ _ _ _ _ _ _ _ _ _ _ _ _ _ _ _ _ _ _ _ _ _ _ _ _ _ _ _ _ _ _ _ _ _ _ _ _ _ _ _ _ _ _ _ _ _ _ _ _ _ _ _ _ _ _ _ _ _ _ _ _ _ _ _ _ _ _ _ _ _ _ _ _ _ _ _ _ _ _ _ _ _ _ _ _ _ _ _ _ _ _ _ _ _ _ _ _ _ _ _ _ _ _ _ _ _ _ _ _ _ _ _ _ _ _ _ _ _ _ _ _ _ _ _ _ _ _ _ _ _ _ _ _ _ _ _ _ _ _ _ _ _ ?_
  intro y21 y22 y23 y24 y146 y147 y148 y149 y150 y151 y152 y153 y154 y155 y156 y157 y158 y159 y160 y161 y162 W8 a8 c8 hbk8 hO8 hon8 hbl8
  dsimp only
  have hz8 : W7.heap.size ≤ W8.heap.size := (hbl8 0 (Nat.zero_le _)).size
  have hzz7 := HZ7.out
  have HBK8 : Hid (Blk W8 W5.heap.size (kC a8 (L5 ++ procsL (1 + x)).length c8 (.slice none 0 0) (.slice none 0 0)) 27) := hbk8
  have HO8 : Hid (ObjsP QN W8 (fun b => w.heap.size + 1 < b ∧ b < W8.heap.size ∧ b ≠ W5.heap.size) (.slice a8 (L5 ++ procsL (1 + x)).length c8) (L5 ++ procsL (1 + x))) := hO8
  have HM8 : Hid (MK W8 (w.heap.size + 1) (fun b => b < w.heap.size)) := HM7.out.on hon8 ⟨by omega, by omega⟩ (fun b hb => ⟨by omega, by omega⟩)
  have HR8 : Hid (Blk W8 w.heap.size nil3 27) := Blk.on HR7.out hon8 ⟨by omega, by omega⟩
  have HW8 : Hid (Below w.heap.size w W8) := HW7.out.trans (hbl8 _ (by omega))
  have HLN : Hid ((L5 ++ procsL (1 + x)).length ≤ 14) := by unfold Hid; rw [List.length_append, procsL_len]; have := HL5.out; omega
  have HT8 : Hid (Sp.TOk (L5 ++ procsL (1 + x))) := procsL_ok HT5.out _ (by omega)
  have hck8 := hbk8.cell
  unfold kC at hck8
  have hgl8 := hbk8.lt
  have hnz8 : ((L5 ++ procsL (1 + x)).length : Int) ≤ 14 := by have := HLN.out; omega
  have HLE : Hid (∀ M : Nat, M = (L5 ++ procsL (1 + x)).length → True) := fun _ _ => trivial
  clear hbk8 hO8 hon8 hbl8 HBK7 HO7 HM7 HR7 HW7
  obtain ⟨L8, hL8⟩ : ∃ L8, L8 = L5 ++ procsL (1 + x) := ⟨_, rfl⟩
  rw [← hL8] at HBK8 HO8 HLN HT8 hck8 hnz8
  have HL8 : Hid (L8 = L5 ++ procsL (1 + x)) := hL8
  clear hL8 HLE
  go_upto_block 9 with fail
  refine blk9_wp _ _ W8 (w.heap.size + 1) W5.heap.size (fun b => b < w.heap.size) (.slice a8 L8.length c8) L8.length HLN.out (fun b hb => by omega) (by omega) HM8.out HBK8.out _ _ _ _ _ _ _ _ _ _ _ _ _ _ _ _ _ _ _ _ _ _ _ _ _ _ _ _ _ _ _ _ _ _ _ _ _ _ _ _ _ _ _ _ _ _ _ _ _ _ _ _ _ _ _ _ _ _ _ _ _ _ _ _ _ _ _ _ _ _ _ _ _ _ _ _ _ _ _ _ _ _ _ _ _ _ _ _ _ _ _ _ _ _ _ _ _ _ _ _ _ _ _ _ _ _ _ _ _ _ _ _ _ _ _ _ _ _ _ _ _ _ _ _ _ _ _ _ _ _ _ _ _ _ _ _ _ _ _ _ _ _ _ _ _ _ _ _ _ _ _ _ _ _ _ _ _ _ _ _ _ _ _ _ _ _ _ _ _ _ _ _ _ _ _ _ _ _ _ _ _ _ _ _ _ _ _ _ _ _ _ _ _ _ _ _ _ _ _ _ _ _ _ _ _ _ _ _ _ _ _ _ _ _ _ _ _ _ _ _ _ _ _ _ _ _ _ _ _ _ _ _ _ _ _ _ _ _ _ _ _ _ _ _ _ _ _ _ _ _ _ _ _ _ _ _ _ _ _ _ _ _ _ _ _ _ _ _ _ _ _ _ _ _ _ _ _ _ _ _ _ _ _ _ _ _ _ _ _ _ _ _ _ _ _ ?_
  intro y25 y166 y167 y168 y169 y170 y171 y172 y173 y174 y175 y176 y177 y178 y179 y180 y181 y182 y183 W9 r9 O9 hO9 hI9
  dsimp only
  obtain ⟨i1, i2, i3, i4, i5, i6⟩ := hI9
  obtain ⟨pa, pc, ep, -, -⟩ := i3.form
  rw [List.length_map] at ep
  rw [ep] at i2 i3
  have hz9 : W8.heap.size ≤ W9.heap.size := (i6 0 (Nat.zero_le _)).size
  have HM9 : Hid (MK W9 (w.heap.size + 1) (fun b => b < w.heap.size)) := i1
  have HBK9 : Hid (Blk W9 W5.heap.size #[.slice a8 L8.length c8, .slice pa O9.length pc, .slice none 0 0] 27) := i2
  have HRO9 : Hid (Row W9 (fun b => W8.heap.size ≤ b ∧ b < W9.heap.size) 2 (.slice pa O9.length pc) (O9.map opnC)) := i3.row (even_opn O9)
  have HOK9 : Hid (∀ y ∈ O9, Sp.OpnOk L8.length y) := i4
  have HO9 : Hid (ObjsP QN W9 (fun b => w.heap.size + 1 < b ∧ b < W8.heap.size ∧ b ≠ W5.heap.size) (.slice a8 L8.length c8) L8) := HO8.out.on (i5.less fun b hb => ⟨hb.2.1, by omega, hb.2.2⟩)
  have HR9 : Hid (Blk W9 w.heap.size nil3 27) := Blk.on HR8.out i5 ⟨by omega, by omega, by omega⟩
  have HW9 : Hid (Below w.heap.size w W9) := HW8.out.trans (i6 _ (by omega))
  have HN9 : Hid (O9.length ≤ 28) := hO9
  clear i1 i2 i3 i4 i5 i6 ep hO9 hck8 HBK8 HO8 HM8 HR8 HW8
  go_upto_block 13 with fail
  refine blk13_wp _ _ W9 (w.heap.size + 1) W5.heap.size (fun b => b < w.heap.size) O9.length pc (1 + x) pa (.slice a8 L8.length c8) (fun b hb => by omega) (by omega) (by omega) (by have := HN9.out; omega) HM9.out HBK9.out _ _ _ _ _ _ _ _ _ _ _ _ _ _ _ _ _ _ _ _ _ _ _ _ _ _ _ _ _ _ _ _ _ _ _ _ _ _ _ _ _ _ _ _ _ _ _ _ _ _ _ _ _ _ _ _ _ _ _ _ _ _ _ _ _ _ _ _ _ _ _ _ _ _ _ _ _ _ _ _ _ _ _ _ _ _ _ _ _ _ _ _ _ _ _ _ _ _ _ _ _ _ _ _ _ _ _ _ _ _ _ _ _ _ _ _ _ _ _ _ _ _ _ _ _ _ _ _ _ _ _ _ _ _ _ _ _ _ _ _ _ _ _ _ _ _ _ _ _ _ _ _ _ _ _ _ _ _ _ _ _ _ _ _ _ _ _ _ _ _ _ _ _ _ _ _ _ _ _ _ _ _ _ _ _ _ _ _ _ _ _ _ _ _ _ _ _ _ _ _ _ _ _ _ _ _ _ _ _ _ _ _ _ _ _ _ _ _ _ _ _ _ _ _ _ _ _ _ _ _ _ _ _ _ _ _ _ _ _ _ _ _ _ _ _ _ _ _ _ _ _ _ _ _ _ _ _ _ _ _ _ _ _ _ _ _ _ _ _ _ _ _ _ _ _ _ _ _ _ _ _ _ _ _ _ _ _ _ _ _ _ _ _ _ _ ?_
  intro y26 y27 y28 y29 y30 y185 y186 y187 y188 y189 y190 y191 y192 y193 y194 y195 y196 y197 y198 y199 y200 y201 y202 y203 y204 y205 y206 y207 y208 y209 y210 y211 y212 y213 y214 y215 y216 y217 y218 y219 y220 y221 y222 y223 y224 y225 y226 y227 y228 y229 y230 y231 y232 y233 y234 y235 y236 y237 y238 y239 y240 y241 y242 y243 y244 y245 y246 W10 r10 ts hts hI10
  dsimp only
  obtain ⟨j1, j2, j3, j4, j5, j6, j7⟩ := hI10
  have hz10 : W9.heap.size ≤ W10.heap.size := (j7 0 (Nat.zero_le _)).size
  have HM10 : Hid (MK W10 (w.heap.size + 1) (fun b => b < w.heap.size)) := j1
  have HBK10 : Hid (Blk W10 W5.heap.size #[.slice a8 L8.length c8, .slice pa O9.length pc, .slice r10.a r10.n r10.c] 27) := j2
  have HRO10 : Hid (Row W10 (fun b => W8.heap.size ≤ b ∧ b < W9.heap.size) 2 (.slice pa O9.length pc) (O9.map opnC)) := HRO9.out.on (j6.less fun b hb => ⟨hb.2, by omega, by omega⟩)
  have HRP10 : Hid (Row W10 (fun b => W9.heap.size ≤ b ∧ b < W10.heap.size) 4 (.slice r10.a r10.n r10.c) (ts.map prcC)) := j3.row (even_prc ts)
  have HRS10 : Hid (∀ t ∈ ts, Row W10 (fun b => W9.heap.size ≤ b ∧ b < W10.heap.size) 3 (.slice t.1.a t.1.n t.1.c) (t.2.slots.map sltC)) := fun t ht => (j4 t ht).1.more fun b hb => ⟨hb.1, hb.2.1⟩
  have HPO : Hid (∀ t ∈ ts, Sp.PrcOk O9.length t.2) := fun t ht => (j4 t ht).2
  have HP0 : Hid (∀ t, ts[0]? = some t → t.2.live = true) := j5
  have HTS : Hid (ts.length = 1 + x) := hts
  have HO10 : Hid (ObjsP QN W10 (fun b => w.heap.size + 1 < b ∧ b < W10.heap.size ∧ b ≠ W5.heap.size) (.slice a8 L8.length c8) L8) := (HO9.out.on (j6.less fun b hb => ⟨by omega, by omega, hb.2.2⟩)).more fun b hb => ⟨hb.1, by omega, hb.2.2⟩
  have HR10 : Hid (Blk W10 w.heap.size nil3 27) := Blk.on HR9.out j6 ⟨by omega, by omega, by omega⟩
  have HW10 : Hid (Below w.heap.size w W10) := HW9.out.trans (j7 _ (by omega))
  have hck10 := j2.cell
  have hgl10 := j2.lt
  clear j1 j2 j3 j4 j5 j6 j7 hts HRO9 HO9 HR9 HW9 HBK9 HM9
  go_upto_block 17 with fail
  refine blk17_wp _ _ W10 (w.heap.size + 1) W5.heap.size (fun b => b < w.heap.size) O9.length pc pa (.slice r10.a r10.n r10.c) a8 c8 L8 (fun b hb => by omega) (by omega) (by have := HN9.out; omega) (by have := HLN.out; omega) HT8.out HM10.out HBK10.out HO10.out (qn_none HT8.out HO10.out) _ _ _ _ _ _ _ _ _ _ _ _ _ _ _ _ _ _ _ _ _ _ _ _ _ _ _ _ _ _ _ _ _ _ _ _ _ _ _ _ _ _ _ _ _ _ _ _ _ _ _ _ _ _ _ _ _ _ _ _ _ _ _ _ _ _ _ _ _ _ _ _ _ _ _ _ _ _ _ _ _ _ _ _ _ _ _ _ _ _ _ _ _ _ _ _ _ _ _ _ _ _ _ _ _ _ _ _ _ _ _ _ _ _ _ _ _ _ _ _ _ _ _ _ _ _ _ _ _ _ _ _ _ _ _ _ _ _ _ _ _ _ _ _ _ _ _ _ _ _ _ _ _ _ _ _ _ _ _ _ _ _ _ _ _ _ _ _ _ _ _ _ _ _ _ _ _ _ _ _ _ _ _ _ _ _ _ _ _ _ _ _ _ _ _ _ _ _ _ _ _ _ _ _ _ _ _ _ _ _ _ _ _ _ _ _ _ _ _ _ _ _ _ _ _ _ _ _ _ _ _ _ _ _ _ _ _ _ _ _ _ _ _ _ _ _ _ _ _ _ _ _ _ _ _ _ _ _ _ _ _ _ _ _ _ _ _ _ _ _ _ _ _ _ _ _ _ _ _ _ _ _ _ _ _ _ _ _ _ _ _ _ _ _ ?_
  intro y31 y32 y33 y250 y251 y252 y253 y254 y255 y256 y257 y258 y259 y260 y261 y262 y263 y264 y265 y266 y267 y268 y269 y270 y271 y272 y273 y274 y275 y276 y277 y278 y279 y280 y281 y282 y283 y284 y285 y286 y287 y288 y289 y290 y291 y292 y293 y294 y295 y296 y297 W11 hQ
  dsimp only
  obtain ⟨a11, c11, M, q1, q2, -, q4, q5, q6, q7, q8, q9, q10⟩ := hQ
  have hz11 : W10.heap.size ≤ W11.heap.size := (q10 0 (Nat.zero_le _)).size
  have HR11 : Hid (Blk W11 w.heap.size nil3 27) := Blk.on HR10.out q9 ⟨by omega, by omega, by omega⟩
  have HW11 : Hid (Below w.heap.size w W11) := HW10.out.trans (q10 _ (by omega))
  have HOB : Hid (Objs W11 (fun b => w.heap.size + 1 < b ∧ b < W11.heap.size ∧ b ≠ W5.heap.size) (.slice a11 M.length c11) M) := q8
  have HRO11 : Hid (Row W11 (fun b => W8.heap.size ≤ b ∧ b < W9.heap.size) 2 (.slice pa O9.length pc) (O9.map opnC)) := HRO10.out.on (q9.less fun b hb => ⟨by omega, by omega, by omega⟩)
  have HRP11 : Hid (Row W11 (fun b => W9.heap.size ≤ b ∧ b < W10.heap.size) 4 (.slice r10.a r10.n r10.c) (ts.map prcC)) := HRP10.out.on (q9.less fun b hb => ⟨hb.2, by omega, by omega⟩)
  have HRS11 : Hid (∀ t ∈ ts, Row W11 (fun b => W9.heap.size ≤ b ∧ b < W10.heap.size) 3 (.slice t.1.a t.1.n t.1.c) (t.2.slots.map sltC)) := fun t ht => (HRS10.out t ht).on (q9.less fun b hb => ⟨hb.2, by omega, by omega⟩)
  have HKO : Hid (Sp.KOk M O9 (ts.map Prod.snd)) := by
    have e := HL8.out
    rw [e] at q1 q4
    have hok := HOK9.out
    rw [e] at hok
    exact kok_of (by omega) (by omega) HK5.out HL5.out q1 q2 q4 q5 hok HN9.out HTS.out HPO.out HP0.out
  have hc11 := q7.cell
  have hgl11 := q7.lt
  have hcr := Blk.cell HR11.out
  have hfr := Blk.free HR11.out
  unfold nil3 at hcr
  have hrl := Blk.lt HR11.out
  clear q1 q2 q4 q5 q6 q7 q8 q9 q10 HRO10 HRP10 HRS10 HPO HP0 HTS HO10 HR10 HW10 HBK10 HM10 hck10 HOK9 HT8 HL8
  go_wp2
  have f1 : Blk (W11.setCell ⟨w.heap.size, 0, none⟩ (.slice a11 M.length c11)) w.heap.size #[.slice a11 M.length c11, .slice none 0 0, .slice none 0 0] 27 := Blk.set HR11.out 0 _
  have f2 : Blk ((W11.setCell ⟨w.heap.size, 0, none⟩ (.slice a11 M.length c11)).setCell ⟨w.heap.size, 1, none⟩ (.slice pa O9.length pc)) w.heap.size #[.slice a11 M.length c11, .slice pa O9.length pc, .slice none 0 0] 27 := f1.set 1 _
  have f3 : Blk (((W11.setCell ⟨w.heap.size, 0, none⟩ (.slice a11 M.length c11)).setCell ⟨w.heap.size, 1, none⟩ (.slice pa O9.length pc)).setCell ⟨w.heap.size, 2, none⟩ (.slice r10.a r10.n r10.c)) w.heap.size #[.slice a11 M.length c11, .slice pa O9.length pc, .slice r10.a r10.n r10.c] 27 := f2.set 2 _
  have hcF := f3.cell
  have honF : On (fun b => b ≠ w.heap.size) W11 (((W11.setCell ⟨w.heap.size, 0, none⟩ (.slice a11 M.length c11)).setCell ⟨w.heap.size, 1, none⟩ (.slice pa O9.length pc)).setCell ⟨w.heap.size, 2, none⟩ (.slice r10.a r10.n r10.c)) := ((On.set W11 ⟨w.heap.size, 0, none⟩ (.slice a11 M.length c11)).trans (On.set _ ⟨w.heap.size, 1, none⟩ (.slice pa O9.length pc))).trans (On.set _ ⟨w.heap.size, 2, none⟩ (.slice r10.a r10.n r10.c))
  have hBF : Below w.heap.size w (((W11.setCell ⟨w.heap.size, 0, none⟩ (.slice a11 M.length c11)).setCell ⟨w.heap.size, 1, none⟩ (.slice pa O9.length pc)).setCell ⟨w.heap.size, 2, none⟩ (.slice r10.a r10.n r10.c)) := ((HW11.out.setCell (p := ⟨w.heap.size, 0, none⟩) (Nat.le_refl _) _).setCell (p := ⟨w.heap.size, 1, none⟩) (Nat.le_refl _) _).setCell (p := ⟨w.heap.size, 2, none⟩) (Nat.le_refl _) _
  have hzF : (((W11.setCell ⟨w.heap.size, 0, none⟩ (.slice a11 M.length c11)).setCell ⟨w.heap.size, 1, none⟩ (.slice pa O9.length pc)).setCell ⟨w.heap.size, 2, none⟩ (.slice r10.a r10.n r10.c)).heap.size = W11.heap.size := by simp
  generalize ((W11.setCell ⟨w.heap.size, 0, none⟩ (.slice a11 M.length c11)).setCell ⟨w.heap.size, 1, none⟩ (.slice pa O9.length pc)).setCell ⟨w.heap.size, 2, none⟩ (.slice r10.a r10.n r10.c) = WF at *
  refine bodyPost_ret (v := .agg #[.slice a11 M.length c11, .slice pa O9.length pc, .slice r10.a r10.n r10.c]) (by simp [results, Try.results9, go_sem, hcF]) rfl ⟨.slice a11 M.length c11, .slice pa O9.length pc, .slice r10.a r10.n r10.c, M, O9, ts.map Prod.snd, rfl, ⟨?_, ?_, ts, rfl, ?_, fun t ht => ?_⟩, HKO.out, hBF⟩
  · exact (HOB.out.on (honF.less fun b hb => by show b ≠ _; omega)).more fun b hb => ⟨by omega, by omega⟩
  · exact (HRO11.out.on (honF.less fun b hb => by show b ≠ _; omega)).more fun b hb => ⟨by omega, by omega⟩
  · exact (HRP11.out.on (honF.less fun b hb => by show b ≠ _; omega)).more fun b hb => ⟨by omega, by omega⟩
  · exact ((HRS11.out t ht).on (honF.less fun b hb => by show b ≠ _; omega)).more fun b hb => ⟨by omega, by omega⟩
end Go.Proofs.Ythoacakdmnijcaa
/-
  rgref5.SameObject, piece by piece: entries; messages.
-/
namespace Go.Proofs.Ythoacakdmnijcaa
open Go.RowKit
theorem partE_0 (a : ByteArray) (b : Int) (w : World) : (part 9 #[.string a, .int .i64 b] 0).run Try.prog w = .ok (.string a) w := by kernel_rfl
theorem partE_1 (a : ByteArray) (b : Int) (w : World) : (part 3 #[.string a, .int .i64 b] 1).run Try.prog w = .ok (.int .i64 b) w := by kernel_rfl
theorem fieldsEnt : Try.prog.underlying 82 = some (.struct (Try.prog.fieldsOf 82)) := by unfold Program.fieldsOf; rw [Try.underlying82]
theorem eqEnt' (n : Nat) (a : ByteArray) (b : Int) (w : World) : (Op.equalIn (n + 2) 82 (.agg #[.string a, .int .i64 b]) (.agg #[.string a, .int .i64 b])).run Try.prog w = .ok true w := by
  rw [run_equalIn_struct w (n + 1) 82 _ _ fieldsEnt (by kernel_rfl)]
  unfold Program.fieldsOf
  rw [Try.underlying82]
  have q := fun (x y : Int) (w : World) => run_equalIn_int (P := Try.prog) w n 3 .i64 .i64 x y Try.underlying3
  have q' := fun (x y : ByteArray) (w : World) => run_equalIn_string (P := Try.prog) w n 9 x y Try.underlying9
  simp [Op.eqFields, partE_0, partE_1, q, q']
theorem eqEnt (a : ByteArray) (b : Int) (w : World) : (Op.equalIn 10000 82 (.agg #[.string a, .int .i64 b]) (.agg #[.string a, .int .i64 b])).run Try.prog w = .ok true w := eqEnt' 9998 a b w
theorem guardEnt : Try.prog.eqGuardType Try.prog.depth 82 = false := by kernel_rfl
theorem partC_0 (a b : Int) (w : World) : (part 3 #[.int .i64 a, .int .i64 b] 0).run Try.prog w = .ok (.int .i64 a) w := by kernel_rfl
theorem partC_1 (a b : Int) (w : World) : (part 3 #[.int .i64 a, .int .i64 b] 1).run Try.prog w = .ok (.int .i64 b) w := by kernel_rfl
theorem fieldsCap : Try.prog.underlying 47 = some (.struct (Try.prog.fieldsOf 47)) := by unfold Program.fieldsOf; rw [Try.underlying47]
theorem eqCap' (n : Nat) (a b : Int) (w : World) : (Op.equalIn (n + 2) 47 (.agg #[.int .i64 a, .int .i64 b]) (.agg #[.int .i64 a, .int .i64 b])).run Try.prog w = .ok true w := by
  rw [run_equalIn_struct w (n + 1) 47 _ _ fieldsCap (by kernel_rfl)]
  unfold Program.fieldsOf
  rw [Try.underlying47]
  have q := fun (x y : Int) (w : World) => run_equalIn_int (P := Try.prog) w n 3 .i64 .i64 x y Try.underlying3
  simp [Op.eqFields, partC_0, partC_1, q]
theorem eqCap (a b : Int) (w : World) : (Op.equalIn 10000 47 (.agg #[.int .i64 a, .int .i64 b]) (.agg #[.int .i64 a, .int .i64 b])).run Try.prog w = .ok true w := eqCap' 9998 a b w
theorem guardCap : Try.prog.eqGuardType Try.prog.depth 47 = false := by kernel_rfl
set_option maxRecDepth 1000000 in
set_option maxHeartbeats 8000000 in
theorem sblk0_wp (Q : Exit → Act → World → Prop) (K : Act → World → Prop) (W : World) (gA gB : Nat) (es : List Sp.Ent) (S S' : Nat → Prop) (ea ea' : Option Addr) (ec ec' : Nat) (v0 v1 v3 v4 v5 v6 v7 v8 u0 u1 u3 u4 u5 u6 u7 u8 : Value) (hA : Blk W gA #[v0, v1, .slice ea es.length ec, v3, v4, v5, v6, v7, v8] 40) (hB : Blk W gB #[u0, u1, .slice ea' es.length ec', u3, u4, u5, u6, u7, u8] 40) (hE : Row W S 2 (.slice ea es.length ec) (es.map entC)) (hE' : Row W S' 2 (.slice ea' es.length ec') (es.map entC)) (hm : es.length ≤ maxLen)
    (x0 x1 x4 x5 x6 x7 x8 x9 x10 x11 x12 x13 x14 x15 x16 x17 x18 x19 x20 x21 x22 x23 x24 x25 x26 x27 x28 x29 x30 x31 x32 x33 x34 x35 x36 x37 x38 x39 x40 x41 x42 x43 x44 x45 x46 x47 x48 x49 x50 x51 x52 x53 x54 x55 x56 x57 x58 x59 x60 x61 x62 x63 x64 x65 x66 x67 x68 x69 x70 x71 x72 x73 x74 x75 x76 x77 x80 x81 x82 x83 x84 x85 x86 x87 x88 x89 x90 x91 x92 x93 x94 x95 x96 x97 x98 x99 x100 x101 x102 x103 x104 x105 x106 x107 x108 x109 x110 x111 x112 x113 x114 x115 x116 x117 x118 x119 x120 x121 x122 x123 x124 x125 x126 x127 x128 x129 x130 x131 : Value)
    (h : ∀ (y4 y5 y79 y80 y81 y82 y83 y84 y85 y86 y87 y88 y89 y90 y91 y92 y93 : Value) (n : Nat), K ⟨#[x0, x1, .pointer (some ⟨gA, 0, none⟩), .pointer (some ⟨gB, 0, none⟩), y4, y5, x6, x7, x8, x9, x10, x11, x12, x13, x14, x15, x16, x17, x18, x19, x20, x21, x22, x23, x24, x25, x26, x27, x28, x29, x30, x31, x32, x33, x34, x35, x36, x37, x38, x39, x40, x41, x42, x43, x44, x45, x46, x47, x48, x49, x50, x51, x52, x53, x54, x55, x56, x57, x58, x59, x60, x61, x62, x63, x64, x65, x66, x67, x68, x69, x70, x71, x72, x73, x74, x75, x76, x77, .int .i64 es.length, y79, y80, y81, y82, y83, y84, y85, y86, y87, y88, y89, y90, y91, y92, y93, x94, x95, x96, x97, x98, x99, x100, x101, x102, x103, x104, x105, x106, x107, x108, x109, x110, x111, x112, x113, x114, x115, x116, x117, x118, x119, x120, x121, x122, x123, x124, x125, x126, x127, x128, x129, x130, x131], []⟩ (W.drewN n)) :
    Code.wp Try.prog ((Try.f18.body.bind (findBlock 0)).getD .skip) (Exit.then K Q) ⟨#[x0, x1, .pointer (some ⟨gA, 0, none⟩), .pointer (some ⟨gB, 0, none⟩), x4, x5, x6, x7, x8, x9, x10, x11, x12, x13, x14, x15, x16, x17, x18, x19, x20, x21, x22, x23, x24, x25, x26, x27, x28, x29, x30, x31, x32, x33, x34, x35, x36, x37, x38, x39, x40, x41, x42, x43, x44, x45, x46, x47, x48, x49, x50, x51, x52, x53, x54, x55, x56, x57, x58, x59, x60, x61, x62, x63, x64, x65, x66, x67, x68, x69, x70, x71, x72, x73, x74, x75, x76, x77, .int .i64 es.length, .int .i64 0, x80, x81, x82, x83, x84, x85, x86, x87, x88, x89, x90, x91, x92, x93, x94, x95, x96, x97, x98, x99, x100, x101, x102, x103, x104, x105, x106, x107, x108, x109, x110, x111, x112, x113, x114, x115, x116, x117, x118, x119, x120, x121, x122, x123, x124, x125, x126, x127, x128, x129, x130, x131], []⟩ W := by
  have HH : Hid (∀ (y4 y5 y79 y80 y81 y82 y83 y84 y85 y86 y87 y88 y89 y90 y91 y92 y93 : Value) (n : Nat), K ⟨#[x0, x1, .pointer (some ⟨gA, 0, none⟩), .pointer (some ⟨gB, 0, none⟩), y4, y5, x6, x7, x8, x9, x10, x11, x12, x13, x14, x15, x16, x17, x18, x19, x20, x21, x22, x23, x24, x25, x26, x27, x28, x29, x30, x31, x32, x33, x34, x35, x36, x37, x38, x39, x40, x41, x42, x43, x44, x45, x46, x47, x48, x49, x50, x51, x52, x53, x54, x55, x56, x57, x58, x59, x60, x61, x62, x63, x64, x65, x66, x67, x68, x69, x70, x71, x72, x73, x74, x75, x76, x77, .int .i64 es.length, y79, y80, y81, y82, y83, y84, y85, y86, y87, y88, y89, y90, y91, y92, y93, x94, x95, x96, x97, x98, x99, x100, x101, x102, x103, x104, x105, x106, x107, x108, x109, x110, x111, x112, x113, x114, x115, x116, x117, x118, x119, x120, x121, x122, x123, x124, x125, x126, x127, x128, x129, x130, x131], []⟩ (W.drewN n)) := h
  have HE : Hid (Row W S 2 (.slice ea es.length ec) (es.map entC)) := hE
  have HE' : Hid (Row W S' 2 (.slice ea' es.length ec') (es.map entC)) := hE'
  have cA := hA.cell 2
  have cB := hB.cell 2
  simp only [List.getElem?_toArray, List.getElem?_cons_succ, List.getElem?_cons_zero] at cA cB
  unfold maxLen at hm
  clear h hE hE' hA hB
  conv => arg 2; whnf
  go_wp2_with fail
  go_loopw [79] (fun i wr => ∃ k n : Nat, k ≤ es.length ∧ i = .int .i64 k ∧ wr = W.drewN n) (fun i _ => es.length - (intOf i).toNat)
  case atStart => exact ⟨0, 0, Nat.zero_le _, rfl, rfl⟩
  case round =>
    obtain ⟨k, n, hk, rfl, rfl⟩ := hrel
    by_cases hlt : k < es.length
    · obtain ⟨b, o, c, he, hb, h3, h4, h5⟩ := HE.out.some (by rw [List.length_map]; omega)
      obtain ⟨b', o', c', he', hb', h3', h4', h5'⟩ := HE'.out.some (by rw [List.length_map]; omega)
      rw [List.length_map] at he h3 he' h3'
      obtain ⟨rfl, -, rfl⟩ := Value.slice.inj he
      obtain ⟨rfl, -, rfl⟩ := Value.slice.inj he'
      obtain ⟨y, hy⟩ : ∃ y, es[k]? = some y := ⟨_, List.getElem?_eq_getElem hlt⟩
      obtain ⟨d0, d1⟩ := ent_cells h5 hy
      obtain ⟨d2, d3⟩ := ent_cells h5' hy
      have hi : (k : Int) < es.length := by omega
      have heq := fun (w : World) => eqEnt y.name y.obj w
      have hgd := guardEnt
      unfold maxLen at h4 h4'
      clear hy h5 h5' he he'
      go_wp2_with fail
      go_quiet (fail)
      go_wp2
      go_roundw
      case rel => exact ⟨k + 1, _, by omega, by go_num, rfl⟩
      case measure => simp [intOf]; omega
    · go_wp2
      exact HH.out _ _ _ _ _ _ _ _ _ _ _ _ _ _ _ _ _ n
theorem two_boxes (W : World) (A B : Array Value) (t : TypeId) : Blk ((W.alloc (.cells A t)).alloc (.cells B t)).drew W.heap.size A t ∧ Blk ((W.alloc (.cells A t)).alloc (.cells B t)).drew (W.heap.size + 1) B t ∧ Below W.heap.size W ((W.alloc (.cells A t)).alloc (.cells B t)).drew := by
  have h1 : Blk ((W.alloc (.cells A t)).alloc (.cells B t)) W.heap.size A t := (Blk.new W A t).alloc _
  have h2 : Blk ((W.alloc (.cells A t)).alloc (.cells B t)) (W.alloc (.cells A t)).heap.size B t := Blk.new _ _ _
  have hz : (W.alloc (.cells A t)).heap.size = W.heap.size + 1 := by simp
  rw [hz] at h2
  exact ⟨h1, h2, (((Below.refl _ _).alloc (Nat.le_refl _) _).alloc (by simp) _).drew⟩
set_option maxRecDepth 1000000 in
set_option maxHeartbeats 8000000 in
theorem sreg12_wp (Q : Exit → Act → World → Prop) (K : Act → World → Prop) (W : World) (gA gB b o c b' o' c' n k : Nat) (s1 s2 : Sl) (m : Sp.Msg) (_hk : (k : Int) < (n : Int)) (_hc : n ≤ c) (_hc' : n ≤ c') (_hm : c ≤ 2 ^ 63 - 1) (_hm' : c' ≤ 2 ^ 63 - 1) (_hgA : gA < W.heap.size) (_hgB : gB < W.heap.size) (_hb : b < W.heap.size) (_hb' : b' < W.heap.size)
    (_a5 : W.cell? ⟨gA, 5, none⟩ = some (.slice (some ⟨b, o, none⟩) n c)) (_b5 : W.cell? ⟨gB, 5, none⟩ = some (.slice (some ⟨b', o', none⟩) n c'))
    (_m0 : W.cell? ⟨b, o + k * 4, none⟩ = some (.slice s1.a s1.n s1.c)) (_m1 : W.cell? ⟨b, o + k * 4 + 1, none⟩ = some (.bool m.has)) (_m2 : W.cell? ⟨b, o + k * 4 + 2, none⟩ = some (.int .i64 m.op)) (_m3 : W.cell? ⟨b, o + k * 4 + 3, none⟩ = some (.int .i64 m.rt))
    (_n0 : W.cell? ⟨b', o' + k * 4, none⟩ = some (.slice s2.a s2.n s2.c)) (_n1 : W.cell? ⟨b', o' + k * 4 + 1, none⟩ = some (.bool m.has)) (_n2 : W.cell? ⟨b', o' + k * 4 + 2, none⟩ = some (.int .i64 m.op)) (_n3 : W.cell? ⟨b', o' + k * 4 + 3, none⟩ = some (.int .i64 m.rt))
    (x0 x1 x4 x5 x7 x8 x9 x10 x11 x12 x13 x14 x15 x16 x17 x18 x19 x20 x21 x22 x23 x24 x25 x26 x27 x28 x29 x30 x31 x32 x33 x34 x35 x36 x37 x38 x39 x40 x41 x42 x43 x44 x45 x46 x47 x48 x49 x50 x51 x52 x53 x54 x55 x56 x57 x58 x59 x60 x61 x62 x63 x64 x65 x66 x67 x68 x69 x70 x71 x72 x73 x74 x75 x76 x77 x78 x79 x80 x81 x82 x83 x84 x85 x86 x87 x88 x89 x90 x91 x92 x93 x94 x95 x96 x97 x98 x99 x100 x101 x102 x103 x104 x105 x106 x107 x108 x109 x110 x111 x112 x113 x114 x115 x116 x117 x118 x119 x120 x121 x122 x123 x124 x125 x126 x127 x128 x129 x130 x131 : Value)
    (h : ∀ (y100 y101 y102 y103 y104 y105 y106 y107 y108 y109 : Value) (W' : World) (g7 g8 : Nat), g7 ≠ g8 → Blk W' g7 (msgC (s1, m)).toArray 49 → Blk W' g8 (msgC (s2, m)).toArray 49 → Below W.heap.size W W' → K ⟨#[x0, x1, .pointer (some ⟨gA, 0, none⟩), .pointer (some ⟨gB, 0, none⟩), x4, x5, .int .i64 k, .pointer (some ⟨g7, 0, none⟩), .pointer (some ⟨g8, 0, none⟩), x9, x10, x11, x12, x13, x14, x15, x16, x17, x18, x19, x20, x21, x22, x23, x24, x25, x26, x27, x28, x29, x30, x31, x32, x33, x34, x35, x36, x37, x38, x39, x40, x41, x42, x43, x44, x45, x46, x47, x48, x49, x50, x51, x52, x53, x54, x55, x56, x57, x58, x59, x60, x61, x62, x63, x64, x65, x66, x67, x68, x69, x70, x71, x72, x73, x74, x75, x76, x77, x78, x79, x80, x81, x82, x83, x84, x85, x86, x87, x88, x89, x90, x91, x92, x93, x94, x95, x96, x97, x98, x99, y100, y101, y102, y103, y104, y105, y106, y107, y108, y109, x110, x111, x112, x113, x114, x115, x116, x117, x118, x119, x120, x121, x122, x123, x124, x125, x126, x127, x128, x129, x130, x131], []⟩ W') :
    Code.wp Try.prog ((Try.f18.body.bind (findReg 12)).getD .skip) (Exit.then K Q) ⟨#[x0, x1, .pointer (some ⟨gA, 0, none⟩), .pointer (some ⟨gB, 0, none⟩), x4, x5, .int .i64 k, x7, x8, x9, x10, x11, x12, x13, x14, x15, x16, x17, x18, x19, x20, x21, x22, x23, x24, x25, x26, x27, x28, x29, x30, x31, x32, x33, x34, x35, x36, x37, x38, x39, x40, x41, x42, x43, x44, x45, x46, x47, x48, x49, x50, x51, x52, x53, x54, x55, x56, x57, x58, x59, x60, x61, x62, x63, x64, x65, x66, x67, x68, x69, x70, x71, x72, x73, x74, x75, x76, x77, x78, x79, x80, x81, x82, x83, x84, x85, x86, x87, x88, x89, x90, x91, x92, x93, x94, x95, x96, x97, x98, x99, x100, x101, x102, x103, x104, x105, x106, x107, x108, x109, x110, x111, x112, x113, x114, x115, x116, x117, x118, x119, x120, x121, x122, x123, x124, x125, x126, x127, x128, x129, x130, x131], []⟩ W := by
  have HH : Hid (∀ (y100 y101 y102 y103 y104 y105 y106 y107 y108 y109 : Value) (W' : World) (g7 g8 : Nat), g7 ≠ g8 → Blk W' g7 (msgC (s1, m)).toArray 49 → Blk W' g8 (msgC (s2, m)).toArray 49 → Below W.heap.size W W' → K ⟨#[x0, x1, .pointer (some ⟨gA, 0, none⟩), .pointer (some ⟨gB, 0, none⟩), x4, x5, .int .i64 k, .pointer (some ⟨g7, 0, none⟩), .pointer (some ⟨g8, 0, none⟩), x9, x10, x11, x12, x13, x14, x15, x16, x17, x18, x19, x20, x21, x22, x23, x24, x25, x26, x27, x28, x29, x30, x31, x32, x33, x34, x35, x36, x37, x38, x39, x40, x41, x42, x43, x44, x45, x46, x47, x48, x49, x50, x51, x52, x53, x54, x55, x56, x57, x58, x59, x60, x61, x62, x63, x64, x65, x66, x67, x68, x69, x70, x71, x72, x73, x74, x75, x76, x77, x78, x79, x80, x81, x82, x83, x84, x85, x86, x87, x88, x89, x90, x91, x92, x93, x94, x95, x96, x97, x98, x99, y100, y101, y102, y103, y104, y105, y106, y107, y108, y109, x110, x111, x112, x113, x114, x115, x116, x117, x118, x119, x120, x121, x122, x123, x124, x125, x126, x127, x128, x129, x130, x131], []⟩ W') := h
  have hk0 : (0 : Int) ≤ (k : Int) := by omega
  clear h
  refine wp_mono (Q := Exit.then K (fun _ _ _ => False)) ?_ (fun e a w h => by cases e <;> first | exact h | exact h.elim)
  conv => arg 2; whnf
  go_region_held3 (fun w' => w'.cell? ⟨gA, 5, none⟩ = some (.slice (some ⟨b, o, none⟩) n c) ∧ w'.cell? ⟨gB, 5, none⟩ = some (.slice (some ⟨b', o', none⟩) n c') ∧ w'.cell? ⟨b, o + k * 4, none⟩ = some (.slice s1.a s1.n s1.c) ∧ w'.cell? ⟨b, o + k * 4 + 1, none⟩ = some (.bool m.has) ∧ w'.cell? ⟨b, o + k * 4 + 2, none⟩ = some (.int .i64 m.op) ∧ w'.cell? ⟨b, o + k * 4 + 3, none⟩ = some (.int .i64 m.rt) ∧ w'.cell? ⟨b', o' + k * 4, none⟩ = some (.slice s2.a s2.n s2.c) ∧ w'.cell? ⟨b', o' + k * 4 + 1, none⟩ = some (.bool m.has) ∧ w'.cell? ⟨b', o' + k * 4 + 2, none⟩ = some (.int .i64 m.op) ∧ w'.cell? ⟨b', o' + k * 4 + 3, none⟩ = some (.int .i64 m.rt)) (go_keep) (fail)
  · obtain ⟨q1, q2, q3⟩ := two_boxes W (msgC (s1, m)).toArray (msgC (s2, m)).toArray 49
    exact HH.out _ _ _ _ _ _ _ _ _ _ _ W.heap.size (W.heap.size + 1) (by omega) q1 q2 q3
  · obtain ⟨q1, q2, q3⟩ := two_boxes W (msgC (s2, m)).toArray (msgC (s1, m)).toArray 49
    exact HH.out _ _ _ _ _ _ _ _ _ _ _ (W.heap.size + 1) W.heap.size (by omega) q2 q1 q3
theorem msg_cells {w : World} {b o i : Nat} {q : List (Sl × Sp.Msg)} (h5 : ∀ i cs, (q.map msgC)[i]? = some cs → ∀ j u, cs[j]? = some u → w.cell? ⟨b, o + i * 4 + j, none⟩ = some u) {s : Sl} {x : Sp.Msg} (hx : q[i]? = some (s, x)) :
    w.cell? ⟨b, o + i * 4, none⟩ = some (.slice s.a s.n s.c) ∧ w.cell? ⟨b, o + i * 4 + 1, none⟩ = some (.bool x.has) ∧ w.cell? ⟨b, o + i * 4 + 2, none⟩ = some (.int .i64 x.op) ∧ w.cell? ⟨b, o + i * 4 + 3, none⟩ = some (.int .i64 x.rt) := by
  have key := h5 i (msgC (s, x)) (by rw [List.getElem?_map, hx]; rfl)
  exact ⟨key 0 _ rfl, key 1 _ rfl, key 2 _ rfl, key 3 _ rfl⟩
set_option maxRecDepth 1000000 in
set_option maxHeartbeats 8000000 in
theorem sblk2_wp (Q : Exit → Act → World → Prop) (K : Act → World → Prop) (W : World) (gA gB : Nat) (q q' : List (Sl × Sp.Msg)) (S S' : Nat → Prop) (qa qa' : Option Addr) (qc qc' : Nat) (v0 v1 v2 v3 v4 v6 v7 v8 u0 u1 u2 u3 u4 u6 u7 u8 : Value) (hA : Blk W gA #[v0, v1, v2, v3, v4, .slice qa q.length qc, v6, v7, v8] 40) (hB : Blk W gB #[u0, u1, u2, u3, u4, .slice qa' q.length qc', u6, u7, u8] 40) (hS : ∀ b, S b → b < W.heap.size) (hS' : ∀ b, S' b → b < W.heap.size) (hE : Row W S 4 (.slice qa q.length qc) (q.map msgC) ∧ ∀ t ∈ q, Bytes W S (.slice t.1.a t.1.n t.1.c) t.2.data) (hE' : Row W S' 4 (.slice qa' q.length qc') (q'.map msgC) ∧ ∀ t ∈ q', Bytes W S' (.slice t.1.a t.1.n t.1.c) t.2.data) (hqq : q.map Prod.snd = q'.map Prod.snd) (hm : q.length ≤ maxLen)
    (x0 x1 x4 x5 x6 x7 x8 x9 x10 x11 x12 x13 x14 x15 x16 x17 x18 x19 x20 x21 x22 x23 x24 x25 x26 x27 x28 x29 x30 x31 x32 x33 x34 x35 x36 x37 x38 x39 x40 x41 x42 x43 x44 x45 x46 x47 x48 x49 x50 x51 x52 x53 x54 x55 x56 x57 x58 x59 x60 x61 x62 x63 x64 x65 x66 x67 x68 x69 x70 x71 x72 x73 x74 x75 x76 x77 x78 x79 x80 x81 x82 x83 x84 x85 x86 x87 x88 x89 x90 x91 x92 x93 x94 x95 x98 x99 x100 x101 x102 x103 x104 x105 x106 x107 x108 x109 x110 x111 x112 x113 x114 x115 x116 x117 x118 x119 x120 x121 x122 x123 x124 x125 x126 x127 x128 x129 x130 x131 : Value)
    (h : ∀ (y4 y6 y7 y8 y97 y98 y99 y100 y101 y102 y103 y104 y105 y106 y107 y108 y109 y110 y111 y112 y113 y114 y115 y116 y117 y118 y119 y120 y121 y122 y123 y124 y125 y126 y127 y128 y129 y130 y131 : Value) (W' : World), Below W.heap.size W W' → K ⟨#[x0, x1, .pointer (some ⟨gA, 0, none⟩), .pointer (some ⟨gB, 0, none⟩), y4, x5, y6, y7, y8, x9, x10, x11, x12, x13, x14, x15, x16, x17, x18, x19, x20, x21, x22, x23, x24, x25, x26, x27, x28, x29, x30, x31, x32, x33, x34, x35, x36, x37, x38, x39, x40, x41, x42, x43, x44, x45, x46, x47, x48, x49, x50, x51, x52, x53, x54, x55, x56, x57, x58, x59, x60, x61, x62, x63, x64, x65, x66, x67, x68, x69, x70, x71, x72, x73, x74, x75, x76, x77, x78, x79, x80, x81, x82, x83, x84, x85, x86, x87, x88, x89, x90, x91, x92, x93, x94, x95, .int .i64 q.length, y97, y98, y99, y100, y101, y102, y103, y104, y105, y106, y107, y108, y109, y110, y111, y112, y113, y114, y115, y116, y117, y118, y119, y120, y121, y122, y123, y124, y125, y126, y127, y128, y129, y130, y131], []⟩ W') :
    Code.wp Try.prog ((Try.f18.body.bind (findBlock 2)).getD .skip) (Exit.then K Q) ⟨#[x0, x1, .pointer (some ⟨gA, 0, none⟩), .pointer (some ⟨gB, 0, none⟩), x4, x5, x6, x7, x8, x9, x10, x11, x12, x13, x14, x15, x16, x17, x18, x19, x20, x21, x22, x23, x24, x25, x26, x27, x28, x29, x30, x31, x32, x33, x34, x35, x36, x37, x38, x39, x40, x41, x42, x43, x44, x45, x46, x47, x48, x49, x50, x51, x52, x53, x54, x55, x56, x57, x58, x59, x60, x61, x62, x63, x64, x65, x66, x67, x68, x69, x70, x71, x72, x73, x74, x75, x76, x77, x78, x79, x80, x81, x82, x83, x84, x85, x86, x87, x88, x89, x90, x91, x92, x93, x94, x95, .int .i64 q.length, .int .i64 0, x98, x99, x100, x101, x102, x103, x104, x105, x106, x107, x108, x109, x110, x111, x112, x113, x114, x115, x116, x117, x118, x119, x120, x121, x122, x123, x124, x125, x126, x127, x128, x129, x130, x131], []⟩ W := by
  have HH : Hid (∀ (y4 y6 y7 y8 y97 y98 y99 y100 y101 y102 y103 y104 y105 y106 y107 y108 y109 y110 y111 y112 y113 y114 y115 y116 y117 y118 y119 y120 y121 y122 y123 y124 y125 y126 y127 y128 y129 y130 y131 : Value) (W' : World), Below W.heap.size W W' → K ⟨#[x0, x1, .pointer (some ⟨gA, 0, none⟩), .pointer (some ⟨gB, 0, none⟩), y4, x5, y6, y7, y8, x9, x10, x11, x12, x13, x14, x15, x16, x17, x18, x19, x20, x21, x22, x23, x24, x25, x26, x27, x28, x29, x30, x31, x32, x33, x34, x35, x36, x37, x38, x39, x40, x41, x42, x43, x44, x45, x46, x47, x48, x49, x50, x51, x52, x53, x54, x55, x56, x57, x58, x59, x60, x61, x62, x63, x64, x65, x66, x67, x68, x69, x70, x71, x72, x73, x74, x75, x76, x77, x78, x79, x80, x81, x82, x83, x84, x85, x86, x87, x88, x89, x90, x91, x92, x93, x94, x95, .int .i64 q.length, y97, y98, y99, y100, y101, y102, y103, y104, y105, y106, y107, y108, y109, y110, y111, y112, y113, y114, y115, y116, y117, y118, y119, y120, y121, y122, y123, y124, y125, y126, y127, y128, y129, y130, y131], []⟩ W') := h
  have HE : Hid _ := hE
  have HE' : Hid _ := hE'
  have HS : Hid (∀ b, S b → b < W.heap.size) := hS
  have HS' : Hid (∀ b, S' b → b < W.heap.size) := hS'
  have HQQ : Hid (q.map Prod.snd = q'.map Prod.snd) := hqq
  have hql : q'.length = q.length := by
    have := congrArg List.length hqq
    simpa using this.symm
  have HA : Hid _ := hA
  have HB : Hid _ := hB
  have hgA := hA.lt
  have hgB := hB.lt
  unfold maxLen at hm
  have HQL : Hid (q'.length = q.length) := hql
  clear h hE hE' hA hB hqq hS hS' hql
  conv => arg 2; whnf
  go_wp2_with fail
  go_loopw [97] (fun i wr => ∃ k : Nat, k ≤ q.length ∧ i = .int .i64 k ∧ Below W.heap.size W wr) (fun i _ => q.length - (intOf i).toNat)
  case atStart => exact ⟨0, Nat.zero_le _, rfl, Below.refl _ _⟩
  case round =>
    obtain ⟨k, hk, rfl, hBl⟩ := hrel
    have HBL : Hid (Below W.heap.size W wr) := hBl
    have hzr := hBl.size
    clear hBl
    by_cases hlt : k < q.length
    · have hlt' : k < q'.length := by have := HQL.out; omega
      have r1 := HE.out.1.on ((On.of HBL.out).less HS.out)
      have r2 := HE'.out.1.on ((On.of HBL.out).less HS'.out)
      obtain ⟨b, o, c, he, hb, h3, h4, h5⟩ := r1.some (by rw [List.length_map]; omega)
      obtain ⟨b', o', c', he', hb', h3', h4', h5'⟩ := r2.some (by rw [List.length_map]; omega)
      rw [List.length_map] at he h3 he' h3'
      obtain ⟨ea1, en1, ec1⟩ := Value.slice.inj he
      obtain ⟨ea2, en2, ec2⟩ := Value.slice.inj he'
      have hbl := HS.out b hb
      have hbl' := HS'.out b' hb'
      rcases hq1 : q[k] with ⟨s1, m⟩
      rcases hq2 : q'[k] with ⟨s2, m'⟩
      have hmm : m' = m := by
        have e1 : (q.map Prod.snd)[k]? = some m := by rw [List.getElem?_map, List.getElem?_eq_getElem hlt, hq1]; rfl
        have e2 : (q'.map Prod.snd)[k]? = some m' := by rw [List.getElem?_map, List.getElem?_eq_getElem hlt', hq2]; rfl
        rw [HQQ.out, e2] at e1
        exact Option.some.inj e1
      subst hmm
      obtain ⟨d0, d1, d2, d3⟩ := msg_cells h5 (show q[k]? = some (s1, m') by rw [List.getElem?_eq_getElem hlt, hq1])
      obtain ⟨f0, f1, f2, f3⟩ := msg_cells h5' (show q'[k]? = some (s2, m') by rw [List.getElem?_eq_getElem hlt', hq2])
      have y1 : Bytes W S (.slice s1.a s1.n s1.c) m'.data := by have := HE.out.2 _ (List.getElem_mem hlt); rw [hq1] at this; exact this
      have y2 : Bytes W S' (.slice s2.a s2.n s2.c) m'.data := by have := HE'.out.2 _ (List.getElem_mem hlt'); rw [hq2] at this; exact this
      have Y1 : Hid (Bytes W S (.slice s1.a s1.n s1.c) m'.data) := y1
      have Y2 : Hid (Bytes W S' (.slice s2.a s2.n s2.c) m'.data) := y2
      have a5 : wr.cell? ⟨gA, 5, none⟩ = some (.slice (some ⟨b, o, none⟩) q.length c) := by rw [Blk.cell (Blk.below HA.out HBL.out hgA), ← ea1, ec1]; rfl
      have b5 : wr.cell? ⟨gB, 5, none⟩ = some (.slice (some ⟨b', o', none⟩) q.length c') := by rw [Blk.cell (Blk.below HB.out HBL.out hgB), ← ea2, ec2]; rfl
      have hki : (k : Int) < (q.length : Int) := by omega
      have hql := HQL.out
      unfold maxLen at h4 h4'
      clear r1 r2 h5 h5' he he' ea1 en1 ec1 ea2 en2 ec2 hb hb' y1 y2 hq1 hq2
      go_upto_region 12 with fail
      refine sreg12_wp _ _ wr gA gB b o c b' o' c' q.length k s1 s2 m' hki h3 (by omega) h4 h4' (by omega) (by omega) (by omega) (by omega) a5 b5 d0 d1 d2 d3 f0 f1 f2 f3 _ _ _ _ _ _ _ _ _ _ _ _ _ _ _ _ _ _ _ _ _ _ _ _ _ _ _ _ _ _ _ _ _ _ _ _ _ _ _ _ _ _ _ _ _ _ _ _ _ _ _ _ _ _ _ _ _ _ _ _ _ _ _ _ _ _ _ _ _ _ _ _ _ _ _ _ _ _ _ _ _ _ _ _ _ _ _ _ _ _ _ _ _ _ _ _ _ _ _ _ _ _ _ _ _ _ _ _ _ _ _ _ _ _ _ _ _ _ _ _ _ _ _ _ _ _ _ _ _ ?_
      intro y100 y101 y102 y103 y104 y105 y106 y107 y108 y109 W2 g7 g8 hne hb7 hb8 hbl2
      dsimp only
      have HBL2 : Hid (Below W.heap.size W W2) := HBL.out.trans (hbl2.mono hzr)
      have k1 := conv_any m'.data _ W2 S (Row.on Y1.out ((On.of HBL2.out).less HS.out))
      have k2 := conv_any m'.data _ W2 S' (Row.on Y2.out ((On.of HBL2.out).less HS'.out))
      have c7 := hb7.cell
      have c8 := hb8.cell
      have heq := fun (w : World) => eqCap m'.op m'.rt w
      have hgd := guardCap
      unfold msgC at c7 c8
      clear hb7 hb8 hbl2 hql a5 b5 d0 d1 d2 d3 f0 f1 f2 f3 Y1 Y2
      go_wp2
      exact ⟨⟨k + 1, by omega, by go_num, HBL2.out⟩, by simp [intOf]; omega⟩
    · go_wp2
      exact HH.out _ _ _ _ _ _ _ _ _ _ _ _ _ _ _ _ _ _ _ _ _ _ _ _ _ _ _ _ _ _ _ _ _ _ _ _ _ _ _ _ HBL.out
end Go.Proofs.Ythoacakdmnijcaa
/-
  rgref5.SameObject, SameObjects, walked, at objects that are the same.
-/
namespace Go.Proofs.Ythoacakdmnijcaa
open Go.RowKit
set_option maxRecDepth 1000000 in
set_option maxHeartbeats 8000000 in
theorem same_obj (s s' : Sls) (o : Sp.Ob) (S S' : Nat → Prop) (w : World) (h : Lists w S (s, o)) (h' : Lists w S' (s', o)) (hS : ∀ b, S b → b < w.heap.size) (hS' : ∀ b, S' b → b < w.heap.size) :
    Calls Try.prog 18 #[.agg (objC (s, o)).toArray, .agg (objC (s', o)).toArray] w fun e w' => e = .returned (.bool true) ∧ Below w.heap.size w w' := by
  have HL : Hid (Lists w S (s, o)) := h
  have HL' : Hid (Lists w S' (s', o)) := h'
  have HS : Hid (∀ b, S b → b < w.heap.size) := hS
  have HS' : Hid (∀ b, S' b → b < w.heap.size) := hS'
  obtain ⟨ea, ec, he, hem⟩ := Row.form h.2.1
  obtain ⟨ea', ec', he', -⟩ := Row.form h'.2.1
  obtain ⟨q, q', hq1, hq2, hq3⟩ : ∃ q q' : List (Sl × Sp.Msg), o.queue = q.map Prod.snd ∧ (Row w S 4 (.slice s.q.a s.q.n s.q.c) (q.map msgC) ∧ ∀ t ∈ q, Bytes w S (.slice t.1.a t.1.n t.1.c) t.2.data) ∧ o.queue = q'.map Prod.snd ∧ (Row w S' 4 (.slice s'.q.a s'.q.n s'.q.c) (q'.map msgC) ∧ ∀ t ∈ q', Bytes w S' (.slice t.1.a t.1.n t.1.c) t.2.data) := by
    obtain ⟨q, a1, a2, a3⟩ := h.2.2
    obtain ⟨q', b1, b2, b3⟩ := h'.2.2
    exact ⟨q, q', a1, ⟨a2, a3⟩, b1, b2, b3⟩
  obtain ⟨qa, qc, hqe, hqm⟩ := hq2.1.form
  obtain ⟨qa', qc', hqe', -⟩ := hq3.2.1.form
  rw [List.length_map] at he he' hem hqe hqe' hqm
  have hql : q'.length = q.length := by
    have := congrArg List.length (hq1.symm.trans hq3.1)
    simpa using this.symm
  rw [hql] at hqe'
  simp only [objV_eq]
  rw [he, he', hqe, hqe']
  have HQ : Hid (Row w S 4 (.slice qa q.length qc) (q.map msgC) ∧ ∀ t ∈ q, Bytes w S (.slice t.1.a t.1.n t.1.c) t.2.data) := by rw [← hqe]; exact hq2
  have HQ' : Hid (Row w S' 4 (.slice qa' q.length qc') (q'.map msgC) ∧ ∀ t ∈ q', Bytes w S' (.slice t.1.a t.1.n t.1.c) t.2.data) := by rw [← hqe']; exact hq3.2
  have HQQ : Hid (q.map Prod.snd = q'.map Prod.snd) := hq1.symm.trans hq3.1
  have HE : Hid (Row w S 2 (.slice ea o.ents.length ec) (o.ents.map entC)) := by rw [← he]; exact h.2.1
  have HE' : Hid (Row w S' 2 (.slice ea' o.ents.length ec') (o.ents.map entC)) := by rw [← he']; exact h'.2.1
  have HD : Hid (Bytes w S (.slice s.d.a s.d.n s.d.c) o.data) := h.1
  have HD' : Hid (Bytes w S' (.slice s'.d.a s'.d.n s'.d.c) o.data) := h'.1
  unfold maxLen at hem hqm
  clear h h' hS hS' he he' hq1 hq2 hq3 hqe hqe' hql HL HL'
  go_enter Try.func18, Try.ntmps18
  go_upto_region 1 with fail
  have hBx : Below w.heap.size w ((w.alloc (.cells #[.int .i64 o.kind, .slice s.d.a s.d.n s.d.c, .slice ea o.ents.length ec, .string o.target, .int .i64 o.peer, .slice qa q.length qc, .int .i64 o.proc, .int .i64 o.links, .int .i64 o.up] 40)).alloc (.cells #[.int .i64 o.kind, .slice s'.d.a s'.d.n s'.d.c, .slice ea' o.ents.length ec', .string o.target, .int .i64 o.peer, .slice qa' q.length qc', .int .i64 o.proc, .int .i64 o.links, .int .i64 o.up] 40)) := ((Below.refl _ _).alloc (Nat.le_refl _) _).alloc (by simp) _
  have hA : Blk ((w.alloc (.cells #[.int .i64 o.kind, .slice s.d.a s.d.n s.d.c, .slice ea o.ents.length ec, .string o.target, .int .i64 o.peer, .slice qa q.length qc, .int .i64 o.proc, .int .i64 o.links, .int .i64 o.up] 40)).alloc (.cells #[.int .i64 o.kind, .slice s'.d.a s'.d.n s'.d.c, .slice ea' o.ents.length ec', .string o.target, .int .i64 o.peer, .slice qa' q.length qc', .int .i64 o.proc, .int .i64 o.links, .int .i64 o.up] 40)) w.heap.size #[.int .i64 o.kind, .slice s.d.a s.d.n s.d.c, .slice ea o.ents.length ec, .string o.target, .int .i64 o.peer, .slice qa q.length qc, .int .i64 o.proc, .int .i64 o.links, .int .i64 o.up] 40 := (Blk.new w _ _).alloc _
  have hzA : (w.alloc (.cells #[.int .i64 o.kind, .slice s.d.a s.d.n s.d.c, .slice ea o.ents.length ec, .string o.target, .int .i64 o.peer, .slice qa q.length qc, .int .i64 o.proc, .int .i64 o.links, .int .i64 o.up] 40)).heap.size = w.heap.size + 1 := by simp
  have hB : Blk ((w.alloc (.cells #[.int .i64 o.kind, .slice s.d.a s.d.n s.d.c, .slice ea o.ents.length ec, .string o.target, .int .i64 o.peer, .slice qa q.length qc, .int .i64 o.proc, .int .i64 o.links, .int .i64 o.up] 40)).alloc (.cells #[.int .i64 o.kind, .slice s'.d.a s'.d.n s'.d.c, .slice ea' o.ents.length ec', .string o.target, .int .i64 o.peer, .slice qa' q.length qc', .int .i64 o.proc, .int .i64 o.links, .int .i64 o.up] 40)) (w.heap.size + 1) #[.int .i64 o.kind, .slice s'.d.a s'.d.n s'.d.c, .slice ea' o.ents.length ec', .string o.target, .int .i64 o.peer, .slice qa' q.length qc', .int .i64 o.proc, .int .i64 o.links, .int .i64 o.up] 40 := by rw [← hzA]; exact Blk.new _ _ _
  have hzW : ((w.alloc (.cells #[.int .i64 o.kind, .slice s.d.a s.d.n s.d.c, .slice ea o.ents.length ec, .string o.target, .int .i64 o.peer, .slice qa q.length qc, .int .i64 o.proc, .int .i64 o.links, .int .i64 o.up] 40)).alloc (.cells #[.int .i64 o.kind, .slice s'.d.a s'.d.n s'.d.c, .slice ea' o.ents.length ec', .string o.target, .int .i64 o.peer, .slice qa' q.length qc', .int .i64 o.proc, .int .i64 o.links, .int .i64 o.up] 40)).heap.size = w.heap.size + 2 := by simp
  generalize ((w.alloc (.cells #[.int .i64 o.kind, .slice s.d.a s.d.n s.d.c, .slice ea o.ents.length ec, .string o.target, .int .i64 o.peer, .slice qa q.length qc, .int .i64 o.proc, .int .i64 o.links, .int .i64 o.up] 40)).alloc (.cells #[.int .i64 o.kind, .slice s'.d.a s'.d.n s'.d.c, .slice ea' o.ents.length ec', .string o.target, .int .i64 o.peer, .slice qa' q.length qc', .int .i64 o.proc, .int .i64 o.links, .int .i64 o.up] 40)) = W1 at *
  have hon := (On.of hBx).less HS.out
  have hon' := (On.of hBx).less HS'.out
  have k1 := conv_any o.data _ W1 S (Row.on HD.out hon)
  have k2 := conv_any o.data _ W1 S' (Row.on HD'.out hon')
  have HE1 : Hid (Row W1 S 2 (.slice ea o.ents.length ec) (o.ents.map entC)) := Row.on HE.out hon
  have HE1' : Hid (Row W1 S' 2 (.slice ea' o.ents.length ec') (o.ents.map entC)) := Row.on HE'.out hon'
  have HQ1 : Hid (Row W1 S 4 (.slice qa q.length qc) (q.map msgC) ∧ ∀ t ∈ q, Bytes W1 S (.slice t.1.a t.1.n t.1.c) t.2.data) := ⟨Row.on HQ.out.1 hon, fun t ht => Row.on (HQ.out.2 t ht) hon⟩
  have HQ1' : Hid (Row W1 S' 4 (.slice qa' q.length qc') (q'.map msgC) ∧ ∀ t ∈ q', Bytes W1 S' (.slice t.1.a t.1.n t.1.c) t.2.data) := ⟨Row.on HQ'.out.1 hon', fun t ht => Row.on (HQ'.out.2 t ht) hon'⟩
  have HBX : Hid (Below w.heap.size w W1) := hBx
  have HA : Hid (Blk W1 w.heap.size #[.int .i64 o.kind, .slice s.d.a s.d.n s.d.c, .slice ea o.ents.length ec, .string o.target, .int .i64 o.peer, .slice qa q.length qc, .int .i64 o.proc, .int .i64 o.links, .int .i64 o.up] 40) := hA
  have HB : Hid (Blk W1 (w.heap.size + 1) #[.int .i64 o.kind, .slice s'.d.a s'.d.n s'.d.c, .slice ea' o.ents.length ec', .string o.target, .int .i64 o.peer, .slice qa' q.length qc', .int .i64 o.proc, .int .i64 o.links, .int .i64 o.up] 40) := hB
  have HZW : Hid (W1.heap.size = w.heap.size + 2) := hzW
  have cA := hA.cell
  have cB := hB.cell
  clear hBx hA hB hzA hzW hon hon' HD HD' HE HE' HQ HQ'
  go_upto_block 0 with fail
  refine sblk0_wp _ _ W1 w.heap.size (w.heap.size + 1) o.ents S S' ea ea' ec ec' _ _ _ _ _ _ _ _ _ _ _ _ _ _ _ _ HA.out HB.out HE1.out HE1'.out (by unfold maxLen; omega) _ _ _ _ _ _ _ _ _ _ _ _ _ _ _ _ _ _ _ _ _ _ _ _ _ _ _ _ _ _ _ _ _ _ _ _ _ _ _ _ _ _ _ _ _ _ _ _ _ _ _ _ _ _ _ _ _ _ _ _ _ _ _ _ _ _ _ _ _ _ _ _ _ _ _ _ _ _ _ _ _ _ _ _ _ _ _ _ _ _ _ _ _ _ _ _ _ _ _ _ _ _ _ _ _ _ _ _ _ _ _ _ _ _ _ _ _ _ _ _ _ _ _ _ _ _ _ _ ?_
  intro y4 y5 y79 y80 y81 y82 y83 y84 y85 y86 y87 y88 y89 y90 y91 y92 y93 n1
  dsimp only
  have d0 : ∀ g cs t, Blk W1 g cs t → Blk (W1.drewN n1) g cs t := fun g cs t h => h.on (S := fun _ => True) (fun _ _ => by simp) trivial
  have dn : On (fun _ => True) W1 (W1.drewN n1) := fun _ _ => by simp
  have HA2 := d0 _ _ _ HA.out
  have HB2 := d0 _ _ _ HB.out
  have hz2 : (W1.drewN n1).heap.size = w.heap.size + 2 := by simp; exact HZW.out
  have hbx2 : Below w.heap.size w (W1.drewN n1) := HBX.out.trans ⟨rfl, rfl, rfl, Nat.le_refl _, fun _ _ => rfl⟩
  have hq2 : Row (W1.drewN n1) S 4 (.slice qa q.length qc) (q.map msgC) ∧ ∀ t ∈ q, Bytes (W1.drewN n1) S (.slice t.1.a t.1.n t.1.c) t.2.data := ⟨Row.on HQ1.out.1 (dn.less fun _ _ => trivial), fun t ht => Row.on (HQ1.out.2 t ht) (dn.less fun _ _ => trivial)⟩
  have hq2' : Row (W1.drewN n1) S' 4 (.slice qa' q.length qc') (q'.map msgC) ∧ ∀ t ∈ q', Bytes (W1.drewN n1) S' (.slice t.1.a t.1.n t.1.c) t.2.data := ⟨Row.on HQ1'.out.1 (dn.less fun _ _ => trivial), fun t ht => Row.on (HQ1'.out.2 t ht) (dn.less fun _ _ => trivial)⟩
  generalize W1.drewN n1 = W2 at *
  have HA3 : Hid _ := HA2
  have HB3 : Hid _ := HB2
  have HBX2 : Hid (Below w.heap.size w W2) := hbx2
  have HQ2 : Hid _ := hq2
  have HQ2' : Hid _ := hq2'
  have HZ2 : Hid (W2.heap.size = w.heap.size + 2) := hz2
  have cA2 := HA2.cell
  clear d0 dn HA2 HB2 hz2 hbx2 hq2 hq2' cA cB k1 k2 HA HB HQ1 HQ1' HE1 HE1' HBX HZW
  go_upto_block 2 with fail
  refine sblk2_wp _ _ W2 w.heap.size (w.heap.size + 1) q q' S S' qa qa' qc qc' _ _ _ _ _ _ _ _ _ _ _ _ _ _ _ _ HA3.out HB3.out (fun b hb => by have := HS.out b hb; have := HZ2.out; omega) (fun b hb => by have := HS'.out b hb; have := HZ2.out; omega) HQ2.out HQ2'.out HQQ.out (by unfold maxLen; omega) _ _ _ _ _ _ _ _ _ _ _ _ _ _ _ _ _ _ _ _ _ _ _ _ _ _ _ _ _ _ _ _ _ _ _ _ _ _ _ _ _ _ _ _ _ _ _ _ _ _ _ _ _ _ _ _ _ _ _ _ _ _ _ _ _ _ _ _ _ _ _ _ _ _ _ _ _ _ _ _ _ _ _ _ _ _ _ _ _ _ _ _ _ _ _ _ _ _ _ _ _ _ _ _ _ _ _ _ _ _ _ _ _ _ _ _ _ _ _ _ _ _ _ _ _ _ _ _ ?_
  intro y4 y6 y7 y8 y97 y98 y99 y100 y101 y102 y103 y104 y105 y106 y107 y108 y109 y110 y111 y112 y113 y114 y115 y116 y117 y118 y119 y120 y121 y122 y123 y124 y125 y126 y127 y128 y129 y130 y131 W3 hb3
  dsimp only
  have HF : Hid (Below w.heap.size w W3) := HBX2.out.trans (hb3.mono (by have := HZ2.out; omega))
  clear hb3 cA2
  go_wp2
  go_ret
  exact ⟨rfl, HF.out⟩
set_option maxRecDepth 100000 in
set_option maxHeartbeats 4000000 in
theorem same_objs (L : List Sp.Ob) (v v' : Value) (S S' : Nat → Prop) (w : World) (h : Objs w S v L) (h' : Objs w S' v' L) (hS : ∀ b, S b → b < w.heap.size) (hS' : ∀ b, S' b → b < w.heap.size) :
    Calls Try.prog 21 #[v, v'] w fun e w' => e = .returned (.bool true) ∧ Below w.heap.size w w' := by
  obtain ⟨a, c, rfl, hm⟩ := h.form
  obtain ⟨a', c', rfl, -⟩ := h'.form
  have HV : Hid (Objs w S (.slice a L.length c) L) := h
  have HV' : Hid (Objs w S' (.slice a' L.length c') L) := h'
  have HS : Hid (∀ b, S b → b < w.heap.size) := hS
  have HS' : Hid (∀ b, S' b → b < w.heap.size) := hS'
  unfold maxLen at hm
  clear h h' hS hS'
  go_enter Try.func21, Try.ntmps21
  go_wp2_with fail
  go_loopw [13] (fun i wr => ∃ k : Nat, k ≤ L.length ∧ i = .int .i64 k ∧ Below w.heap.size w wr) (fun i _ => L.length - (intOf i).toNat)
  case atStart => exact ⟨0, Nat.zero_le _, rfl, Below.refl _ _⟩
  case round =>
    obtain ⟨k, hk, rfl, hB⟩ := hrel
    have HB : Hid (Below w.heap.size w wr) := hB
    clear hB
    by_cases hlt : k < L.length
    · have hx : L[k]? = some L[k] := List.getElem?_eq_getElem hlt
      obtain ⟨b, o, c2, s, he, hSb, h3, h4, hl, c0, c1, c2', c3, c4, c5, c6, c7, c8⟩ := (HV.out.on ((On.of HB.out).less HS.out)).open hx
      obtain ⟨b', o', c2'', s', he', hSb', h3', h4', hl', e0, e1, e2, e3, e4, e5, e6, e7, e8⟩ := (HV'.out.on ((On.of HB.out).less HS'.out)).open hx
      obtain ⟨rfl, -, rfl⟩ := Value.slice.inj he
      obtain ⟨rfl, -, rfl⟩ := Value.slice.inj he'
      have hz := HB.out.size
      have HSA : Hid (∀ W, Below wr.heap.size wr W → Calls Try.prog 18 #[.agg (objC (s, L[k])).toArray, .agg (objC (s', L[k])).toArray] W fun e w' => e = .returned (.bool true) ∧ Below W.heap.size W w') := fun W hW => same_obj s s' L[k] S S' W (hl.on ((On.of hW).less fun b hb => by have := HS.out b hb; omega)) (hl'.on ((On.of hW).less fun b hb => by have := HS'.out b hb; omega)) (fun b hb => by have := HS.out b hb; have := hW.size; omega) (fun b hb => by have := HS'.out b hb; have := hW.size; omega)
      simp only [objV_eq] at HSA
      have hkz : (k : Int) < (L.length : Int) := by omega
      have hbl := HS.out b hSb
      have hbl' := HS'.out b' hSb'
      unfold maxLen at h4 h4'
      generalize L[k] = x at *
      clear hx he he' hl hl' hSb hSb'
      have HSD := Hid.out HSA wr.drew (Below.refl _ _).drew
      have HSE : Hid _ := HSD
      clear HSD HSA
      go_wp2_with fail
      go_region_with (first
        | (go_at_call 18; go_must (refine Calls.mono HSE.out ?_; rintro e W2 ⟨rfl, hb2⟩)))
      all_goals
        have HB2 : Hid (Below w.heap.size w W2) := HB.out.trans ((Below.refl _ _).drew.trans (hb2.mono hz))
        clear hb2 c0 c1 c2' c3 c4 c5 c6 c7 c8 e0 e1 e2 e3 e4 e5 e6 e7 e8 HSE
        go_wp2
        exact ⟨⟨k + 1, by omega, by go_num, HB2.out⟩, by simp [intOf]; omega⟩
    · go_wp2
      go_ret
      exact ⟨rfl, HB.out⟩
end Go.Proofs.Ythoacakdmnijcaa
