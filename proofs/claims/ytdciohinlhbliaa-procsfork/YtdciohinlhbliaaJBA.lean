
/-
  rgref5.Build, piece by piece: a process begins; a process is laid down.
-/
import Derived.Test.YtdciohinlhbliaaBW60
import Derived.Test.YtdciohinlhbliaaRPair
import Derived.Test.YtdciohinlhbliaaBPlain
import Derived.Test.YtdciohinlhbliaaBW2
import Derived.Test.YtdciohinlhbliaaRPut
import Derived.Lib.SlBytesConst
import Derived.Deep.CutRange
import Derived.Deep.CutBlock
import Derived.Test.YtdciohinlhbliaaBW50
import Derived.Test.YtdciohinlhbliaaBW0
namespace Go.Proofs.Ytdciohinlhbliaa
open Go.RowKit
set_option maxRecDepth 1000000 in
set_option maxHeartbeats 8000000 in
theorem reg56_wp (Q : Exit → Act → World → Prop) (K : Act → World → Prop) (W : World) (g p : Nat) (Sb : Nat → Prop) (hSb : ∀ b, Sb b → b < g) (hmk : MK W g Sb)
    (x0 x1 x2 x4 x5 x6 x7 x8 x9 x10 x11 x12 x13 x14 x15 x16 x17 x18 x19 x20 x21 x22 x23 x24 x25 x27 x28 x29 x30 x31 x32 x33 x34 x35 x36 x37 x38 x39 x40 x41 x42 x43 x44 x45 x46 x47 x48 x49 x50 x51 x52 x53 x54 x55 x56 x57 x58 x59 x60 x61 x62 x63 x64 x65 x66 x67 x68 x69 x70 x71 x72 x73 x74 x75 x76 x77 x78 x79 x80 x81 x82 x83 x84 x85 x86 x87 x88 x89 x90 x91 x92 x93 x94 x95 x96 x97 x98 x99 x100 x101 x102 x103 x104 x105 x106 x107 x108 x109 x110 x111 x112 x113 x114 x115 x116 x117 x118 x119 x120 x121 x122 x123 x124 x125 x126 x127 x128 x129 x130 x131 x132 x133 x134 x135 x136 x137 x138 x139 x140 x141 x142 x143 x144 x145 x146 x147 x148 x149 x150 x151 x152 x153 x154 x155 x156 x157 x158 x159 x160 x161 x162 x163 x164 x165 x166 x167 x168 x169 x170 x171 x172 x173 x174 x175 x176 x177 x178 x179 x180 x181 x182 x183 x184 x185 x186 x187 x188 x189 x190 x191 x192 x193 x194 x195 x196 x197 x198 x199 x200 x201 x202 x203 x204 x205 x206 x207 x208 x209 x210 x211 x212 x213 x214 x215 x216 x217 x218 x219 x220 x221 x222 x223 x224 x225 x226 x227 x228 x229 x230 x231 x232 x233 x234 x235 x236 x237 x238 x239 x240 x241 x242 x243 x244 x245 x246 x247 x248 x249 x250 x251 x252 x253 x254 x255 x256 x257 x258 x259 x260 x261 x262 x263 x264 x265 x266 x267 x268 x269 x270 x271 x272 x273 x274 x275 x276 x277 x278 x279 x280 x281 x282 x283 x284 x285 x286 x287 x288 x289 x290 x291 x292 x293 x294 x295 x296 x297 x298 : Value)
    (h : ∀ (y188 y189 y190 y191 y192 y193 y194 y195 y196 y197 y198 : Value) (W' : World) (lv fe : Bool), (p = 0 → lv = true) → Blk W' W.heap.size #[.bool lv, .bool fe, .int .i64 0, .slice none 0 0] 43 → Pn g Sb W W' → W'.heap.size = W.heap.size + 1 → K ⟨#[x0, x1, x2, .pointer (some ⟨g, 0, none⟩), x4, x5, x6, x7, x8, x9, x10, x11, x12, x13, x14, x15, x16, x17, x18, x19, x20, x21, x22, x23, x24, x25, .int .i64 p, .pointer (some ⟨W.heap.size, 0, none⟩), x28, x29, x30, x31, x32, x33, x34, x35, x36, x37, x38, x39, x40, x41, x42, x43, x44, x45, x46, x47, x48, x49, x50, x51, x52, x53, x54, x55, x56, x57, x58, x59, x60, x61, x62, x63, x64, x65, x66, x67, x68, x69, x70, x71, x72, x73, x74, x75, x76, x77, x78, x79, x80, x81, x82, x83, x84, x85, x86, x87, x88, x89, x90, x91, x92, x93, x94, x95, x96, x97, x98, x99, x100, x101, x102, x103, x104, x105, x106, x107, x108, x109, x110, x111, x112, x113, x114, x115, x116, x117, x118, x119, x120, x121, x122, x123, x124, x125, x126, x127, x128, x129, x130, x131, x132, x133, x134, x135, x136, x137, x138, x139, x140, x141, x142, x143, x144, x145, x146, x147, x148, x149, x150, x151, x152, x153, x154, x155, x156, x157, x158, x159, x160, x161, x162, x163, x164, x165, x166, x167, x168, x169, x170, x171, x172, x173, x174, x175, x176, x177, x178, x179, x180, x181, x182, x183, x184, x185, x186, x187, y188, y189, y190, y191, y192, y193, y194, y195, y196, y197, y198, x199, x200, x201, x202, x203, x204, x205, x206, x207, x208, x209, x210, x211, x212, x213, x214, x215, x216, x217, x218, x219, x220, x221, x222, x223, x224, x225, x226, x227, x228, x229, x230, x231, x232, x233, x234, x235, x236, x237, x238, x239, x240, x241, x242, x243, x244, x245, x246, x247, x248, x249, x250, x251, x252, x253, x254, x255, x256, x257, x258, x259, x260, x261, x262, x263, x264, x265, x266, x267, x268, x269, x270, x271, x272, x273, x274, x275, x276, x277, x278, x279, x280, x281, x282, x283, x284, x285, x286, x287, x288, x289, x290, x291, x292, x293, x294, x295, x296, x297, x298], []⟩ W') :
    Code.wp Try.prog ((Try.f9.body.bind (findReg 56)).getD .skip) (Exit.then K Q) ⟨#[x0, x1, x2, .pointer (some ⟨g, 0, none⟩), x4, x5, x6, x7, x8, x9, x10, x11, x12, x13, x14, x15, x16, x17, x18, x19, x20, x21, x22, x23, x24, x25, .int .i64 p, x27, x28, x29, x30, x31, x32, x33, x34, x35, x36, x37, x38, x39, x40, x41, x42, x43, x44, x45, x46, x47, x48, x49, x50, x51, x52, x53, x54, x55, x56, x57, x58, x59, x60, x61, x62, x63, x64, x65, x66, x67, x68, x69, x70, x71, x72, x73, x74, x75, x76, x77, x78, x79, x80, x81, x82, x83, x84, x85, x86, x87, x88, x89, x90, x91, x92, x93, x94, x95, x96, x97, x98, x99, x100, x101, x102, x103, x104, x105, x106, x107, x108, x109, x110, x111, x112, x113, x114, x115, x116, x117, x118, x119, x120, x121, x122, x123, x124, x125, x126, x127, x128, x129, x130, x131, x132, x133, x134, x135, x136, x137, x138, x139, x140, x141, x142, x143, x144, x145, x146, x147, x148, x149, x150, x151, x152, x153, x154, x155, x156, x157, x158, x159, x160, x161, x162, x163, x164, x165, x166, x167, x168, x169, x170, x171, x172, x173, x174, x175, x176, x177, x178, x179, x180, x181, x182, x183, x184, x185, x186, x187, x188, x189, x190, x191, x192, x193, x194, x195, x196, x197, x198, x199, x200, x201, x202, x203, x204, x205, x206, x207, x208, x209, x210, x211, x212, x213, x214, x215, x216, x217, x218, x219, x220, x221, x222, x223, x224, x225, x226, x227, x228, x229, x230, x231, x232, x233, x234, x235, x236, x237, x238, x239, x240, x241, x242, x243, x244, x245, x246, x247, x248, x249, x250, x251, x252, x253, x254, x255, x256, x257, x258, x259, x260, x261, x262, x263, x264, x265, x266, x267, x268, x269, x270, x271, x272, x273, x274, x275, x276, x277, x278, x279, x280, x281, x282, x283, x284, x285, x286, x287, x288, x289, x290, x291, x292, x293, x294, x295, x296, x297, x298], []⟩ W := by
  have HH : Hid (∀ (y188 y189 y190 y191 y192 y193 y194 y195 y196 y197 y198 : Value) (W' : World) (lv fe : Bool), (p = 0 → lv = true) → Blk W' W.heap.size #[.bool lv, .bool fe, .int .i64 0, .slice none 0 0] 43 → Pn g Sb W W' → W'.heap.size = W.heap.size + 1 → K ⟨#[x0, x1, x2, .pointer (some ⟨g, 0, none⟩), x4, x5, x6, x7, x8, x9, x10, x11, x12, x13, x14, x15, x16, x17, x18, x19, x20, x21, x22, x23, x24, x25, .int .i64 p, .pointer (some ⟨W.heap.size, 0, none⟩), x28, x29, x30, x31, x32, x33, x34, x35, x36, x37, x38, x39, x40, x41, x42, x43, x44, x45, x46, x47, x48, x49, x50, x51, x52, x53, x54, x55, x56, x57, x58, x59, x60, x61, x62, x63, x64, x65, x66, x67, x68, x69, x70, x71, x72, x73, x74, x75, x76, x77, x78, x79, x80, x81, x82, x83, x84, x85, x86, x87, x88, x89, x90, x91, x92, x93, x94, x95, x96, x97, x98, x99, x100, x101, x102, x103, x104, x105, x106, x107, x108, x109, x110, x111, x112, x113, x114, x115, x116, x117, x118, x119, x120, x121, x122, x123, x124, x125, x126, x127, x128, x129, x130, x131, x132, x133, x134, x135, x136, x137, x138, x139, x140, x141, x142, x143, x144, x145, x146, x147, x148, x149, x150, x151, x152, x153, x154, x155, x156, x157, x158, x159, x160, x161, x162, x163, x164, x165, x166, x167, x168, x169, x170, x171, x172, x173, x174, x175, x176, x177, x178, x179, x180, x181, x182, x183, x184, x185, x186, x187, y188, y189, y190, y191, y192, y193, y194, y195, y196, y197, y198, x199, x200, x201, x202, x203, x204, x205, x206, x207, x208, x209, x210, x211, x212, x213, x214, x215, x216, x217, x218, x219, x220, x221, x222, x223, x224, x225, x226, x227, x228, x229, x230, x231, x232, x233, x234, x235, x236, x237, x238, x239, x240, x241, x242, x243, x244, x245, x246, x247, x248, x249, x250, x251, x252, x253, x254, x255, x256, x257, x258, x259, x260, x261, x262, x263, x264, x265, x266, x267, x268, x269, x270, x271, x272, x273, x274, x275, x276, x277, x278, x279, x280, x281, x282, x283, x284, x285, x286, x287, x288, x289, x290, x291, x292, x293, x294, x295, x296, x297, x298], []⟩ W') := h
  have HSb : Hid (∀ b, Sb b → b < g) := hSb
  have hgW : g < W.heap.size := by obtain ⟨_, _, _, _, hq, _⟩ := hmk; exact hq.lt
  have HM : Hid (MK W g Sb) := hmk
  clear h hSb hmk
  conv => arg 2; whnf
  by_cases hp : p = 0
  · subst hp
    go_wp2_with fail
    refine (pick_pn g Sb HSb.out 2 (by decide) (by decide) W W (Pn.refl HM.out)).mono ?_
    rintro e W2 ⟨x2, rfl, hx2, hp2, ho2, hz2⟩
    have HP2 : Hid (Pn g Sb W W2) := hp2
    have HZ2 : Hid (W2.heap.size = W.heap.size) := hz2
    generalize hfe : ((x2 : Int) == 1) = fe
    clear hp2 ho2 hz2
    go_wp2
    have hbn : Blk (W2.alloc (.cells #[.bool true, .bool fe, .int .i64 0, .slice none 0 0] 43)) W2.heap.size #[.bool true, .bool fe, .int .i64 0, .slice none 0 0] 43 := Blk.new W2 _ _
    rw [HZ2.out] at hbn ⊢
    exact HH.out _ _ _ _ _ _ _ _ _ _ _ _ true fe (fun _ => rfl) hbn (HP2.out.alloc HSb.out hgW _) (by simp; exact HZ2.out)
  · have hpz : ((p : Int) == 0) = false := by simpa using hp
    go_wp2_with fail
    refine (pick_pn g Sb HSb.out 5 (by decide) (by decide) W W (Pn.refl HM.out)).mono ?_
    rintro e W1 ⟨x1, rfl, hx1, hp1, ho1, hz1⟩
    have HP1 : Hid (Pn g Sb W W1) := hp1
    have HZ1 : Hid (W1.heap.size = W.heap.size) := hz1
    clear hp1 ho1 hz1
    go_wp2_with fail
    refine (pick_pn g Sb HSb.out 2 (by decide) (by decide) W W1 HP1.out).mono ?_
    rintro e W2 ⟨x2, rfl, hx2, hp2, ho2, hz2⟩
    have HP2 : Hid (Pn g Sb W W2) := hp2
    have HZ2 : Hid (W2.heap.size = W.heap.size) := hz2.trans HZ1.out
    clear hp2 ho2 hz2
    go_wp2
    have hbn : Blk (W2.alloc (.cells #[.bool (decide (0 < x1)), .bool ((x2 : Int) == 1), .int .i64 0, .slice none 0 0] 43)) W2.heap.size #[.bool (decide (0 < x1)), .bool ((x2 : Int) == 1), .int .i64 0, .slice none 0 0] 43 := Blk.new W2 _ _
    rw [HZ2.out] at hbn ⊢
    exact HH.out _ _ _ _ _ _ _ _ _ _ _ _ (decide (0 < x1)) ((x2 : Int) == 1) (fun e => absurd e hp) hbn (HP2.out.alloc HSb.out hgW _) (by simp; exact HZ2.out)
end Go.Proofs.Ytdciohinlhbliaa


/-
  rgref5.Build, piece by piece: processes.
-/
namespace Go.Proofs.Ytdciohinlhbliaa
open Go.RowKit
/-- A process's table, as it grows. -/
def XI (W0 : World) (g B : Nat) (Sb : Nat → Prop) (lv fe : Bool) (nO : Nat) (s : Sl) (ss : List Sp.Slt) (wr : World) : Prop :=
  MK wr g Sb ∧ Blk wr B #[.bool lv, .bool fe, .int .i64 0, .slice s.a s.n s.c] 43 ∧ Row wr (fun b => B < b ∧ b < wr.heap.size) 3 (.slice s.a s.n s.c) (ss.map sltC) ∧ (∀ x ∈ ss, Sp.SltOk nO x) ∧ (lv = false → ss = []) ∧ On (fun b => b < B ∧ b ≠ g) W0 wr ∧ W0.heap.size ≤ wr.heap.size ∧ (∀ C, C ≤ g → Below C W0 wr)
def XJ (W0 : World) (g B : Nat) (Sb : Nat → Prop) (lv fe : Bool) (nO n : Nat) (v : Value) (wr : World) : Prop :=
  ∃ (j : Nat) (s : Sl) (ss : List Sp.Slt), j ≤ n ∧ v = .int .i64 j ∧ ss.length ≤ j ∧ XI W0 g B Sb lv fe nO s ss wr
theorem XI.put {W0 W' : World} {g B nO : Nat} {Sb : Nat → Prop} {lv fe : Bool} {s : Sl} {ss : List Sp.Slt} {wr : World} (h : XI W0 g B Sb lv fe nO s ss wr) (hl : lv = true) (hSb : ∀ b, Sb b → b < g) (hgB : g < B) (hB0 : B < W0.heap.size) {a' : Option Addr} {c' : Nat} {op rt : Int} (hok : Sp.SltOk nO ⟨true, op, rt⟩) (hp : Pn g Sb wr W') (hr : Row W' (fun b => wr.heap.size ≤ b ∧ b < W'.heap.size) 3 (.slice a' (ss.length + 1) c') ((ss ++ [(⟨true, op, rt⟩ : Sp.Slt)]).map sltC)) :
    Blk W' B #[.bool lv, .bool fe, .int .i64 0, .slice s.a s.n s.c] 43 ∧ XI W0 g B Sb lv fe nO ⟨a', ss.length + 1, c'⟩ (ss ++ [⟨true, op, rt⟩]) (W'.setCell ⟨B, 3, none⟩ (.slice a' (ss.length + 1) c')) := by
  obtain ⟨h1, h2, h3, h4, h5, h6, h7, h8⟩ := h
  have hset := On.set W' ⟨B, 3, none⟩ (.slice a' (ss.length + 1) c')
  have hb' : Blk W' B #[.bool lv, .bool fe, .int .i64 0, .slice s.a s.n s.c] 43 := h2.on hp.2.1 ⟨by omega, by omega⟩
  have hz := hp.2.2.1
  refine ⟨hb', hp.1.on hset (by show g ≠ B; omega) (fun b hb => by have := hSb b hb; show b ≠ B; omega), hb'.set 3 _, ?_, ?_, fun e => (by rw [hl] at e; cases e), ?_, by simp; omega, fun C hC => ((h8 C hC).trans (hp.2.2.2 C hC)).setCell (by show C ≤ B; omega) _⟩
  · exact (hr.on (hset.less fun b hb => by show b ≠ B; omega)).more fun b hb => ⟨by omega, by simp; exact hb.2⟩
  · intro x hx
    rcases List.mem_append.1 hx with hx | hx
    · exact h4 x hx
    · simp at hx
      subst hx
      exact hok
  · exact (h6.trans (hp.2.1.less fun b hb => ⟨by omega, hb.2⟩)).trans (hset.less fun b hb => by show b ≠ B; omega)
set_option maxRecDepth 1000000 in
set_option maxHeartbeats 8000000 in
theorem blk15_wp (Q : Exit → Act → World → Prop) (K : Act → World → Prop) (W0 : World) (g gk B : Nat) (Sb : Nat → Prop) (nO pc n : Nat) (pa : Option Addr) (vo vq : Value) (lv fe : Bool) (hSb : ∀ b, Sb b → b < g) (hgk : g < gk) (hkB : gk < B) (hn : n ≤ 4) (hnO2 : nO ≤ 1000) (hbk : Blk W0 gk #[vo, .slice pa nO pc, vq] 27) (hmk : MK W0 g Sb) (hbx : Blk W0 B #[.bool lv, .bool fe, .int .i64 0, .slice none 0 0] 43)
    (x0 x1 x2 x4 x5 x6 x7 x8 x9 x10 x11 x12 x13 x14 x15 x16 x17 x18 x20 x21 x22 x23 x24 x25 x26 x28 x29 x30 x31 x32 x33 x34 x35 x36 x37 x38 x39 x40 x41 x42 x43 x44 x45 x46 x47 x48 x49 x50 x51 x52 x53 x54 x55 x56 x57 x58 x59 x60 x61 x62 x63 x64 x65 x66 x67 x68 x69 x70 x71 x72 x73 x74 x75 x76 x77 x78 x79 x80 x81 x82 x83 x84 x85 x86 x87 x88 x89 x90 x91 x92 x93 x94 x95 x96 x97 x98 x99 x100 x101 x102 x103 x104 x105 x106 x107 x108 x109 x110 x111 x112 x113 x114 x115 x116 x117 x118 x119 x120 x121 x122 x123 x124 x125 x126 x127 x128 x129 x130 x131 x132 x133 x134 x135 x136 x137 x138 x139 x140 x141 x142 x143 x144 x145 x146 x147 x148 x149 x150 x151 x152 x153 x154 x155 x156 x157 x158 x159 x160 x161 x162 x163 x164 x165 x166 x167 x168 x169 x170 x171 x172 x173 x174 x175 x176 x177 x178 x179 x180 x181 x182 x183 x184 x185 x186 x187 x188 x189 x190 x191 x192 x193 x194 x195 x196 x197 x198 x199 x202 x203 x204 x205 x206 x207 x208 x209 x210 x211 x212 x213 x214 x215 x216 x217 x218 x219 x220 x221 x222 x223 x224 x225 x226 x227 x228 x229 x230 x231 x232 x233 x234 x235 x236 x237 x238 x239 x240 x241 x242 x243 x244 x245 x246 x247 x248 x249 x250 x251 x252 x253 x254 x255 x256 x257 x258 x259 x260 x261 x262 x263 x264 x265 x266 x267 x268 x269 x270 x271 x272 x273 x274 x275 x276 x277 x278 x279 x280 x281 x282 x283 x284 x285 x286 x287 x288 x289 x290 x291 x292 x293 x294 x295 x296 x297 x298 : Value)
    (h : ∀ (y28 y29 y30 y201 y202 y203 y204 y205 y206 y207 y208 y209 y210 y211 y212 y213 y214 y215 y216 y217 y218 y219 y220 y221 y222 y223 y224 y225 y226 y227 y228 y229 y230 y231 y232 y233 : Value) (W' : World) (s : Sl) (ss : List Sp.Slt), ss.length ≤ 4 → XI W0 g B Sb lv fe nO s ss W' → K ⟨#[x0, x1, x2, .pointer (some ⟨g, 0, none⟩), x4, x5, x6, x7, x8, x9, x10, x11, x12, x13, x14, x15, x16, x17, x18, .pointer (some ⟨gk, 0, none⟩), x20, x21, x22, x23, x24, x25, x26, .pointer (some ⟨B, 0, none⟩), y28, y29, y30, x31, x32, x33, x34, x35, x36, x37, x38, x39, x40, x41, x42, x43, x44, x45, x46, x47, x48, x49, x50, x51, x52, x53, x54, x55, x56, x57, x58, x59, x60, x61, x62, x63, x64, x65, x66, x67, x68, x69, x70, x71, x72, x73, x74, x75, x76, x77, x78, x79, x80, x81, x82, x83, x84, x85, x86, x87, x88, x89, x90, x91, x92, x93, x94, x95, x96, x97, x98, x99, x100, x101, x102, x103, x104, x105, x106, x107, x108, x109, x110, x111, x112, x113, x114, x115, x116, x117, x118, x119, x120, x121, x122, x123, x124, x125, x126, x127, x128, x129, x130, x131, x132, x133, x134, x135, x136, x137, x138, x139, x140, x141, x142, x143, x144, x145, x146, x147, x148, x149, x150, x151, x152, x153, x154, x155, x156, x157, x158, x159, x160, x161, x162, x163, x164, x165, x166, x167, x168, x169, x170, x171, x172, x173, x174, x175, x176, x177, x178, x179, x180, x181, x182, x183, x184, x185, x186, x187, x188, x189, x190, x191, x192, x193, x194, x195, x196, x197, x198, x199, .int .i64 n, y201, y202, y203, y204, y205, y206, y207, y208, y209, y210, y211, y212, y213, y214, y215, y216, y217, y218, y219, y220, y221, y222, y223, y224, y225, y226, y227, y228, y229, y230, y231, y232, y233, x234, x235, x236, x237, x238, x239, x240, x241, x242, x243, x244, x245, x246, x247, x248, x249, x250, x251, x252, x253, x254, x255, x256, x257, x258, x259, x260, x261, x262, x263, x264, x265, x266, x267, x268, x269, x270, x271, x272, x273, x274, x275, x276, x277, x278, x279, x280, x281, x282, x283, x284, x285, x286, x287, x288, x289, x290, x291, x292, x293, x294, x295, x296, x297, x298], []⟩ W') :
    Code.wp Try.prog ((Try.f9.body.bind (findBlock 15)).getD .skip) (Exit.then K Q) ⟨#[x0, x1, x2, .pointer (some ⟨g, 0, none⟩), x4, x5, x6, x7, x8, x9, x10, x11, x12, x13, x14, x15, x16, x17, x18, .pointer (some ⟨gk, 0, none⟩), x20, x21, x22, x23, x24, x25, x26, .pointer (some ⟨B, 0, none⟩), x28, x29, x30, x31, x32, x33, x34, x35, x36, x37, x38, x39, x40, x41, x42, x43, x44, x45, x46, x47, x48, x49, x50, x51, x52, x53, x54, x55, x56, x57, x58, x59, x60, x61, x62, x63, x64, x65, x66, x67, x68, x69, x70, x71, x72, x73, x74, x75, x76, x77, x78, x79, x80, x81, x82, x83, x84, x85, x86, x87, x88, x89, x90, x91, x92, x93, x94, x95, x96, x97, x98, x99, x100, x101, x102, x103, x104, x105, x106, x107, x108, x109, x110, x111, x112, x113, x114, x115, x116, x117, x118, x119, x120, x121, x122, x123, x124, x125, x126, x127, x128, x129, x130, x131, x132, x133, x134, x135, x136, x137, x138, x139, x140, x141, x142, x143, x144, x145, x146, x147, x148, x149, x150, x151, x152, x153, x154, x155, x156, x157, x158, x159, x160, x161, x162, x163, x164, x165, x166, x167, x168, x169, x170, x171, x172, x173, x174, x175, x176, x177, x178, x179, x180, x181, x182, x183, x184, x185, x186, x187, x188, x189, x190, x191, x192, x193, x194, x195, x196, x197, x198, x199, .int .i64 n, .int .i64 0, x202, x203, x204, x205, x206, x207, x208, x209, x210, x211, x212, x213, x214, x215, x216, x217, x218, x219, x220, x221, x222, x223, x224, x225, x226, x227, x228, x229, x230, x231, x232, x233, x234, x235, x236, x237, x238, x239, x240, x241, x242, x243, x244, x245, x246, x247, x248, x249, x250, x251, x252, x253, x254, x255, x256, x257, x258, x259, x260, x261, x262, x263, x264, x265, x266, x267, x268, x269, x270, x271, x272, x273, x274, x275, x276, x277, x278, x279, x280, x281, x282, x283, x284, x285, x286, x287, x288, x289, x290, x291, x292, x293, x294, x295, x296, x297, x298], []⟩ W0 := by
  have HH : Hid (∀ (y28 y29 y30 y201 y202 y203 y204 y205 y206 y207 y208 y209 y210 y211 y212 y213 y214 y215 y216 y217 y218 y219 y220 y221 y222 y223 y224 y225 y226 y227 y228 y229 y230 y231 y232 y233 : Value) (W' : World) (s : Sl) (ss : List Sp.Slt), ss.length ≤ 4 → XI W0 g B Sb lv fe nO s ss W' → K ⟨#[x0, x1, x2, .pointer (some ⟨g, 0, none⟩), x4, x5, x6, x7, x8, x9, x10, x11, x12, x13, x14, x15, x16, x17, x18, .pointer (some ⟨gk, 0, none⟩), x20, x21, x22, x23, x24, x25, x26, .pointer (some ⟨B, 0, none⟩), y28, y29, y30, x31, x32, x33, x34, x35, x36, x37, x38, x39, x40, x41, x42, x43, x44, x45, x46, x47, x48, x49, x50, x51, x52, x53, x54, x55, x56, x57, x58, x59, x60, x61, x62, x63, x64, x65, x66, x67, x68, x69, x70, x71, x72, x73, x74, x75, x76, x77, x78, x79, x80, x81, x82, x83, x84, x85, x86, x87, x88, x89, x90, x91, x92, x93, x94, x95, x96, x97, x98, x99, x100, x101, x102, x103, x104, x105, x106, x107, x108, x109, x110, x111, x112, x113, x114, x115, x116, x117, x118, x119, x120, x121, x122, x123, x124, x125, x126, x127, x128, x129, x130, x131, x132, x133, x134, x135, x136, x137, x138, x139, x140, x141, x142, x143, x144, x145, x146, x147, x148, x149, x150, x151, x152, x153, x154, x155, x156, x157, x158, x159, x160, x161, x162, x163, x164, x165, x166, x167, x168, x169, x170, x171, x172, x173, x174, x175, x176, x177, x178, x179, x180, x181, x182, x183, x184, x185, x186, x187, x188, x189, x190, x191, x192, x193, x194, x195, x196, x197, x198, x199, .int .i64 n, y201, y202, y203, y204, y205, y206, y207, y208, y209, y210, y211, y212, y213, y214, y215, y216, y217, y218, y219, y220, y221, y222, y223, y224, y225, y226, y227, y228, y229, y230, y231, y232, y233, x234, x235, x236, x237, x238, x239, x240, x241, x242, x243, x244, x245, x246, x247, x248, x249, x250, x251, x252, x253, x254, x255, x256, x257, x258, x259, x260, x261, x262, x263, x264, x265, x266, x267, x268, x269, x270, x271, x272, x273, x274, x275, x276, x277, x278, x279, x280, x281, x282, x283, x284, x285, x286, x287, x288, x289, x290, x291, x292, x293, x294, x295, x296, x297, x298], []⟩ W') := h
  have HS0 : Hid (XJ W0 g B Sb lv fe nO n (.int .i64 0) W0) := ⟨0, nilSl, [], Nat.zero_le _, rfl, by simp, hmk, hbx, Row.nil _ _ _ _ _, fun x hx => by simp at hx, fun _ => rfl, fun _ _ => rfl, Nat.le_refl _, fun C _ => Below.refl C W0⟩
  have HSb : Hid (∀ b, Sb b → b < g) := hSb
  have HBK : Hid (Blk W0 gk #[vo, .slice pa nO pc, vq] 27) := hbk
  have hBl := hbx.lt
  have hnz : (n : Int) ≤ 4 := by omega
  clear h hSb hbk hmk hbx
  conv => arg 2; whnf
  go_wp2_with fail
  go_loopw [201] (fun v wz => XJ W0 g B Sb lv fe nO n v wz) (fun v _ => n - (intOf v).toNat)
  case atStart => exact HS0.out
  case round =>
    obtain ⟨j, s, ss, hj, rfl, hss, hX⟩ := hrel
    clear HS0
    have HX : Hid (XI W0 g B Sb lv fe nO s ss wr) := hX
    have HSS : Hid (ss.length ≤ j) := hss
    have hbk := Blk.on HBK.out hX.2.2.2.2.2.1 ⟨hkB, by omega⟩
    have HBKr : Hid (Blk wr gk #[vo, .slice pa nO pc, vq] 27) := hbk
    have hck := hbk.cell
    have hcb := hX.2.1.cell
    have hzr : W0.heap.size ≤ wr.heap.size := hX.2.2.2.2.2.2.1
    clear hX hss hbk
    by_cases hlt : j < n
    · by_cases hnO : nO = 0
      · have hz0 : ¬ (0 : Int) < (nO : Int) := by omega
        go_wp2
        exact ⟨⟨j + 1, s, ss, by omega, by go_num, by have := HSS.out; omega, HX.out⟩, by simp [intOf]; omega⟩
      · have hz0 : (0 : Int) < (nO : Int) := by omega
        cases lv with
        | false =>
          go_wp2
          exact ⟨⟨j + 1, s, ss, by omega, by go_num, by have := HSS.out; omega, HX.out⟩, by simp [intOf]; omega⟩
        | true =>
          go_upto_region 60 with fail
          refine reg60_wp _ _ wr g gk B Sb (fun b => B < b ∧ b < wr.heap.size) nO pc pa vo vq true fe 0 s ss HSb.out hgk (by omega) HX.out.1 HBKr.out HX.out.2.1 HX.out.2.2.1 (fun b hb => ⟨hb.2, by omega⟩) HX.out.2.2.2.1 (by have := HSS.out; omega) (by omega) hnO2 _ _ _ _ _ _ _ _ _ _ _ _ _ _ _ _ _ _ _ _ _ _ _ _ _ _ _ _ _ _ _ _ _ _ _ _ _ _ _ _ _ _ _ _ _ _ _ _ _ _ _ _ _ _ _ _ _ _ _ _ _ _ _ _ _ _ _ _ _ _ _ _ _ _ _ _ _ _ _ _ _ _ _ _ _ _ _ _ _ _ _ _ _ _ _ _ _ _ _ _ _ _ _ _ _ _ _ _ _ _ _ _ _ _ _ _ _ _ _ _ _ _ _ _ _ _ _ _ _ _ _ _ _ _ _ _ _ _ _ _ _ _ _ _ _ _ _ _ _ _ _ _ _ _ _ _ _ _ _ _ _ _ _ _ _ _ _ _ _ _ _ _ _ _ _ _ _ _ _ _ _ _ _ _ _ _ _ _ _ _ _ _ _ _ _ _ _ _ _ _ _ _ _ _ _ _ _ _ _ _ _ _ _ _ _ _ _ _ _ _ _ _ _ _ _ _ _ _ _ _ _ _ _ _ _ _ _ _ _ _ _ _ _ _ _ _ _ _ _ _ _ _ _ _ _ _ _ _ _ _ _ _ _ _ _ _ _ _ _ _ _ _ _ _ _ _ _ _ _ _ _ _ _ _ _ _ _ _ _ _ _ _ _ _ _ _ ?_
          intro y211 y212 y213 y214 y215 y216 y217 y218 y219 y220 y221 y222 y223 y224 y225 y226 y227 y228 W2 a2 c2 op rt hok hp2 hr2
          dsimp only
          obtain ⟨q1, q2⟩ := HX.out.put rfl HSb.out (by omega) hBl hok hp2 hr2
          have hc2 := q1.cell
          have hf2 := q1.free
          have HX2 : Hid (XI W0 g B Sb true fe nO ⟨a2, ss.length + 1, c2⟩ (ss ++ [⟨true, op, rt⟩]) (W2.setCell ⟨B, 3, none⟩ (.slice a2 (ss.length + 1) c2))) := q2
          clear hok hp2 hr2 q1 q2 hck hcb
          go_wp2
          exact ⟨⟨j + 1, ⟨a2, ss.length + 1, c2⟩, ss ++ [⟨true, op, rt⟩], by omega, by go_num, by have := HSS.out; simp; omega, HX2.out⟩, by simp [intOf]; omega⟩
    · go_wp2
      exact HH.out _ _ _ _ _ _ _ _ _ _ _ _ _ _ _ _ _ _ _ _ _ _ _ _ _ _ _ _ _ _ _ _ _ _ _ _ _ s ss (by have := HSS.out; omega) HX.out
end Go.Proofs.Ytdciohinlhbliaa


/-
  rgref5.Build, piece by piece: processes, all of them.
-/
namespace Go.Proofs.Ytdciohinlhbliaa
open Go.RowKit
/-- Processes, as they are gathered. -/
def PI (W : World) (g gk : Nat) (Sb : Nat → Prop) (vo vp : Value) (nO : Nat) (r : Sl) (ts : List (Sl × Sp.Prc)) (wr : World) : Prop :=
  MK wr g Sb ∧ Blk wr gk #[vo, vp, .slice r.a r.n r.c] 27 ∧ Mine wr W.heap.size 43 4 (.slice r.a r.n r.c) (ts.map prcC) ∧ (∀ t ∈ ts, Row wr (fun b => W.heap.size ≤ b ∧ b < wr.heap.size ∧ some b ≠ (Value.slice r.a r.n r.c).ownBlock) 3 (.slice t.1.a t.1.n t.1.c) (t.2.slots.map sltC) ∧ Sp.PrcOk nO t.2) ∧ (∀ t, ts[0]? = some t → t.2.live = true) ∧ On (fun b => b < W.heap.size ∧ b ≠ g ∧ b ≠ gk) W wr ∧ (∀ C, C ≤ g → Below C W wr)
theorem PI.next {W W' : World} {g gk nO : Nat} {Sb : Nat → Prop} {vo vp : Value} {r : Sl} {ts : List (Sl × Sp.Prc)} {wr : World} (h : PI W g gk Sb vo vp nO r ts wr) (hgk : g < gk) (hgW : gk < W.heap.size) (hm : MK W' g Sb) (hon : On (fun b => b < wr.heap.size ∧ b ≠ g) wr W') (hz : wr.heap.size ≤ W'.heap.size) (hb : ∀ C, C ≤ g → Below C wr W') : PI W g gk Sb vo vp nO r ts W' := by
  obtain ⟨h1, h2, h3, h4, h5, h6, h7⟩ := h
  have hz0 : W.heap.size ≤ wr.heap.size := (h7 0 (Nat.zero_le _)).size
  refine ⟨hm, h2.on hon ⟨h2.lt, by omega⟩, h3.on hon fun k hk => ⟨(h3.lt k hk).2, by have := (h3.lt k hk).1; omega⟩, fun t ht => ⟨?_, (h4 t ht).2⟩, h5, h6.trans (hon.less fun b hb => ⟨by omega, hb.2.1⟩), fun C hC => (h7 C hC).trans (hb C hC)⟩
  exact ((h4 t ht).1.on (hon.less fun b hb => ⟨hb.2.1, by omega⟩)).more fun b hb => ⟨hb.1, by omega, hb.2.2⟩
/-- One process more. -/
theorem PI.more {W W2 : World} {g gk nO B : Nat} {Sb : Nat → Prop} {vo vp : Value} {r r' s : Sl} {ts : List (Sl × Sp.Prc)} {wr : World} {x : Sp.Prc} (h : PI W g gk Sb vo vp nO r ts wr) (hSb : ∀ b, Sb b → b < g) (hgk : g < gk) (hgW : gk < W.heap.size) (hrow : Row wr (fun b => W.heap.size ≤ b ∧ b < wr.heap.size ∧ some b ≠ (Value.slice r.a r.n r.c).ownBlock) 3 (.slice s.a s.n s.c) (x.slots.map sltC)) (hok : Sp.PrcOk nO x) (hlive : ts = [] → x.live = true)
    (hm : Mine W2 W.heap.size 43 4 (.slice r'.a r'.n r'.c) (ts.map prcC ++ [prcC (s, x)])) (hg : (wr.alloc (.cells (prcC (s, x)).toArray 43)).grownBy W2 (Value.slice r.a r.n r.c).ownBlock) (hat : (Value.slice r'.a r'.n r'.c).ownBlock = (Value.slice r.a r.n r.c).ownBlock ∨ (Value.slice r'.a r'.n r'.c).ownBlock = some (wr.alloc (.cells (prcC (s, x)).toArray 43)).heap.size) (_hB : B = B) :
    Blk W2 gk #[vo, vp, .slice r.a r.n r.c] 27 ∧ PI W g gk Sb vo vp nO r' (ts ++ [(s, x)]) (W2.setCell ⟨gk, 2, none⟩ (.slice r'.a r'.n r'.c)) := by
  obtain ⟨h1, h2, h3, h4, h5, h6, h7⟩ := h
  have hz0 : W.heap.size ≤ wr.heap.size := (h7 0 (Nat.zero_le _)).size
  have hal := On.alloc wr (.cells (prcC (s, x)).toArray 43)
  have hzA : (wr.alloc (.cells (prcC (s, x)).toArray 43)).heap.size = wr.heap.size + 1 := by simp
  rw [hzA] at hat
  have honG : On (fun b => b < wr.heap.size ∧ some b ≠ (Value.slice r.a r.n r.c).ownBlock) wr W2 := (hal.less fun b hb => hb.1).trans (fun b hb => hg.block b (by omega) hb.2)
  have hset := On.set W2 ⟨gk, 2, none⟩ (.slice r'.a r'.n r'.c)
  have hlow : ∀ b, b < W.heap.size → some b ≠ (Value.slice r.a r.n r.c).ownBlock := fun b hb e => by have := (h3.lt b e.symm).1; omega
  have hb2 : Blk W2 gk #[vo, vp, .slice r.a r.n r.c] 27 := h2.on honG ⟨by omega, hlow gk hgW⟩
  have hB2 : ∀ C, C ≤ g → Below C wr W2 := fun C hC => ((Below.refl C wr).alloc (by omega) _).grown hg (by omega) (fun k hk => by have := (h3.lt k hk).1; omega)
  have hz2 : wr.heap.size + 1 ≤ W2.heap.size := by
    have := ((Below.refl 0 (wr.alloc (.cells (prcC (s, x)).toArray 43))).grown hg (Nat.zero_le _) (fun k hk => Nat.zero_le _)).size
    omega
  have key : ∀ (t : Sl × Sp.Prc), Row wr (fun b => W.heap.size ≤ b ∧ b < wr.heap.size ∧ some b ≠ (Value.slice r.a r.n r.c).ownBlock) 3 (.slice t.1.a t.1.n t.1.c) (t.2.slots.map sltC) → Row (W2.setCell ⟨gk, 2, none⟩ (.slice r'.a r'.n r'.c)) (fun b => W.heap.size ≤ b ∧ b < (W2.setCell ⟨gk, 2, none⟩ (.slice r'.a r'.n r'.c)).heap.size ∧ some b ≠ (Value.slice r'.a r'.n r'.c).ownBlock) 3 (.slice t.1.a t.1.n t.1.c) (t.2.slots.map sltC) := fun t ht => by
    refine ((ht.on (honG.less fun b hb => hb.2)).on (hset.less fun b hb => by show b ≠ gk; omega)).more fun b hb => ⟨hb.1, by simp; omega, ?_⟩
    rcases hat with e | e
    · rw [e]; exact hb.2.2
    · rw [e]; intro e'; injection e' with e'; omega
  refine ⟨hb2, ?_, hb2.set 2 _, ?_, ?_, ?_, ?_, fun C hC => ((h7 C hC).trans (hB2 C hC)).setCell (by show C ≤ gk; omega) _⟩
  · exact (h1.on (honG.less fun b hb => hb) ⟨by omega, hlow g (by omega)⟩ (fun b hb => ⟨by have := hSb b hb; omega, hlow b (by have := hSb b hb; omega)⟩)).on hset (by show g ≠ gk; omega) (fun b hb => by have := hSb b hb; show b ≠ gk; omega)
  · rw [List.map_append]
    exact hm.on hset fun k hk => by have := (hm.lt k hk).1; show k ≠ gk; omega
  · intro t ht
    rcases List.mem_append.1 ht with ht | ht
    · exact ⟨key t (h4 t ht).1, (h4 t ht).2⟩
    · simp at ht
      subst ht
      exact ⟨key (s, x) hrow, hok⟩
  · intro t ht
    cases ts with
    | nil => simp at ht; subst ht; exact hlive rfl
    | cons a b => exact h5 t (by simpa using ht)
  · exact ((h6.trans (honG.less fun b hb => ⟨by omega, hlow b hb.1⟩))).trans (hset.less fun b hb => hb.2.2)
set_option maxRecDepth 1000000 in
set_option maxHeartbeats 8000000 in
theorem reg66_wp (Q : Exit → Act → World → Prop) (W wr : World) (g gk B : Nat) (Sb : Nat → Prop) (vo vp : Value) (nO : Nat) (r s : Sl) (ts : List (Sl × Sp.Prc)) (x : Sp.Prc) (hSb : ∀ b, Sb b → b < g) (hgk : g < gk) (hgW : gk < W.heap.size) (hI : PI W g gk Sb vo vp nO r ts wr) (hbx : Blk wr B (prcC (s, x)).toArray 43) (hrow : Row wr (fun b => W.heap.size ≤ b ∧ b < wr.heap.size ∧ some b ≠ (Value.slice r.a r.n r.c).ownBlock) 3 (.slice s.a s.n s.c) (x.slots.map sltC)) (hok : Sp.PrcOk nO x) (hlive : ts = [] → x.live = true) (hn : ts.length ≤ 100)
    (x0 x1 x2 x3 x4 x5 x6 x7 x8 x9 x10 x11 x12 x13 x14 x15 x16 x17 x18 x20 x21 x22 x23 x24 x25 x26 x28 x29 x30 x31 x32 x33 x34 x35 x36 x37 x38 x39 x40 x41 x42 x43 x44 x45 x46 x47 x48 x49 x50 x51 x52 x53 x54 x55 x56 x57 x58 x59 x60 x61 x62 x63 x64 x65 x66 x67 x68 x69 x70 x71 x72 x73 x74 x75 x76 x77 x78 x79 x80 x81 x82 x83 x84 x85 x86 x87 x88 x89 x90 x91 x92 x93 x94 x95 x96 x97 x98 x99 x100 x101 x102 x103 x104 x105 x106 x107 x108 x109 x110 x111 x112 x113 x114 x115 x116 x117 x118 x119 x120 x121 x122 x123 x124 x125 x126 x127 x128 x129 x130 x131 x132 x133 x134 x135 x136 x137 x138 x139 x140 x141 x142 x143 x144 x145 x146 x147 x148 x149 x150 x151 x152 x153 x154 x155 x156 x157 x158 x159 x160 x161 x162 x163 x164 x165 x166 x167 x168 x169 x170 x171 x172 x173 x174 x175 x176 x177 x178 x179 x180 x181 x182 x183 x184 x185 x186 x187 x188 x189 x190 x191 x192 x193 x194 x195 x196 x197 x198 x199 x200 x201 x202 x203 x204 x205 x206 x207 x208 x209 x210 x211 x212 x213 x214 x215 x216 x217 x218 x219 x220 x221 x222 x223 x224 x225 x226 x227 x228 x229 x230 x231 x232 x233 x234 x235 x236 x237 x238 x239 x240 x241 x242 x243 x244 x245 x246 x247 x248 x249 x250 x251 x252 x253 x254 x255 x256 x257 x258 x259 x260 x261 x262 x263 x264 x265 x266 x267 x268 x269 x270 x271 x272 x273 x274 x275 x276 x277 x278 x279 x280 x281 x282 x283 x284 x285 x286 x287 x288 x289 x290 x291 x292 x293 x294 x295 x296 x297 x298 : Value)
    (h : ∀ (y240 y241 y242 y243 y244 y245 : Value) (W' : World) (r' : Sl), PI W g gk Sb vo vp nO r' (ts ++ [(s, x)]) W' → Q .normal ⟨#[x0, x1, x2, x3, x4, x5, x6, x7, x8, x9, x10, x11, x12, x13, x14, x15, x16, x17, x18, .pointer (some ⟨gk, 0, none⟩), x20, x21, x22, x23, x24, x25, x26, .pointer (some ⟨B, 0, none⟩), x28, x29, x30, x31, x32, x33, x34, x35, x36, x37, x38, x39, x40, x41, x42, x43, x44, x45, x46, x47, x48, x49, x50, x51, x52, x53, x54, x55, x56, x57, x58, x59, x60, x61, x62, x63, x64, x65, x66, x67, x68, x69, x70, x71, x72, x73, x74, x75, x76, x77, x78, x79, x80, x81, x82, x83, x84, x85, x86, x87, x88, x89, x90, x91, x92, x93, x94, x95, x96, x97, x98, x99, x100, x101, x102, x103, x104, x105, x106, x107, x108, x109, x110, x111, x112, x113, x114, x115, x116, x117, x118, x119, x120, x121, x122, x123, x124, x125, x126, x127, x128, x129, x130, x131, x132, x133, x134, x135, x136, x137, x138, x139, x140, x141, x142, x143, x144, x145, x146, x147, x148, x149, x150, x151, x152, x153, x154, x155, x156, x157, x158, x159, x160, x161, x162, x163, x164, x165, x166, x167, x168, x169, x170, x171, x172, x173, x174, x175, x176, x177, x178, x179, x180, x181, x182, x183, x184, x185, x186, x187, x188, x189, x190, x191, x192, x193, x194, x195, x196, x197, x198, x199, x200, x201, x202, x203, x204, x205, x206, x207, x208, x209, x210, x211, x212, x213, x214, x215, x216, x217, x218, x219, x220, x221, x222, x223, x224, x225, x226, x227, x228, x229, x230, x231, x232, x233, x234, x235, x236, x237, x238, x239, y240, y241, y242, y243, y244, y245, x246, x247, x248, x249, x250, x251, x252, x253, x254, x255, x256, x257, x258, x259, x260, x261, x262, x263, x264, x265, x266, x267, x268, x269, x270, x271, x272, x273, x274, x275, x276, x277, x278, x279, x280, x281, x282, x283, x284, x285, x286, x287, x288, x289, x290, x291, x292, x293, x294, x295, x296, x297, x298], []⟩ W') :
    Code.wp Try.prog ((Try.f9.body.bind (findReg 66)).getD .skip) Q ⟨#[x0, x1, x2, x3, x4, x5, x6, x7, x8, x9, x10, x11, x12, x13, x14, x15, x16, x17, x18, .pointer (some ⟨gk, 0, none⟩), x20, x21, x22, x23, x24, x25, x26, .pointer (some ⟨B, 0, none⟩), x28, x29, x30, x31, x32, x33, x34, x35, x36, x37, x38, x39, x40, x41, x42, x43, x44, x45, x46, x47, x48, x49, x50, x51, x52, x53, x54, x55, x56, x57, x58, x59, x60, x61, x62, x63, x64, x65, x66, x67, x68, x69, x70, x71, x72, x73, x74, x75, x76, x77, x78, x79, x80, x81, x82, x83, x84, x85, x86, x87, x88, x89, x90, x91, x92, x93, x94, x95, x96, x97, x98, x99, x100, x101, x102, x103, x104, x105, x106, x107, x108, x109, x110, x111, x112, x113, x114, x115, x116, x117, x118, x119, x120, x121, x122, x123, x124, x125, x126, x127, x128, x129, x130, x131, x132, x133, x134, x135, x136, x137, x138, x139, x140, x141, x142, x143, x144, x145, x146, x147, x148, x149, x150, x151, x152, x153, x154, x155, x156, x157, x158, x159, x160, x161, x162, x163, x164, x165, x166, x167, x168, x169, x170, x171, x172, x173, x174, x175, x176, x177, x178, x179, x180, x181, x182, x183, x184, x185, x186, x187, x188, x189, x190, x191, x192, x193, x194, x195, x196, x197, x198, x199, x200, x201, x202, x203, x204, x205, x206, x207, x208, x209, x210, x211, x212, x213, x214, x215, x216, x217, x218, x219, x220, x221, x222, x223, x224, x225, x226, x227, x228, x229, x230, x231, x232, x233, x234, x235, x236, x237, x238, x239, x240, x241, x242, x243, x244, x245, x246, x247, x248, x249, x250, x251, x252, x253, x254, x255, x256, x257, x258, x259, x260, x261, x262, x263, x264, x265, x266, x267, x268, x269, x270, x271, x272, x273, x274, x275, x276, x277, x278, x279, x280, x281, x282, x283, x284, x285, x286, x287, x288, x289, x290, x291, x292, x293, x294, x295, x296, x297, x298], []⟩ wr := by
  have HH : Hid (∀ (y240 y241 y242 y243 y244 y245 : Value) (W' : World) (r' : Sl), PI W g gk Sb vo vp nO r' (ts ++ [(s, x)]) W' → Q .normal ⟨#[x0, x1, x2, x3, x4, x5, x6, x7, x8, x9, x10, x11, x12, x13, x14, x15, x16, x17, x18, .pointer (some ⟨gk, 0, none⟩), x20, x21, x22, x23, x24, x25, x26, .pointer (some ⟨B, 0, none⟩), x28, x29, x30, x31, x32, x33, x34, x35, x36, x37, x38, x39, x40, x41, x42, x43, x44, x45, x46, x47, x48, x49, x50, x51, x52, x53, x54, x55, x56, x57, x58, x59, x60, x61, x62, x63, x64, x65, x66, x67, x68, x69, x70, x71, x72, x73, x74, x75, x76, x77, x78, x79, x80, x81, x82, x83, x84, x85, x86, x87, x88, x89, x90, x91, x92, x93, x94, x95, x96, x97, x98, x99, x100, x101, x102, x103, x104, x105, x106, x107, x108, x109, x110, x111, x112, x113, x114, x115, x116, x117, x118, x119, x120, x121, x122, x123, x124, x125, x126, x127, x128, x129, x130, x131, x132, x133, x134, x135, x136, x137, x138, x139, x140, x141, x142, x143, x144, x145, x146, x147, x148, x149, x150, x151, x152, x153, x154, x155, x156, x157, x158, x159, x160, x161, x162, x163, x164, x165, x166, x167, x168, x169, x170, x171, x172, x173, x174, x175, x176, x177, x178, x179, x180, x181, x182, x183, x184, x185, x186, x187, x188, x189, x190, x191, x192, x193, x194, x195, x196, x197, x198, x199, x200, x201, x202, x203, x204, x205, x206, x207, x208, x209, x210, x211, x212, x213, x214, x215, x216, x217, x218, x219, x220, x221, x222, x223, x224, x225, x226, x227, x228, x229, x230, x231, x232, x233, x234, x235, x236, x237, x238, x239, y240, y241, y242, y243, y244, y245, x246, x247, x248, x249, x250, x251, x252, x253, x254, x255, x256, x257, x258, x259, x260, x261, x262, x263, x264, x265, x266, x267, x268, x269, x270, x271, x272, x273, x274, x275, x276, x277, x278, x279, x280, x281, x282, x283, x284, x285, x286, x287, x288, x289, x290, x291, x292, x293, x294, x295, x296, x297, x298], []⟩ W') := h
  have HI : Hid (PI W g gk Sb vo vp nO r ts wr) := hI
  have HMO : Hid (∀ (r' : Sl) (W2 : World), Mine W2 W.heap.size 43 4 (.slice r'.a r'.n r'.c) (ts.map prcC ++ [prcC (s, x)]) → (wr.alloc (.cells (prcC (s, x)).toArray 43)).grownBy W2 (Value.slice r.a r.n r.c).ownBlock → ((Value.slice r'.a r'.n r'.c).ownBlock = (Value.slice r.a r.n r.c).ownBlock ∨ (Value.slice r'.a r'.n r'.c).ownBlock = some (wr.alloc (.cells (prcC (s, x)).toArray 43)).heap.size) → Blk W2 gk #[vo, vp, .slice r.a r.n r.c] 27 ∧ PI W g gk Sb vo vp nO r' (ts ++ [(s, x)]) (W2.setCell ⟨gk, 2, none⟩ (.slice r'.a r'.n r'.c))) := fun r' W2 h1 h2 h3 => hI.more (B := B) hSb hgk hgW hrow hok hlive h1 h2 h3 rfl
  have hM1 : Mine (wr.alloc (.cells (prcC (s, x)).toArray 43)) W.heap.size 43 4 (.slice r.a r.n r.c) (ts.map prcC) := hI.2.2.1.on (On.alloc wr _) fun k hk => (hI.2.2.1.lt k hk).2
  have hbn := Blk.new wr (prcC (s, x)).toArray 43
  have hz0 : W.heap.size ≤ wr.heap.size := (hI.2.2.2.2.2.2 0 (Nat.zero_le _)).size
  have hzA : W.heap.size ≤ (wr.alloc (.cells (prcC (s, x)).toArray 43)).heap.size := by simp; omega
  have HM1 : Hid _ := hM1
  have HBN : Hid _ := hbn
  have HZA : Hid _ := hzA
  have hck := hI.2.1.cell
  have hcb := hbx.cell
  have hfk := hI.2.1.free
  clear h hI hSb hrow hok hlive hbx hM1 hbn hzA
  have e4 : (prcC (s, x)).toArray = #[.bool x.live, .bool x.fenced, .int .i64 x.code, .slice s.a s.n s.c] := rfl
  rw [e4] at hcb HM1 HBN HMO HZA
  conv => arg 2; whnf
  go_wp2_with (with_reducible refine stop_at (.call { callee := .builtin .append, args := #[.tmp 241, .tmp 243], argTypes := #[25, 25] }) rfl ?_)
  unfold Hold
  clear e4 hck hcb hfk
  obtain ⟨i0, hi, hi0, hi1, hi2⟩ := info_parts Try.infoProc
  refine wpList_append_one rfl _ _ _ rfl W.heap.size 43 43 i0 (.agg #[.bool false, .bool false, .int .i64 0, .slice none 0 0]) 4 40 Try.underlying25 hi hi0 hi1 hi2 rfl (by decide) _ (ts.map prcC) rfl HM1.out (even_prc ts) wr.heap.size rfl (prcC (s, x)) HBN.out rfl (fun u hu => ones_prc [(s, x)] _ (List.mem_singleton.2 rfl) u hu) (by rw [List.length_map]; omega) (by decide) HZA.out ?_
  intro r2 W2 hm2 hg2 hat2
  clear hi hi0 hi1 hi2
  obtain ⟨q1, q2⟩ := HMO.out r2 W2 hm2 hg2 hat2
  have HQ2 : Hid (PI W g gk Sb vo vp nO r2 (ts ++ [(s, x)]) (W2.setCell ⟨gk, 2, none⟩ (.slice r2.a r2.n r2.c))) := q2
  have hc2 := q1.cell
  have hf2 := q1.free
  clear hm2 hg2 hat2 q1 q2 HMO HM1 HBN
  go_wp2
  exact HH.out _ _ _ _ _ _ _ r2 HQ2.out
/-- The processes' loop. -/
def PJ (W : World) (g gk : Nat) (Sb : Nat → Prop) (vo vp : Value) (nO n : Nat) (v : Value) (wr : World) : Prop :=
  ∃ (p : Nat) (r : Sl) (ts : List (Sl × Sp.Prc)), p ≤ n ∧ v = .int .i64 p ∧ ts.length = p ∧ PI W g gk Sb vo vp nO r ts wr
set_option maxRecDepth 1000000 in
set_option maxHeartbeats 8000000 in
theorem blk13_wp (Q : Exit → Act → World → Prop) (K : Act → World → Prop) (W : World) (g gk : Nat) (Sb : Nat → Prop) (nO pc n : Nat) (pa : Option Addr) (vo : Value) (hSb : ∀ b, Sb b → b < g) (hgk : g < gk) (hn : n ≤ 3) (hnO2 : nO ≤ 1000) (hmk : MK W g Sb) (hbk : Blk W gk #[vo, .slice pa nO pc, .slice none 0 0] 27)
    (x0 x1 x2 x4 x5 x6 x7 x8 x9 x10 x11 x12 x13 x14 x15 x16 x17 x18 x20 x21 x22 x23 x24 x25 x26 x27 x28 x29 x30 x31 x32 x33 x34 x35 x36 x37 x38 x39 x40 x41 x42 x43 x44 x45 x46 x47 x48 x49 x50 x51 x52 x53 x54 x55 x56 x57 x58 x59 x60 x61 x62 x63 x64 x65 x66 x67 x68 x69 x70 x71 x72 x73 x74 x75 x76 x77 x78 x79 x80 x81 x82 x83 x84 x85 x86 x87 x88 x89 x90 x91 x92 x93 x94 x95 x96 x97 x98 x99 x100 x101 x102 x103 x104 x105 x106 x107 x108 x109 x110 x111 x112 x113 x114 x115 x116 x117 x118 x119 x120 x121 x122 x123 x124 x125 x126 x127 x128 x129 x130 x131 x132 x133 x134 x135 x136 x137 x138 x139 x140 x141 x142 x143 x144 x145 x146 x147 x148 x149 x150 x151 x152 x153 x154 x155 x156 x157 x158 x159 x160 x161 x162 x163 x164 x165 x166 x167 x168 x169 x170 x171 x172 x173 x174 x175 x176 x177 x178 x179 x180 x181 x182 x183 x186 x187 x188 x189 x190 x191 x192 x193 x194 x195 x196 x197 x198 x199 x200 x201 x202 x203 x204 x205 x206 x207 x208 x209 x210 x211 x212 x213 x214 x215 x216 x217 x218 x219 x220 x221 x222 x223 x224 x225 x226 x227 x228 x229 x230 x231 x232 x233 x234 x235 x236 x237 x238 x239 x240 x241 x242 x243 x244 x245 x246 x247 x248 x249 x250 x251 x252 x253 x254 x255 x256 x257 x258 x259 x260 x261 x262 x263 x264 x265 x266 x267 x268 x269 x270 x271 x272 x273 x274 x275 x276 x277 x278 x279 x280 x281 x282 x283 x284 x285 x286 x287 x288 x289 x290 x291 x292 x293 x294 x295 x296 x297 x298 : Value)
    (h : ∀ (y26 y27 y28 y29 y30 y185 y186 y187 y188 y189 y190 y191 y192 y193 y194 y195 y196 y197 y198 y199 y200 y201 y202 y203 y204 y205 y206 y207 y208 y209 y210 y211 y212 y213 y214 y215 y216 y217 y218 y219 y220 y221 y222 y223 y224 y225 y226 y227 y228 y229 y230 y231 y232 y233 y234 y235 y236 y237 y238 y239 y240 y241 y242 y243 y244 y245 y246 : Value) (W' : World) (r' : Sl) (ts : List (Sl × Sp.Prc)), ts.length = n → PI W g gk Sb vo (.slice pa nO pc) nO r' ts W' → K ⟨#[x0, x1, x2, .pointer (some ⟨g, 0, none⟩), x4, x5, x6, x7, x8, x9, x10, x11, x12, x13, x14, x15, x16, x17, x18, .pointer (some ⟨gk, 0, none⟩), x20, x21, x22, x23, x24, x25, y26, y27, y28, y29, y30, x31, x32, x33, x34, x35, x36, x37, x38, x39, x40, x41, x42, x43, x44, x45, x46, x47, x48, x49, x50, x51, x52, x53, x54, x55, x56, x57, x58, x59, x60, x61, x62, x63, x64, x65, x66, x67, x68, x69, x70, x71, x72, x73, x74, x75, x76, x77, x78, x79, x80, x81, x82, x83, x84, x85, x86, x87, x88, x89, x90, x91, x92, x93, x94, x95, x96, x97, x98, x99, x100, x101, x102, x103, x104, x105, x106, x107, x108, x109, x110, x111, x112, x113, x114, x115, x116, x117, x118, x119, x120, x121, x122, x123, x124, x125, x126, x127, x128, x129, x130, x131, x132, x133, x134, x135, x136, x137, x138, x139, x140, x141, x142, x143, x144, x145, x146, x147, x148, x149, x150, x151, x152, x153, x154, x155, x156, x157, x158, x159, x160, x161, x162, x163, x164, x165, x166, x167, x168, x169, x170, x171, x172, x173, x174, x175, x176, x177, x178, x179, x180, x181, x182, x183, .int .i64 n, y185, y186, y187, y188, y189, y190, y191, y192, y193, y194, y195, y196, y197, y198, y199, y200, y201, y202, y203, y204, y205, y206, y207, y208, y209, y210, y211, y212, y213, y214, y215, y216, y217, y218, y219, y220, y221, y222, y223, y224, y225, y226, y227, y228, y229, y230, y231, y232, y233, y234, y235, y236, y237, y238, y239, y240, y241, y242, y243, y244, y245, y246, x247, x248, x249, x250, x251, x252, x253, x254, x255, x256, x257, x258, x259, x260, x261, x262, x263, x264, x265, x266, x267, x268, x269, x270, x271, x272, x273, x274, x275, x276, x277, x278, x279, x280, x281, x282, x283, x284, x285, x286, x287, x288, x289, x290, x291, x292, x293, x294, x295, x296, x297, x298], []⟩ W') :
    Code.wp Try.prog ((Try.f9.body.bind (findBlock 13)).getD .skip) (Exit.then K Q) ⟨#[x0, x1, x2, .pointer (some ⟨g, 0, none⟩), x4, x5, x6, x7, x8, x9, x10, x11, x12, x13, x14, x15, x16, x17, x18, .pointer (some ⟨gk, 0, none⟩), x20, x21, x22, x23, x24, x25, x26, x27, x28, x29, x30, x31, x32, x33, x34, x35, x36, x37, x38, x39, x40, x41, x42, x43, x44, x45, x46, x47, x48, x49, x50, x51, x52, x53, x54, x55, x56, x57, x58, x59, x60, x61, x62, x63, x64, x65, x66, x67, x68, x69, x70, x71, x72, x73, x74, x75, x76, x77, x78, x79, x80, x81, x82, x83, x84, x85, x86, x87, x88, x89, x90, x91, x92, x93, x94, x95, x96, x97, x98, x99, x100, x101, x102, x103, x104, x105, x106, x107, x108, x109, x110, x111, x112, x113, x114, x115, x116, x117, x118, x119, x120, x121, x122, x123, x124, x125, x126, x127, x128, x129, x130, x131, x132, x133, x134, x135, x136, x137, x138, x139, x140, x141, x142, x143, x144, x145, x146, x147, x148, x149, x150, x151, x152, x153, x154, x155, x156, x157, x158, x159, x160, x161, x162, x163, x164, x165, x166, x167, x168, x169, x170, x171, x172, x173, x174, x175, x176, x177, x178, x179, x180, x181, x182, x183, .int .i64 n, .int .i64 0, x186, x187, x188, x189, x190, x191, x192, x193, x194, x195, x196, x197, x198, x199, x200, x201, x202, x203, x204, x205, x206, x207, x208, x209, x210, x211, x212, x213, x214, x215, x216, x217, x218, x219, x220, x221, x222, x223, x224, x225, x226, x227, x228, x229, x230, x231, x232, x233, x234, x235, x236, x237, x238, x239, x240, x241, x242, x243, x244, x245, x246, x247, x248, x249, x250, x251, x252, x253, x254, x255, x256, x257, x258, x259, x260, x261, x262, x263, x264, x265, x266, x267, x268, x269, x270, x271, x272, x273, x274, x275, x276, x277, x278, x279, x280, x281, x282, x283, x284, x285, x286, x287, x288, x289, x290, x291, x292, x293, x294, x295, x296, x297, x298], []⟩ W := by
  have HH : Hid (∀ (y26 y27 y28 y29 y30 y185 y186 y187 y188 y189 y190 y191 y192 y193 y194 y195 y196 y197 y198 y199 y200 y201 y202 y203 y204 y205 y206 y207 y208 y209 y210 y211 y212 y213 y214 y215 y216 y217 y218 y219 y220 y221 y222 y223 y224 y225 y226 y227 y228 y229 y230 y231 y232 y233 y234 y235 y236 y237 y238 y239 y240 y241 y242 y243 y244 y245 y246 : Value) (W' : World) (r' : Sl) (ts : List (Sl × Sp.Prc)), ts.length = n → PI W g gk Sb vo (.slice pa nO pc) nO r' ts W' → K ⟨#[x0, x1, x2, .pointer (some ⟨g, 0, none⟩), x4, x5, x6, x7, x8, x9, x10, x11, x12, x13, x14, x15, x16, x17, x18, .pointer (some ⟨gk, 0, none⟩), x20, x21, x22, x23, x24, x25, y26, y27, y28, y29, y30, x31, x32, x33, x34, x35, x36, x37, x38, x39, x40, x41, x42, x43, x44, x45, x46, x47, x48, x49, x50, x51, x52, x53, x54, x55, x56, x57, x58, x59, x60, x61, x62, x63, x64, x65, x66, x67, x68, x69, x70, x71, x72, x73, x74, x75, x76, x77, x78, x79, x80, x81, x82, x83, x84, x85, x86, x87, x88, x89, x90, x91, x92, x93, x94, x95, x96, x97, x98, x99, x100, x101, x102, x103, x104, x105, x106, x107, x108, x109, x110, x111, x112, x113, x114, x115, x116, x117, x118, x119, x120, x121, x122, x123, x124, x125, x126, x127, x128, x129, x130, x131, x132, x133, x134, x135, x136, x137, x138, x139, x140, x141, x142, x143, x144, x145, x146, x147, x148, x149, x150, x151, x152, x153, x154, x155, x156, x157, x158, x159, x160, x161, x162, x163, x164, x165, x166, x167, x168, x169, x170, x171, x172, x173, x174, x175, x176, x177, x178, x179, x180, x181, x182, x183, .int .i64 n, y185, y186, y187, y188, y189, y190, y191, y192, y193, y194, y195, y196, y197, y198, y199, y200, y201, y202, y203, y204, y205, y206, y207, y208, y209, y210, y211, y212, y213, y214, y215, y216, y217, y218, y219, y220, y221, y222, y223, y224, y225, y226, y227, y228, y229, y230, y231, y232, y233, y234, y235, y236, y237, y238, y239, y240, y241, y242, y243, y244, y245, y246, x247, x248, x249, x250, x251, x252, x253, x254, x255, x256, x257, x258, x259, x260, x261, x262, x263, x264, x265, x266, x267, x268, x269, x270, x271, x272, x273, x274, x275, x276, x277, x278, x279, x280, x281, x282, x283, x284, x285, x286, x287, x288, x289, x290, x291, x292, x293, x294, x295, x296, x297, x298], []⟩ W') := h
  have HS0 : Hid (PJ W g gk Sb vo (.slice pa nO pc) nO n (.int .i64 0) W) := ⟨0, nilSl, [], Nat.zero_le _, rfl, rfl, hmk, hbk, Mine.nil _ _ _ _, fun t ht => by simp at ht, fun t ht => by simp at ht, fun _ _ => rfl, fun C _ => Below.refl C W⟩
  have HSb : Hid (∀ b, Sb b → b < g) := hSb
  have hgW := hbk.lt
  have hnz : (n : Int) ≤ 3 := by omega
  clear h hSb hbk hmk
  conv => arg 2; whnf
  go_wp2_with fail
  go_loopw [185] (fun v wz => PJ W g gk Sb vo (.slice pa nO pc) nO n v wz) (fun v _ => n - (intOf v).toNat)
  case atStart => exact HS0.out
  case round =>
    obtain ⟨p, r, ts, hp, rfl, hts, hI⟩ := hrel
    clear HS0
    have HI : Hid (PI W g gk Sb vo (.slice pa nO pc) nO r ts wr) := hI
    have HTS : Hid (ts.length = p) := hts
    have hz0 : W.heap.size ≤ wr.heap.size := (hI.2.2.2.2.2.2 0 (Nat.zero_le _)).size
    have hown : ∀ b, wr.heap.size ≤ b → some b ≠ (Value.slice r.a r.n r.c).ownBlock := fun b hb e => by have := (hI.2.2.1.lt b e.symm).2; omega
    have HOW : Hid (∀ b, wr.heap.size ≤ b → some b ≠ (Value.slice r.a r.n r.c).ownBlock) := hown
    clear hI hts hown
    by_cases hlt : p < n
    · go_upto_region 56 with fail
      refine reg56_wp _ _ wr g p Sb HSb.out HI.out.1 _ _ _ _ _ _ _ _ _ _ _ _ _ _ _ _ _ _ _ _ _ _ _ _ _ _ _ _ _ _ _ _ _ _ _ _ _ _ _ _ _ _ _ _ _ _ _ _ _ _ _ _ _ _ _ _ _ _ _ _ _ _ _ _ _ _ _ _ _ _ _ _ _ _ _ _ _ _ _ _ _ _ _ _ _ _ _ _ _ _ _ _ _ _ _ _ _ _ _ _ _ _ _ _ _ _ _ _ _ _ _ _ _ _ _ _ _ _ _ _ _ _ _ _ _ _ _ _ _ _ _ _ _ _ _ _ _ _ _ _ _ _ _ _ _ _ _ _ _ _ _ _ _ _ _ _ _ _ _ _ _ _ _ _ _ _ _ _ _ _ _ _ _ _ _ _ _ _ _ _ _ _ _ _ _ _ _ _ _ _ _ _ _ _ _ _ _ _ _ _ _ _ _ _ _ _ _ _ _ _ _ _ _ _ _ _ _ _ _ _ _ _ _ _ _ _ _ _ _ _ _ _ _ _ _ _ _ _ _ _ _ _ _ _ _ _ _ _ _ _ _ _ _ _ _ _ _ _ _ _ _ _ _ _ _ _ _ _ _ _ _ _ _ _ _ _ _ _ _ _ _ _ _ _ _ _ _ _ _ _ _ _ _ _ _ _ _ ?_
      intro y188 y189 y190 y191 y192 y193 y194 y195 y196 y197 y198 W1 lv fe hlv hbx1 hp1 hz1
      dsimp only
      have HLV : Hid (p = 0 → lv = true) := hlv
      have HX1 : Hid (Blk W1 wr.heap.size #[.bool lv, .bool fe, .int .i64 0, .slice none 0 0] 43) := hbx1
      have HP1 : Hid (Pn g Sb wr W1) := hp1
      clear hlv hbx1 hp1
      go_wp2_with fail
      refine (pick_pn g Sb HSb.out 5 (by decide) (by decide) wr W1 HP1.out).mono ?_
      rintro e W2 ⟨n5, rfl, hn5, hp2, ho2, hz2⟩
      have HX2 : Hid (Blk W2 wr.heap.size #[.bool lv, .bool fe, .int .i64 0, .slice none 0 0] 43) := Blk.on HX1.out ho2 (by show wr.heap.size ≠ g; omega)
      have HP2 : Hid (Pn g Sb wr W2) := hp2
      have hz2' : W2.heap.size = wr.heap.size + 1 := by omega
      have HI2 : Hid (PI W g gk Sb vo (.slice pa nO pc) nO r ts W2) := HI.out.next hgk hgW hp2.1 hp2.2.1 hp2.2.2.1 hp2.2.2.2
      clear HX1 HP1 hp2 ho2 hz2 hz1
      go_upto_block 15 with fail
      refine blk15_wp _ _ W2 g gk wr.heap.size Sb nO pc n5 pa vo (.slice r.a r.n r.c) lv fe HSb.out hgk (by omega) (by omega) hnO2 HI2.out.2.1 HP2.out.1 HX2.out _ _ _ _ _ _ _ _ _ _ _ _ _ _ _ _ _ _ _ _ _ _ _ _ _ _ _ _ _ _ _ _ _ _ _ _ _ _ _ _ _ _ _ _ _ _ _ _ _ _ _ _ _ _ _ _ _ _ _ _ _ _ _ _ _ _ _ _ _ _ _ _ _ _ _ _ _ _ _ _ _ _ _ _ _ _ _ _ _ _ _ _ _ _ _ _ _ _ _ _ _ _ _ _ _ _ _ _ _ _ _ _ _ _ _ _ _ _ _ _ _ _ _ _ _ _ _ _ _ _ _ _ _ _ _ _ _ _ _ _ _ _ _ _ _ _ _ _ _ _ _ _ _ _ _ _ _ _ _ _ _ _ _ _ _ _ _ _ _ _ _ _ _ _ _ _ _ _ _ _ _ _ _ _ _ _ _ _ _ _ _ _ _ _ _ _ _ _ _ _ _ _ _ _ _ _ _ _ _ _ _ _ _ _ _ _ _ _ _ _ _ _ _ _ _ _ _ _ _ _ _ _ _ _ _ _ _ _ _ _ _ _ _ _ _ _ _ _ _ _ _ _ _ _ _ _ _ _ _ _ _ _ _ _ _ _ _ _ _ _ _ _ _ _ _ _ _ _ _ _ _ _ _ _ _ _ _ _ _ _ _ _ _ _ ?_
      intro y28 y29 y30 y201 y202 y203 y204 y205 y206 y207 y208 y209 y210 y211 y212 y213 y214 y215 y216 y217 y218 y219 y220 y221 y222 y223 y224 y225 y226 y227 y228 y229 y230 y231 y232 y233 W3 s ss hss hX3
      dsimp only
      have hz3 : wr.heap.size + 1 ≤ W3.heap.size := by have := hX3.2.2.2.2.2.2.1; omega
      have HX3 : Hid (XI W2 g wr.heap.size Sb lv fe nO s ss W3) := hX3
      have HSS : Hid (ss.length ≤ 4) := hss
      have HI3 : Hid (PI W g gk Sb vo (.slice pa nO pc) nO r ts W3) := HI.out.next hgk hgW hX3.1 ((HP2.out.2.1.less fun b hb => hb).trans (hX3.2.2.2.2.2.1)) (by omega) (fun C hC => (HP2.out.2.2.2 C hC).trans (hX3.2.2.2.2.2.2.2 C hC))
      have hcb := hX3.2.1.cell
      have HW23 : Hid (On (fun b => b < wr.heap.size ∧ b ≠ g) wr W3) := HP2.out.2.1.trans hX3.2.2.2.2.2.1
      have HB23 : Hid (∀ C, C ≤ g → Below C wr W3) := fun C hC => (HP2.out.2.2.2 C hC).trans (hX3.2.2.2.2.2.2.2 C hC)
      clear hX3 hss HX2 HP2 HI2
      cases lv with
      | true =>
        go_upto_region 66 with fail
        refine reg66_wp _ W W3 g gk wr.heap.size Sb vo (.slice pa nO pc) nO r s ts ⟨true, fe, 0, ss⟩ HSb.out hgk hgW HI3.out HX3.out.2.1 (HX3.out.2.2.1.more fun b hb => ⟨by omega, hb.2, HOW.out b (by omega)⟩) ⟨HSS.out, HX3.out.2.2.2.1, Int.le_refl 0, by show (0 : Int) ≤ 8; decide, fun _ => rfl, fun e => by cases e⟩ (fun _ => rfl) (by have := HTS.out; omega) _ _ _ _ _ _ _ _ _ _ _ _ _ _ _ _ _ _ _ _ _ _ _ _ _ _ _ _ _ _ _ _ _ _ _ _ _ _ _ _ _ _ _ _ _ _ _ _ _ _ _ _ _ _ _ _ _ _ _ _ _ _ _ _ _ _ _ _ _ _ _ _ _ _ _ _ _ _ _ _ _ _ _ _ _ _ _ _ _ _ _ _ _ _ _ _ _ _ _ _ _ _ _ _ _ _ _ _ _ _ _ _ _ _ _ _ _ _ _ _ _ _ _ _ _ _ _ _ _ _ _ _ _ _ _ _ _ _ _ _ _ _ _ _ _ _ _ _ _ _ _ _ _ _ _ _ _ _ _ _ _ _ _ _ _ _ _ _ _ _ _ _ _ _ _ _ _ _ _ _ _ _ _ _ _ _ _ _ _ _ _ _ _ _ _ _ _ _ _ _ _ _ _ _ _ _ _ _ _ _ _ _ _ _ _ _ _ _ _ _ _ _ _ _ _ _ _ _ _ _ _ _ _ _ _ _ _ _ _ _ _ _ _ _ _ _ _ _ _ _ _ _ _ _ _ _ _ _ _ _ _ _ _ _ _ _ _ _ _ _ _ _ _ _ _ _ _ _ _ _ _ _ _ _ _ _ _ _ _ _ _ _ _ _ _ _ _ ?_
        intro y240 y241 y242 y243 y244 y245 W4 r4 hI4
        dsimp only
        have HI4 : Hid (PI W g gk Sb vo (.slice pa nO pc) nO r4 (ts ++ [(s, ⟨true, fe, 0, ss⟩)]) W4) := hI4
        clear hI4 hcb
        go_wp2
        exact ⟨⟨p + 1, r4, ts ++ [(s, ⟨true, fe, 0, ss⟩)], by omega, by go_num, by have := HTS.out; simp; omega, HI4.out⟩, by simp [intOf]; omega⟩
      | false =>
        go_wp2_with fail
        refine (pick_pn g Sb HSb.out 9 (by decide) (by decide) W3 W3 (Pn.refl HX3.out.1)).mono ?_
        rintro e W4 ⟨y, rfl, hy, hp4, ho4, hz4⟩
        have hb4 : Blk W4 wr.heap.size #[.bool false, .bool fe, .int .i64 0, .slice s.a s.n s.c] 43 := Blk.on HX3.out.2.1 ho4 (by show wr.heap.size ≠ g; omega)
        have HB4 : Hid _ := hb4
        have hc4 := hb4.cell
        have hf4 := hb4.free
        have HP4 : Hid (Pn g Sb W3 W4) := hp4
        have HZ4 : Hid (W4.heap.size = W3.heap.size) := hz4
        clear hcb hb4 hp4 ho4 hz4
        go_upto_region 66 with fail
        have s1 := On.set W4 ⟨wr.heap.size, 0, none⟩ (.bool false)
        have s2 := On.set (W4.setCell ⟨wr.heap.size, 0, none⟩ (.bool false)) ⟨wr.heap.size, 1, none⟩ (.bool false)
        have s3 := On.set ((W4.setCell ⟨wr.heap.size, 0, none⟩ (.bool false)).setCell ⟨wr.heap.size, 1, none⟩ (.bool false)) ⟨wr.heap.size, 2, none⟩ (.int .i64 (y : Int))
        have s4 := On.set (((W4.setCell ⟨wr.heap.size, 0, none⟩ (.bool false)).setCell ⟨wr.heap.size, 1, none⟩ (.bool false)).setCell ⟨wr.heap.size, 2, none⟩ (.int .i64 (y : Int))) ⟨wr.heap.size, 3, none⟩ (.slice none 0 0)
        have b1 : Blk (W4.setCell ⟨wr.heap.size, 0, none⟩ (.bool false)) wr.heap.size #[.bool false, .bool fe, .int .i64 0, .slice s.a s.n s.c] 43 := Blk.set HB4.out 0 _
        have b2 : Blk ((W4.setCell ⟨wr.heap.size, 0, none⟩ (.bool false)).setCell ⟨wr.heap.size, 1, none⟩ (.bool false)) wr.heap.size #[.bool false, .bool false, .int .i64 0, .slice s.a s.n s.c] 43 := Blk.set b1 1 _
        have b3 : Blk (((W4.setCell ⟨wr.heap.size, 0, none⟩ (.bool false)).setCell ⟨wr.heap.size, 1, none⟩ (.bool false)).setCell ⟨wr.heap.size, 2, none⟩ (.int .i64 (y : Int))) wr.heap.size #[.bool false, .bool false, .int .i64 (y : Int), .slice s.a s.n s.c] 43 := Blk.set b2 2 _
        have b5 : Blk ((((W4.setCell ⟨wr.heap.size, 0, none⟩ (.bool false)).setCell ⟨wr.heap.size, 1, none⟩ (.bool false)).setCell ⟨wr.heap.size, 2, none⟩ (.int .i64 (y : Int))).setCell ⟨wr.heap.size, 3, none⟩ (.slice none 0 0)) wr.heap.size #[.bool false, .bool false, .int .i64 (y : Int), .slice none 0 0] 43 := Blk.set b3 3 _
        have hon5 : On (fun b => b ≠ wr.heap.size) W4 ((((W4.setCell ⟨wr.heap.size, 0, none⟩ (.bool false)).setCell ⟨wr.heap.size, 1, none⟩ (.bool false)).setCell ⟨wr.heap.size, 2, none⟩ (.int .i64 (y : Int))).setCell ⟨wr.heap.size, 3, none⟩ (.slice none 0 0)) := ((s1.trans s2).trans s3).trans s4
        have hz5 : ((((W4.setCell ⟨wr.heap.size, 0, none⟩ (.bool false)).setCell ⟨wr.heap.size, 1, none⟩ (.bool false)).setCell ⟨wr.heap.size, 2, none⟩ (.int .i64 (y : Int))).setCell ⟨wr.heap.size, 3, none⟩ (.slice none 0 0)).heap.size = W4.heap.size := by simp
        have hbl5 : ∀ C, C ≤ g → Below C W4 ((((W4.setCell ⟨wr.heap.size, 0, none⟩ (.bool false)).setCell ⟨wr.heap.size, 1, none⟩ (.bool false)).setCell ⟨wr.heap.size, 2, none⟩ (.int .i64 (y : Int))).setCell ⟨wr.heap.size, 3, none⟩ (.slice none 0 0)) := fun C hC => ((((Below.refl C W4).setCell (by show C ≤ wr.heap.size; omega) _).setCell (by show C ≤ wr.heap.size; omega) _).setCell (by show C ≤ wr.heap.size; omega) _).setCell (by show C ≤ wr.heap.size; omega) _
        generalize (((W4.setCell ⟨wr.heap.size, 0, none⟩ (.bool false)).setCell ⟨wr.heap.size, 1, none⟩ (.bool false)).setCell ⟨wr.heap.size, 2, none⟩ (.int .i64 (y : Int))).setCell ⟨wr.heap.size, 3, none⟩ (.slice none 0 0) = W5 at *
        have hmk5 : MK W5 g Sb := HP4.out.1.on hon5 (by show g ≠ wr.heap.size; omega) (fun b hb => by have := HSb.out b hb; show b ≠ wr.heap.size; omega)
        have HI5 : Hid (PI W g gk Sb vo (.slice pa nO pc) nO r ts W5) := by
          have hx := HX3.out
          have hi := HI.out
          obtain ⟨-, -, -, -, -, x6, x7, x8⟩ := hx
          have hw2 : On (fun b => b < wr.heap.size ∧ b ≠ g) wr W3 := HW23.out
          refine hi.next hgk hgW hmk5 ((hw2.trans (HP4.out.2.1.less fun b hb => ⟨by omega, hb.2⟩)).trans (hon5.less fun b hb => by show b ≠ wr.heap.size; omega)) (by have := HZ4.out; omega) (fun C hC => ((HB23.out C hC).trans (HP4.out.2.2.2 C hC)).trans (hbl5 C hC))
        refine reg66_wp _ W W5 g gk wr.heap.size Sb vo (.slice pa nO pc) nO r nilSl ts ⟨false, false, (y : Int), []⟩ HSb.out hgk hgW HI5.out b5 (Row.nil _ _ _ _ _) ⟨Nat.zero_le _, fun s hs => by simp at hs, by show (0 : Int) ≤ y; omega, by show (y : Int) ≤ 8; omega, (fun e => by cases e), fun _ => ⟨rfl, rfl⟩⟩ (fun e => by have h1 := HLV.out; have h2 := HTS.out; rw [e] at h2; exact h1 h2.symm) (by have := HTS.out; omega) _ _ _ _ _ _ _ _ _ _ _ _ _ _ _ _ _ _ _ _ _ _ _ _ _ _ _ _ _ _ _ _ _ _ _ _ _ _ _ _ _ _ _ _ _ _ _ _ _ _ _ _ _ _ _ _ _ _ _ _ _ _ _ _ _ _ _ _ _ _ _ _ _ _ _ _ _ _ _ _ _ _ _ _ _ _ _ _ _ _ _ _ _ _ _ _ _ _ _ _ _ _ _ _ _ _ _ _ _ _ _ _ _ _ _ _ _ _ _ _ _ _ _ _ _ _ _ _ _ _ _ _ _ _ _ _ _ _ _ _ _ _ _ _ _ _ _ _ _ _ _ _ _ _ _ _ _ _ _ _ _ _ _ _ _ _ _ _ _ _ _ _ _ _ _ _ _ _ _ _ _ _ _ _ _ _ _ _ _ _ _ _ _ _ _ _ _ _ _ _ _ _ _ _ _ _ _ _ _ _ _ _ _ _ _ _ _ _ _ _ _ _ _ _ _ _ _ _ _ _ _ _ _ _ _ _ _ _ _ _ _ _ _ _ _ _ _ _ _ _ _ _ _ _ _ _ _ _ _ _ _ _ _ _ _ _ _ _ _ _ _ _ _ _ _ _ _ _ _ _ _ _ _ _ _ _ _ _ _ _ _ _ _ _ _ _ _ ?_
        intro y240 y241 y242 y243 y244 y245 W6 r6 hI6
        dsimp only
        have HI6 : Hid (PI W g gk Sb vo (.slice pa nO pc) nO r6 (ts ++ [(nilSl, ⟨false, false, (y : Int), []⟩)]) W6) := hI6
        clear hI6 s1 s2 s3 s4 b1 b2 b3 b5 hon5 hz5 hbl5 hmk5 hc4 hf4
        go_wp2
        exact ⟨⟨p + 1, r6, ts ++ [(nilSl, ⟨false, false, (y : Int), []⟩)], by omega, by go_num, by have := HTS.out; simp; omega, HI6.out⟩, by simp [intOf]; omega⟩
    · go_wp2
      obtain rfl : p = n := by omega
      exact HH.out _ _ _ _ _ _ _ _ _ _ _ _ _ _ _ _ _ _ _ _ _ _ _ _ _ _ _ _ _ _ _ _ _ _ _ _ _ _ _ _ _ _ _ _ _ _ _ _ _ _ _ _ _ _ _ _ _ _ _ _ _ _ _ _ _ _ _ _ r ts HTS.out HI.out
end Go.Proofs.Ytdciohinlhbliaa


/-
  Objects, as they lie in memory, each as something asks of it; rgref5.With, Make, Pair again.
-/
namespace Go.Proofs.Ytdciohinlhbliaa
open Go.RowKit
/-- Objects lie there, each of them so. -/
def ObjsP (Z : Sls × Sp.Ob → Prop) (w : World) (S : Nat → Prop) (v : Value) (l : List Sp.Ob) : Prop :=
  ∃ ts : List (Sls × Sp.Ob), l = ts.map Prod.snd ∧ Row w S 9 v (ts.map objC) ∧ (∀ t ∈ ts, Lists w S t) ∧ ∀ t ∈ ts, Z t
theorem ObjsP.objs {Z : Sls × Sp.Ob → Prop} {w : World} {S : Nat → Prop} {v : Value} {l : List Sp.Ob} (h : ObjsP Z w S v l) : Objs w S v l := by
  obtain ⟨ts, h1, h2, h3, _⟩ := h
  exact ⟨ts, h1, h2, h3⟩
theorem ObjsP.on {Z : Sls × Sp.Ob → Prop} {w w' : World} {S : Nat → Prop} {v : Value} {l : List Sp.Ob} (h : ObjsP Z w S v l) (ho : On S w w') : ObjsP Z w' S v l := by
  obtain ⟨ts, h1, h2, h3, h4⟩ := h
  exact ⟨ts, h1, h2.on ho, fun t ht => (h3 t ht).on ho, h4⟩
theorem ObjsP.more {Z : Sls × Sp.Ob → Prop} {w : World} {S T : Nat → Prop} {v : Value} {l : List Sp.Ob} (h : ObjsP Z w S v l) (hT : ∀ b, S b → T b) : ObjsP Z w T v l := by
  obtain ⟨ts, h1, h2, h3, h4⟩ := h
  exact ⟨ts, h1, h2.more hT, fun t ht => (h3 t ht).more hT, h4⟩
theorem Objs.withP {Z : Sls × Sp.Ob → Prop} {w : World} {S : Nat → Prop} {v : Value} {l : List Sp.Ob} (h : Objs w S v l) (hZ : ∀ s o, o ∈ l → Z (s, o)) : ObjsP Z w S v l := by
  obtain ⟨ts, rfl, h2, h3⟩ := h
  exact ⟨ts, rfl, h2, h3, fun t ht => hZ t.1 t.2 (List.mem_map_of_mem ht)⟩
theorem ObjsP.open {Z : Sls × Sp.Ob → Prop} {w : World} {S : Nat → Prop} {v : Value} {L : List Sp.Ob} (h : ObjsP Z w S v L) {k : Nat} {x : Sp.Ob} (hx : L[k]? = some x) :
    ∃ b o c s, v = .slice (some ⟨b, o, none⟩) L.length c ∧ S b ∧ L.length ≤ c ∧ c ≤ maxLen ∧ Lists w S (s, x) ∧ Z (s, x) ∧ w.cell? ⟨b, o + k * 9, none⟩ = some (.int .i64 x.kind) ∧ w.cell? ⟨b, o + k * 9 + 1, none⟩ = some (.slice s.d.a s.d.n s.d.c) ∧ w.cell? ⟨b, o + k * 9 + 2, none⟩ = some (.slice s.e.a s.e.n s.e.c) ∧ w.cell? ⟨b, o + k * 9 + 3, none⟩ = some (.string x.target) ∧ w.cell? ⟨b, o + k * 9 + 4, none⟩ = some (.int .i64 x.peer) ∧ w.cell? ⟨b, o + k * 9 + 5, none⟩ = some (.slice s.q.a s.q.n s.q.c) ∧ w.cell? ⟨b, o + k * 9 + 6, none⟩ = some (.int .i64 x.proc) ∧ w.cell? ⟨b, o + k * 9 + 7, none⟩ = some (.int .i64 x.links) ∧ w.cell? ⟨b, o + k * 9 + 8, none⟩ = some (.int .i64 x.up) := by
  obtain ⟨ts, rfl, hr, hl, hq⟩ := h
  rw [List.getElem?_map] at hx
  cases ht : ts[k]? with
  | none => rw [ht] at hx; cases hx
  | some t =>
    rw [ht] at hx
    simp at hx
    subst hx
    obtain ⟨s, x⟩ := t
    have hlt := (List.getElem?_eq_some_iff.1 ht).1
    obtain ⟨b, o, c, h1, h2, h3, h4, h5⟩ := hr.some (by rw [List.length_map]; omega)
    rw [List.length_map] at h1 h3 ⊢
    exact ⟨b, o, c, s, h1, h2, h3, h4, hl _ (List.mem_of_getElem? ht), hq _ (List.mem_of_getElem? ht), obj_cells h5 ht⟩
set_option maxRecDepth 100000 in
set_option maxHeartbeats 4000000 in
theorem rwith_P (Z : Sls × Sp.Ob → Prop) (L : List Sp.Ob) (k : Nat) (s : Sls) (o : Sp.Ob) (v : Value) (S : Nat → Prop) (w : World) (hv : ObjsP Z w S v L) (hS : ∀ b, S b → b < w.heap.size) (hn : L.length ≤ 1000) (hk : k ≤ L.length) (ho : Lists w S (s, o)) (hZ : Z (s, o)) :
    Calls Try.prog 31 #[v, .int .i64 k, .agg (objC (s, o)).toArray] w fun e w' => ∃ a c, e = .returned (.slice a (Sp.rwith L k o).length c) ∧ ObjsP Z w' (Or' S w.heap.size w'.heap.size) (.slice a (Sp.rwith L k o).length c) (Sp.rwith L k o) ∧ Below w.heap.size w w' := by
  obtain ⟨ts, rfl, hr, hl, hq⟩ := hv
  obtain ⟨va, vc, rfl, -⟩ := hr.form
  rw [List.length_map] at hr hn hk ⊢
  have HR : Hid (Row w S 9 (.slice va ts.length vc) (ts.map objC)) := hr
  have HL : Hid (∀ t ∈ ts, Lists w S t) := hl
  have HO : Hid (Lists w S (s, o)) := ho
  have HS : Hid (∀ b, S b → b < w.heap.size) := hS
  have hnz : (ts.length : Int) ≤ 1000 := by omega
  have HP : Hid (∀ w' a c us, (if k = ts.length then ts ++ [(s, o)] else ts.set k (s, o)) = us → Row w' (Or' S w.heap.size w'.heap.size) 9 (.slice a us.length c) (us.map objC) → Below w.heap.size w w' → ∃ a' c', Value.slice a us.length c = .slice a' (Sp.rwith (ts.map Prod.snd) k o).length c' ∧ ObjsP Z w' (Or' S w.heap.size w'.heap.size) (.slice a' (Sp.rwith (ts.map Prod.snd) k o).length c') (Sp.rwith (ts.map Prod.snd) k o) ∧ Below w.heap.size w w') := by
    rintro w' a c us hus hrow hB
    have e : Sp.rwith (ts.map Prod.snd) k o = us.map Prod.snd := by
      unfold Sp.rwith
      rw [List.length_map, ← hus]
      split
      · rw [List.map_append]; rfl
      · rw [List.map_set]
    rw [e, List.length_map]
    have key0 : ∀ t ∈ us, t ∈ ts ∨ t = (s, o) := fun t ht => by
      rw [← hus] at ht
      split at ht
      · rcases List.mem_append.1 ht with h | h
        · exact Or.inl h
        · exact Or.inr (by simpa using h)
      · exact List.mem_or_eq_of_mem_set ht
    refine ⟨a, c, rfl, ⟨us, rfl, hrow, fun t ht => ?_, fun t ht => (key0 t ht).elim (hq t) (fun e => e ▸ hZ)⟩, hB⟩
    have hon : On S w w' := (On.of hB).less hS
    rcases key0 t ht with h | h
    · exact ((hl t h).on hon).more fun b hb => Or.inl hb
    · subst h
      exact (ho.on hon).more fun b hb => Or.inl hb
  generalize hRW : Sp.rwith (ts.map Prod.snd) k o = RW at HP ⊢
  clear hRW hr hl ho hS hq hZ
  rw [objV_eq]
  go_enter Try.func31, Try.ntmps31
  go_wp2_with (with_reducible refine stop_at (.call { callee := .builtin .append, args := #[.tmp 8, .tmp 9], argTypes := #[23, 23] }) rfl ?_)
  unfold Hold
  have HM1 : Hid (Mine ((w.alloc (.cells #[.int .i64 o.kind, .slice s.d.a s.d.n s.d.c, .slice s.e.a s.e.n s.e.c, .string o.target, .int .i64 o.peer, .slice s.q.a s.q.n s.q.c, .int .i64 o.proc, .int .i64 o.links, .int .i64 o.up] 40)).alloc (.cells #[] 40)) (w.heap.size + 1) 40 9 (.slice (some ⟨w.heap.size + 1, 0, none⟩) 0 0) []) := by
    have := Mine.empty (w.alloc (.cells #[.int .i64 o.kind, .slice s.d.a s.d.n s.d.c, .slice s.e.a s.e.n s.e.c, .string o.target, .int .i64 o.peer, .slice s.q.a s.q.n s.q.c, .int .i64 o.proc, .int .i64 o.links, .int .i64 o.up] 40)) 40 9
    have e : (w.alloc (.cells #[.int .i64 o.kind, .slice s.d.a s.d.n s.d.c, .slice s.e.a s.e.n s.e.c, .string o.target, .int .i64 o.peer, .slice s.q.a s.q.n s.q.c, .int .i64 o.proc, .int .i64 o.links, .int .i64 o.up] 40)).heap.size = w.heap.size + 1 := by simp
    rw [e] at this
    exact this
  have HBX1 : Hid (Blk ((w.alloc (.cells #[.int .i64 o.kind, .slice s.d.a s.d.n s.d.c, .slice s.e.a s.e.n s.e.c, .string o.target, .int .i64 o.peer, .slice s.q.a s.q.n s.q.c, .int .i64 o.proc, .int .i64 o.links, .int .i64 o.up] 40)).alloc (.cells #[] 40)) w.heap.size #[.int .i64 o.kind, .slice s.d.a s.d.n s.d.c, .slice s.e.a s.e.n s.e.c, .string o.target, .int .i64 o.peer, .slice s.q.a s.q.n s.q.c, .int .i64 o.proc, .int .i64 o.links, .int .i64 o.up] 40) := (Blk.new w _ _).alloc _
  have HB1 : Hid (Below w.heap.size w ((w.alloc (.cells #[.int .i64 o.kind, .slice s.d.a s.d.n s.d.c, .slice s.e.a s.e.n s.e.c, .string o.target, .int .i64 o.peer, .slice s.q.a s.q.n s.q.c, .int .i64 o.proc, .int .i64 o.links, .int .i64 o.up] 40)).alloc (.cells #[] 40))) := ((Below.refl _ _).alloc (Nat.le_refl _) _).alloc (by simp) _
  have hz1 : ((w.alloc (.cells #[.int .i64 o.kind, .slice s.d.a s.d.n s.d.c, .slice s.e.a s.e.n s.e.c, .string o.target, .int .i64 o.peer, .slice s.q.a s.q.n s.q.c, .int .i64 o.proc, .int .i64 o.links, .int .i64 o.up] 40)).alloc (.cells #[] 40)).heap.size = w.heap.size + 2 := by simp
  have HZ1 : Hid _ := hz1
  clear hz1
  generalize (w.alloc (.cells #[.int .i64 o.kind, .slice s.d.a s.d.n s.d.c, .slice s.e.a s.e.n s.e.c, .string o.target, .int .i64 o.peer, .slice s.q.a s.q.n s.q.c, .int .i64 o.proc, .int .i64 o.links, .int .i64 o.up] 40)).alloc (.cells #[] 40) = w1 at *
  obtain ⟨i0, hi, hz0, hz1, hz2⟩ := info_parts Try.infoObj
  refine wpList_append_row rfl _ _ _ rfl (w.heap.size + 1) 40 i0 (.agg #[.int .i64 0, .slice none 0 0, .slice none 0 0, .string ⟨#[]⟩, .int .i64 0, .slice none 0 0, .int .i64 0, .int .i64 0, .int .i64 0]) 9 128 Try.underlying23 hi hz0 hz1 hz2 rfl (by decide) _ [] rfl HM1.out (.slice va ts.length vc) S (ts.map objC) rfl (Row.on HR.out ((On.of HB1.out).less HS.out)) (even_obj ts) (ones_obj ts) ?_ (by decide) ?_ ?_
  · rw [List.length_map, List.length_nil]; omega
  · have := HZ1.out; omega
  intro v2 w2 ho2 hg2
  rw [List.nil_append] at ho2
  clear hi hz0 hz1 hz2
  have hgl : ∀ j, (Value.slice (some ⟨w.heap.size + 1, 0, none⟩) 0 0).ownBlock = some j → j = w.heap.size + 1 := fun j hj => by simp [Value.ownBlock] at hj; exact hj.symm
  have HB2 : Hid (Below w.heap.size w w2) := HB1.out.grown hg2 (by have := HZ1.out; omega) (fun j hj => by rw [hgl j hj]; omega)
  have hz12 : w.heap.size + 2 ≤ w2.heap.size := by
    have := (Below.grown (Below.refl w.heap.size w1) hg2 (by have := HZ1.out; omega) (fun j hj => by rw [hgl j hj]; omega)).size
    have := HZ1.out
    omega
  have HBX2 : Hid (Blk w2 w.heap.size #[.int .i64 o.kind, .slice s.d.a s.d.n s.d.c, .slice s.e.a s.e.n s.e.c, .string o.target, .int .i64 o.peer, .slice s.q.a s.q.n s.q.c, .int .i64 o.proc, .int .i64 o.links, .int .i64 o.up] 40) := (hg2.block w.heap.size (by have := HZ1.out; omega) (fun e => by have := hgl _ e.symm; omega)).trans HBX1.out
  obtain ⟨a2, c2, hv2, -, hvg2⟩ := ho2.form
  rw [List.length_map] at hv2 hvg2
  subst hv2
  have HM2 : Hid (Mine w2 (w.heap.size + 1) 40 9 (.slice a2 ts.length c2) (ts.map objC)) := ho2
  have HG2 : Hid (1 ≤ ts.length → ∃ g, a2 = some ⟨g, 0, none⟩ ∧ w.heap.size + 1 ≤ g ∧ g < w2.heap.size) := hvg2
  have cb := Blk.cell HBX2.out
  clear ho2 hg2 hgl HM1 HBX1 HB1 HZ1 hvg2
  by_cases hkl : k = ts.length
  · subst hkl
    have hkz : ((ts.length : Int) == (ts.length : Int)) = true := by simp
    go_wp2_with (with_reducible refine stop_at (.call { callee := .builtin .append, args := #[.tmp 15, .tmp 17], argTypes := #[23, 23] }) rfl ?_)
    unfold Hold
    have HBN := Blk.new w2 #[.int .i64 o.kind, .slice s.d.a s.d.n s.d.c, .slice s.e.a s.e.n s.e.c, .string o.target, .int .i64 o.peer, .slice s.q.a s.q.n s.q.c, .int .i64 o.proc, .int .i64 o.links, .int .i64 o.up] 40
    have hon3 := On.alloc w2 (.cells #[.int .i64 o.kind, .slice s.d.a s.d.n s.d.c, .slice s.e.a s.e.n s.e.c, .string o.target, .int .i64 o.peer, .slice s.q.a s.q.n s.q.c, .int .i64 o.proc, .int .i64 o.links, .int .i64 o.up] 40)
    have HB3 : Hid (Below w.heap.size w (w2.alloc (.cells #[.int .i64 o.kind, .slice s.d.a s.d.n s.d.c, .slice s.e.a s.e.n s.e.c, .string o.target, .int .i64 o.peer, .slice s.q.a s.q.n s.q.c, .int .i64 o.proc, .int .i64 o.links, .int .i64 o.up] 40))) := HB2.out.alloc (by omega) _
    have hz3 : w2.heap.size < (w2.alloc (.cells #[.int .i64 o.kind, .slice s.d.a s.d.n s.d.c, .slice s.e.a s.e.n s.e.c, .string o.target, .int .i64 o.peer, .slice s.q.a s.q.n s.q.c, .int .i64 o.proc, .int .i64 o.links, .int .i64 o.up] 40)).heap.size := by simp
    generalize w2.alloc (.cells #[.int .i64 o.kind, .slice s.d.a s.d.n s.d.c, .slice s.e.a s.e.n s.e.c, .string o.target, .int .i64 o.peer, .slice s.q.a s.q.n s.q.c, .int .i64 o.proc, .int .i64 o.links, .int .i64 o.up] 40) = w3 at *
    have HM3 : Hid (Mine w3 (w.heap.size + 1) 40 9 (.slice a2 ts.length c2) (ts.map objC)) := HM2.out.on hon3 fun g hg => (HM2.out.lt g hg).2
    have HR3 : Hid (Row w3 (fun b => b = w2.heap.size) 9 (.slice (some ⟨w2.heap.size, 0, none⟩) 1 1) [objC (s, o)]) := obj_row HBN
    obtain ⟨i0, hi, hz0, hz1, hz2⟩ := info_parts Try.infoObj
    clear HBN hon3
    refine wpList_append_row rfl _ _ _ rfl (w.heap.size + 1) 40 i0 (.agg #[.int .i64 0, .slice none 0 0, .slice none 0 0, .string ⟨#[]⟩, .int .i64 0, .slice none 0 0, .int .i64 0, .int .i64 0, .int .i64 0]) 9 128 Try.underlying23 hi hz0 hz1 hz2 rfl (by decide) _ (ts.map objC) rfl HM3.out _ _ [objC (s, o)] rfl HR3.out (even_obj [(s, o)]) (ones_obj [(s, o)]) ?_ (by decide) ?_ ?_
    · rw [List.length_map]
      simp only [List.length_cons, List.length_nil]
      omega
    · omega
    intro v4 w4 ho4 hg4
    clear hi hz0 hz1 hz2
    have ho4' : Mine w4 (w.heap.size + 1) 40 9 v4 ((ts ++ [(s, o)]).map objC) := by rw [List.map_append]; exact ho4
    have HB4 : Hid (Below w.heap.size w w4) := HB3.out.grown hg4 (by omega) (fun j hj => by have := (HM3.out.lt j hj).1; omega)
    obtain ⟨a4, c4, hv4, -, -⟩ := ho4'.form
    rw [List.length_map] at hv4
    subst hv4
    have HF : Hid _ := HP.out w4 a4 c4 (ts ++ [(s, o)]) (by simp) ((ho4'.row (even_obj _)).more fun b hb => Or.inr ⟨by omega, hb.2⟩) HB4.out
    clear ho4 ho4' hg4 HM3 HR3
    go_wp2
    go_ret
    obtain ⟨a', c', e1, e2, e3⟩ := HF.out
    have e1' : Value.slice a4 (ts.length + 1) c4 = .slice a' RW.length c' := by rw [← e1]; simp
    exact ⟨a', c', by rw [← e1']; rfl, e2, e3⟩
  · obtain ⟨g2, rfl, hg1, hg2⟩ := HG2.out (by omega)
    have hkz : ((k : Int) == (ts.length : Int)) = false := by simp; omega
    have hklt : k < ts.length := by omega
    obtain ⟨cur, hblk, -, hcc, hcm, hcs, hcur⟩ := HM2.out.blk
    have hget : (ts.map objC)[k]? = some (objC ts[k]) := by rw [List.getElem?_map, List.getElem?_eq_getElem hklt]; rfl
    have hcell : ∀ j u, (objC ts[k])[j]? = some u → w2.cell? ⟨g2, k * 9 + j, none⟩ = some u := fun j u hj => by
      rw [hblk.cell]
      exact hcur _ u (flatten_at (even_obj ts) k _ hget j u hj)
    have y0 := hcell 0 _ rfl
    have y1 := hcell 1 _ rfl
    have y2 := hcell 2 _ rfl
    have y3 := hcell 3 _ rfl
    have y4 := hcell 4 _ rfl
    have y5 := hcell 5 _ rfl
    have y6 := hcell 6 _ rfl
    have y7 := hcell 7 _ rfl
    have y8 := hcell 8 _ rfl
    have yf := hblk.free
    rw [Nat.add_zero] at y0
    unfold maxLen at hcm
    clear hcell hblk hcur hcs hget
    go_wp2
    generalize hW : (((((((((w2.setCell ⟨g2, k * 9, none⟩ (.int .i64 o.kind)).setCell ⟨g2, k * 9 + 1, none⟩ (.slice s.d.a s.d.n s.d.c)).setCell ⟨g2, k * 9 + 2, none⟩ (.slice s.e.a s.e.n s.e.c)).setCell ⟨g2, k * 9 + 3, none⟩ (.string o.target)).setCell ⟨g2, k * 9 + 4, none⟩ (.int .i64 o.peer)).setCell ⟨g2, k * 9 + 5, none⟩ (.slice s.q.a s.q.n s.q.c)).setCell ⟨g2, k * 9 + 6, none⟩ (.int .i64 o.proc)).setCell ⟨g2, k * 9 + 7, none⟩ (.int .i64 o.links)).setCell ⟨g2, k * 9 + 8, none⟩ (.int .i64 o.up)) = W9
    obtain ⟨h9, -, -⟩ := HM2.out.nine (even_obj ts) k (by rw [List.length_map]; exact hklt) _ _ _ _ _ _ _ _ _ W9 hW.symm
    have hB9 : Below w.heap.size w W9 := by
      rw [← hW]
      have hgw : w.heap.size ≤ g2 := by omega
      exact ((((((((HB2.out.setCell hgw _).setCell hgw _).setCell hgw _).setCell hgw _).setCell hgw _).setCell hgw _).setCell hgw _).setCell hgw _).setCell hgw _
    have h9' : Mine W9 (w.heap.size + 1) 40 9 (.slice (some ⟨g2, 0, none⟩) (ts.set k (s, o)).length c2) ((ts.set k (s, o)).map objC) := by
      rw [List.length_set, List.map_set]
      exact h9
    obtain ⟨a', c', e1, e2, e3⟩ := HP.out W9 (some ⟨g2, 0, none⟩) c2 (ts.set k (s, o)) (if_neg hkl) ((h9'.row (even_obj _)).more fun b hb => Or.inr ⟨by omega, hb.2⟩) hB9
    rw [List.length_set] at e1
    go_ret
    exact ⟨a', c', by rw [← e1]; rfl, e2, e3⟩
set_option maxRecDepth 100000 in
set_option maxHeartbeats 2000000 in
theorem rmake_P (Z : Sls × Sp.Ob → Prop) (L : List Sp.Ob) (s : Sls) (o : Sp.Ob) (v : Value) (S : Nat → Prop) (w : World) (hv : ObjsP Z w S v L) (hS : ∀ b, S b → b < w.heap.size) (hn : L.length < 40) (hnf : ∀ o ∈ L, o.kind ≠ 0) (ho : Lists w S (s, o)) (hZ : Z (s, o)) :
    Calls Try.prog 29 #[v, .agg (objC (s, o)).toArray] w fun e w' => ∃ a c, e = .returned (.tuple #[.slice a (L.length + 1) c, .int .i64 L.length, .int .i64 0]) ∧ ObjsP Z w' (Or' S w.heap.size w'.heap.size) (.slice a (L.length + 1) c) (L ++ [o]) ∧ Below w.heap.size w w' := by
  have HW : Hid (∀ W, Below w.heap.size w W → Calls Try.prog 31 #[v, .int .i64 L.length, .agg (objC (s, o)).toArray] W fun e w' => ∃ a c, e = .returned (.slice a (L.length + 1) c) ∧ ObjsP Z w' (Or' S W.heap.size w'.heap.size) (.slice a (L.length + 1) c) (L ++ [o]) ∧ Below W.heap.size W w') := fun W hW => by
    have := rwith_P Z L L.length s o v S W (hv.on ((On.of hW).less hS)) (fun b hb => Nat.lt_of_lt_of_le (hS b hb) hW.size) (by omega) (Nat.le_refl _) (ho.on ((On.of hW).less hS)) hZ
    have e : Sp.rwith L L.length o = L ++ [o] := if_pos rfl
    rw [e, List.length_append] at this
    exact this
  have HV : Hid (Objs w S v L) := hv.objs
  have HNF : Hid (∀ o ∈ L, o.kind ≠ 0) := hnf
  have HS : Hid (∀ b, S b → b < w.heap.size) := hS
  obtain ⟨va, vc, rfl, -⟩ := hv.objs.form
  simp only [objV_eq] at HW ⊢
  have hn40 : ¬ (40 : Int) ≤ (L.length : Int) := by omega
  clear hv hS hnf ho hZ
  go_enter Try.func29, Try.ntmps29
  go_wp2
  have HB1 : Hid (Below w.heap.size w (w.alloc (.cells #[.int .i64 o.kind, .slice s.d.a s.d.n s.d.c, .slice s.e.a s.e.n s.e.c, .string o.target, .int .i64 o.peer, .slice s.q.a s.q.n s.q.c, .int .i64 o.proc, .int .i64 o.links, .int .i64 o.up] 40))) := (Below.refl _ _).alloc (Nat.le_refl _) _
  have HBX : Hid (Blk (w.alloc (.cells #[.int .i64 o.kind, .slice s.d.a s.d.n s.d.c, .slice s.e.a s.e.n s.e.c, .string o.target, .int .i64 o.peer, .slice s.q.a s.q.n s.q.c, .int .i64 o.proc, .int .i64 o.links, .int .i64 o.up] 40)) w.heap.size #[.int .i64 o.kind, .slice s.d.a s.d.n s.d.c, .slice s.e.a s.e.n s.e.c, .string o.target, .int .i64 o.peer, .slice s.q.a s.q.n s.q.c, .int .i64 o.proc, .int .i64 o.links, .int .i64 o.up] 40) := Blk.new _ _ _
  generalize w.alloc (.cells #[.int .i64 o.kind, .slice s.d.a s.d.n s.d.c, .slice s.e.a s.e.n s.e.c, .string o.target, .int .i64 o.peer, .slice s.q.a s.q.n s.q.c, .int .i64 o.proc, .int .i64 o.links, .int .i64 o.up] 40) = w1 at *
  go_loop [7] (fun i => ∃ k : Nat, k ≤ L.length ∧ i = .int .i64 k) (fun i => L.length - (intOf i).toNat)
  case atStart => exact ⟨0, Nat.zero_le _, rfl⟩
  case round =>
    obtain ⟨k, hk, rfl⟩ := hrel
    by_cases hlt : k < L.length
    · have hx : L[k]? = some L[k] := List.getElem?_eq_getElem hlt
      obtain ⟨b, of, c', s', he, hSb, h3, h4, -, c0, -⟩ := (HV.out.on ((On.of HB1.out).less HS.out)).open hx
      obtain ⟨rfl, -, rfl⟩ := Value.slice.inj he
      have hkz : (L[k].kind != 0) = true := by simpa using HNF.out _ (List.getElem_mem hlt)
      unfold maxLen at h4
      generalize L[k] = x at *
      clear hx he
      go_wp2
      exact ⟨⟨k + 1, by omega, by go_num⟩, by simp [intOf]; omega⟩
    · obtain rfl : k = L.length := by omega
      have cb := Blk.cell HBX.out
      go_wp2_with fail
      refine Calls.mono (HW.out _ HB1.out) ?_
      rintro e w3 ⟨a3, c3, rfl, hO3, hb3⟩
      have HF : Hid (ObjsP Z w3 (Or' S w.heap.size w3.heap.size) (.slice a3 (L.length + 1) c3) (L ++ [o])) := hO3.more fun b hb => by
        rcases hb with h | h
        · exact Or.inl h
        · exact Or.inr ⟨Nat.le_trans HB1.out.size h.1, h.2⟩
      have HBF : Hid (Below w.heap.size w w3) := HB1.out.trans (hb3.mono HB1.out.size)
      clear hO3 hb3
      go_wp2
      go_ret3
      exact ⟨a3, c3, rfl, HF.out, HBF.out⟩
set_option maxRecDepth 100000 in
set_option maxHeartbeats 4000000 in
theorem pair_P (Z : Sls × Sp.Ob → Prop) (hZ : ∀ e : Int, Z (⟨nilSl, nilSl, nilSl⟩, obE e)) (hZ2 : ∀ (s : Sls) (e e2 : Int), Z (s, obE e) → Z (s, obE e2)) (L : List Sp.Ob) (v : Value) (S : Nat → Prop) (w : World) (hv : ObjsP Z w S v L) (hS : ∀ b, S b → b < w.heap.size) (hn : L.length < 38) (hnf : ∀ o ∈ L, o.kind ≠ 0) :
    Calls Try.prog 32 #[v] w fun e w' => ∃ a c, e = .returned (.tuple #[.slice a (L.length + 2) c, .agg #[.int .i64 L.length, .int .i64 (L.length + 1 : Int)], .int .i64 0]) ∧ ObjsP Z w' (Or' S w.heap.size w'.heap.size) (.slice a (L.length + 2) c) (L ++ [obE (L.length + 1 : Int), obE L.length]) ∧ Below w.heap.size w w' := by
  have HV : Hid (ObjsP Z w S v L) := hv
  have HS : Hid (∀ b, S b → b < w.heap.size) := hS
  have HNF : Hid (∀ o ∈ L, o.kind ≠ 0) := hnf
  have HN : Hid (L.length < 38) := hn
  have hnz : (L.length : Int) < 38 := by omega
  obtain ⟨va, vc, rfl, -⟩ := hv.objs.form
  clear hv hS hnf hn
  go_enter Try.func32, Try.ntmps32
  go_wp2_with fail
  have hB1 : Below w.heap.size w (w.alloc (.cells #[.int .i64 0, .int .i64 0] 77)) := (Below.refl _ _).alloc (Nat.le_refl _) _
  have hz1 : (w.alloc (.cells #[.int .i64 0, .int .i64 0] 77)).heap.size = w.heap.size + 1 := by simp
  have hR1 := rmake_P Z L ⟨nilSl, nilSl, nilSl⟩ (obE (-1)) _ S _ (HV.out.on ((On.of hB1).less HS.out)) (fun b hb => by have := HS.out b hb; omega) (by have := HN.out; omega) HNF.out (lists_none _ _ _) (hZ _)
  rw [endV] at hR1
  refine Calls.mono hR1 ?_
  rintro e w2 ⟨a2, c2, rfl, ho2, hb2⟩
  have HB2 : Hid (Below w.heap.size w w2) := hB1.trans (hb2.mono (by omega))
  have hz2 : w.heap.size + 1 ≤ w2.heap.size := by have := hb2.size; omega
  have HC2 : Hid (Blk w2 w.heap.size #[.int .i64 0, .int .i64 0] 77) := (Blk.new w _ _).below hb2 (by omega)
  have HO2 : Hid (ObjsP Z w2 (Or' S (w.heap.size + 1) w2.heap.size) (.slice a2 (L.length + 1) c2) (L ++ [obE (-1)])) := ho2.more fun b hb => by rw [hz1] at hb; exact hb
  clear hR1 ho2 hb2 hB1 hz1
  go_wp2_with fail
  have hR2 := rmake_P Z (L ++ [obE (-1)]) ⟨nilSl, nilSl, nilSl⟩ (obE L.length) (.slice a2 (L.length + 1) c2) (Or' S (w.heap.size + 1) w2.heap.size) w2 HO2.out (fun b hb => Or'.lt HS.out (by omega) hb) (by have := HN.out; simp; omega) (fun o ho => by
    rcases List.mem_append.1 ho with h | h
    · exact HNF.out o h
    · simp at h; subst h; decide) (lists_none _ _ _) (hZ _)
  rw [endV] at hR2
  simp only [List.length_append, List.length_singleton, Nat.add_assoc, List.append_assoc, List.singleton_append, Nat.reduceAdd] at hR2
  refine Calls.mono hR2 ?_
  rintro e w3 ⟨a3, c3, rfl, ho3, hb3⟩
  have HB3 : Hid (Below w.heap.size w w3) := HB2.out.trans (hb3.mono HB2.out.size)
  have hz3 : w2.heap.size ≤ w3.heap.size := hb3.size
  have HC3 : Hid (Blk w3 w.heap.size #[.int .i64 0, .int .i64 0] 77) := Blk.below HC2.out hb3 (by omega)
  have HO3 : Hid (ObjsP Z w3 (Or' S (w.heap.size + 1) w3.heap.size) (.slice a3 (L.length + 2) c3) (L ++ [obE (-1), obE L.length])) := ho3.more fun b hb => Or'.grow (by omega) hz3 hb
  obtain ⟨b6, of6, c6, s6, e6, hb6, hc6, hm6, hl6, hz6, t0, t1, t2, t3, t4, t5, t6, t7, t8⟩ := HO3.out.open (k := L.length) (x := obE (-1)) (by rw [List.getElem?_append_right (Nat.le_refl _), Nat.sub_self]; rfl)
  simp only [List.length_append, List.length_cons, List.length_nil] at e6 hc6
  obtain ⟨rfl, -, rfl⟩ := Value.slice.inj e6
  have HL6 : Hid (Lists w3 (Or' S (w.heap.size + 1) w3.heap.size) (s6, obE (L.length + 1 : Int))) := hl6
  unfold maxLen at hm6
  dsimp only [obE] at t0 t1 t2 t3 t4 t5 t6 t7 t8
  clear hR2 ho3 hb3 hl6 e6 HO2 HC2 HB2
  go_wp2_with fail
  have hon4 := On.alloc w3 (.cells #[.int .i64 4, .slice s6.d.a s6.d.n s6.d.c, .slice s6.e.a s6.e.n s6.e.c, .string ⟨#[]⟩, .int .i64 ((L.length : Int) + 1), .slice s6.q.a s6.q.n s6.q.c, .int .i64 (-1), .int .i64 0, .int .i64 0] 40)
  have hz4 : (w3.alloc (.cells #[.int .i64 4, .slice s6.d.a s6.d.n s6.d.c, .slice s6.e.a s6.e.n s6.e.c, .string ⟨#[]⟩, .int .i64 ((L.length : Int) + 1), .slice s6.q.a s6.q.n s6.q.c, .int .i64 (-1), .int .i64 0, .int .i64 0] 40)).heap.size = w3.heap.size + 1 := by simp
  have hB4 : Below w.heap.size w (w3.alloc (.cells #[.int .i64 4, .slice s6.d.a s6.d.n s6.d.c, .slice s6.e.a s6.e.n s6.e.c, .string ⟨#[]⟩, .int .i64 ((L.length : Int) + 1), .slice s6.q.a s6.q.n s6.q.c, .int .i64 (-1), .int .i64 0, .int .i64 0] 40)) := HB3.out.alloc HB3.out.size _
  have hlt3 : ∀ b, Or' S (w.heap.size + 1) w3.heap.size b → b < w3.heap.size := fun b hb => Or'.lt HS.out (by omega) hb
  have hR4 := rwith_P Z (L ++ [obE (-1), obE L.length]) L.length s6 (obE (L.length + 1 : Int)) (.slice (some ⟨b6, of6, none⟩) (L.length + 2) c3) (Or' S (w.heap.size + 1) w3.heap.size) _ (HO3.out.on (hon4.less hlt3)) (fun b hb => by have := hlt3 b hb; omega) (by have := HN.out; simp; omega) (by simp) (HL6.out.on (hon4.less hlt3)) (hZ2 s6 _ _ hz6)
  have e4 : Sp.rwith (L ++ [obE (-1), obE L.length]) L.length (obE (L.length + 1 : Int)) = L ++ [obE (L.length + 1 : Int), obE L.length] := by
    unfold Sp.rwith
    rw [if_neg (by simp), List.set_append_right _ _ (Nat.le_refl _), Nat.sub_self]
    rfl
  rw [e4, objV_eq] at hR4
  simp only [List.length_append, List.length_cons, List.length_nil] at hR4
  refine Calls.mono hR4 ?_
  rintro e w5 ⟨a5, c5, rfl, ho5, hb5⟩
  have hz5 := hb5.size
  have HB5 : Hid (Below w.heap.size w w5) := hB4.trans (hb5.mono hB4.size)
  have hC5 : Blk w5 w.heap.size #[.int .i64 0, .int .i64 0] 77 := (Blk.alloc HC3.out _).below hb5 (by omega)
  have HO5 : Hid (ObjsP Z w5 (Or' S (w.heap.size + 1) w5.heap.size) (.slice a5 (L.length + 2) c5) (L ++ [obE (L.length + 1 : Int), obE L.length])) := ho5.more fun b hb => by
    rcases hb with (h | h) | h
    · exact Or.inl h
    · exact Or.inr ⟨h.1, by omega⟩
    · exact Or.inr ⟨by omega, h.2⟩
  have HC5 : Hid _ := hC5
  have cc := hC5.cell
  have cf := hC5.free
  have hz05 : w.heap.size < w5.heap.size := by omega
  clear hR4 ho5 hb5 hon4 hz4 hB4 hlt3 e4 hC5 HO3 HL6 HC3 HB3 t0 t1 t2 t3 t4 t5 t6 t7 t8
  go_wp2
  have hf1 : Blk (w5.setCell ⟨w.heap.size, 0, none⟩ (.int .i64 L.length)) w.heap.size #[.int .i64 L.length, .int .i64 0] 77 := Blk.set HC5.out 0 _
  have hf2 : Blk ((w5.setCell ⟨w.heap.size, 0, none⟩ (.int .i64 L.length)).setCell ⟨w.heap.size, 1, none⟩ (.int .i64 ((L.length : Int) + 1))) w.heap.size #[.int .i64 L.length, .int .i64 ((L.length : Int) + 1)] 77 := hf1.set 1 _
  have hcF := hf2.cell
  have honF := (On.set w5 ⟨w.heap.size, 0, none⟩ (.int .i64 (L.length : Int))).trans (On.set _ ⟨w.heap.size, 1, none⟩ (.int .i64 ((L.length : Int) + 1)))
  have hBF := (HB5.out.setCell (p := ⟨w.heap.size, 0, none⟩) (Nat.le_refl _) (.int .i64 (L.length : Int))).setCell (p := ⟨w.heap.size, 1, none⟩) (Nat.le_refl _) (.int .i64 ((L.length : Int) + 1))
  have hzF : ((w5.setCell ⟨w.heap.size, 0, none⟩ (.int .i64 L.length)).setCell ⟨w.heap.size, 1, none⟩ (.int .i64 ((L.length : Int) + 1))).heap.size = w5.heap.size := by simp
  generalize (w5.setCell ⟨w.heap.size, 0, none⟩ (.int .i64 L.length)).setCell ⟨w.heap.size, 1, none⟩ (.int .i64 ((L.length : Int) + 1)) = WF at *
  refine bodyPost_ret (v := .tuple #[.slice a5 (L.length + 2) c5, .agg #[.int .i64 L.length, .int .i64 ((L.length : Int) + 1)], .int .i64 0]) (by simp [results, Try.results32, go_sem, hcF]) rfl ⟨a5, c5, rfl, ?_, hBF⟩
  exact (HO5.out.on (honF.less fun b hb => by
    show b ≠ w.heap.size
    rcases hb with h | h
    · have := HS.out b h; omega
    · omega)).more fun b hb => by
      rcases hb with h | h
      · exact Or.inl h
      · exact Or.inr ⟨by omega, by omega⟩
end Go.Proofs.Ytdciohinlhbliaa


/-
  rgref5.Build, piece by piece: channels; descriptors of processes.
-/
namespace Go.Proofs.Ytdciohinlhbliaa
open Go.RowKit
theorem kind_pos {L : List Sp.Ob} (h : Sp.TOk L) : ∀ o ∈ L, o.kind ≠ 0 := fun o ho => by
  obtain ⟨i, hi, rfl⟩ := List.getElem_of_mem ho
  have := (h.all i _ (List.getElem?_eq_getElem hi)).kind
  omega
/-- An end of a channel, where nothing waits: its queue is none. -/
def QN (t : Sls × Sp.Ob) : Prop := t.2.kind = 4 → t.1.q = nilSl ∧ t.2.queue = []
/-- The channels' loop. -/
def CI (W : World) (g : Nat) (L : List Sp.Ob) (n : Nat) (s4 s128 : Value) (wr : World) : Prop :=
  ∃ (k : Nat) (a : Option Addr) (c : Nat) (L' : List Sp.Ob), k ≤ n ∧ s128 = .int .i64 k ∧ s4 = .slice a L'.length c ∧ Sp.TOk L' ∧ (∀ o ∈ L', o.kind ≤ 4) ∧ L'.length ≤ L.length + 2 * k ∧ ObjsP QN wr (fun b => g < b ∧ b < wr.heap.size) (.slice a L'.length c) L' ∧ Below W.heap.size W wr
set_option maxRecDepth 1000000 in
set_option maxHeartbeats 8000000 in
theorem blk5_wp (Q : Exit → Act → World → Prop) (K : Act → World → Prop) (W : World) (g : Nat) (a : Option Addr) (c : Nat) (L : List Sp.Ob) (n : Nat) (hn : n ≤ 2) (hT : Sp.TOk L) (hK4 : ∀ o ∈ L, o.kind ≤ 4) (hL : L.length ≤ 8) (hg : g < W.heap.size) (hv : ObjsP QN W (fun b => g < b ∧ b < W.heap.size) (.slice a L.length c) L)
    (x0 x1 x2 x3 x5 x6 x7 x8 x9 x10 x11 x12 x13 x14 x15 x16 x17 x18 x19 x20 x21 x22 x23 x24 x25 x26 x27 x28 x29 x30 x31 x32 x33 x34 x35 x36 x37 x38 x39 x40 x41 x42 x43 x44 x45 x46 x47 x48 x49 x50 x51 x52 x53 x54 x55 x56 x57 x58 x59 x60 x61 x62 x63 x64 x65 x66 x67 x68 x69 x70 x71 x72 x73 x74 x75 x76 x77 x78 x79 x80 x81 x82 x83 x84 x85 x86 x87 x88 x89 x90 x91 x92 x93 x94 x95 x96 x97 x98 x99 x100 x101 x102 x103 x104 x105 x106 x107 x108 x109 x110 x111 x112 x113 x114 x115 x116 x117 x118 x119 x120 x121 x122 x123 x124 x125 x126 x129 x130 x131 x132 x133 x134 x135 x136 x137 x138 x139 x140 x141 x142 x143 x144 x145 x146 x147 x148 x149 x150 x151 x152 x153 x154 x155 x156 x157 x158 x159 x160 x161 x162 x163 x164 x165 x166 x167 x168 x169 x170 x171 x172 x173 x174 x175 x176 x177 x178 x179 x180 x181 x182 x183 x184 x185 x186 x187 x188 x189 x190 x191 x192 x193 x194 x195 x196 x197 x198 x199 x200 x201 x202 x203 x204 x205 x206 x207 x208 x209 x210 x211 x212 x213 x214 x215 x216 x217 x218 x219 x220 x221 x222 x223 x224 x225 x226 x227 x228 x229 x230 x231 x232 x233 x234 x235 x236 x237 x238 x239 x240 x241 x242 x243 x244 x245 x246 x247 x248 x249 x250 x251 x252 x253 x254 x255 x256 x257 x258 x259 x260 x261 x262 x263 x264 x265 x266 x267 x268 x269 x270 x271 x272 x273 x274 x275 x276 x277 x278 x279 x280 x281 x282 x283 x284 x285 x286 x287 x288 x289 x290 x291 x292 x293 x294 x295 x296 x297 x298 : Value)
    (h : ∀ (y16 y17 y18 y128 y129 y130 y131 y132 y133 y134 y135 y136 y137 y138 y139 : Value) (W' : World) (a' : Option Addr) (c' : Nat) (L' : List Sp.Ob), Sp.TOk L' → (∀ o ∈ L', o.kind ≤ 4) → L'.length ≤ 12 → ObjsP QN W' (fun b => g < b ∧ b < W'.heap.size) (.slice a' L'.length c') L' → Below W.heap.size W W' → K ⟨#[x0, x1, x2, x3, .slice a' L'.length c', x5, x6, x7, x8, x9, x10, x11, x12, x13, x14, x15, y16, y17, y18, x19, x20, x21, x22, x23, x24, x25, x26, x27, x28, x29, x30, x31, x32, x33, x34, x35, x36, x37, x38, x39, x40, x41, x42, x43, x44, x45, x46, x47, x48, x49, x50, x51, x52, x53, x54, x55, x56, x57, x58, x59, x60, x61, x62, x63, x64, x65, x66, x67, x68, x69, x70, x71, x72, x73, x74, x75, x76, x77, x78, x79, x80, x81, x82, x83, x84, x85, x86, x87, x88, x89, x90, x91, x92, x93, x94, x95, x96, x97, x98, x99, x100, x101, x102, x103, x104, x105, x106, x107, x108, x109, x110, x111, x112, x113, x114, x115, x116, x117, x118, x119, x120, x121, x122, x123, x124, x125, x126, .int .i64 n, y128, y129, y130, y131, y132, y133, y134, y135, y136, y137, y138, y139, x140, x141, x142, x143, x144, x145, x146, x147, x148, x149, x150, x151, x152, x153, x154, x155, x156, x157, x158, x159, x160, x161, x162, x163, x164, x165, x166, x167, x168, x169, x170, x171, x172, x173, x174, x175, x176, x177, x178, x179, x180, x181, x182, x183, x184, x185, x186, x187, x188, x189, x190, x191, x192, x193, x194, x195, x196, x197, x198, x199, x200, x201, x202, x203, x204, x205, x206, x207, x208, x209, x210, x211, x212, x213, x214, x215, x216, x217, x218, x219, x220, x221, x222, x223, x224, x225, x226, x227, x228, x229, x230, x231, x232, x233, x234, x235, x236, x237, x238, x239, x240, x241, x242, x243, x244, x245, x246, x247, x248, x249, x250, x251, x252, x253, x254, x255, x256, x257, x258, x259, x260, x261, x262, x263, x264, x265, x266, x267, x268, x269, x270, x271, x272, x273, x274, x275, x276, x277, x278, x279, x280, x281, x282, x283, x284, x285, x286, x287, x288, x289, x290, x291, x292, x293, x294, x295, x296, x297, x298], []⟩ W') :
    Code.wp Try.prog ((Try.f9.body.bind (findBlock 5)).getD .skip) (Exit.then K Q) ⟨#[x0, x1, x2, x3, .slice a L.length c, x5, x6, x7, x8, x9, x10, x11, x12, x13, x14, x15, x16, x17, x18, x19, x20, x21, x22, x23, x24, x25, x26, x27, x28, x29, x30, x31, x32, x33, x34, x35, x36, x37, x38, x39, x40, x41, x42, x43, x44, x45, x46, x47, x48, x49, x50, x51, x52, x53, x54, x55, x56, x57, x58, x59, x60, x61, x62, x63, x64, x65, x66, x67, x68, x69, x70, x71, x72, x73, x74, x75, x76, x77, x78, x79, x80, x81, x82, x83, x84, x85, x86, x87, x88, x89, x90, x91, x92, x93, x94, x95, x96, x97, x98, x99, x100, x101, x102, x103, x104, x105, x106, x107, x108, x109, x110, x111, x112, x113, x114, x115, x116, x117, x118, x119, x120, x121, x122, x123, x124, x125, x126, .int .i64 n, .int .i64 0, x129, x130, x131, x132, x133, x134, x135, x136, x137, x138, x139, x140, x141, x142, x143, x144, x145, x146, x147, x148, x149, x150, x151, x152, x153, x154, x155, x156, x157, x158, x159, x160, x161, x162, x163, x164, x165, x166, x167, x168, x169, x170, x171, x172, x173, x174, x175, x176, x177, x178, x179, x180, x181, x182, x183, x184, x185, x186, x187, x188, x189, x190, x191, x192, x193, x194, x195, x196, x197, x198, x199, x200, x201, x202, x203, x204, x205, x206, x207, x208, x209, x210, x211, x212, x213, x214, x215, x216, x217, x218, x219, x220, x221, x222, x223, x224, x225, x226, x227, x228, x229, x230, x231, x232, x233, x234, x235, x236, x237, x238, x239, x240, x241, x242, x243, x244, x245, x246, x247, x248, x249, x250, x251, x252, x253, x254, x255, x256, x257, x258, x259, x260, x261, x262, x263, x264, x265, x266, x267, x268, x269, x270, x271, x272, x273, x274, x275, x276, x277, x278, x279, x280, x281, x282, x283, x284, x285, x286, x287, x288, x289, x290, x291, x292, x293, x294, x295, x296, x297, x298], []⟩ W := by
  have HH : Hid (∀ (y16 y17 y18 y128 y129 y130 y131 y132 y133 y134 y135 y136 y137 y138 y139 : Value) (W' : World) (a' : Option Addr) (c' : Nat) (L' : List Sp.Ob), Sp.TOk L' → (∀ o ∈ L', o.kind ≤ 4) → L'.length ≤ 12 → ObjsP QN W' (fun b => g < b ∧ b < W'.heap.size) (.slice a' L'.length c') L' → Below W.heap.size W W' → K ⟨#[x0, x1, x2, x3, .slice a' L'.length c', x5, x6, x7, x8, x9, x10, x11, x12, x13, x14, x15, y16, y17, y18, x19, x20, x21, x22, x23, x24, x25, x26, x27, x28, x29, x30, x31, x32, x33, x34, x35, x36, x37, x38, x39, x40, x41, x42, x43, x44, x45, x46, x47, x48, x49, x50, x51, x52, x53, x54, x55, x56, x57, x58, x59, x60, x61, x62, x63, x64, x65, x66, x67, x68, x69, x70, x71, x72, x73, x74, x75, x76, x77, x78, x79, x80, x81, x82, x83, x84, x85, x86, x87, x88, x89, x90, x91, x92, x93, x94, x95, x96, x97, x98, x99, x100, x101, x102, x103, x104, x105, x106, x107, x108, x109, x110, x111, x112, x113, x114, x115, x116, x117, x118, x119, x120, x121, x122, x123, x124, x125, x126, .int .i64 n, y128, y129, y130, y131, y132, y133, y134, y135, y136, y137, y138, y139, x140, x141, x142, x143, x144, x145, x146, x147, x148, x149, x150, x151, x152, x153, x154, x155, x156, x157, x158, x159, x160, x161, x162, x163, x164, x165, x166, x167, x168, x169, x170, x171, x172, x173, x174, x175, x176, x177, x178, x179, x180, x181, x182, x183, x184, x185, x186, x187, x188, x189, x190, x191, x192, x193, x194, x195, x196, x197, x198, x199, x200, x201, x202, x203, x204, x205, x206, x207, x208, x209, x210, x211, x212, x213, x214, x215, x216, x217, x218, x219, x220, x221, x222, x223, x224, x225, x226, x227, x228, x229, x230, x231, x232, x233, x234, x235, x236, x237, x238, x239, x240, x241, x242, x243, x244, x245, x246, x247, x248, x249, x250, x251, x252, x253, x254, x255, x256, x257, x258, x259, x260, x261, x262, x263, x264, x265, x266, x267, x268, x269, x270, x271, x272, x273, x274, x275, x276, x277, x278, x279, x280, x281, x282, x283, x284, x285, x286, x287, x288, x289, x290, x291, x292, x293, x294, x295, x296, x297, x298], []⟩ W') := h
  have HS0 : Hid (CI W g L n (.slice a L.length c) (.int .i64 0) W) := ⟨0, a, c, L, Nat.zero_le _, rfl, rfl, hT, hK4, by omega, hv, Below.refl _ _⟩
  have HLL : Hid (L.length ≤ 8) := hL
  have hnz : (n : Int) ≤ 2 := by omega
  clear h hT hK4 hL hv
  conv => arg 2; whnf
  go_wp2_with fail
  go_loopw [4, 128] (fun s4 s128 wr => CI W g L n s4 s128 wr) (fun _ s128 _ => n - (intOf s128).toNat)
  case atStart => exact HS0.out
  case round =>
    obtain ⟨k, a, c, L', hk, rfl, rfl, hT, hK4, hL, hv, hB⟩ := hrel
    clear HS0
    have HT : Hid (Sp.TOk L') := hT
    have HK4 : Hid (∀ o ∈ L', o.kind ≤ 4) := hK4
    have HL : Hid (L'.length ≤ L.length + 2 * k) := hL
    have HV : Hid (ObjsP QN wr (fun b => g < b ∧ b < wr.heap.size) (.slice a L'.length c) L') := hv
    have HB : Hid (Below W.heap.size W wr) := hB
    clear hT hK4 hL hv hB
    by_cases hlt : k < n
    · go_wp2_with fail
      refine (pair_P QN (fun e _ => ⟨rfl, rfl⟩) (fun s e e2 h _ => h rfl) L' (.slice a L'.length c) (fun b => g < b ∧ b < wr.heap.size) wr HV.out (fun b hb => hb.2) (by have := HL.out; have := HLL.out; omega) (kind_pos HT.out)).mono ?_
      rintro e W1 ⟨a1, c1, rfl, ho1, hb1⟩
      have hz1 := hb1.size
      have hzB := HB.out.size
      have HO1 : Hid (ObjsP QN W1 (fun b => g < b ∧ b < W1.heap.size) (.slice a1 (L'.length + 2) c1) (L' ++ [obE ((L'.length : Int) + 1), obE (L'.length : Int)])) := ho1.more fun b hb => by
        rcases hb with hb | hb
        · exact ⟨hb.1, by omega⟩
        · exact ⟨by omega, hb.2⟩
      have HB1 : Hid (Below W.heap.size W W1) := HB.out.trans (hb1.mono hzB)
      clear ho1 hb1
      go_wp2
      refine ⟨⟨k + 1, a1, c1, L' ++ [obE ((L'.length : Int) + 1), obE (L'.length : Int)], by omega, by go_num, by simp, HT.out.pair, fun o ho => ?_, by have := HL.out; simp; omega, ?_, HB1.out.alloc HB1.out.size _⟩, by simp [intOf]; omega⟩
      · rcases List.mem_append.1 ho with h1 | h1
        · exact HK4.out o h1
        · simp at h1
          rcases h1 with rfl | rfl <;> simp [obE]
      · rw [show (L' ++ [obE ((L'.length : Int) + 1), obE (L'.length : Int)]).length = L'.length + 2 by simp]
        exact (HO1.out.on ((On.alloc W1 _).less fun b hb => hb.2)).more fun b hb => ⟨hb.1, by simp; omega⟩
    · go_wp2
      obtain rfl : k = n := by omega
      exact HH.out _ _ _ _ _ _ _ _ _ _ _ _ _ _ _ _ a c L' HT.out HK4.out (by have := HL.out; have := HLL.out; omega) HV.out HB.out
/-- Descriptors of the processes from 1 on, below n. -/
def procsL (n : Nat) : List Sp.Ob := (List.range (n - 1)).map fun (p : Nat) => Sp.obP ((p : Int) + 1)
theorem procsL_succ (k : Nat) (h : 1 ≤ k) : procsL (k + 1) = procsL k ++ [Sp.obP (k : Int)] := by
  unfold procsL
  rw [show k + 1 - 1 = (k - 1) + 1 by omega, List.range_succ, List.map_append]
  congr 1
  simp
  congr 1
  omega
theorem procsL_ok {L : List Sp.Ob} (h : Sp.TOk L) : ∀ k, k ≤ 3 → Sp.TOk (L ++ procsL k)
  | 0, _ => by simpa [procsL] using h
  | 1, _ => by simpa [procsL] using h
  | k + 2, hk => by
    rw [procsL_succ (k + 1) (by omega), ← List.append_assoc]
    exact (procsL_ok h (k + 1) (by omega)).proc (by omega) (by omega)
theorem procsL_len (k : Nat) : (procsL k).length = k - 1 := by simp [procsL]
/-- The box of the kernel, with its three lists. -/
def kC (a : Option Addr) (n c : Nat) (v1 v2 : Value) : Array Value := #[.slice a n c, v1, v2]
/-- The descriptors' loop. -/
def RI7 (W : World) (g gk : Nat) (L : List Sp.Ob) (n : Nat) (s146 : Value) (wr : World) : Prop :=
  ∃ (k : Nat) (a : Option Addr) (c : Nat), k ≤ n ∧ s146 = .int .i64 k ∧ Blk wr gk (kC a (L ++ procsL k).length c (.slice none 0 0) (.slice none 0 0)) 27 ∧ ObjsP QN wr (fun b => g < b ∧ b < wr.heap.size ∧ b ≠ gk) (.slice a (L ++ procsL k).length c) (L ++ procsL k) ∧ On (fun b => b < W.heap.size ∧ b ≠ gk) W wr ∧ (∀ C, C ≤ gk → Below C W wr)
set_option maxRecDepth 1000000 in
set_option maxHeartbeats 8000000 in
theorem blk7_wp (Q : Exit → Act → World → Prop) (K : Act → World → Prop) (W : World) (g gk : Nat) (a : Option Addr) (c : Nat) (L : List Sp.Ob) (n : Nat) (hn : n ≤ 3) (hT : Sp.TOk L) (hL : L.length ≤ 12) (hg : g < gk) (hbk : Blk W gk (kC a L.length c (.slice none 0 0) (.slice none 0 0)) 27) (hv : ObjsP QN W (fun b => g < b ∧ b < W.heap.size ∧ b ≠ gk) (.slice a L.length c) L)
    (x0 x1 x2 x3 x4 x5 x6 x7 x8 x9 x10 x11 x12 x13 x14 x15 x16 x17 x18 x20 x21 x22 x23 x24 x25 x26 x27 x28 x29 x30 x31 x32 x33 x34 x35 x36 x37 x38 x39 x40 x41 x42 x43 x44 x45 x46 x47 x48 x49 x50 x51 x52 x53 x54 x55 x56 x57 x58 x59 x60 x61 x62 x63 x64 x65 x66 x67 x68 x69 x70 x71 x72 x73 x74 x75 x76 x77 x78 x79 x80 x81 x82 x83 x84 x85 x86 x87 x88 x89 x90 x91 x92 x93 x94 x95 x96 x97 x98 x99 x100 x101 x102 x103 x104 x105 x106 x107 x108 x109 x110 x111 x112 x113 x114 x115 x116 x117 x118 x119 x120 x121 x122 x123 x124 x125 x126 x127 x128 x129 x130 x131 x132 x133 x134 x135 x136 x137 x138 x139 x140 x141 x142 x143 x144 x147 x148 x149 x150 x151 x152 x153 x154 x155 x156 x157 x158 x159 x160 x161 x162 x163 x164 x165 x166 x167 x168 x169 x170 x171 x172 x173 x174 x175 x176 x177 x178 x179 x180 x181 x182 x183 x184 x185 x186 x187 x188 x189 x190 x191 x192 x193 x194 x195 x196 x197 x198 x199 x200 x201 x202 x203 x204 x205 x206 x207 x208 x209 x210 x211 x212 x213 x214 x215 x216 x217 x218 x219 x220 x221 x222 x223 x224 x225 x226 x227 x228 x229 x230 x231 x232 x233 x234 x235 x236 x237 x238 x239 x240 x241 x242 x243 x244 x245 x246 x247 x248 x249 x250 x251 x252 x253 x254 x255 x256 x257 x258 x259 x260 x261 x262 x263 x264 x265 x266 x267 x268 x269 x270 x271 x272 x273 x274 x275 x276 x277 x278 x279 x280 x281 x282 x283 x284 x285 x286 x287 x288 x289 x290 x291 x292 x293 x294 x295 x296 x297 x298 : Value)
    (h : ∀ (y21 y22 y23 y24 y146 y147 y148 y149 y150 y151 y152 y153 y154 y155 y156 y157 y158 y159 y160 y161 y162 : Value) (W' : World) (a' : Option Addr) (c' : Nat), Blk W' gk (kC a' (L ++ procsL n).length c' (.slice none 0 0) (.slice none 0 0)) 27 → ObjsP QN W' (fun b => g < b ∧ b < W'.heap.size ∧ b ≠ gk) (.slice a' (L ++ procsL n).length c') (L ++ procsL n) → On (fun b => b < W.heap.size ∧ b ≠ gk) W W' → (∀ C, C ≤ gk → Below C W W') → K ⟨#[x0, x1, x2, x3, x4, x5, x6, x7, x8, x9, x10, x11, x12, x13, x14, x15, x16, x17, x18, .pointer (some ⟨gk, 0, none⟩), x20, y21, y22, y23, y24, x25, x26, x27, x28, x29, x30, x31, x32, x33, x34, x35, x36, x37, x38, x39, x40, x41, x42, x43, x44, x45, x46, x47, x48, x49, x50, x51, x52, x53, x54, x55, x56, x57, x58, x59, x60, x61, x62, x63, x64, x65, x66, x67, x68, x69, x70, x71, x72, x73, x74, x75, x76, x77, x78, x79, x80, x81, x82, x83, x84, x85, x86, x87, x88, x89, x90, x91, x92, x93, x94, x95, x96, x97, x98, x99, x100, x101, x102, x103, x104, x105, x106, x107, x108, x109, x110, x111, x112, x113, x114, x115, x116, x117, x118, x119, x120, x121, x122, x123, x124, x125, x126, x127, x128, x129, x130, x131, x132, x133, x134, x135, x136, x137, x138, x139, x140, x141, x142, x143, x144, .int .i64 n, y146, y147, y148, y149, y150, y151, y152, y153, y154, y155, y156, y157, y158, y159, y160, y161, y162, x163, x164, x165, x166, x167, x168, x169, x170, x171, x172, x173, x174, x175, x176, x177, x178, x179, x180, x181, x182, x183, x184, x185, x186, x187, x188, x189, x190, x191, x192, x193, x194, x195, x196, x197, x198, x199, x200, x201, x202, x203, x204, x205, x206, x207, x208, x209, x210, x211, x212, x213, x214, x215, x216, x217, x218, x219, x220, x221, x222, x223, x224, x225, x226, x227, x228, x229, x230, x231, x232, x233, x234, x235, x236, x237, x238, x239, x240, x241, x242, x243, x244, x245, x246, x247, x248, x249, x250, x251, x252, x253, x254, x255, x256, x257, x258, x259, x260, x261, x262, x263, x264, x265, x266, x267, x268, x269, x270, x271, x272, x273, x274, x275, x276, x277, x278, x279, x280, x281, x282, x283, x284, x285, x286, x287, x288, x289, x290, x291, x292, x293, x294, x295, x296, x297, x298], []⟩ W') :
    Code.wp Try.prog ((Try.f9.body.bind (findBlock 7)).getD .skip) (Exit.then K Q) ⟨#[x0, x1, x2, x3, x4, x5, x6, x7, x8, x9, x10, x11, x12, x13, x14, x15, x16, x17, x18, .pointer (some ⟨gk, 0, none⟩), x20, x21, x22, x23, x24, x25, x26, x27, x28, x29, x30, x31, x32, x33, x34, x35, x36, x37, x38, x39, x40, x41, x42, x43, x44, x45, x46, x47, x48, x49, x50, x51, x52, x53, x54, x55, x56, x57, x58, x59, x60, x61, x62, x63, x64, x65, x66, x67, x68, x69, x70, x71, x72, x73, x74, x75, x76, x77, x78, x79, x80, x81, x82, x83, x84, x85, x86, x87, x88, x89, x90, x91, x92, x93, x94, x95, x96, x97, x98, x99, x100, x101, x102, x103, x104, x105, x106, x107, x108, x109, x110, x111, x112, x113, x114, x115, x116, x117, x118, x119, x120, x121, x122, x123, x124, x125, x126, x127, x128, x129, x130, x131, x132, x133, x134, x135, x136, x137, x138, x139, x140, x141, x142, x143, x144, .int .i64 n, .int .i64 0, x147, x148, x149, x150, x151, x152, x153, x154, x155, x156, x157, x158, x159, x160, x161, x162, x163, x164, x165, x166, x167, x168, x169, x170, x171, x172, x173, x174, x175, x176, x177, x178, x179, x180, x181, x182, x183, x184, x185, x186, x187, x188, x189, x190, x191, x192, x193, x194, x195, x196, x197, x198, x199, x200, x201, x202, x203, x204, x205, x206, x207, x208, x209, x210, x211, x212, x213, x214, x215, x216, x217, x218, x219, x220, x221, x222, x223, x224, x225, x226, x227, x228, x229, x230, x231, x232, x233, x234, x235, x236, x237, x238, x239, x240, x241, x242, x243, x244, x245, x246, x247, x248, x249, x250, x251, x252, x253, x254, x255, x256, x257, x258, x259, x260, x261, x262, x263, x264, x265, x266, x267, x268, x269, x270, x271, x272, x273, x274, x275, x276, x277, x278, x279, x280, x281, x282, x283, x284, x285, x286, x287, x288, x289, x290, x291, x292, x293, x294, x295, x296, x297, x298], []⟩ W := by
  have HH : Hid (∀ (y21 y22 y23 y24 y146 y147 y148 y149 y150 y151 y152 y153 y154 y155 y156 y157 y158 y159 y160 y161 y162 : Value) (W' : World) (a' : Option Addr) (c' : Nat), Blk W' gk (kC a' (L ++ procsL n).length c' (.slice none 0 0) (.slice none 0 0)) 27 → ObjsP QN W' (fun b => g < b ∧ b < W'.heap.size ∧ b ≠ gk) (.slice a' (L ++ procsL n).length c') (L ++ procsL n) → On (fun b => b < W.heap.size ∧ b ≠ gk) W W' → (∀ C, C ≤ gk → Below C W W') → K ⟨#[x0, x1, x2, x3, x4, x5, x6, x7, x8, x9, x10, x11, x12, x13, x14, x15, x16, x17, x18, .pointer (some ⟨gk, 0, none⟩), x20, y21, y22, y23, y24, x25, x26, x27, x28, x29, x30, x31, x32, x33, x34, x35, x36, x37, x38, x39, x40, x41, x42, x43, x44, x45, x46, x47, x48, x49, x50, x51, x52, x53, x54, x55, x56, x57, x58, x59, x60, x61, x62, x63, x64, x65, x66, x67, x68, x69, x70, x71, x72, x73, x74, x75, x76, x77, x78, x79, x80, x81, x82, x83, x84, x85, x86, x87, x88, x89, x90, x91, x92, x93, x94, x95, x96, x97, x98, x99, x100, x101, x102, x103, x104, x105, x106, x107, x108, x109, x110, x111, x112, x113, x114, x115, x116, x117, x118, x119, x120, x121, x122, x123, x124, x125, x126, x127, x128, x129, x130, x131, x132, x133, x134, x135, x136, x137, x138, x139, x140, x141, x142, x143, x144, .int .i64 n, y146, y147, y148, y149, y150, y151, y152, y153, y154, y155, y156, y157, y158, y159, y160, y161, y162, x163, x164, x165, x166, x167, x168, x169, x170, x171, x172, x173, x174, x175, x176, x177, x178, x179, x180, x181, x182, x183, x184, x185, x186, x187, x188, x189, x190, x191, x192, x193, x194, x195, x196, x197, x198, x199, x200, x201, x202, x203, x204, x205, x206, x207, x208, x209, x210, x211, x212, x213, x214, x215, x216, x217, x218, x219, x220, x221, x222, x223, x224, x225, x226, x227, x228, x229, x230, x231, x232, x233, x234, x235, x236, x237, x238, x239, x240, x241, x242, x243, x244, x245, x246, x247, x248, x249, x250, x251, x252, x253, x254, x255, x256, x257, x258, x259, x260, x261, x262, x263, x264, x265, x266, x267, x268, x269, x270, x271, x272, x273, x274, x275, x276, x277, x278, x279, x280, x281, x282, x283, x284, x285, x286, x287, x288, x289, x290, x291, x292, x293, x294, x295, x296, x297, x298], []⟩ W') := h
  have HS0 : Hid (RI7 W g gk L n (.int .i64 0) W) := by
    have e : L ++ procsL 0 = L := by simp [procsL]
    refine ⟨0, a, c, Nat.zero_le _, rfl, ?_, ?_, fun _ _ => rfl, fun C _ => Below.refl C W⟩ <;> rw [e]
    · exact hbk
    · exact hv
  have HLL : Hid (L.length ≤ 12) := hL
  have HT : Hid (Sp.TOk L) := hT
  have hnz : (n : Int) ≤ 3 := by omega
  clear h hT hL hv hbk
  conv => arg 2; whnf
  go_wp2_with fail
  go_loopw [146] (fun s146 wr => RI7 W g gk L n s146 wr) (fun s146 _ => n - (intOf s146).toNat)
  case atStart => exact HS0.out
  case round =>
    obtain ⟨k, a, c, hk, rfl, hbk, hv, hon, hB⟩ := hrel
    clear HS0
    have HBK : Hid (Blk wr gk (kC a (L ++ procsL k).length c (.slice none 0 0) (.slice none 0 0)) 27) := hbk
    have HV : Hid (ObjsP QN wr (fun b => g < b ∧ b < wr.heap.size ∧ b ≠ gk) (.slice a (L ++ procsL k).length c) (L ++ procsL k)) := hv
    have HO : Hid (On (fun b => b < W.heap.size ∧ b ≠ gk) W wr) := hon
    have HB : Hid (∀ C, C ≤ gk → Below C W wr) := hB
    have hgl := hbk.lt
    have hc := hbk.cell
    have hf := hbk.free
    unfold kC at hc
    clear hbk hv hon hB
    by_cases hlt : k < n
    · by_cases hk0 : k = 0
      · subst hk0
        go_wp2
        refine ⟨⟨1, a, c, by omega, rfl, HBK.out, HV.out, HO.out, HB.out⟩, by simp [intOf]; omega⟩
      · have hkp : (0 : Int) < (k : Int) := by omega
        have hR := rmake_P QN (L ++ procsL k) ⟨nilSl, nilSl, nilSl⟩ (Sp.obP (k : Int)) (.slice a (L ++ procsL k).length c) (fun b => g < b ∧ b < wr.heap.size ∧ b ≠ gk) wr HV.out (fun b hb => hb.2.1) (by have := HLL.out; simp [procsL_len]; omega) (kind_pos (procsL_ok HT.out k (by omega))) ⟨Row.nil _ _ _ _ _, Row.nil _ _ _ _ _, [], rfl, Row.nil _ _ _ _ _, fun t ht => by simp at ht⟩ (fun h => absurd h (by show ¬ (5 : Int) = 4; decide))
        have eP : (objC (⟨nilSl, nilSl, nilSl⟩, Sp.obP (k : Int))).toArray = #[.int .i64 5, .slice none 0 0, .slice none 0 0, .string ⟨#[]⟩, .int .i64 (-1), .slice none 0 0, .int .i64 (k : Int), .int .i64 0, .int .i64 0] := rfl
        rw [eP, List.append_assoc, ← procsL_succ k (by omega)] at hR
        have HR : Hid _ := hR
        have hnl : ((L ++ procsL k).length : Int) ≤ 100 := by have := HLL.out; simp [procsL_len]; omega
        have HLN : Hid ((L ++ procsL (k + 1)).length = (L ++ procsL k).length + 1) := by
          unfold Hid
          simp [procsL_len]
          omega
        generalize (L ++ procsL k).length = M at *
        clear hR eP
        go_wp2_with fail
        refine Calls.mono HR.out ?_
        rintro e W1 ⟨a1, c1, rfl, ho1, hb1⟩
        have hz1 := hb1.size
        have HO1 : Hid (ObjsP QN W1 (fun b => g < b ∧ b < W1.heap.size ∧ b ≠ gk) (.slice a1 (M + 1) c1) (L ++ procsL (k + 1))) := ho1.more fun b hb => by
          rcases hb with hb | hb
          · exact ⟨hb.1, by omega, hb.2.2⟩
          · exact ⟨by omega, hb.2, by omega⟩
        have HBK1 : Hid (Blk W1 gk (kC a M c (.slice none 0 0) (.slice none 0 0)) 27) := Blk.below HBK.out hb1 hgl
        have HQ1 : Hid (On (fun b => b < W.heap.size ∧ b ≠ gk) W W1) := HO.out.trans ((On.of hb1).less fun b hb => by have := (HB.out 0 (Nat.zero_le _)).size; omega)
        have HB1 : Hid (∀ C, C ≤ gk → Below C W W1) := fun C hC => (HB.out C hC).trans (hb1.mono (by omega))
        have hc1 := Blk.cell HBK1.out
        have hf1 := Blk.free HBK1.out
        unfold kC at hc1
        clear ho1 hb1 hc hf
        go_wp2
        have hset := On.set W1 ⟨gk, 0, none⟩ (.slice a1 (M + 1) c1)
        refine ⟨⟨k + 1, a1, c1, by omega, by go_num, ?_, ?_, HQ1.out.trans (hset.less fun b hb => hb.2), fun C hC => (HB1.out C hC).setCell (by show C ≤ gk; omega) _⟩, by simp [intOf]; omega⟩
        · rw [HLN.out]
          exact Blk.set HBK1.out 0 _
        · rw [HLN.out]
          exact (HO1.out.on (hset.less fun b hb => hb.2.2)).more fun b hb => ⟨hb.1, by simp; exact hb.2.1, hb.2.2⟩
    · go_wp2
      obtain rfl : k = n := by omega
      exact HH.out _ _ _ _ _ _ _ _ _ _ _ _ _ _ _ _ _ _ _ _ _ _ a c HBK.out HV.out HO.out HB.out
end Go.Proofs.Ytdciohinlhbliaa


/-
  rgref5.Build, piece by piece: messages that wait.
-/
namespace Go.Proofs.Ytdciohinlhbliaa
open Go.RowKit
/-- Messages, as they are laid down: what is still to be looked at is as it was. -/
def QI (W : World) (g gk : Nat) (Sb : Nat → Prop) (vp vq : Value) (nO : Nat) (L : List Sp.Ob) (i : Nat) (wr : World) : Prop :=
  ∃ (a : Option Addr) (c : Nat) (M : List Sp.Ob), M.length = L.length ∧ Sp.TOk M ∧ (∀ j, i ≤ j → M[j]? = L[j]?) ∧ (∀ (j : Nat) (o : Sp.Ob), M[j]? = some o → ∃ o' : Sp.Ob, L[j]? = some o' ∧ o.kind = o'.kind ∧ o.proc = o'.proc) ∧ (∀ o ∈ M, ∀ m ∈ o.queue, Sp.MsgOk nO m) ∧ MK wr g Sb ∧ Blk wr gk #[.slice a M.length c, vp, vq] 27 ∧ Objs wr (fun b => g < b ∧ b < wr.heap.size ∧ b ≠ gk) (.slice a M.length c) M ∧ On (fun b => b < W.heap.size ∧ b ≠ g ∧ b ≠ gk) W wr ∧ (∀ C, C ≤ g → Below C W wr)
theorem QI.next {W W' : World} {g gk nO i i' : Nat} {Sb : Nat → Prop} {vp vq : Value} {L : List Sp.Ob} {wr : World} (h : QI W g gk Sb vp vq nO L i wr) (hi : i ≤ i') (hgk : g < gk) (hp : Pn g Sb wr W') : QI W g gk Sb vp vq nO L i' W' := by
  obtain ⟨a, c, M, h1, h2, h3, h4, h5, h6, h7, h8, h9, h10⟩ := h
  have hz0 : W.heap.size ≤ wr.heap.size := (h10 0 (Nat.zero_le _)).size
  have hz := hp.2.2.1
  exact ⟨a, c, M, h1, h2, fun j hj => h3 j (by omega), h4, h5, hp.1, h7.on hp.2.1 ⟨h7.lt, by omega⟩, (h8.on (hp.2.1.less fun b hb => ⟨hb.2.1, by omega⟩)).more fun b hb => ⟨hb.1, by omega, hb.2.2⟩, h9.trans (hp.2.1.less fun b hb => ⟨by omega, hb.2.1⟩), fun C hC => (h10 C hC).trans (hp.2.2.2 C hC)⟩
/-- A message's box: bytes, and perhaps a capability. -/
def msgB (b : Nat) (h : Bool) (op rt : Int) : Array Value := #[.slice (some ⟨b, 0, none⟩) 1 1, .bool h, .int .i64 op, .int .i64 rt]
set_option maxRecDepth 1000000 in
set_option maxHeartbeats 8000000 in
/-- A message is made, with or without a capability. -/
theorem reg73_wp (Q : Exit → Act → World → Prop) (_K : Act → World → Prop) (W : World) (g gk G b : Nat) (Sb : Nat → Prop) (nO pc : Nat) (pa : Option Addr) (vo vq : Value) (hSb : ∀ b, Sb b → b < g) (hgk : g < gk) (hgG : gk < G) (hnO2 : nO ≤ 1000) (hmk : MK W g Sb) (hbk : Blk W gk #[vo, .slice pa nO pc, vq] 27) (hbx : Blk W G (msgB b false 0 0) 83)
    (x0 x1 x2 x4 x5 x6 x7 x8 x9 x10 x11 x12 x13 x14 x15 x16 x17 x18 x20 x21 x22 x23 x24 x25 x26 x27 x28 x29 x30 x31 x32 x34 x35 x36 x37 x38 x39 x40 x41 x42 x43 x44 x45 x46 x47 x48 x49 x50 x51 x52 x53 x54 x55 x56 x57 x58 x59 x60 x61 x62 x63 x64 x65 x66 x67 x68 x69 x70 x71 x72 x73 x74 x75 x76 x77 x78 x79 x80 x81 x82 x83 x84 x85 x86 x87 x88 x89 x90 x91 x92 x93 x94 x95 x96 x97 x98 x99 x100 x101 x102 x103 x104 x105 x106 x107 x108 x109 x110 x111 x112 x113 x114 x115 x116 x117 x118 x119 x120 x121 x122 x123 x124 x125 x126 x127 x128 x129 x130 x131 x132 x133 x134 x135 x136 x137 x138 x139 x140 x141 x142 x143 x144 x145 x146 x147 x148 x149 x150 x151 x152 x153 x154 x155 x156 x157 x158 x159 x160 x161 x162 x163 x164 x165 x166 x167 x168 x169 x170 x171 x172 x173 x174 x175 x176 x177 x178 x179 x180 x181 x182 x183 x184 x185 x186 x187 x188 x189 x190 x191 x192 x193 x194 x195 x196 x197 x198 x199 x200 x201 x202 x203 x204 x205 x206 x207 x208 x209 x210 x211 x212 x213 x214 x215 x216 x217 x218 x219 x220 x221 x222 x223 x224 x225 x226 x227 x228 x229 x230 x231 x232 x233 x234 x235 x236 x237 x238 x239 x240 x241 x242 x243 x244 x245 x246 x247 x248 x249 x250 x251 x252 x253 x254 x255 x256 x257 x258 x259 x260 x261 x262 x263 x264 x265 x266 x267 x268 x269 x270 x271 x272 x273 x274 x275 x276 x277 x278 x279 x280 x281 x282 x283 x284 x285 x286 x287 x288 x289 x290 x291 x292 x293 x294 x295 x296 x297 x298 : Value)
    (h : ∀ (y275 y276 y277 y278 y279 y280 y281 y282 y283 y284 : Value) (W' : World) (op rt : Nat), op < nO → rt < 200 → Blk W' G (msgB b true (op : Int) (rt : Int)) 83 → MK W' g Sb → On (fun b => b < W.heap.size ∧ b ≠ g ∧ b ≠ G) W W' → W'.heap.size = W.heap.size → (∀ C, C ≤ g → Below C W W') → Q .normal ⟨#[x0, x1, x2, .pointer (some ⟨g, 0, none⟩), x4, x5, x6, x7, x8, x9, x10, x11, x12, x13, x14, x15, x16, x17, x18, .pointer (some ⟨gk, 0, none⟩), x20, x21, x22, x23, x24, x25, x26, x27, x28, x29, x30, x31, x32, .pointer (some ⟨G, 0, none⟩), x34, x35, x36, x37, x38, x39, x40, x41, x42, x43, x44, x45, x46, x47, x48, x49, x50, x51, x52, x53, x54, x55, x56, x57, x58, x59, x60, x61, x62, x63, x64, x65, x66, x67, x68, x69, x70, x71, x72, x73, x74, x75, x76, x77, x78, x79, x80, x81, x82, x83, x84, x85, x86, x87, x88, x89, x90, x91, x92, x93, x94, x95, x96, x97, x98, x99, x100, x101, x102, x103, x104, x105, x106, x107, x108, x109, x110, x111, x112, x113, x114, x115, x116, x117, x118, x119, x120, x121, x122, x123, x124, x125, x126, x127, x128, x129, x130, x131, x132, x133, x134, x135, x136, x137, x138, x139, x140, x141, x142, x143, x144, x145, x146, x147, x148, x149, x150, x151, x152, x153, x154, x155, x156, x157, x158, x159, x160, x161, x162, x163, x164, x165, x166, x167, x168, x169, x170, x171, x172, x173, x174, x175, x176, x177, x178, x179, x180, x181, x182, x183, x184, x185, x186, x187, x188, x189, x190, x191, x192, x193, x194, x195, x196, x197, x198, x199, x200, x201, x202, x203, x204, x205, x206, x207, x208, x209, x210, x211, x212, x213, x214, x215, x216, x217, x218, x219, x220, x221, x222, x223, x224, x225, x226, x227, x228, x229, x230, x231, x232, x233, x234, x235, x236, x237, x238, x239, x240, x241, x242, x243, x244, x245, x246, x247, x248, x249, x250, x251, x252, x253, x254, x255, x256, x257, x258, x259, x260, x261, x262, x263, x264, x265, x266, x267, x268, x269, x270, x271, x272, x273, x274, y275, y276, y277, y278, y279, y280, y281, y282, y283, y284, x285, x286, x287, x288, x289, x290, x291, x292, x293, x294, x295, x296, x297, x298], []⟩ W') (hnO : 1 ≤ nO) :
    Code.wp Try.prog ((Try.f9.body.bind (findReg 74)).getD .skip) Q ⟨#[x0, x1, x2, .pointer (some ⟨g, 0, none⟩), x4, x5, x6, x7, x8, x9, x10, x11, x12, x13, x14, x15, x16, x17, x18, .pointer (some ⟨gk, 0, none⟩), x20, x21, x22, x23, x24, x25, x26, x27, x28, x29, x30, x31, x32, .pointer (some ⟨G, 0, none⟩), x34, x35, x36, x37, x38, x39, x40, x41, x42, x43, x44, x45, x46, x47, x48, x49, x50, x51, x52, x53, x54, x55, x56, x57, x58, x59, x60, x61, x62, x63, x64, x65, x66, x67, x68, x69, x70, x71, x72, x73, x74, x75, x76, x77, x78, x79, x80, x81, x82, x83, x84, x85, x86, x87, x88, x89, x90, x91, x92, x93, x94, x95, x96, x97, x98, x99, x100, x101, x102, x103, x104, x105, x106, x107, x108, x109, x110, x111, x112, x113, x114, x115, x116, x117, x118, x119, x120, x121, x122, x123, x124, x125, x126, x127, x128, x129, x130, x131, x132, x133, x134, x135, x136, x137, x138, x139, x140, x141, x142, x143, x144, x145, x146, x147, x148, x149, x150, x151, x152, x153, x154, x155, x156, x157, x158, x159, x160, x161, x162, x163, x164, x165, x166, x167, x168, x169, x170, x171, x172, x173, x174, x175, x176, x177, x178, x179, x180, x181, x182, x183, x184, x185, x186, x187, x188, x189, x190, x191, x192, x193, x194, x195, x196, x197, x198, x199, x200, x201, x202, x203, x204, x205, x206, x207, x208, x209, x210, x211, x212, x213, x214, x215, x216, x217, x218, x219, x220, x221, x222, x223, x224, x225, x226, x227, x228, x229, x230, x231, x232, x233, x234, x235, x236, x237, x238, x239, x240, x241, x242, x243, x244, x245, x246, x247, x248, x249, x250, x251, x252, x253, x254, x255, x256, x257, x258, x259, x260, x261, x262, x263, x264, x265, x266, x267, x268, x269, x270, x271, x272, x273, x274, x275, x276, x277, x278, x279, x280, x281, x282, x283, x284, x285, x286, x287, x288, x289, x290, x291, x292, x293, x294, x295, x296, x297, x298], []⟩ W := by
  have HH : Hid (∀ (y275 y276 y277 y278 y279 y280 y281 y282 y283 y284 : Value) (W' : World) (op rt : Nat), op < nO → rt < 200 → Blk W' G (msgB b true (op : Int) (rt : Int)) 83 → MK W' g Sb → On (fun b => b < W.heap.size ∧ b ≠ g ∧ b ≠ G) W W' → W'.heap.size = W.heap.size → (∀ C, C ≤ g → Below C W W') → Q .normal ⟨#[x0, x1, x2, .pointer (some ⟨g, 0, none⟩), x4, x5, x6, x7, x8, x9, x10, x11, x12, x13, x14, x15, x16, x17, x18, .pointer (some ⟨gk, 0, none⟩), x20, x21, x22, x23, x24, x25, x26, x27, x28, x29, x30, x31, x32, .pointer (some ⟨G, 0, none⟩), x34, x35, x36, x37, x38, x39, x40, x41, x42, x43, x44, x45, x46, x47, x48, x49, x50, x51, x52, x53, x54, x55, x56, x57, x58, x59, x60, x61, x62, x63, x64, x65, x66, x67, x68, x69, x70, x71, x72, x73, x74, x75, x76, x77, x78, x79, x80, x81, x82, x83, x84, x85, x86, x87, x88, x89, x90, x91, x92, x93, x94, x95, x96, x97, x98, x99, x100, x101, x102, x103, x104, x105, x106, x107, x108, x109, x110, x111, x112, x113, x114, x115, x116, x117, x118, x119, x120, x121, x122, x123, x124, x125, x126, x127, x128, x129, x130, x131, x132, x133, x134, x135, x136, x137, x138, x139, x140, x141, x142, x143, x144, x145, x146, x147, x148, x149, x150, x151, x152, x153, x154, x155, x156, x157, x158, x159, x160, x161, x162, x163, x164, x165, x166, x167, x168, x169, x170, x171, x172, x173, x174, x175, x176, x177, x178, x179, x180, x181, x182, x183, x184, x185, x186, x187, x188, x189, x190, x191, x192, x193, x194, x195, x196, x197, x198, x199, x200, x201, x202, x203, x204, x205, x206, x207, x208, x209, x210, x211, x212, x213, x214, x215, x216, x217, x218, x219, x220, x221, x222, x223, x224, x225, x226, x227, x228, x229, x230, x231, x232, x233, x234, x235, x236, x237, x238, x239, x240, x241, x242, x243, x244, x245, x246, x247, x248, x249, x250, x251, x252, x253, x254, x255, x256, x257, x258, x259, x260, x261, x262, x263, x264, x265, x266, x267, x268, x269, x270, x271, x272, x273, x274, y275, y276, y277, y278, y279, y280, y281, y282, y283, y284, x285, x286, x287, x288, x289, x290, x291, x292, x293, x294, x295, x296, x297, x298], []⟩ W') := h
  have HSb : Hid (∀ b, Sb b → b < g) := hSb
  have HM : Hid (MK W g Sb) := hmk
  have HX : Hid (Blk W G (msgB b false 0 0) 83) := hbx
  have hck := hbk.cell
  have hKl := hbk.lt
  clear h hSb hmk hbk hbx
  conv => arg 2; whnf
  go_wp2_with fail
  refine (pick_pk g Sb HSb.out nO hnO (by omega) W W (Pk.refl HM.out)).mono ?_
  rintro e W1 ⟨op, rfl, hop, hp1⟩
  have HP1 : Hid (Pk g Sb W W1) := hp1
  clear hp1
  go_wp2_with fail
  refine (pick_pk g Sb HSb.out 200 (by decide) (by decide) W W1 HP1.out).mono ?_
  rintro e W2 ⟨rt, rfl, hrt, hp2⟩
  have HP2 : Hid (Pk g Sb W W2) := hp2
  have HX2 : Hid (Blk W2 G (msgB b false 0 0) 83) := Blk.on HX.out hp2.2.1 (by show G ≠ g; omega)
  have hc2 := Blk.cell HX2.out
  have hf2 := Blk.free HX2.out
  unfold msgB at hc2
  clear hp2 HP1 hck
  go_wp2
  have s1 := On.set W2 ⟨G, 1, none⟩ (.bool true)
  have s2 := On.set (W2.setCell ⟨G, 1, none⟩ (.bool true)) ⟨G, 2, none⟩ (.int .i64 (op : Int))
  have s3 := On.set ((W2.setCell ⟨G, 1, none⟩ (.bool true)).setCell ⟨G, 2, none⟩ (.int .i64 (op : Int))) ⟨G, 3, none⟩ (.int .i64 (rt : Int))
  have b1 : Blk (W2.setCell ⟨G, 1, none⟩ (.bool true)) G (msgB b true 0 0) 83 := Blk.set HX2.out 1 _
  have b2 : Blk ((W2.setCell ⟨G, 1, none⟩ (.bool true)).setCell ⟨G, 2, none⟩ (.int .i64 (op : Int))) G (msgB b true (op : Int) 0) 83 := Blk.set b1 2 _
  have b3 : Blk (((W2.setCell ⟨G, 1, none⟩ (.bool true)).setCell ⟨G, 2, none⟩ (.int .i64 (op : Int))).setCell ⟨G, 3, none⟩ (.int .i64 (rt : Int))) G (msgB b true (op : Int) (rt : Int)) 83 := Blk.set b2 3 _
  have hon := (s1.trans s2).trans s3
  exact HH.out _ _ _ _ _ _ _ _ _ _ _ op rt hop hrt b3 (HP2.out.1.on hon (by show g ≠ G; omega) (fun b hb => by have := HSb.out b hb; show b ≠ G; omega)) ((HP2.out.2.1.less fun b hb => hb.2.1).trans (hon.less fun b hb => hb.2.2)) (by simp; exact HP2.out.2.2.1) (fun C hC => (((HP2.out.2.2.2 C hC).setCell (by show C ≤ G; omega) _).setCell (by show C ≤ G; omega) _).setCell (by show C ≤ G; omega) _)
set_option maxRecDepth 1000000 in
set_option maxHeartbeats 8000000 in
theorem reg75_wp (Q : Exit → Act → World → Prop) (K : Act → World → Prop) (W : World) (B G b : Nat) (s : Sls) (x : Sp.Ob) (hh : Bool) (op rt : Int) (hq : s.q = nilSl) (hbx : Blk W B (objC (s, x)).toArray 40) (hbg : Blk W G (msgB b hh op rt) 83)
    (x0 x1 x2 x3 x4 x5 x6 x7 x8 x9 x10 x11 x12 x13 x14 x15 x16 x17 x18 x19 x20 x21 x22 x23 x24 x25 x26 x27 x28 x29 x30 x31 x34 x35 x36 x37 x38 x39 x40 x41 x42 x43 x44 x45 x46 x47 x48 x49 x50 x51 x52 x53 x54 x55 x56 x57 x58 x59 x60 x61 x62 x63 x64 x65 x66 x67 x68 x69 x70 x71 x72 x73 x74 x75 x76 x77 x78 x79 x80 x81 x82 x83 x84 x85 x86 x87 x88 x89 x90 x91 x92 x93 x94 x95 x96 x97 x98 x99 x100 x101 x102 x103 x104 x105 x106 x107 x108 x109 x110 x111 x112 x113 x114 x115 x116 x117 x118 x119 x120 x121 x122 x123 x124 x125 x126 x127 x128 x129 x130 x131 x132 x133 x134 x135 x136 x137 x138 x139 x140 x141 x142 x143 x144 x145 x146 x147 x148 x149 x150 x151 x152 x153 x154 x155 x156 x157 x158 x159 x160 x161 x162 x163 x164 x165 x166 x167 x168 x169 x170 x171 x172 x173 x174 x175 x176 x177 x178 x179 x180 x181 x182 x183 x184 x185 x186 x187 x188 x189 x190 x191 x192 x193 x194 x195 x196 x197 x198 x199 x200 x201 x202 x203 x204 x205 x206 x207 x208 x209 x210 x211 x212 x213 x214 x215 x216 x217 x218 x219 x220 x221 x222 x223 x224 x225 x226 x227 x228 x229 x230 x231 x232 x233 x234 x235 x236 x237 x238 x239 x240 x241 x242 x243 x244 x245 x246 x247 x248 x249 x250 x251 x252 x253 x254 x255 x256 x257 x258 x259 x260 x261 x262 x263 x264 x265 x266 x267 x268 x269 x270 x271 x272 x273 x274 x275 x276 x277 x278 x279 x280 x281 x282 x283 x284 x285 x286 x287 x288 x289 x290 x291 x292 x293 x294 x295 x296 x297 x298 : Value)
    (h : ∀ (y285 y286 y287 y288 y289 y290 : Value) (W' : World) (r : Sl), Blk W' B (objC (⟨s.d, s.e, r⟩, x)).toArray 40 → Row W' (fun c => W.heap.size ≤ c ∧ c < W'.heap.size) 4 (.slice r.a r.n r.c) [msgC (⟨some ⟨b, 0, none⟩, 1, 1⟩, ⟨[109], hh, op, rt⟩)] → On (fun c => c < W.heap.size ∧ c ≠ B) W W' → W.heap.size ≤ W'.heap.size → (∀ C, C ≤ B → Below C W W') → K ⟨#[x0, x1, x2, x3, x4, x5, x6, x7, x8, x9, x10, x11, x12, x13, x14, x15, x16, x17, x18, x19, x20, x21, x22, x23, x24, x25, x26, x27, x28, x29, x30, x31, .pointer (some ⟨B, 0, none⟩), .pointer (some ⟨G, 0, none⟩), x34, x35, x36, x37, x38, x39, x40, x41, x42, x43, x44, x45, x46, x47, x48, x49, x50, x51, x52, x53, x54, x55, x56, x57, x58, x59, x60, x61, x62, x63, x64, x65, x66, x67, x68, x69, x70, x71, x72, x73, x74, x75, x76, x77, x78, x79, x80, x81, x82, x83, x84, x85, x86, x87, x88, x89, x90, x91, x92, x93, x94, x95, x96, x97, x98, x99, x100, x101, x102, x103, x104, x105, x106, x107, x108, x109, x110, x111, x112, x113, x114, x115, x116, x117, x118, x119, x120, x121, x122, x123, x124, x125, x126, x127, x128, x129, x130, x131, x132, x133, x134, x135, x136, x137, x138, x139, x140, x141, x142, x143, x144, x145, x146, x147, x148, x149, x150, x151, x152, x153, x154, x155, x156, x157, x158, x159, x160, x161, x162, x163, x164, x165, x166, x167, x168, x169, x170, x171, x172, x173, x174, x175, x176, x177, x178, x179, x180, x181, x182, x183, x184, x185, x186, x187, x188, x189, x190, x191, x192, x193, x194, x195, x196, x197, x198, x199, x200, x201, x202, x203, x204, x205, x206, x207, x208, x209, x210, x211, x212, x213, x214, x215, x216, x217, x218, x219, x220, x221, x222, x223, x224, x225, x226, x227, x228, x229, x230, x231, x232, x233, x234, x235, x236, x237, x238, x239, x240, x241, x242, x243, x244, x245, x246, x247, x248, x249, x250, x251, x252, x253, x254, x255, x256, x257, x258, x259, x260, x261, x262, x263, x264, x265, x266, x267, x268, x269, x270, x271, x272, x273, x274, x275, x276, x277, x278, x279, x280, x281, x282, x283, x284, y285, y286, y287, y288, y289, y290, x291, x292, x293, x294, x295, x296, x297, x298], []⟩ W') :
    Code.wp Try.prog ((Try.f9.body.bind (findReg 75)).getD .skip) (Exit.then K Q) ⟨#[x0, x1, x2, x3, x4, x5, x6, x7, x8, x9, x10, x11, x12, x13, x14, x15, x16, x17, x18, x19, x20, x21, x22, x23, x24, x25, x26, x27, x28, x29, x30, x31, .pointer (some ⟨B, 0, none⟩), .pointer (some ⟨G, 0, none⟩), x34, x35, x36, x37, x38, x39, x40, x41, x42, x43, x44, x45, x46, x47, x48, x49, x50, x51, x52, x53, x54, x55, x56, x57, x58, x59, x60, x61, x62, x63, x64, x65, x66, x67, x68, x69, x70, x71, x72, x73, x74, x75, x76, x77, x78, x79, x80, x81, x82, x83, x84, x85, x86, x87, x88, x89, x90, x91, x92, x93, x94, x95, x96, x97, x98, x99, x100, x101, x102, x103, x104, x105, x106, x107, x108, x109, x110, x111, x112, x113, x114, x115, x116, x117, x118, x119, x120, x121, x122, x123, x124, x125, x126, x127, x128, x129, x130, x131, x132, x133, x134, x135, x136, x137, x138, x139, x140, x141, x142, x143, x144, x145, x146, x147, x148, x149, x150, x151, x152, x153, x154, x155, x156, x157, x158, x159, x160, x161, x162, x163, x164, x165, x166, x167, x168, x169, x170, x171, x172, x173, x174, x175, x176, x177, x178, x179, x180, x181, x182, x183, x184, x185, x186, x187, x188, x189, x190, x191, x192, x193, x194, x195, x196, x197, x198, x199, x200, x201, x202, x203, x204, x205, x206, x207, x208, x209, x210, x211, x212, x213, x214, x215, x216, x217, x218, x219, x220, x221, x222, x223, x224, x225, x226, x227, x228, x229, x230, x231, x232, x233, x234, x235, x236, x237, x238, x239, x240, x241, x242, x243, x244, x245, x246, x247, x248, x249, x250, x251, x252, x253, x254, x255, x256, x257, x258, x259, x260, x261, x262, x263, x264, x265, x266, x267, x268, x269, x270, x271, x272, x273, x274, x275, x276, x277, x278, x279, x280, x281, x282, x283, x284, x285, x286, x287, x288, x289, x290, x291, x292, x293, x294, x295, x296, x297, x298], []⟩ W := by
  have HH : Hid (∀ (y285 y286 y287 y288 y289 y290 : Value) (W' : World) (r : Sl), Blk W' B (objC (⟨s.d, s.e, r⟩, x)).toArray 40 → Row W' (fun c => W.heap.size ≤ c ∧ c < W'.heap.size) 4 (.slice r.a r.n r.c) [msgC (⟨some ⟨b, 0, none⟩, 1, 1⟩, ⟨[109], hh, op, rt⟩)] → On (fun c => c < W.heap.size ∧ c ≠ B) W W' → W.heap.size ≤ W'.heap.size → (∀ C, C ≤ B → Below C W W') → K ⟨#[x0, x1, x2, x3, x4, x5, x6, x7, x8, x9, x10, x11, x12, x13, x14, x15, x16, x17, x18, x19, x20, x21, x22, x23, x24, x25, x26, x27, x28, x29, x30, x31, .pointer (some ⟨B, 0, none⟩), .pointer (some ⟨G, 0, none⟩), x34, x35, x36, x37, x38, x39, x40, x41, x42, x43, x44, x45, x46, x47, x48, x49, x50, x51, x52, x53, x54, x55, x56, x57, x58, x59, x60, x61, x62, x63, x64, x65, x66, x67, x68, x69, x70, x71, x72, x73, x74, x75, x76, x77, x78, x79, x80, x81, x82, x83, x84, x85, x86, x87, x88, x89, x90, x91, x92, x93, x94, x95, x96, x97, x98, x99, x100, x101, x102, x103, x104, x105, x106, x107, x108, x109, x110, x111, x112, x113, x114, x115, x116, x117, x118, x119, x120, x121, x122, x123, x124, x125, x126, x127, x128, x129, x130, x131, x132, x133, x134, x135, x136, x137, x138, x139, x140, x141, x142, x143, x144, x145, x146, x147, x148, x149, x150, x151, x152, x153, x154, x155, x156, x157, x158, x159, x160, x161, x162, x163, x164, x165, x166, x167, x168, x169, x170, x171, x172, x173, x174, x175, x176, x177, x178, x179, x180, x181, x182, x183, x184, x185, x186, x187, x188, x189, x190, x191, x192, x193, x194, x195, x196, x197, x198, x199, x200, x201, x202, x203, x204, x205, x206, x207, x208, x209, x210, x211, x212, x213, x214, x215, x216, x217, x218, x219, x220, x221, x222, x223, x224, x225, x226, x227, x228, x229, x230, x231, x232, x233, x234, x235, x236, x237, x238, x239, x240, x241, x242, x243, x244, x245, x246, x247, x248, x249, x250, x251, x252, x253, x254, x255, x256, x257, x258, x259, x260, x261, x262, x263, x264, x265, x266, x267, x268, x269, x270, x271, x272, x273, x274, x275, x276, x277, x278, x279, x280, x281, x282, x283, x284, y285, y286, y287, y288, y289, y290, x291, x292, x293, x294, x295, x296, x297, x298], []⟩ W') := h
  obtain ⟨sd, se, sq⟩ := s
  dsimp only at hq
  subst hq
  have hBl := hbx.lt
  rw [objV_eq] at hbx
  have HX : Hid _ := hbx
  have hcb := hbx.cell
  have hfb := hbx.free
  have hcg := hbg.cell
  unfold msgB at hcg
  dsimp only [nilSl] at hcb
  clear h hbx hbg
  conv => arg 2; whnf
  go_wp2_with (with_reducible refine stop_at (.call { callee := .builtin .append, args := #[.tmp 286, .tmp 288], argTypes := #[38, 38] }) rfl ?_)
  unfold Hold
  have hbn := Blk.new W #[.slice (some ⟨b, 0, none⟩) 1 1, .bool hh, .int .i64 op, .int .i64 rt] 83
  have hon1 := On.alloc W (.cells #[.slice (some ⟨b, 0, none⟩) 1 1, .bool hh, .int .i64 op, .int .i64 rt] 83)
  have hz1 : (W.alloc (.cells #[.slice (some ⟨b, 0, none⟩) 1 1, .bool hh, .int .i64 op, .int .i64 rt] 83)).heap.size = W.heap.size + 1 := by simp
  have hB1 : ∀ C, C ≤ W.heap.size → Below C W (W.alloc (.cells #[.slice (some ⟨b, 0, none⟩) 1 1, .bool hh, .int .i64 op, .int .i64 rt] 83)) := fun C hC => (Below.refl C W).alloc hC _
  generalize W.alloc (.cells #[.slice (some ⟨b, 0, none⟩) 1 1, .bool hh, .int .i64 op, .int .i64 rt] 83) = W1 at *
  obtain ⟨i0, hi, hi0, hi1, hi2⟩ := info_parts Try.infoMsg
  clear hcb hfb hcg
  refine wpList_append_one rfl _ _ _ rfl W.heap.size 83 83 i0 (.agg #[.slice none 0 0, .bool false, .int .i64 0, .int .i64 0]) 4 48 Try.underlying38 hi hi0 hi1 hi2 rfl (by decide) _ [] rfl (Mine.nil W1 W.heap.size 83 4) (fun _ h => by simp at h) W.heap.size rfl (msgC (⟨some ⟨b, 0, none⟩, 1, 1⟩, ⟨[109], hh, op, rt⟩)) hbn rfl (fun u hu => ones_msg [(⟨some ⟨b, 0, none⟩, 1, 1⟩, ⟨[109], hh, op, rt⟩)] _ (List.mem_singleton.2 rfl) u hu) (by decide) (by decide) (by omega) ?_
  intro r W2 hm2 hg2 _
  rw [List.nil_append] at hm2
  clear hi hi0 hi1 hi2
  have hon2 : On (fun c => c < W.heap.size) W W2 := hon1.trans (fun c hc => hg2.block c (by omega) (by intro e; cases e))
  have hB2 : ∀ C, C ≤ W.heap.size → Below C W W2 := fun C hC => (hB1 C hC).grown hg2 (by omega) (fun k hk => by cases hk)
  have hz2 := (hB2 0 (Nat.zero_le _)).size
  have hb2 := Blk.on HX.out hon2 hBl
  have HB2 : Hid _ := hb2
  have hc2 := hb2.cell
  have hf2 := hb2.free
  have HR2 : Hid (Row W2 (fun c => W.heap.size ≤ c ∧ c < W2.heap.size) 4 (.slice r.a r.n r.c) [msgC (⟨some ⟨b, 0, none⟩, 1, 1⟩, ⟨[109], hh, op, rt⟩)]) := hm2.row (even_msg [(⟨some ⟨b, 0, none⟩, 1, 1⟩, ⟨[109], hh, op, rt⟩)])
  have HO2 : Hid (On (fun c => c < W.heap.size) W W2) := hon2
  have HBB : Hid (∀ C, C ≤ W.heap.size → Below C W W2) := hB2
  clear hm2 hg2 hon2 hB2 hb2 hbn hon1 hB1 hz1
  go_wp2
  have hset := On.set W2 ⟨B, 5, none⟩ (.slice r.a r.n r.c)
  refine HH.out _ _ _ _ _ _ _ r (Blk.set HB2.out 5 _) ((HR2.out.on (hset.less fun c hc => by show c ≠ B; omega)).more fun c hc => ⟨hc.1, by simp; exact hc.2⟩) ((HO2.out.less fun c hc => hc.1).trans (hset.less fun c hc => hc.2)) (by simp; omega) (fun C hC => (HBB.out C (by omega)).setCell (by show C ≤ B; omega) _)
set_option maxRecDepth 1000000 in
set_option maxHeartbeats 8000000 in
theorem reg76_wp (Q : Exit → Act → World → Prop) (W0 W : World) (g gk B i : Nat) (Sb : Nat → Prop) (vp vq : Value) (nO : Nat) (L : List Sp.Ob) (s : Sls) (x : Sp.Ob) (m : Sp.Msg) (hSb : ∀ b, Sb b → b < g) (hgk : g < gk) (_hgW : gk < W0.heap.size) (hL : L.length ≤ 100) (hx : L[i]? = some x) (hxk : x.kind = 4) (hm : Sp.MsgOk nO m) (hI : QI W0 g gk Sb vp vq nO L i W) (hbx : Blk W B (objC (s, { x with queue := [m] })).toArray 40) (hls : Lists W (fun b => g < b ∧ b < W.heap.size ∧ b ≠ gk) (s, { x with queue := [m] }))
    (x0 x1 x2 x3 x4 x5 x6 x7 x8 x9 x10 x11 x12 x13 x14 x15 x16 x17 x18 x20 x21 x22 x23 x24 x25 x26 x27 x28 x29 x30 x33 x34 x35 x36 x37 x38 x39 x40 x41 x42 x43 x44 x45 x46 x47 x48 x49 x50 x51 x52 x53 x54 x55 x56 x57 x58 x59 x60 x61 x62 x63 x64 x65 x66 x67 x68 x69 x70 x71 x72 x73 x74 x75 x76 x77 x78 x79 x80 x81 x82 x83 x84 x85 x86 x87 x88 x89 x90 x91 x92 x93 x94 x95 x96 x97 x98 x99 x100 x101 x102 x103 x104 x105 x106 x107 x108 x109 x110 x111 x112 x113 x114 x115 x116 x117 x118 x119 x120 x121 x122 x123 x124 x125 x126 x127 x128 x129 x130 x131 x132 x133 x134 x135 x136 x137 x138 x139 x140 x141 x142 x143 x144 x145 x146 x147 x148 x149 x150 x151 x152 x153 x154 x155 x156 x157 x158 x159 x160 x161 x162 x163 x164 x165 x166 x167 x168 x169 x170 x171 x172 x173 x174 x175 x176 x177 x178 x179 x180 x181 x182 x183 x184 x185 x186 x187 x188 x189 x190 x191 x192 x193 x194 x195 x196 x197 x198 x199 x200 x201 x202 x203 x204 x205 x206 x207 x208 x209 x210 x211 x212 x213 x214 x215 x216 x217 x218 x219 x220 x221 x222 x223 x224 x225 x226 x227 x228 x229 x230 x231 x232 x233 x234 x235 x236 x237 x238 x239 x240 x241 x242 x243 x244 x245 x246 x247 x248 x249 x250 x251 x252 x253 x254 x255 x256 x257 x258 x259 x260 x261 x262 x263 x264 x265 x266 x267 x268 x269 x270 x271 x272 x273 x274 x275 x276 x277 x278 x279 x280 x281 x282 x283 x284 x285 x286 x287 x288 x289 x290 x291 x292 x293 x294 x295 x296 x297 x298 : Value)
    (h : ∀ (y291 y292 y293 y294 y295 y296 : Value) (W' : World), QI W0 g gk Sb vp vq nO L (i + 1) W' → Q .normal ⟨#[x0, x1, x2, x3, x4, x5, x6, x7, x8, x9, x10, x11, x12, x13, x14, x15, x16, x17, x18, .pointer (some ⟨gk, 0, none⟩), x20, x21, x22, x23, x24, x25, x26, x27, x28, x29, x30, .int .i64 i, .pointer (some ⟨B, 0, none⟩), x33, x34, x35, x36, x37, x38, x39, x40, x41, x42, x43, x44, x45, x46, x47, x48, x49, x50, x51, x52, x53, x54, x55, x56, x57, x58, x59, x60, x61, x62, x63, x64, x65, x66, x67, x68, x69, x70, x71, x72, x73, x74, x75, x76, x77, x78, x79, x80, x81, x82, x83, x84, x85, x86, x87, x88, x89, x90, x91, x92, x93, x94, x95, x96, x97, x98, x99, x100, x101, x102, x103, x104, x105, x106, x107, x108, x109, x110, x111, x112, x113, x114, x115, x116, x117, x118, x119, x120, x121, x122, x123, x124, x125, x126, x127, x128, x129, x130, x131, x132, x133, x134, x135, x136, x137, x138, x139, x140, x141, x142, x143, x144, x145, x146, x147, x148, x149, x150, x151, x152, x153, x154, x155, x156, x157, x158, x159, x160, x161, x162, x163, x164, x165, x166, x167, x168, x169, x170, x171, x172, x173, x174, x175, x176, x177, x178, x179, x180, x181, x182, x183, x184, x185, x186, x187, x188, x189, x190, x191, x192, x193, x194, x195, x196, x197, x198, x199, x200, x201, x202, x203, x204, x205, x206, x207, x208, x209, x210, x211, x212, x213, x214, x215, x216, x217, x218, x219, x220, x221, x222, x223, x224, x225, x226, x227, x228, x229, x230, x231, x232, x233, x234, x235, x236, x237, x238, x239, x240, x241, x242, x243, x244, x245, x246, x247, x248, x249, x250, x251, x252, x253, x254, x255, x256, x257, x258, x259, x260, x261, x262, x263, x264, x265, x266, x267, x268, x269, x270, x271, x272, x273, x274, x275, x276, x277, x278, x279, x280, x281, x282, x283, x284, x285, x286, x287, x288, x289, x290, y291, y292, y293, y294, y295, y296, x297, x298], []⟩ W') :
    Code.wp Try.prog ((Try.f9.body.bind (findReg 76)).getD .skip) Q ⟨#[x0, x1, x2, x3, x4, x5, x6, x7, x8, x9, x10, x11, x12, x13, x14, x15, x16, x17, x18, .pointer (some ⟨gk, 0, none⟩), x20, x21, x22, x23, x24, x25, x26, x27, x28, x29, x30, .int .i64 i, .pointer (some ⟨B, 0, none⟩), x33, x34, x35, x36, x37, x38, x39, x40, x41, x42, x43, x44, x45, x46, x47, x48, x49, x50, x51, x52, x53, x54, x55, x56, x57, x58, x59, x60, x61, x62, x63, x64, x65, x66, x67, x68, x69, x70, x71, x72, x73, x74, x75, x76, x77, x78, x79, x80, x81, x82, x83, x84, x85, x86, x87, x88, x89, x90, x91, x92, x93, x94, x95, x96, x97, x98, x99, x100, x101, x102, x103, x104, x105, x106, x107, x108, x109, x110, x111, x112, x113, x114, x115, x116, x117, x118, x119, x120, x121, x122, x123, x124, x125, x126, x127, x128, x129, x130, x131, x132, x133, x134, x135, x136, x137, x138, x139, x140, x141, x142, x143, x144, x145, x146, x147, x148, x149, x150, x151, x152, x153, x154, x155, x156, x157, x158, x159, x160, x161, x162, x163, x164, x165, x166, x167, x168, x169, x170, x171, x172, x173, x174, x175, x176, x177, x178, x179, x180, x181, x182, x183, x184, x185, x186, x187, x188, x189, x190, x191, x192, x193, x194, x195, x196, x197, x198, x199, x200, x201, x202, x203, x204, x205, x206, x207, x208, x209, x210, x211, x212, x213, x214, x215, x216, x217, x218, x219, x220, x221, x222, x223, x224, x225, x226, x227, x228, x229, x230, x231, x232, x233, x234, x235, x236, x237, x238, x239, x240, x241, x242, x243, x244, x245, x246, x247, x248, x249, x250, x251, x252, x253, x254, x255, x256, x257, x258, x259, x260, x261, x262, x263, x264, x265, x266, x267, x268, x269, x270, x271, x272, x273, x274, x275, x276, x277, x278, x279, x280, x281, x282, x283, x284, x285, x286, x287, x288, x289, x290, x291, x292, x293, x294, x295, x296, x297, x298], []⟩ W := by
  have HH : Hid (∀ (y291 y292 y293 y294 y295 y296 : Value) (W' : World), QI W0 g gk Sb vp vq nO L (i + 1) W' → Q .normal ⟨#[x0, x1, x2, x3, x4, x5, x6, x7, x8, x9, x10, x11, x12, x13, x14, x15, x16, x17, x18, .pointer (some ⟨gk, 0, none⟩), x20, x21, x22, x23, x24, x25, x26, x27, x28, x29, x30, .int .i64 i, .pointer (some ⟨B, 0, none⟩), x33, x34, x35, x36, x37, x38, x39, x40, x41, x42, x43, x44, x45, x46, x47, x48, x49, x50, x51, x52, x53, x54, x55, x56, x57, x58, x59, x60, x61, x62, x63, x64, x65, x66, x67, x68, x69, x70, x71, x72, x73, x74, x75, x76, x77, x78, x79, x80, x81, x82, x83, x84, x85, x86, x87, x88, x89, x90, x91, x92, x93, x94, x95, x96, x97, x98, x99, x100, x101, x102, x103, x104, x105, x106, x107, x108, x109, x110, x111, x112, x113, x114, x115, x116, x117, x118, x119, x120, x121, x122, x123, x124, x125, x126, x127, x128, x129, x130, x131, x132, x133, x134, x135, x136, x137, x138, x139, x140, x141, x142, x143, x144, x145, x146, x147, x148, x149, x150, x151, x152, x153, x154, x155, x156, x157, x158, x159, x160, x161, x162, x163, x164, x165, x166, x167, x168, x169, x170, x171, x172, x173, x174, x175, x176, x177, x178, x179, x180, x181, x182, x183, x184, x185, x186, x187, x188, x189, x190, x191, x192, x193, x194, x195, x196, x197, x198, x199, x200, x201, x202, x203, x204, x205, x206, x207, x208, x209, x210, x211, x212, x213, x214, x215, x216, x217, x218, x219, x220, x221, x222, x223, x224, x225, x226, x227, x228, x229, x230, x231, x232, x233, x234, x235, x236, x237, x238, x239, x240, x241, x242, x243, x244, x245, x246, x247, x248, x249, x250, x251, x252, x253, x254, x255, x256, x257, x258, x259, x260, x261, x262, x263, x264, x265, x266, x267, x268, x269, x270, x271, x272, x273, x274, x275, x276, x277, x278, x279, x280, x281, x282, x283, x284, x285, x286, x287, x288, x289, x290, y291, y292, y293, y294, y295, y296, x297, x298], []⟩ W') := h
  obtain ⟨a, c, M, h1, h2, h3, h4, h5, h6, h7, h8, h9, h10⟩ := hI
  have hil := (List.getElem?_eq_some_iff.1 hx).1
  have hMi : M[i]? = some x := (h3 i (Nat.le_refl _)).trans hx
  have hR := rwith_any M i s { x with queue := [m] } (.slice a M.length c) (fun b => g < b ∧ b < W.heap.size ∧ b ≠ gk) W h8 (fun b hb => hb.2.1) (by omega) (by omega) hls
  have e1 : Sp.rwith M i { x with queue := [m] } = M.set i { x with queue := [m] } := if_neg (by omega)
  rw [e1, List.length_set, objV_eq] at hR
  have HR : Hid _ := hR
  rw [objV_eq] at hbx
  have hcb := hbx.cell
  have hck := h7.cell
  have hgl := h7.lt
  have hz0 : W0.heap.size ≤ W.heap.size := (h10 0 (Nat.zero_le _)).size
  have H6 : Hid (MK W g Sb) := h6
  have H7 : Hid (Blk W gk #[.slice a M.length c, vp, vq] 27) := h7
  have HF : Hid (∀ (W2 : World) (a' : Option Addr) (c' : Nat), Objs W2 (Or' (fun b => g < b ∧ b < W.heap.size ∧ b ≠ gk) W.heap.size W2.heap.size) (.slice a' M.length c') (M.set i { x with queue := [m] }) → Below W.heap.size W W2 → Blk W2 gk #[.slice a M.length c, vp, vq] 27 ∧ QI W0 g gk Sb vp vq nO L (i + 1) (W2.setCell ⟨gk, 0, none⟩ (.slice a' M.length c'))) := fun W2 a' c' ho hb => by
    have hb2 : Blk W2 gk #[.slice a M.length c, vp, vq] 27 := h7.below hb hgl
    have hset := On.set W2 ⟨gk, 0, none⟩ (.slice a' M.length c')
    have hz := hb.size
    refine ⟨hb2, a', c', M.set i { x with queue := [m] }, by rw [List.length_set]; exact h1, h2.send hMi hxk hm.1, fun j hj => by rw [List.getElem?_set_ne (by omega)]; exact h3 j (by omega), ?_, ?_, ?_, ?_, ?_, ?_, ?_⟩
    · intro j o hj
      by_cases hji : j = i
      · subst hji
        rw [List.getElem?_set_self (by omega)] at hj
        cases hj
        exact ⟨x, hx, rfl, rfl⟩
      · rw [List.getElem?_set_ne (by omega)] at hj
        exact h4 j o hj
    · intro o ho q hq
      rcases List.mem_or_eq_of_mem_set ho with h | h
      · exact h5 o h q hq
      · subst h
        simp at hq
        subst hq
        exact hm
    · exact (h6.on (On.of hb) (by show g < W.heap.size; omega) (fun b hb => by have := hSb b hb; show b < W.heap.size; omega)).on hset (by show g ≠ gk; omega) (fun b hb => by have := hSb b hb; show b ≠ gk; omega)
    · rw [List.length_set]; exact hb2.set 0 _
    · rw [List.length_set]
      exact (ho.on (hset.less fun b hb => by
        show b ≠ gk
        rcases hb with hb | hb
        · exact hb.2.2
        · omega)).more fun b hb => by
          rcases hb with hb | hb
          · exact ⟨hb.1, by simp; omega, hb.2.2⟩
          · exact ⟨by omega, by simp; exact hb.2, by omega⟩
    · exact (h9.trans ((On.of hb).less fun b hb => by omega)).trans (hset.less fun b hb => hb.2.2)
    · intro C hC
      exact ((h10 C hC).trans (hb.mono (by omega))).setCell (by show C ≤ gk; omega) _
  dsimp only at hcb HR
  clear h hSb hm hbx hls h1 h2 h3 h4 h5 h6 h7 h8 h9 h10 hR e1 hMi hx hxk
  conv => arg 2; whnf
  go_wp2_with fail
  refine Calls.mono HR.out ?_
  rintro e W2 ⟨a2, c2, rfl, ho2, hb2⟩
  obtain ⟨q1, q2⟩ := HF.out W2 a2 c2 ho2 hb2
  have HQ : Hid (QI W0 g gk Sb vp vq nO L (i + 1) (W2.setCell ⟨gk, 0, none⟩ (.slice a2 M.length c2))) := q2
  have hc2 := q1.cell
  have hf2 := q1.free
  clear ho2 hb2 q1 q2 hcb hck HR
  go_wp2
  exact HH.out _ _ _ _ _ _ _ HQ.out
set_option maxRecDepth 1000000 in
set_option maxHeartbeats 8000000 in
theorem blk17_wp (Q : Exit → Act → World → Prop) (K : Act → World → Prop) (W : World) (g gk : Nat) (Sb : Nat → Prop) (nO pc : Nat) (pa : Option Addr) (vq : Value) (a : Option Addr) (c : Nat) (L : List Sp.Ob) (hSb : ∀ b, Sb b → b < g) (hgk : g < gk) (hnO2 : nO ≤ 1000) (hL : L.length ≤ 100) (hT : Sp.TOk L) (hmk : MK W g Sb) (hbk : Blk W gk #[.slice a L.length c, .slice pa nO pc, vq] 27) (hv : ObjsP QN W (fun b => g < b ∧ b < W.heap.size ∧ b ≠ gk) (.slice a L.length c) L) (hq0 : ∀ o ∈ L, o.queue = [])
    (x0 x1 x2 x4 x5 x6 x7 x8 x9 x10 x11 x12 x13 x14 x15 x16 x17 x18 x20 x21 x22 x23 x24 x25 x26 x27 x28 x29 x30 x31 x32 x33 x34 x35 x36 x37 x38 x39 x40 x41 x42 x43 x44 x45 x46 x47 x48 x49 x50 x51 x52 x53 x54 x55 x56 x57 x58 x59 x60 x61 x62 x63 x64 x65 x66 x67 x68 x69 x70 x71 x72 x73 x74 x75 x76 x77 x78 x79 x80 x81 x82 x83 x84 x85 x86 x87 x88 x89 x90 x91 x92 x93 x94 x95 x96 x97 x98 x99 x100 x101 x102 x103 x104 x105 x106 x107 x108 x109 x110 x111 x112 x113 x114 x115 x116 x117 x118 x119 x120 x121 x122 x123 x124 x125 x126 x127 x128 x129 x130 x131 x132 x133 x134 x135 x136 x137 x138 x139 x140 x141 x142 x143 x144 x145 x146 x147 x148 x149 x150 x151 x152 x153 x154 x155 x156 x157 x158 x159 x160 x161 x162 x163 x164 x165 x166 x167 x168 x169 x170 x171 x172 x173 x174 x175 x176 x177 x178 x179 x180 x181 x182 x183 x184 x185 x186 x187 x188 x189 x190 x191 x192 x193 x194 x195 x196 x197 x198 x199 x200 x201 x202 x203 x204 x205 x206 x207 x208 x209 x210 x211 x212 x213 x214 x215 x216 x217 x218 x219 x220 x221 x222 x223 x224 x225 x226 x227 x228 x229 x230 x231 x232 x233 x234 x235 x236 x237 x238 x239 x240 x241 x242 x243 x244 x245 x246 x247 x251 x252 x253 x254 x255 x256 x257 x258 x259 x260 x261 x262 x263 x264 x265 x266 x267 x268 x269 x270 x271 x272 x273 x274 x275 x276 x277 x278 x279 x280 x281 x282 x283 x284 x285 x286 x287 x288 x289 x290 x291 x292 x293 x294 x295 x296 x297 x298 : Value)
    (h : ∀ (y31 y32 y33 y250 y251 y252 y253 y254 y255 y256 y257 y258 y259 y260 y261 y262 y263 y264 y265 y266 y267 y268 y269 y270 y271 y272 y273 y274 y275 y276 y277 y278 y279 y280 y281 y282 y283 y284 y285 y286 y287 y288 y289 y290 y291 y292 y293 y294 y295 y296 y297 : Value) (W' : World), QI W g gk Sb (.slice pa nO pc) vq nO L L.length W' → K ⟨#[x0, x1, x2, .pointer (some ⟨g, 0, none⟩), x4, x5, x6, x7, x8, x9, x10, x11, x12, x13, x14, x15, x16, x17, x18, .pointer (some ⟨gk, 0, none⟩), x20, x21, x22, x23, x24, x25, x26, x27, x28, x29, x30, y31, y32, y33, x34, x35, x36, x37, x38, x39, x40, x41, x42, x43, x44, x45, x46, x47, x48, x49, x50, x51, x52, x53, x54, x55, x56, x57, x58, x59, x60, x61, x62, x63, x64, x65, x66, x67, x68, x69, x70, x71, x72, x73, x74, x75, x76, x77, x78, x79, x80, x81, x82, x83, x84, x85, x86, x87, x88, x89, x90, x91, x92, x93, x94, x95, x96, x97, x98, x99, x100, x101, x102, x103, x104, x105, x106, x107, x108, x109, x110, x111, x112, x113, x114, x115, x116, x117, x118, x119, x120, x121, x122, x123, x124, x125, x126, x127, x128, x129, x130, x131, x132, x133, x134, x135, x136, x137, x138, x139, x140, x141, x142, x143, x144, x145, x146, x147, x148, x149, x150, x151, x152, x153, x154, x155, x156, x157, x158, x159, x160, x161, x162, x163, x164, x165, x166, x167, x168, x169, x170, x171, x172, x173, x174, x175, x176, x177, x178, x179, x180, x181, x182, x183, x184, x185, x186, x187, x188, x189, x190, x191, x192, x193, x194, x195, x196, x197, x198, x199, x200, x201, x202, x203, x204, x205, x206, x207, x208, x209, x210, x211, x212, x213, x214, x215, x216, x217, x218, x219, x220, x221, x222, x223, x224, x225, x226, x227, x228, x229, x230, x231, x232, x233, x234, x235, x236, x237, x238, x239, x240, x241, x242, x243, x244, x245, x246, x247, .slice a L.length c, .int .i64 L.length, y250, y251, y252, y253, y254, y255, y256, y257, y258, y259, y260, y261, y262, y263, y264, y265, y266, y267, y268, y269, y270, y271, y272, y273, y274, y275, y276, y277, y278, y279, y280, y281, y282, y283, y284, y285, y286, y287, y288, y289, y290, y291, y292, y293, y294, y295, y296, y297, x298], []⟩ W') :
    Code.wp Try.prog ((Try.f9.body.bind (findBlock 17)).getD .skip) (Exit.then K Q) ⟨#[x0, x1, x2, .pointer (some ⟨g, 0, none⟩), x4, x5, x6, x7, x8, x9, x10, x11, x12, x13, x14, x15, x16, x17, x18, .pointer (some ⟨gk, 0, none⟩), x20, x21, x22, x23, x24, x25, x26, x27, x28, x29, x30, x31, x32, x33, x34, x35, x36, x37, x38, x39, x40, x41, x42, x43, x44, x45, x46, x47, x48, x49, x50, x51, x52, x53, x54, x55, x56, x57, x58, x59, x60, x61, x62, x63, x64, x65, x66, x67, x68, x69, x70, x71, x72, x73, x74, x75, x76, x77, x78, x79, x80, x81, x82, x83, x84, x85, x86, x87, x88, x89, x90, x91, x92, x93, x94, x95, x96, x97, x98, x99, x100, x101, x102, x103, x104, x105, x106, x107, x108, x109, x110, x111, x112, x113, x114, x115, x116, x117, x118, x119, x120, x121, x122, x123, x124, x125, x126, x127, x128, x129, x130, x131, x132, x133, x134, x135, x136, x137, x138, x139, x140, x141, x142, x143, x144, x145, x146, x147, x148, x149, x150, x151, x152, x153, x154, x155, x156, x157, x158, x159, x160, x161, x162, x163, x164, x165, x166, x167, x168, x169, x170, x171, x172, x173, x174, x175, x176, x177, x178, x179, x180, x181, x182, x183, x184, x185, x186, x187, x188, x189, x190, x191, x192, x193, x194, x195, x196, x197, x198, x199, x200, x201, x202, x203, x204, x205, x206, x207, x208, x209, x210, x211, x212, x213, x214, x215, x216, x217, x218, x219, x220, x221, x222, x223, x224, x225, x226, x227, x228, x229, x230, x231, x232, x233, x234, x235, x236, x237, x238, x239, x240, x241, x242, x243, x244, x245, x246, x247, .slice a L.length c, .int .i64 L.length, .int .i64 0, x251, x252, x253, x254, x255, x256, x257, x258, x259, x260, x261, x262, x263, x264, x265, x266, x267, x268, x269, x270, x271, x272, x273, x274, x275, x276, x277, x278, x279, x280, x281, x282, x283, x284, x285, x286, x287, x288, x289, x290, x291, x292, x293, x294, x295, x296, x297, x298], []⟩ W := by
  have HH : Hid (∀ (y31 y32 y33 y250 y251 y252 y253 y254 y255 y256 y257 y258 y259 y260 y261 y262 y263 y264 y265 y266 y267 y268 y269 y270 y271 y272 y273 y274 y275 y276 y277 y278 y279 y280 y281 y282 y283 y284 y285 y286 y287 y288 y289 y290 y291 y292 y293 y294 y295 y296 y297 : Value) (W' : World), QI W g gk Sb (.slice pa nO pc) vq nO L L.length W' → K ⟨#[x0, x1, x2, .pointer (some ⟨g, 0, none⟩), x4, x5, x6, x7, x8, x9, x10, x11, x12, x13, x14, x15, x16, x17, x18, .pointer (some ⟨gk, 0, none⟩), x20, x21, x22, x23, x24, x25, x26, x27, x28, x29, x30, y31, y32, y33, x34, x35, x36, x37, x38, x39, x40, x41, x42, x43, x44, x45, x46, x47, x48, x49, x50, x51, x52, x53, x54, x55, x56, x57, x58, x59, x60, x61, x62, x63, x64, x65, x66, x67, x68, x69, x70, x71, x72, x73, x74, x75, x76, x77, x78, x79, x80, x81, x82, x83, x84, x85, x86, x87, x88, x89, x90, x91, x92, x93, x94, x95, x96, x97, x98, x99, x100, x101, x102, x103, x104, x105, x106, x107, x108, x109, x110, x111, x112, x113, x114, x115, x116, x117, x118, x119, x120, x121, x122, x123, x124, x125, x126, x127, x128, x129, x130, x131, x132, x133, x134, x135, x136, x137, x138, x139, x140, x141, x142, x143, x144, x145, x146, x147, x148, x149, x150, x151, x152, x153, x154, x155, x156, x157, x158, x159, x160, x161, x162, x163, x164, x165, x166, x167, x168, x169, x170, x171, x172, x173, x174, x175, x176, x177, x178, x179, x180, x181, x182, x183, x184, x185, x186, x187, x188, x189, x190, x191, x192, x193, x194, x195, x196, x197, x198, x199, x200, x201, x202, x203, x204, x205, x206, x207, x208, x209, x210, x211, x212, x213, x214, x215, x216, x217, x218, x219, x220, x221, x222, x223, x224, x225, x226, x227, x228, x229, x230, x231, x232, x233, x234, x235, x236, x237, x238, x239, x240, x241, x242, x243, x244, x245, x246, x247, .slice a L.length c, .int .i64 L.length, y250, y251, y252, y253, y254, y255, y256, y257, y258, y259, y260, y261, y262, y263, y264, y265, y266, y267, y268, y269, y270, y271, y272, y273, y274, y275, y276, y277, y278, y279, y280, y281, y282, y283, y284, y285, y286, y287, y288, y289, y290, y291, y292, y293, y294, y295, y296, y297, x298], []⟩ W') := h
  have HS0 : Hid (QI W g gk Sb (.slice pa nO pc) vq nO L 0 W) := ⟨a, c, L, rfl, hT, fun _ _ => rfl, fun j o h => ⟨o, h, rfl, rfl⟩, fun o ho m hm => by rw [hq0 o ho] at hm; simp at hm, hmk, hbk, hv.objs, fun _ _ => rfl, fun C _ => Below.refl C W⟩
  have HSb : Hid (∀ b, Sb b → b < g) := hSb
  have HV : Hid (ObjsP QN W (fun b => g < b ∧ b < W.heap.size ∧ b ≠ gk) (.slice a L.length c) L) := hv
  have hgW := hbk.lt
  have hLz : (L.length : Int) ≤ 100 := by omega
  clear h hSb hbk hmk hv hq0 hT
  conv => arg 2; whnf
  go_wp2_with fail
  go_loopw [250] (fun v wz => ∃ i : Nat, i ≤ L.length ∧ v = .int .i64 i ∧ QI W g gk Sb (.slice pa nO pc) vq nO L i wz) (fun v _ => L.length - (intOf v).toNat)
  case atStart => exact ⟨0, Nat.zero_le _, rfl, HS0.out⟩
  case round =>
    obtain ⟨i, hi, rfl, hI⟩ := hrel
    clear HS0
    have HI : Hid (QI W g gk Sb (.slice pa nO pc) vq nO L i wr) := hI
    have HON : Hid (On (fun b => b < W.heap.size ∧ b ≠ g ∧ b ≠ gk) W wr) := by obtain ⟨_, _, _, _, _, _, _, _, _, _, _, h9, _⟩ := hI; exact h9
    have HMK : Hid (MK wr g Sb) := by obtain ⟨_, _, _, _, _, _, _, _, h6, _⟩ := hI; exact h6
    have hz0 : W.heap.size ≤ wr.heap.size := by obtain ⟨_, _, _, _, _, _, _, _, _, _, _, _, h10⟩ := hI; exact (h10 0 (Nat.zero_le _)).size
    clear hI
    by_cases hlt : i < L.length
    · have hx : L[i]? = some L[i] := List.getElem?_eq_getElem hlt
      obtain ⟨b, o, c', s, he, hb, h3, h4, hl, hZ, c0, c1, c2, c3, c4, c5, c6, c7, c8⟩ := (HV.out.on (HON.out.less fun b hb => ⟨hb.2.1, by omega, hb.2.2⟩)).open hx
      obtain ⟨rfl, -, rfl⟩ := Value.slice.inj he
      have HX : Hid (L[i]? = some L[i]) := hx
      have HZ : Hid (QN (s, L[i])) := hZ
      have HLS : Hid (Lists wr (fun b => g < b ∧ b < W.heap.size ∧ b ≠ gk) (s, L[i])) := hl
      unfold maxLen at h4
      generalize L[i] = x at *
      clear hx he hb hZ hl
      by_cases hk4 : x.kind = 4
      · have hkz : (x.kind == 4) = true := by simpa using hk4
        have HK4 : Hid (x.kind = 4) := hk4
        clear hk4
        go_wp2_with fail
        have hbx : Blk (wr.alloc (.cells #[.int .i64 x.kind, .slice s.d.a s.d.n s.d.c, .slice s.e.a s.e.n s.e.c, .string x.target, .int .i64 x.peer, .slice s.q.a s.q.n s.q.c, .int .i64 x.proc, .int .i64 x.links, .int .i64 x.up] 40)) wr.heap.size #[.int .i64 x.kind, .slice s.d.a s.d.n s.d.c, .slice s.e.a s.e.n s.e.c, .string x.target, .int .i64 x.peer, .slice s.q.a s.q.n s.q.c, .int .i64 x.proc, .int .i64 x.links, .int .i64 x.up] 40 := Blk.new wr _ _
        have hp1 := Pn.alloc (Pn.refl HMK.out) HSb.out (by omega) (.cells #[.int .i64 x.kind, .slice s.d.a s.d.n s.d.c, .slice s.e.a s.e.n s.e.c, .string x.target, .int .i64 x.peer, .slice s.q.a s.q.n s.q.c, .int .i64 x.proc, .int .i64 x.links, .int .i64 x.up] 40)
        have hz1 : (wr.alloc (.cells #[.int .i64 x.kind, .slice s.d.a s.d.n s.d.c, .slice s.e.a s.e.n s.e.c, .string x.target, .int .i64 x.peer, .slice s.q.a s.q.n s.q.c, .int .i64 x.proc, .int .i64 x.links, .int .i64 x.up] 40)).heap.size = wr.heap.size + 1 := by simp
        generalize wr.alloc (.cells #[.int .i64 x.kind, .slice s.d.a s.d.n s.d.c, .slice s.e.a s.e.n s.e.c, .string x.target, .int .i64 x.peer, .slice s.q.a s.q.n s.q.c, .int .i64 x.proc, .int .i64 x.links, .int .i64 x.up] 40) = W1 at *
        have HB1 : Hid _ := hbx
        clear hbx c0 c1 c2 c3 c4 c5 c6 c7 c8
        refine (pick_pn g Sb HSb.out 2 (by decide) (by decide) wr W1 hp1).mono ?_
        rintro e W2 ⟨y, rfl, hy, hp2, ho2, hz2⟩
        have HP2 : Hid (Pn g Sb wr W2) := hp2
        have HB2 : Hid (Blk W2 wr.heap.size #[.int .i64 x.kind, .slice s.d.a s.d.n s.d.c, .slice s.e.a s.e.n s.e.c, .string x.target, .int .i64 x.peer, .slice s.q.a s.q.n s.q.c, .int .i64 x.proc, .int .i64 x.links, .int .i64 x.up] 40) := Blk.on HB1.out ho2 (by show wr.heap.size ≠ g; omega)
        have HZ2 : Hid (W2.heap.size = wr.heap.size + 1) := by unfold Hid; omega
        clear hp1 hp2 ho2 hz2 hz1 HB1
        by_cases hy1 : y = 1
        · subst hy1
          have kc := fun (w : World) (C : Array Value) (n c : Nat) => Lib.run_convert_bytes_const (P := Try.prog) w 22 5 C n c Try.underlying22 Try.underlying5
          go_upto_region 73 with fail
          have hby : Bytes (W2.alloc (.cells #[.int .u8 109] 5 (1, 2))) (fun b => b = W2.heap.size) (.slice (some ⟨W2.heap.size, 0, none⟩) 1 1) [109] := litB W2 [109] (1, 2) (by decide)
          have hza : (W2.alloc (.cells #[.int .u8 109] 5 (1, 2))).heap.size = W2.heap.size + 1 := by simp
          have hpa := Pn.alloc HP2.out HSb.out (by omega) (.cells #[.int .u8 109] 5 (1, 2))
          have hba := Blk.alloc HB2.out (.cells #[.int .u8 109] 5 (1, 2))
          generalize W2.alloc (.cells #[.int .u8 109] 5 (1, 2)) = Wa at *
          have hbg : Blk (Wa.alloc (.cells #[.slice (some ⟨W2.heap.size, 0, none⟩) 1 1, .bool false, .int .i64 0, .int .i64 0] 83)) (W2.heap.size + 1) (msgB W2.heap.size false 0 0) 83 := by rw [← hza]; exact Blk.new Wa _ _
          have hby3 := Row.on hby ((On.alloc Wa (.cells #[.slice (some ⟨W2.heap.size, 0, none⟩) 1 1, .bool false, .int .i64 0, .int .i64 0] 83)).less fun b hb => by show b < Wa.heap.size; omega)
          have hp3 := Pn.alloc hpa HSb.out (by omega) (.cells #[.slice (some ⟨W2.heap.size, 0, none⟩) 1 1, .bool false, .int .i64 0, .int .i64 0] 83)
          have hb3 := Blk.alloc hba (.cells #[.slice (some ⟨W2.heap.size, 0, none⟩) 1 1, .bool false, .int .i64 0, .int .i64 0] 83)
          have hz3 : (Wa.alloc (.cells #[.slice (some ⟨W2.heap.size, 0, none⟩) 1 1, .bool false, .int .i64 0, .int .i64 0] 83)).heap.size = W2.heap.size + 2 := by simp; omega
          generalize Wa.alloc (.cells #[.slice (some ⟨W2.heap.size, 0, none⟩) 1 1, .bool false, .int .i64 0, .int .i64 0] 83) = W3 at *
          have HBY3 : Hid (Bytes W3 (fun b => b = W2.heap.size) (.slice (some ⟨W2.heap.size, 0, none⟩) 1 1) [109]) := hby3
          have HG3 : Hid (Blk W3 (W2.heap.size + 1) (msgB W2.heap.size false 0 0) 83) := hbg
          have HP3 : Hid (Pn g Sb wr W3) := hp3
          have HB3 : Hid (Blk W3 wr.heap.size (objC (s, x)).toArray 40) := by unfold Hid; rw [objV_eq]; exact hb3
          have HZ3 : Hid (W3.heap.size = W2.heap.size + 2) := hz3
          have hQ3 : QI W g gk Sb (.slice pa nO pc) vq nO L i W3 := HI.out.next (Nat.le_refl _) hgk hp3
          obtain ⟨aK, cK, MK3, -, -, -, -, -, -, hbk3, -, -, -⟩ := hQ3
          have HBK3 : Hid (Blk W3 gk #[.slice aK MK3.length cK, .slice pa nO pc, vq] 27) := hbk3
          have hck3 := hbk3.cell
          have hgl3 := hbk3.lt
          clear hby hza hpa hba hbg hby3 hp3 hb3 hz3 hbk3 kc
          by_cases hnO : nO = 0
          · have hz0' : ¬ (0 : Int) < (nO : Int) := by omega
            have HB4 := HB3
            have HG4 := HG3
            have HBY4 := HBY3
            have HP4 := HP3
            have HZ4 := HZ3
            have HMS : Hid (Sp.MsgOk nO ⟨[109], false, 0, 0⟩) := ⟨rfl, Or.inr ⟨rfl, rfl, rfl⟩⟩
            generalize W3 = W4 at *
            go_upto_region 75 with fail
            refine reg75_wp _ _ W4 wr.heap.size (W2.heap.size + 1) W2.heap.size s x false 0 0 (HZ.out HK4.out).1 HB4.out HG4.out _ _ _ _ _ _ _ _ _ _ _ _ _ _ _ _ _ _ _ _ _ _ _ _ _ _ _ _ _ _ _ _ _ _ _ _ _ _ _ _ _ _ _ _ _ _ _ _ _ _ _ _ _ _ _ _ _ _ _ _ _ _ _ _ _ _ _ _ _ _ _ _ _ _ _ _ _ _ _ _ _ _ _ _ _ _ _ _ _ _ _ _ _ _ _ _ _ _ _ _ _ _ _ _ _ _ _ _ _ _ _ _ _ _ _ _ _ _ _ _ _ _ _ _ _ _ _ _ _ _ _ _ _ _ _ _ _ _ _ _ _ _ _ _ _ _ _ _ _ _ _ _ _ _ _ _ _ _ _ _ _ _ _ _ _ _ _ _ _ _ _ _ _ _ _ _ _ _ _ _ _ _ _ _ _ _ _ _ _ _ _ _ _ _ _ _ _ _ _ _ _ _ _ _ _ _ _ _ _ _ _ _ _ _ _ _ _ _ _ _ _ _ _ _ _ _ _ _ _ _ _ _ _ _ _ _ _ _ _ _ _ _ _ _ _ _ _ _ _ _ _ _ _ _ _ _ _ _ _ _ _ _ _ _ _ _ _ _ _ _ _ _ _ _ _ _ _ _ _ _ _ _ _ _ _ _ _ _ _ _ _ _ _ _ _ _ _ ?_
            intro y285 y286 y287 y288 y289 y290 W5 r hb5 hr5 ho5 hz5 hbl5
            dsimp only
            have hp4 := HP4.out
            have hz45 := hp4.2.2.1
            have hzz2 := HZ2.out
            have hz24 := HZ4.out
            have HP5 : Hid (Pn g Sb wr W5) := ⟨hp4.1.on ho5 ⟨by omega, by omega⟩ (fun b hb => by have := HSb.out b hb; exact ⟨by omega, by omega⟩), hp4.2.1.trans (ho5.less fun b hb => ⟨by omega, by omega⟩), by omega, fun C hC => (hp4.2.2.2 C hC).trans (hbl5 C (by omega))⟩
            have HB5 : Hid (Blk W5 wr.heap.size (objC (⟨s.d, s.e, r⟩, { x with queue := [⟨[109], false, 0, 0⟩] })).toArray 40) := hb5
            have HL5 : Hid (Lists W5 (fun b => g < b ∧ b < W5.heap.size ∧ b ≠ gk) (⟨s.d, s.e, r⟩, { x with queue := [⟨[109], false, 0, 0⟩] })) := by
              have hon : On (fun b => b < wr.heap.size ∧ b ≠ g) wr W5 := HP5.out.2.1
              refine ⟨(Row.on HLS.out.1 (hon.less fun b hb => ⟨by omega, by omega⟩)).more fun b hb => ⟨hb.1, by omega, hb.2.2⟩, (Row.on HLS.out.2.1 (hon.less fun b hb => ⟨by omega, by omega⟩)).more fun b hb => ⟨hb.1, by omega, hb.2.2⟩, [(⟨some ⟨W2.heap.size, 0, none⟩, 1, 1⟩, ⟨[109], false, 0, 0⟩)], rfl, hr5.more fun b hb => ⟨by omega, hb.2, by omega⟩, fun t ht => ?_⟩
              simp at ht
              subst ht
              exact (Row.on HBY4.out (ho5.less fun b hb => ⟨by omega, by omega⟩)).more fun b hb => ⟨by omega, by omega, by omega⟩
            clear hb5 hr5 ho5 hbl5 hp4
            go_upto_region 76 with fail
            refine reg76_wp _ W W5 g gk wr.heap.size i Sb (.slice pa nO pc) vq nO L ⟨s.d, s.e, r⟩ x ⟨[109], false, 0, 0⟩ HSb.out hgk hgW hL HX.out HK4.out HMS.out (HI.out.next (Nat.le_refl _) hgk HP5.out) HB5.out HL5.out _ _ _ _ _ _ _ _ _ _ _ _ _ _ _ _ _ _ _ _ _ _ _ _ _ _ _ _ _ _ _ _ _ _ _ _ _ _ _ _ _ _ _ _ _ _ _ _ _ _ _ _ _ _ _ _ _ _ _ _ _ _ _ _ _ _ _ _ _ _ _ _ _ _ _ _ _ _ _ _ _ _ _ _ _ _ _ _ _ _ _ _ _ _ _ _ _ _ _ _ _ _ _ _ _ _ _ _ _ _ _ _ _ _ _ _ _ _ _ _ _ _ _ _ _ _ _ _ _ _ _ _ _ _ _ _ _ _ _ _ _ _ _ _ _ _ _ _ _ _ _ _ _ _ _ _ _ _ _ _ _ _ _ _ _ _ _ _ _ _ _ _ _ _ _ _ _ _ _ _ _ _ _ _ _ _ _ _ _ _ _ _ _ _ _ _ _ _ _ _ _ _ _ _ _ _ _ _ _ _ _ _ _ _ _ _ _ _ _ _ _ _ _ _ _ _ _ _ _ _ _ _ _ _ _ _ _ _ _ _ _ _ _ _ _ _ _ _ _ _ _ _ _ _ _ _ _ _ _ _ _ _ _ _ _ _ _ _ _ _ _ _ _ _ _ _ _ _ _ _ _ _ _ _ _ _ _ _ _ _ _ _ _ _ _ _ ?_
            intro y291 y292 y293 y294 y295 y296 W6 hI6
            dsimp only
            have HI6 : Hid (QI W g gk Sb (.slice pa nO pc) vq nO L (i + 1) W6) := hI6
            clear hI6
            go_wp2
            exact ⟨⟨i + 1, by omega, by go_num, HI6.out⟩, by simp [intOf]; omega⟩
          · have hz0' : (0 : Int) < (nO : Int) := by omega
            go_wp2_with fail
            refine (pick_pn g Sb HSb.out 2 (by decide) (by decide) W3 W3 (Pn.refl HP3.out.1)).mono ?_
            rintro e W4 ⟨z, rfl, hz, hp4', ho4, hz4⟩
            have HP34 : Hid (Pn g Sb wr W4) := HP3.out.trans hp4'
            have HB34 : Hid (Blk W4 wr.heap.size (objC (s, x)).toArray 40) := Blk.on HB3.out ho4 (by show wr.heap.size ≠ g; omega)
            have HG34 : Hid (Blk W4 (W2.heap.size + 1) (msgB W2.heap.size false 0 0) 83) := Blk.on HG3.out ho4 (by show W2.heap.size + 1 ≠ g; have := HZ2.out; omega)
            have HBY34 : Hid (Bytes W4 (fun b => b = W2.heap.size) (.slice (some ⟨W2.heap.size, 0, none⟩) 1 1) [109]) := Row.on HBY3.out (ho4.less fun b hb => by show b ≠ g; have := HZ2.out; omega)
            have HZ34 : Hid (W4.heap.size = W2.heap.size + 2) := hz4.trans HZ3.out
            have HBK4 : Hid (Blk W4 gk #[.slice aK MK3.length cK, .slice pa nO pc, vq] 27) := Blk.on HBK3.out ho4 (by show gk ≠ g; omega)
            clear hp4' ho4 hz4 hck3 hgl3
            by_cases hz1 : z = 1
            · subst hz1
              go_upto_region 74 with fail
              refine reg73_wp _ (fun _ _ => True) W4 g gk (W2.heap.size + 1) W2.heap.size Sb nO pc pa (.slice aK MK3.length cK) vq HSb.out hgk (by have := HZ2.out; omega) hnO2 HP34.out.1 HBK4.out HG34.out _ _ _ _ _ _ _ _ _ _ _ _ _ _ _ _ _ _ _ _ _ _ _ _ _ _ _ _ _ _ _ _ _ _ _ _ _ _ _ _ _ _ _ _ _ _ _ _ _ _ _ _ _ _ _ _ _ _ _ _ _ _ _ _ _ _ _ _ _ _ _ _ _ _ _ _ _ _ _ _ _ _ _ _ _ _ _ _ _ _ _ _ _ _ _ _ _ _ _ _ _ _ _ _ _ _ _ _ _ _ _ _ _ _ _ _ _ _ _ _ _ _ _ _ _ _ _ _ _ _ _ _ _ _ _ _ _ _ _ _ _ _ _ _ _ _ _ _ _ _ _ _ _ _ _ _ _ _ _ _ _ _ _ _ _ _ _ _ _ _ _ _ _ _ _ _ _ _ _ _ _ _ _ _ _ _ _ _ _ _ _ _ _ _ _ _ _ _ _ _ _ _ _ _ _ _ _ _ _ _ _ _ _ _ _ _ _ _ _ _ _ _ _ _ _ _ _ _ _ _ _ _ _ _ _ _ _ _ _ _ _ _ _ _ _ _ _ _ _ _ _ _ _ _ _ _ _ _ _ _ _ _ _ _ _ _ _ _ _ _ _ _ _ _ _ _ _ _ _ _ _ _ _ _ _ _ _ _ _ _ _ _ _ _ _ _ ?_ (by omega)
              intro y275 y276 y277 y278 y279 y280 y281 y282 y283 y284 W7 op' rt' hop hrt hg7 hm7 ho7 hz7 hb7
              have HMS : Hid (Sp.MsgOk nO ⟨[109], true, (op' : Int), (rt' : Int)⟩) := ⟨rfl, Or.inl ⟨rfl, by show (0 : Int) ≤ op'; omega, by show (op' : Int) < nO; omega, by show (0 : Int) ≤ rt'; omega, by show (rt' : Int) < 200; omega⟩⟩
              have HG4 : Hid (Blk W7 (W2.heap.size + 1) (msgB W2.heap.size true (op' : Int) (rt' : Int)) 83) := hg7
              have HB4 : Hid (Blk W7 wr.heap.size (objC (s, x)).toArray 40) := Blk.on HB34.out ho7 ⟨by have := HZ34.out; have := HZ2.out; omega, by omega, by have := HZ2.out; omega⟩
              have HBY4 : Hid (Bytes W7 (fun b => b = W2.heap.size) (.slice (some ⟨W2.heap.size, 0, none⟩) 1 1) [109]) := Row.on HBY34.out (ho7.less fun b hb => ⟨by have := HZ34.out; omega, by have := HZ2.out; omega, by omega⟩)
              have HP4 : Hid (Pn g Sb wr W7) := ⟨hm7, HP34.out.2.1.trans (ho7.less fun b hb => ⟨by have := HP34.out.2.2.1; omega, hb.2, by have := HZ2.out; omega⟩), by have := HP34.out.2.2.1; omega, fun C hC => (HP34.out.2.2.2 C hC).trans (hb7 C hC)⟩
              have HZ4 : Hid (W7.heap.size = W2.heap.size + 2) := hz7.trans HZ34.out
              clear hg7 hm7 ho7 hz7 hb7 hop hrt HB34 HG34 HBY34 HP34 HZ34
              generalize (op' : Int) = op at *
              generalize (rt' : Int) = rt at *
              obtain ⟨hh, hhe⟩ : ∃ hh : Bool, hh = true := ⟨_, rfl⟩
              rw [← hhe] at HMS HG4
              clear hhe
              dsimp only
              go_upto_region 75 with fail
              refine reg75_wp _ _ W7 wr.heap.size (W2.heap.size + 1) W2.heap.size s x hh op rt (HZ.out HK4.out).1 HB4.out HG4.out _ _ _ _ _ _ _ _ _ _ _ _ _ _ _ _ _ _ _ _ _ _ _ _ _ _ _ _ _ _ _ _ _ _ _ _ _ _ _ _ _ _ _ _ _ _ _ _ _ _ _ _ _ _ _ _ _ _ _ _ _ _ _ _ _ _ _ _ _ _ _ _ _ _ _ _ _ _ _ _ _ _ _ _ _ _ _ _ _ _ _ _ _ _ _ _ _ _ _ _ _ _ _ _ _ _ _ _ _ _ _ _ _ _ _ _ _ _ _ _ _ _ _ _ _ _ _ _ _ _ _ _ _ _ _ _ _ _ _ _ _ _ _ _ _ _ _ _ _ _ _ _ _ _ _ _ _ _ _ _ _ _ _ _ _ _ _ _ _ _ _ _ _ _ _ _ _ _ _ _ _ _ _ _ _ _ _ _ _ _ _ _ _ _ _ _ _ _ _ _ _ _ _ _ _ _ _ _ _ _ _ _ _ _ _ _ _ _ _ _ _ _ _ _ _ _ _ _ _ _ _ _ _ _ _ _ _ _ _ _ _ _ _ _ _ _ _ _ _ _ _ _ _ _ _ _ _ _ _ _ _ _ _ _ _ _ _ _ _ _ _ _ _ _ _ _ _ _ _ _ _ _ _ _ _ _ _ _ _ _ _ _ _ _ _ _ _ ?_
              intro y285 y286 y287 y288 y289 y290 W5 r hb5 hr5 ho5 hz5 hbl5
              dsimp only
              have hp4 := HP4.out
              have hz45 := hp4.2.2.1
              have hzz2 := HZ2.out
              have hz24 := HZ4.out
              have HP5 : Hid (Pn g Sb wr W5) := ⟨hp4.1.on ho5 ⟨by omega, by omega⟩ (fun b hb => by have := HSb.out b hb; exact ⟨by omega, by omega⟩), hp4.2.1.trans (ho5.less fun b hb => ⟨by omega, by omega⟩), by omega, fun C hC => (hp4.2.2.2 C hC).trans (hbl5 C (by omega))⟩
              have HB5 : Hid (Blk W5 wr.heap.size (objC (⟨s.d, s.e, r⟩, { x with queue := [⟨[109], hh, op, rt⟩] })).toArray 40) := hb5
              have HL5 : Hid (Lists W5 (fun b => g < b ∧ b < W5.heap.size ∧ b ≠ gk) (⟨s.d, s.e, r⟩, { x with queue := [⟨[109], hh, op, rt⟩] })) := by
                have hon : On (fun b => b < wr.heap.size ∧ b ≠ g) wr W5 := HP5.out.2.1
                refine ⟨(Row.on HLS.out.1 (hon.less fun b hb => ⟨by omega, by omega⟩)).more fun b hb => ⟨hb.1, by omega, hb.2.2⟩, (Row.on HLS.out.2.1 (hon.less fun b hb => ⟨by omega, by omega⟩)).more fun b hb => ⟨hb.1, by omega, hb.2.2⟩, [(⟨some ⟨W2.heap.size, 0, none⟩, 1, 1⟩, ⟨[109], hh, op, rt⟩)], rfl, hr5.more fun b hb => ⟨by omega, hb.2, by omega⟩, fun t ht => ?_⟩
                simp at ht
                subst ht
                exact (Row.on HBY4.out (ho5.less fun b hb => ⟨by omega, by omega⟩)).more fun b hb => ⟨by omega, by omega, by omega⟩
              clear hb5 hr5 ho5 hbl5 hp4
              go_upto_region 76 with fail
              refine reg76_wp _ W W5 g gk wr.heap.size i Sb (.slice pa nO pc) vq nO L ⟨s.d, s.e, r⟩ x ⟨[109], hh, op, rt⟩ HSb.out hgk hgW hL HX.out HK4.out HMS.out (HI.out.next (Nat.le_refl _) hgk HP5.out) HB5.out HL5.out _ _ _ _ _ _ _ _ _ _ _ _ _ _ _ _ _ _ _ _ _ _ _ _ _ _ _ _ _ _ _ _ _ _ _ _ _ _ _ _ _ _ _ _ _ _ _ _ _ _ _ _ _ _ _ _ _ _ _ _ _ _ _ _ _ _ _ _ _ _ _ _ _ _ _ _ _ _ _ _ _ _ _ _ _ _ _ _ _ _ _ _ _ _ _ _ _ _ _ _ _ _ _ _ _ _ _ _ _ _ _ _ _ _ _ _ _ _ _ _ _ _ _ _ _ _ _ _ _ _ _ _ _ _ _ _ _ _ _ _ _ _ _ _ _ _ _ _ _ _ _ _ _ _ _ _ _ _ _ _ _ _ _ _ _ _ _ _ _ _ _ _ _ _ _ _ _ _ _ _ _ _ _ _ _ _ _ _ _ _ _ _ _ _ _ _ _ _ _ _ _ _ _ _ _ _ _ _ _ _ _ _ _ _ _ _ _ _ _ _ _ _ _ _ _ _ _ _ _ _ _ _ _ _ _ _ _ _ _ _ _ _ _ _ _ _ _ _ _ _ _ _ _ _ _ _ _ _ _ _ _ _ _ _ _ _ _ _ _ _ _ _ _ _ _ _ _ _ _ _ _ _ _ _ _ _ _ _ _ _ _ _ _ _ _ _ ?_
              intro y291 y292 y293 y294 y295 y296 W6 hI6
              dsimp only
              have HI6 : Hid (QI W g gk Sb (.slice pa nO pc) vq nO L (i + 1) W6) := hI6
              clear hI6
              go_wp2
              exact ⟨⟨i + 1, by omega, by go_num, HI6.out⟩, by simp [intOf]; omega⟩
            · have hzz : ((z : Int) == 1) = false := by simp; omega
              have HB4 := HB34
              have HG4 := HG34
              have HBY4 := HBY34
              have HP4 := HP34
              have HZ4 := HZ34
              have HMS : Hid (Sp.MsgOk nO ⟨[109], false, 0, 0⟩) := ⟨rfl, Or.inr ⟨rfl, rfl, rfl⟩⟩
              go_upto_region 75 with fail
              refine reg75_wp _ _ W4 wr.heap.size (W2.heap.size + 1) W2.heap.size s x false 0 0 (HZ.out HK4.out).1 HB4.out HG4.out _ _ _ _ _ _ _ _ _ _ _ _ _ _ _ _ _ _ _ _ _ _ _ _ _ _ _ _ _ _ _ _ _ _ _ _ _ _ _ _ _ _ _ _ _ _ _ _ _ _ _ _ _ _ _ _ _ _ _ _ _ _ _ _ _ _ _ _ _ _ _ _ _ _ _ _ _ _ _ _ _ _ _ _ _ _ _ _ _ _ _ _ _ _ _ _ _ _ _ _ _ _ _ _ _ _ _ _ _ _ _ _ _ _ _ _ _ _ _ _ _ _ _ _ _ _ _ _ _ _ _ _ _ _ _ _ _ _ _ _ _ _ _ _ _ _ _ _ _ _ _ _ _ _ _ _ _ _ _ _ _ _ _ _ _ _ _ _ _ _ _ _ _ _ _ _ _ _ _ _ _ _ _ _ _ _ _ _ _ _ _ _ _ _ _ _ _ _ _ _ _ _ _ _ _ _ _ _ _ _ _ _ _ _ _ _ _ _ _ _ _ _ _ _ _ _ _ _ _ _ _ _ _ _ _ _ _ _ _ _ _ _ _ _ _ _ _ _ _ _ _ _ _ _ _ _ _ _ _ _ _ _ _ _ _ _ _ _ _ _ _ _ _ _ _ _ _ _ _ _ _ _ _ _ _ _ _ _ _ _ _ _ _ _ _ _ _ ?_
              intro y285 y286 y287 y288 y289 y290 W5 r hb5 hr5 ho5 hz5 hbl5
              dsimp only
              have hp4 := HP4.out
              have hz45 := hp4.2.2.1
              have hzz2 := HZ2.out
              have hz24 := HZ4.out
              have HP5 : Hid (Pn g Sb wr W5) := ⟨hp4.1.on ho5 ⟨by omega, by omega⟩ (fun b hb => by have := HSb.out b hb; exact ⟨by omega, by omega⟩), hp4.2.1.trans (ho5.less fun b hb => ⟨by omega, by omega⟩), by omega, fun C hC => (hp4.2.2.2 C hC).trans (hbl5 C (by omega))⟩
              have HB5 : Hid (Blk W5 wr.heap.size (objC (⟨s.d, s.e, r⟩, { x with queue := [⟨[109], false, 0, 0⟩] })).toArray 40) := hb5
              have HL5 : Hid (Lists W5 (fun b => g < b ∧ b < W5.heap.size ∧ b ≠ gk) (⟨s.d, s.e, r⟩, { x with queue := [⟨[109], false, 0, 0⟩] })) := by
                have hon : On (fun b => b < wr.heap.size ∧ b ≠ g) wr W5 := HP5.out.2.1
                refine ⟨(Row.on HLS.out.1 (hon.less fun b hb => ⟨by omega, by omega⟩)).more fun b hb => ⟨hb.1, by omega, hb.2.2⟩, (Row.on HLS.out.2.1 (hon.less fun b hb => ⟨by omega, by omega⟩)).more fun b hb => ⟨hb.1, by omega, hb.2.2⟩, [(⟨some ⟨W2.heap.size, 0, none⟩, 1, 1⟩, ⟨[109], false, 0, 0⟩)], rfl, hr5.more fun b hb => ⟨by omega, hb.2, by omega⟩, fun t ht => ?_⟩
                simp at ht
                subst ht
                exact (Row.on HBY4.out (ho5.less fun b hb => ⟨by omega, by omega⟩)).more fun b hb => ⟨by omega, by omega, by omega⟩
              clear hb5 hr5 ho5 hbl5 hp4
              go_upto_region 76 with fail
              refine reg76_wp _ W W5 g gk wr.heap.size i Sb (.slice pa nO pc) vq nO L ⟨s.d, s.e, r⟩ x ⟨[109], false, 0, 0⟩ HSb.out hgk hgW hL HX.out HK4.out HMS.out (HI.out.next (Nat.le_refl _) hgk HP5.out) HB5.out HL5.out _ _ _ _ _ _ _ _ _ _ _ _ _ _ _ _ _ _ _ _ _ _ _ _ _ _ _ _ _ _ _ _ _ _ _ _ _ _ _ _ _ _ _ _ _ _ _ _ _ _ _ _ _ _ _ _ _ _ _ _ _ _ _ _ _ _ _ _ _ _ _ _ _ _ _ _ _ _ _ _ _ _ _ _ _ _ _ _ _ _ _ _ _ _ _ _ _ _ _ _ _ _ _ _ _ _ _ _ _ _ _ _ _ _ _ _ _ _ _ _ _ _ _ _ _ _ _ _ _ _ _ _ _ _ _ _ _ _ _ _ _ _ _ _ _ _ _ _ _ _ _ _ _ _ _ _ _ _ _ _ _ _ _ _ _ _ _ _ _ _ _ _ _ _ _ _ _ _ _ _ _ _ _ _ _ _ _ _ _ _ _ _ _ _ _ _ _ _ _ _ _ _ _ _ _ _ _ _ _ _ _ _ _ _ _ _ _ _ _ _ _ _ _ _ _ _ _ _ _ _ _ _ _ _ _ _ _ _ _ _ _ _ _ _ _ _ _ _ _ _ _ _ _ _ _ _ _ _ _ _ _ _ _ _ _ _ _ _ _ _ _ _ _ _ _ _ _ _ _ _ _ _ _ _ _ _ _ _ _ _ _ _ _ _ _ _ ?_
              intro y291 y292 y293 y294 y295 y296 W6 hI6
              dsimp only
              have HI6 : Hid (QI W g gk Sb (.slice pa nO pc) vq nO L (i + 1) W6) := hI6
              clear hI6
              go_wp2
              exact ⟨⟨i + 1, by omega, by go_num, HI6.out⟩, by simp [intOf]; omega⟩
        · have hyz : ((y : Int) == 1) = false := by simp; omega
          go_wp2
          exact ⟨⟨i + 1, by omega, by go_num, HI.out.next (by omega) hgk HP2.out⟩, by simp [intOf]; omega⟩
      · have hkz : (x.kind == 4) = false := by simpa using hk4
        clear hk4
        go_wp2
        exact ⟨⟨i + 1, by omega, by go_num, HI.out.next (by omega) hgk (Pn.alloc (Pn.refl HMK.out) HSb.out (by omega) _)⟩, by simp [intOf]; omega⟩
    · obtain rfl : i = L.length := by omega
      go_wp2
      exact HH.out _ _ _ _ _ _ _ _ _ _ _ _ _ _ _ _ _ _ _ _ _ _ _ _ _ _ _ _ _ _ _ _ _ _ _ _ _ _ _ _ _ _ _ _ _ _ _ _ _ _ _ _ HI.out
end Go.Proofs.Ytdciohinlhbliaa


/-
  rgref5.Build, piece by piece: open files, all of them.
-/
namespace Go.Proofs.Ytdciohinlhbliaa
open Go.RowKit
/-- Open files of one object. -/
def OJ (W : World) (g gk : Nat) (Sb : Nat → Prop) (vo : Value) (m n M : Nat) (s : Value) (wr : World) : Prop :=
  ∃ (j : Nat) (r : Sl) (O : List Sp.Opn), j ≤ n ∧ s = .int .i64 j ∧ O.length ≤ M + j ∧ OI W g gk Sb vo m r O wr
set_option maxRecDepth 1000000 in
set_option maxHeartbeats 8000000 in
theorem blk11_wp (Q : Exit → Act → World → Prop) (W wr : World) (g gk : Nat) (Sb : Nat → Prop) (vo : Value) (m i n M : Nat) (r : Sl) (O : List Sp.Opn) (hSb : ∀ b, Sb b → b < g) (hgk : g < gk) (hgW : gk < W.heap.size) (hi : i < m) (hn : n ≤ 2) (hM : M ≤ 90) (hO : O.length ≤ M) (hI : OI W g gk Sb vo m r O wr)
    (x0 x1 x2 x4 x5 x6 x7 x8 x9 x10 x11 x12 x13 x14 x15 x16 x17 x18 x20 x21 x22 x23 x24 x26 x27 x28 x29 x30 x31 x32 x33 x34 x35 x36 x37 x38 x39 x40 x41 x42 x43 x44 x45 x46 x47 x48 x49 x50 x51 x52 x53 x54 x55 x56 x57 x58 x59 x60 x61 x62 x63 x64 x65 x66 x67 x68 x69 x70 x71 x72 x73 x74 x75 x76 x77 x78 x79 x80 x81 x82 x83 x84 x85 x86 x87 x88 x89 x90 x91 x92 x93 x94 x95 x96 x97 x98 x99 x100 x101 x102 x103 x104 x105 x106 x107 x108 x109 x110 x111 x112 x113 x114 x115 x116 x117 x118 x119 x120 x121 x122 x123 x124 x125 x126 x127 x128 x129 x130 x131 x132 x133 x134 x135 x136 x137 x138 x139 x140 x141 x142 x143 x144 x145 x146 x147 x148 x149 x150 x151 x152 x153 x154 x155 x156 x157 x158 x159 x160 x161 x162 x163 x164 x165 x166 x167 x168 x169 x172 x173 x174 x175 x176 x177 x178 x179 x180 x181 x182 x183 x184 x185 x186 x187 x188 x189 x190 x191 x192 x193 x194 x195 x196 x197 x198 x199 x200 x201 x202 x203 x204 x205 x206 x207 x208 x209 x210 x211 x212 x213 x214 x215 x216 x217 x218 x219 x220 x221 x222 x223 x224 x225 x226 x227 x228 x229 x230 x231 x232 x233 x234 x235 x236 x237 x238 x239 x240 x241 x242 x243 x244 x245 x246 x247 x248 x249 x250 x251 x252 x253 x254 x255 x256 x257 x258 x259 x260 x261 x262 x263 x264 x265 x266 x267 x268 x269 x270 x271 x272 x273 x274 x275 x276 x277 x278 x279 x280 x281 x282 x283 x284 x285 x286 x287 x288 x289 x290 x291 x292 x293 x294 x295 x296 x297 x298 : Value)
    (h : ∀ (y171 y172 y173 y174 y175 y176 y177 y178 y179 y180 y181 y182 : Value) (W' : World) (r' : Sl) (O' : List Sp.Opn), O'.length ≤ M + 2 → OI W g gk Sb vo m r' O' W' → Q .normal ⟨#[x0, x1, x2, .pointer (some ⟨g, 0, none⟩), x4, x5, x6, x7, x8, x9, x10, x11, x12, x13, x14, x15, x16, x17, x18, .pointer (some ⟨gk, 0, none⟩), x20, x21, x22, x23, x24, .int .i64 i, x26, x27, x28, x29, x30, x31, x32, x33, x34, x35, x36, x37, x38, x39, x40, x41, x42, x43, x44, x45, x46, x47, x48, x49, x50, x51, x52, x53, x54, x55, x56, x57, x58, x59, x60, x61, x62, x63, x64, x65, x66, x67, x68, x69, x70, x71, x72, x73, x74, x75, x76, x77, x78, x79, x80, x81, x82, x83, x84, x85, x86, x87, x88, x89, x90, x91, x92, x93, x94, x95, x96, x97, x98, x99, x100, x101, x102, x103, x104, x105, x106, x107, x108, x109, x110, x111, x112, x113, x114, x115, x116, x117, x118, x119, x120, x121, x122, x123, x124, x125, x126, x127, x128, x129, x130, x131, x132, x133, x134, x135, x136, x137, x138, x139, x140, x141, x142, x143, x144, x145, x146, x147, x148, x149, x150, x151, x152, x153, x154, x155, x156, x157, x158, x159, x160, x161, x162, x163, x164, x165, x166, x167, x168, x169, .int .i64 n, y171, y172, y173, y174, y175, y176, y177, y178, y179, y180, y181, y182, x183, x184, x185, x186, x187, x188, x189, x190, x191, x192, x193, x194, x195, x196, x197, x198, x199, x200, x201, x202, x203, x204, x205, x206, x207, x208, x209, x210, x211, x212, x213, x214, x215, x216, x217, x218, x219, x220, x221, x222, x223, x224, x225, x226, x227, x228, x229, x230, x231, x232, x233, x234, x235, x236, x237, x238, x239, x240, x241, x242, x243, x244, x245, x246, x247, x248, x249, x250, x251, x252, x253, x254, x255, x256, x257, x258, x259, x260, x261, x262, x263, x264, x265, x266, x267, x268, x269, x270, x271, x272, x273, x274, x275, x276, x277, x278, x279, x280, x281, x282, x283, x284, x285, x286, x287, x288, x289, x290, x291, x292, x293, x294, x295, x296, x297, x298], []⟩ W') :
    Code.wp Try.prog ((Try.f9.body.bind (findBlock 11)).getD .skip) Q ⟨#[x0, x1, x2, .pointer (some ⟨g, 0, none⟩), x4, x5, x6, x7, x8, x9, x10, x11, x12, x13, x14, x15, x16, x17, x18, .pointer (some ⟨gk, 0, none⟩), x20, x21, x22, x23, x24, .int .i64 i, x26, x27, x28, x29, x30, x31, x32, x33, x34, x35, x36, x37, x38, x39, x40, x41, x42, x43, x44, x45, x46, x47, x48, x49, x50, x51, x52, x53, x54, x55, x56, x57, x58, x59, x60, x61, x62, x63, x64, x65, x66, x67, x68, x69, x70, x71, x72, x73, x74, x75, x76, x77, x78, x79, x80, x81, x82, x83, x84, x85, x86, x87, x88, x89, x90, x91, x92, x93, x94, x95, x96, x97, x98, x99, x100, x101, x102, x103, x104, x105, x106, x107, x108, x109, x110, x111, x112, x113, x114, x115, x116, x117, x118, x119, x120, x121, x122, x123, x124, x125, x126, x127, x128, x129, x130, x131, x132, x133, x134, x135, x136, x137, x138, x139, x140, x141, x142, x143, x144, x145, x146, x147, x148, x149, x150, x151, x152, x153, x154, x155, x156, x157, x158, x159, x160, x161, x162, x163, x164, x165, x166, x167, x168, x169, .int .i64 n, .int .i64 0, x172, x173, x174, x175, x176, x177, x178, x179, x180, x181, x182, x183, x184, x185, x186, x187, x188, x189, x190, x191, x192, x193, x194, x195, x196, x197, x198, x199, x200, x201, x202, x203, x204, x205, x206, x207, x208, x209, x210, x211, x212, x213, x214, x215, x216, x217, x218, x219, x220, x221, x222, x223, x224, x225, x226, x227, x228, x229, x230, x231, x232, x233, x234, x235, x236, x237, x238, x239, x240, x241, x242, x243, x244, x245, x246, x247, x248, x249, x250, x251, x252, x253, x254, x255, x256, x257, x258, x259, x260, x261, x262, x263, x264, x265, x266, x267, x268, x269, x270, x271, x272, x273, x274, x275, x276, x277, x278, x279, x280, x281, x282, x283, x284, x285, x286, x287, x288, x289, x290, x291, x292, x293, x294, x295, x296, x297, x298], []⟩ wr := by
  have HH : Hid (∀ (y171 y172 y173 y174 y175 y176 y177 y178 y179 y180 y181 y182 : Value) (W' : World) (r' : Sl) (O' : List Sp.Opn), O'.length ≤ M + 2 → OI W g gk Sb vo m r' O' W' → Q .normal ⟨#[x0, x1, x2, .pointer (some ⟨g, 0, none⟩), x4, x5, x6, x7, x8, x9, x10, x11, x12, x13, x14, x15, x16, x17, x18, .pointer (some ⟨gk, 0, none⟩), x20, x21, x22, x23, x24, .int .i64 i, x26, x27, x28, x29, x30, x31, x32, x33, x34, x35, x36, x37, x38, x39, x40, x41, x42, x43, x44, x45, x46, x47, x48, x49, x50, x51, x52, x53, x54, x55, x56, x57, x58, x59, x60, x61, x62, x63, x64, x65, x66, x67, x68, x69, x70, x71, x72, x73, x74, x75, x76, x77, x78, x79, x80, x81, x82, x83, x84, x85, x86, x87, x88, x89, x90, x91, x92, x93, x94, x95, x96, x97, x98, x99, x100, x101, x102, x103, x104, x105, x106, x107, x108, x109, x110, x111, x112, x113, x114, x115, x116, x117, x118, x119, x120, x121, x122, x123, x124, x125, x126, x127, x128, x129, x130, x131, x132, x133, x134, x135, x136, x137, x138, x139, x140, x141, x142, x143, x144, x145, x146, x147, x148, x149, x150, x151, x152, x153, x154, x155, x156, x157, x158, x159, x160, x161, x162, x163, x164, x165, x166, x167, x168, x169, .int .i64 n, y171, y172, y173, y174, y175, y176, y177, y178, y179, y180, y181, y182, x183, x184, x185, x186, x187, x188, x189, x190, x191, x192, x193, x194, x195, x196, x197, x198, x199, x200, x201, x202, x203, x204, x205, x206, x207, x208, x209, x210, x211, x212, x213, x214, x215, x216, x217, x218, x219, x220, x221, x222, x223, x224, x225, x226, x227, x228, x229, x230, x231, x232, x233, x234, x235, x236, x237, x238, x239, x240, x241, x242, x243, x244, x245, x246, x247, x248, x249, x250, x251, x252, x253, x254, x255, x256, x257, x258, x259, x260, x261, x262, x263, x264, x265, x266, x267, x268, x269, x270, x271, x272, x273, x274, x275, x276, x277, x278, x279, x280, x281, x282, x283, x284, x285, x286, x287, x288, x289, x290, x291, x292, x293, x294, x295, x296, x297, x298], []⟩ W') := h
  have HS0 : Hid (OJ W g gk Sb vo m n M (.int .i64 0) wr) := ⟨0, r, O, Nat.zero_le _, rfl, hO, hI⟩
  have HSb : Hid (∀ b, Sb b → b < g) := hSb
  have hnz : (n : Int) ≤ 2 := by omega
  clear h hI hSb hO
  conv => arg 2; whnf
  go_wp2_with fail
  go_loopw [171] (fun s wz => OJ W g gk Sb vo m n M s wz) (fun s _ => n - (intOf s).toNat)
  case atStart => exact HS0.out
  case round =>
    obtain ⟨j, r, O, hj, rfl, hO, hI⟩ := hrel
    clear HS0
    have HI : Hid (OI W g gk Sb vo m r O wr) := hI
    have HO : Hid (O.length ≤ M + j) := hO
    clear hI hO
    by_cases hlt : j < n
    · go_upto_region 50 with fail
      refine reg50_wp _ W _ g gk Sb vo m i r O HSb.out hgk hgW hi (by have := HO.out; omega) HI.out _ _ _ _ _ _ _ _ _ _ _ _ _ _ _ _ _ _ _ _ _ _ _ _ _ _ _ _ _ _ _ _ _ _ _ _ _ _ _ _ _ _ _ _ _ _ _ _ _ _ _ _ _ _ _ _ _ _ _ _ _ _ _ _ _ _ _ _ _ _ _ _ _ _ _ _ _ _ _ _ _ _ _ _ _ _ _ _ _ _ _ _ _ _ _ _ _ _ _ _ _ _ _ _ _ _ _ _ _ _ _ _ _ _ _ _ _ _ _ _ _ _ _ _ _ _ _ _ _ _ _ _ _ _ _ _ _ _ _ _ _ _ _ _ _ _ _ _ _ _ _ _ _ _ _ _ _ _ _ _ _ _ _ _ _ _ _ _ _ _ _ _ _ _ _ _ _ _ _ _ _ _ _ _ _ _ _ _ _ _ _ _ _ _ _ _ _ _ _ _ _ _ _ _ _ _ _ _ _ _ _ _ _ _ _ _ _ _ _ _ _ _ _ _ _ _ _ _ _ _ _ _ _ _ _ _ _ _ _ _ _ _ _ _ _ _ _ _ _ _ _ _ _ _ _ _ _ _ _ _ _ _ _ _ _ _ _ _ _ _ _ _ _ _ _ _ _ _ _ _ _ _ _ _ _ _ _ _ _ _ _ _ _ _ _ _ ?_
      intro y173 y174 y175 y176 y177 y178 y179 y180 y181 W2 r2 y hI2
      dsimp only
      have HI2 : Hid (OI W g gk Sb vo m r2 (O ++ [(⟨(i : Int), (y : Int)⟩ : Sp.Opn)]) W2) := hI2
      clear hI2
      go_wp2
      exact ⟨⟨j + 1, r2, O ++ [(⟨(i : Int), (y : Int)⟩ : Sp.Opn)], by omega, by go_num, by have := HO.out; simp; omega, HI2.out⟩, by simp [intOf]; omega⟩
    · go_wp2
      exact HH.out _ _ _ _ _ _ _ _ _ _ _ _ _ r O (by have := HO.out; omega) HI.out
/-- Open files, object by object. -/
def OK9 (W : World) (g gk : Nat) (Sb : Nat → Prop) (vo : Value) (m : Nat) (s : Value) (wr : World) : Prop :=
  ∃ (i : Nat) (r : Sl) (O : List Sp.Opn), i ≤ m ∧ s = .int .i64 i ∧ O.length ≤ 2 * i ∧ OI W g gk Sb vo m r O wr
set_option maxRecDepth 1000000 in
set_option maxHeartbeats 8000000 in
theorem blk9_wp (Q : Exit → Act → World → Prop) (K : Act → World → Prop) (W : World) (g gk : Nat) (Sb : Nat → Prop) (vo : Value) (m : Nat) (hm : m ≤ 14) (hSb : ∀ b, Sb b → b < g) (hgk : g < gk) (hmk : MK W g Sb) (hbk : Blk W gk #[vo, .slice none 0 0, .slice none 0 0] 27)
    (x0 x1 x2 x4 x5 x6 x7 x8 x9 x10 x11 x12 x13 x14 x15 x16 x17 x18 x20 x21 x22 x23 x24 x25 x26 x27 x28 x29 x30 x31 x32 x33 x34 x35 x36 x37 x38 x39 x40 x41 x42 x43 x44 x45 x46 x47 x48 x49 x50 x51 x52 x53 x54 x55 x56 x57 x58 x59 x60 x61 x62 x63 x64 x65 x66 x67 x68 x69 x70 x71 x72 x73 x74 x75 x76 x77 x78 x79 x80 x81 x82 x83 x84 x85 x86 x87 x88 x89 x90 x91 x92 x93 x94 x95 x96 x97 x98 x99 x100 x101 x102 x103 x104 x105 x106 x107 x108 x109 x110 x111 x112 x113 x114 x115 x116 x117 x118 x119 x120 x121 x122 x123 x124 x125 x126 x127 x128 x129 x130 x131 x132 x133 x134 x135 x136 x137 x138 x139 x140 x141 x142 x143 x144 x145 x146 x147 x148 x149 x150 x151 x152 x153 x154 x155 x156 x157 x158 x159 x160 x161 x162 x163 x164 x167 x168 x169 x170 x171 x172 x173 x174 x175 x176 x177 x178 x179 x180 x181 x182 x183 x184 x185 x186 x187 x188 x189 x190 x191 x192 x193 x194 x195 x196 x197 x198 x199 x200 x201 x202 x203 x204 x205 x206 x207 x208 x209 x210 x211 x212 x213 x214 x215 x216 x217 x218 x219 x220 x221 x222 x223 x224 x225 x226 x227 x228 x229 x230 x231 x232 x233 x234 x235 x236 x237 x238 x239 x240 x241 x242 x243 x244 x245 x246 x247 x248 x249 x250 x251 x252 x253 x254 x255 x256 x257 x258 x259 x260 x261 x262 x263 x264 x265 x266 x267 x268 x269 x270 x271 x272 x273 x274 x275 x276 x277 x278 x279 x280 x281 x282 x283 x284 x285 x286 x287 x288 x289 x290 x291 x292 x293 x294 x295 x296 x297 x298 : Value)
    (h : ∀ (y25 y166 y167 y168 y169 y170 y171 y172 y173 y174 y175 y176 y177 y178 y179 y180 y181 y182 y183 : Value) (W' : World) (r' : Sl) (O' : List Sp.Opn), O'.length ≤ 28 → OI W g gk Sb vo m r' O' W' → K ⟨#[x0, x1, x2, .pointer (some ⟨g, 0, none⟩), x4, x5, x6, x7, x8, x9, x10, x11, x12, x13, x14, x15, x16, x17, x18, .pointer (some ⟨gk, 0, none⟩), x20, x21, x22, x23, x24, y25, x26, x27, x28, x29, x30, x31, x32, x33, x34, x35, x36, x37, x38, x39, x40, x41, x42, x43, x44, x45, x46, x47, x48, x49, x50, x51, x52, x53, x54, x55, x56, x57, x58, x59, x60, x61, x62, x63, x64, x65, x66, x67, x68, x69, x70, x71, x72, x73, x74, x75, x76, x77, x78, x79, x80, x81, x82, x83, x84, x85, x86, x87, x88, x89, x90, x91, x92, x93, x94, x95, x96, x97, x98, x99, x100, x101, x102, x103, x104, x105, x106, x107, x108, x109, x110, x111, x112, x113, x114, x115, x116, x117, x118, x119, x120, x121, x122, x123, x124, x125, x126, x127, x128, x129, x130, x131, x132, x133, x134, x135, x136, x137, x138, x139, x140, x141, x142, x143, x144, x145, x146, x147, x148, x149, x150, x151, x152, x153, x154, x155, x156, x157, x158, x159, x160, x161, x162, x163, x164, .int .i64 m, y166, y167, y168, y169, y170, y171, y172, y173, y174, y175, y176, y177, y178, y179, y180, y181, y182, y183, x184, x185, x186, x187, x188, x189, x190, x191, x192, x193, x194, x195, x196, x197, x198, x199, x200, x201, x202, x203, x204, x205, x206, x207, x208, x209, x210, x211, x212, x213, x214, x215, x216, x217, x218, x219, x220, x221, x222, x223, x224, x225, x226, x227, x228, x229, x230, x231, x232, x233, x234, x235, x236, x237, x238, x239, x240, x241, x242, x243, x244, x245, x246, x247, x248, x249, x250, x251, x252, x253, x254, x255, x256, x257, x258, x259, x260, x261, x262, x263, x264, x265, x266, x267, x268, x269, x270, x271, x272, x273, x274, x275, x276, x277, x278, x279, x280, x281, x282, x283, x284, x285, x286, x287, x288, x289, x290, x291, x292, x293, x294, x295, x296, x297, x298], []⟩ W') :
    Code.wp Try.prog ((Try.f9.body.bind (findBlock 9)).getD .skip) (Exit.then K Q) ⟨#[x0, x1, x2, .pointer (some ⟨g, 0, none⟩), x4, x5, x6, x7, x8, x9, x10, x11, x12, x13, x14, x15, x16, x17, x18, .pointer (some ⟨gk, 0, none⟩), x20, x21, x22, x23, x24, x25, x26, x27, x28, x29, x30, x31, x32, x33, x34, x35, x36, x37, x38, x39, x40, x41, x42, x43, x44, x45, x46, x47, x48, x49, x50, x51, x52, x53, x54, x55, x56, x57, x58, x59, x60, x61, x62, x63, x64, x65, x66, x67, x68, x69, x70, x71, x72, x73, x74, x75, x76, x77, x78, x79, x80, x81, x82, x83, x84, x85, x86, x87, x88, x89, x90, x91, x92, x93, x94, x95, x96, x97, x98, x99, x100, x101, x102, x103, x104, x105, x106, x107, x108, x109, x110, x111, x112, x113, x114, x115, x116, x117, x118, x119, x120, x121, x122, x123, x124, x125, x126, x127, x128, x129, x130, x131, x132, x133, x134, x135, x136, x137, x138, x139, x140, x141, x142, x143, x144, x145, x146, x147, x148, x149, x150, x151, x152, x153, x154, x155, x156, x157, x158, x159, x160, x161, x162, x163, x164, .int .i64 m, .int .i64 0, x167, x168, x169, x170, x171, x172, x173, x174, x175, x176, x177, x178, x179, x180, x181, x182, x183, x184, x185, x186, x187, x188, x189, x190, x191, x192, x193, x194, x195, x196, x197, x198, x199, x200, x201, x202, x203, x204, x205, x206, x207, x208, x209, x210, x211, x212, x213, x214, x215, x216, x217, x218, x219, x220, x221, x222, x223, x224, x225, x226, x227, x228, x229, x230, x231, x232, x233, x234, x235, x236, x237, x238, x239, x240, x241, x242, x243, x244, x245, x246, x247, x248, x249, x250, x251, x252, x253, x254, x255, x256, x257, x258, x259, x260, x261, x262, x263, x264, x265, x266, x267, x268, x269, x270, x271, x272, x273, x274, x275, x276, x277, x278, x279, x280, x281, x282, x283, x284, x285, x286, x287, x288, x289, x290, x291, x292, x293, x294, x295, x296, x297, x298], []⟩ W := by
  have HH : Hid (∀ (y25 y166 y167 y168 y169 y170 y171 y172 y173 y174 y175 y176 y177 y178 y179 y180 y181 y182 y183 : Value) (W' : World) (r' : Sl) (O' : List Sp.Opn), O'.length ≤ 28 → OI W g gk Sb vo m r' O' W' → K ⟨#[x0, x1, x2, .pointer (some ⟨g, 0, none⟩), x4, x5, x6, x7, x8, x9, x10, x11, x12, x13, x14, x15, x16, x17, x18, .pointer (some ⟨gk, 0, none⟩), x20, x21, x22, x23, x24, y25, x26, x27, x28, x29, x30, x31, x32, x33, x34, x35, x36, x37, x38, x39, x40, x41, x42, x43, x44, x45, x46, x47, x48, x49, x50, x51, x52, x53, x54, x55, x56, x57, x58, x59, x60, x61, x62, x63, x64, x65, x66, x67, x68, x69, x70, x71, x72, x73, x74, x75, x76, x77, x78, x79, x80, x81, x82, x83, x84, x85, x86, x87, x88, x89, x90, x91, x92, x93, x94, x95, x96, x97, x98, x99, x100, x101, x102, x103, x104, x105, x106, x107, x108, x109, x110, x111, x112, x113, x114, x115, x116, x117, x118, x119, x120, x121, x122, x123, x124, x125, x126, x127, x128, x129, x130, x131, x132, x133, x134, x135, x136, x137, x138, x139, x140, x141, x142, x143, x144, x145, x146, x147, x148, x149, x150, x151, x152, x153, x154, x155, x156, x157, x158, x159, x160, x161, x162, x163, x164, .int .i64 m, y166, y167, y168, y169, y170, y171, y172, y173, y174, y175, y176, y177, y178, y179, y180, y181, y182, y183, x184, x185, x186, x187, x188, x189, x190, x191, x192, x193, x194, x195, x196, x197, x198, x199, x200, x201, x202, x203, x204, x205, x206, x207, x208, x209, x210, x211, x212, x213, x214, x215, x216, x217, x218, x219, x220, x221, x222, x223, x224, x225, x226, x227, x228, x229, x230, x231, x232, x233, x234, x235, x236, x237, x238, x239, x240, x241, x242, x243, x244, x245, x246, x247, x248, x249, x250, x251, x252, x253, x254, x255, x256, x257, x258, x259, x260, x261, x262, x263, x264, x265, x266, x267, x268, x269, x270, x271, x272, x273, x274, x275, x276, x277, x278, x279, x280, x281, x282, x283, x284, x285, x286, x287, x288, x289, x290, x291, x292, x293, x294, x295, x296, x297, x298], []⟩ W') := h
  have HS0 : Hid (OK9 W g gk Sb vo m (.int .i64 0) W) := ⟨0, nilSl, [], Nat.zero_le _, rfl, by simp, hmk, hbk, Mine.nil _ _ _ _, fun x hx => by simp at hx, fun _ _ => rfl, fun C _ => Below.refl C W⟩
  have HSb : Hid (∀ b, Sb b → b < g) := hSb
  have hgW := hbk.lt
  have hmz : (m : Int) ≤ 14 := by omega
  clear h hSb hmk hbk
  conv => arg 2; whnf
  go_wp2_with fail
  go_loopw [166] (fun s wz => OK9 W g gk Sb vo m s wz) (fun s _ => m - (intOf s).toNat)
  case atStart => exact HS0.out
  case round =>
    obtain ⟨i, r, O, hi, rfl, hO, hI⟩ := hrel
    clear HS0
    have HI : Hid (OI W g gk Sb vo m r O wr) := hI
    have HO : Hid (O.length ≤ 2 * i) := hO
    clear hI hO
    by_cases hlt : i < m
    · go_wp2_with fail
      refine (pick_any g Sb 3 (by decide) (by decide) _ HI.out.1 (fun b hb => by have := HSb.out b hb; omega)).mono ?_
      rintro e W1 ⟨n, rfl, hn, hmk1, hon1, hz1, hbl1⟩
      have HI1 : Hid (OI W g gk Sb vo m r O W1) := by
        obtain ⟨h1, h2, h3, h4, h5, h6⟩ := HI.out
        exact ⟨hmk1, h2.on hon1 (by show gk ≠ g; omega), h3.on hon1 fun k hk => by have := (h3.lt k hk).1; show k ≠ g; omega, h4, h5.trans (hon1.less fun b hb => hb.2.1), fun C hC => (h6 C hC).trans (hbl1 C hC)⟩
      clear hmk1 hon1 hz1 hbl1
      go_upto_block 11 with fail
      refine blk11_wp _ W W1 g gk Sb vo m i n (2 * i) r O HSb.out hgk hgW hlt (by omega) (by omega) HO.out HI1.out _ _ _ _ _ _ _ _ _ _ _ _ _ _ _ _ _ _ _ _ _ _ _ _ _ _ _ _ _ _ _ _ _ _ _ _ _ _ _ _ _ _ _ _ _ _ _ _ _ _ _ _ _ _ _ _ _ _ _ _ _ _ _ _ _ _ _ _ _ _ _ _ _ _ _ _ _ _ _ _ _ _ _ _ _ _ _ _ _ _ _ _ _ _ _ _ _ _ _ _ _ _ _ _ _ _ _ _ _ _ _ _ _ _ _ _ _ _ _ _ _ _ _ _ _ _ _ _ _ _ _ _ _ _ _ _ _ _ _ _ _ _ _ _ _ _ _ _ _ _ _ _ _ _ _ _ _ _ _ _ _ _ _ _ _ _ _ _ _ _ _ _ _ _ _ _ _ _ _ _ _ _ _ _ _ _ _ _ _ _ _ _ _ _ _ _ _ _ _ _ _ _ _ _ _ _ _ _ _ _ _ _ _ _ _ _ _ _ _ _ _ _ _ _ _ _ _ _ _ _ _ _ _ _ _ _ _ _ _ _ _ _ _ _ _ _ _ _ _ _ _ _ _ _ _ _ _ _ _ _ _ _ _ _ _ _ _ _ _ _ _ _ _ _ _ _ _ _ _ _ _ _ _ _ _ _ _ _ _ _ _ _ _ _ ?_
      intro y171 y172 y173 y174 y175 y176 y177 y178 y179 y180 y181 y182 W2 r2 O2 hO2 hI2
      dsimp only
      have HI2 : Hid (OI W g gk Sb vo m r2 O2 W2) := hI2
      have HO2 : Hid (O2.length ≤ 2 * i + 2) := hO2
      clear hI2 hO2
      go_wp2
      exact ⟨⟨i + 1, r2, O2, by omega, by go_num, by have := HO2.out; omega, HI2.out⟩, by simp [intOf]; omega⟩
    · go_wp2
      exact HH.out _ _ _ _ _ _ _ _ _ _ _ _ _ _ _ _ _ _ _ _ r O (by have := HO.out; omega) HI.out
end Go.Proofs.Ytdciohinlhbliaa


/-
  rgref5.Build, whole.
-/
namespace Go.Proofs.Ytdciohinlhbliaa
open Go.RowKit
/-- Processes lie there, with their tables. -/
def Procs (w : World) (S : Nat → Prop) (v : Value) (P : List Sp.Prc) : Prop :=
  ∃ ts : List (Sl × Sp.Prc), P = ts.map Prod.snd ∧ Row w S 4 v (ts.map prcC) ∧ ∀ t ∈ ts, Row w S 3 (.slice t.1.a t.1.n t.1.c) (t.2.slots.map sltC)
/-- A kernel lies there. -/
def Kern (w : World) (S : Nat → Prop) (vo vp vq : Value) (L : List Sp.Ob) (O : List Sp.Opn) (P : List Sp.Prc) : Prop :=
  Objs w S vo L ∧ Row w S 2 vp (O.map opnC) ∧ Procs w S vq P
def nil3 : Array Value := #[.slice none 0 0, .slice none 0 0, .slice none 0 0]
theorem procs_lt {L : List Sp.Ob} {n : Nat} (hK : ∀ o ∈ L, o.kind ≤ 4) (hn : 1 ≤ n) : ∀ o ∈ L ++ procsL n, o.kind = 5 → o.proc < (n : Int) := by
  intro o ho hk
  rcases List.mem_append.1 ho with h | h
  · have := hK o h; omega
  · obtain ⟨p, hp, rfl⟩ := List.mem_map.1 h
    have := List.mem_range.1 hp
    show (p : Int) + 1 < n
    omega
theorem procs_all {L : List Sp.Ob} {n p : Nat} (h1 : 1 ≤ p) (h2 : p < n) : Sp.obP (p : Int) ∈ L ++ procsL n := by
  refine List.mem_append.2 (Or.inr (List.mem_map.2 ⟨p - 1, List.mem_range.2 (by omega), ?_⟩))
  congr 1
  omega
theorem kok_of {L M : List Sp.Ob} {O : List Sp.Opn} {ts : List (Sl × Sp.Prc)} {n : Nat} (hn1 : 1 ≤ n) (hn3 : n ≤ 3) (hK : ∀ o ∈ L, o.kind ≤ 4) (hL : L.length ≤ 12) (hM : M.length = (L ++ procsL n).length) (hT : Sp.TOk M) (h4 : ∀ (j : Nat) (o : Sp.Ob), M[j]? = some o → ∃ o' : Sp.Ob, (L ++ procsL n)[j]? = some o' ∧ o.kind = o'.kind ∧ o.proc = o'.proc) (h5 : ∀ o ∈ M, ∀ m ∈ o.queue, Sp.MsgOk O.length m) (hO : ∀ x ∈ O, Sp.OpnOk (L ++ procsL n).length x) (hO2 : O.length ≤ 28) (hts : ts.length = n) (hp : ∀ t ∈ ts, Sp.PrcOk O.length t.2) (hf : ∀ t, ts[0]? = some t → t.2.live = true) : Sp.KOk M O (ts.map Prod.snd) := by
  have hlen : (L ++ procsL n).length = L.length + (n - 1) := by rw [List.length_append, procsL_len]
  refine ⟨hT, by omega, fun x hx => by rw [hM]; exact hO x hx, hO2, fun x hx => ?_, by rw [List.length_map]; omega, fun x hx => ?_, h5, fun o ho hk => ?_, fun p h1 h2 => ?_⟩
  · obtain ⟨t, ht, rfl⟩ := List.mem_map.1 hx
    exact hp t ht
  · rw [List.getElem?_map] at hx
    cases h0 : ts[0]? with
    | none => rw [h0] at hx; cases hx
    | some t => rw [h0] at hx; cases hx; exact hf t h0
  · obtain ⟨j, hj, rfl⟩ := List.getElem_of_mem ho
    obtain ⟨o', g1, g2, g3⟩ := h4 j _ (List.getElem?_eq_getElem hj)
    rw [List.length_map, hts, g3]
    exact procs_lt hK hn1 o' (List.mem_of_getElem? g1) (g2 ▸ hk)
  · rw [List.length_map, hts] at h2
    obtain ⟨j, hj, he⟩ := List.getElem_of_mem (procs_all (L := L) h1 h2)
    have hjM : j < M.length := by omega
    obtain ⟨o', g1, g2, g3⟩ := h4 j _ (List.getElem?_eq_getElem hjM)
    rw [List.getElem?_eq_getElem hj, he] at g1
    cases g1
    exact ⟨M[j], List.getElem_mem hjM, g2, g3⟩
theorem qn_none {L : List Sp.Ob} {w : World} {S : Nat → Prop} {v : Value} (hT : Sp.TOk L) (h : ObjsP QN w S v L) : ∀ o ∈ L, o.queue = [] := by
  intro o ho
  obtain ⟨i, hi, rfl⟩ := List.getElem_of_mem ho
  by_cases hk : L[i].kind = 4
  · obtain ⟨ts, rfl, _, _, h4⟩ := h
    rw [List.length_map] at hi
    rw [List.getElem_map] at hk ⊢
    exact (h4 _ (List.getElem_mem hi) hk).2
  · exact (hT.all i _ (List.getElem?_eq_getElem hi)).noqueue hk
theorem start_ok (l : List UInt8) (va : Option Addr) (vc : Nat) (w W1 : World) (hv : Bytes w (fun b => b < w.heap.size) (.slice va (l.map byteC).length vc) l) (hW : W1 = ((((w.alloc (.cells #[.slice none 0 0, .slice none 0 0, .slice none 0 0] 27)).alloc (.cells #[.slice va l.length vc] 69)).alloc (.cells #[.int .i64 2, .slice none 0 0, .slice none 0 0, .string ⟨#[]⟩, .int .i64 (-1), .slice none 0 0, .int .i64 (-1), .int .i64 1, .int .i64 0] 40)).alloc (.cells #[.string ⟨#[97]⟩, .string ⟨#[98]⟩, .string ⟨#[99]⟩, .string ⟨#[100]⟩] 9))) :
    BI w (w.heap.size + 1) (some ⟨w.heap.size + 1 + 1, 0, none⟩) 1 [Sp.rootO] W1 := by
  rw [List.length_map] at hv
  have b0 := Blk.new w #[.slice none 0 0, .slice none 0 0, .slice none 0 0] 27
  have z0 : (w.alloc (.cells #[.slice none 0 0, .slice none 0 0, .slice none 0 0] 27)).heap.size = w.heap.size + 1 := by simp
  have o0 := On.alloc w (.cells #[.slice none 0 0, .slice none 0 0, .slice none 0 0] 27)
  have l0 : Below w.heap.size w (w.alloc (.cells #[.slice none 0 0, .slice none 0 0, .slice none 0 0] 27)) := (Below.refl _ _).alloc (Nat.le_refl _) _
  generalize w.alloc (.cells #[.slice none 0 0, .slice none 0 0, .slice none 0 0] 27) = A0 at *
  have b1 := Blk.new A0 #[.slice va l.length vc] 69
  have z1 : (A0.alloc (.cells #[.slice va l.length vc] 69)).heap.size = w.heap.size + 2 := by simp; omega
  have o1 := On.alloc A0 (.cells #[.slice va l.length vc] 69)
  have l1 : Below w.heap.size w (A0.alloc (.cells #[.slice va l.length vc] 69)) := l0.alloc (by omega) _
  rw [z0] at b1
  generalize A0.alloc (.cells #[.slice va l.length vc] 69) = A1 at *
  have b2 := Blk.new A1 #[.int .i64 2, .slice none 0 0, .slice none 0 0, .string ⟨#[]⟩, .int .i64 (-1), .slice none 0 0, .int .i64 (-1), .int .i64 1, .int .i64 0] 40
  have z2 : (A1.alloc (.cells #[.int .i64 2, .slice none 0 0, .slice none 0 0, .string ⟨#[]⟩, .int .i64 (-1), .slice none 0 0, .int .i64 (-1), .int .i64 1, .int .i64 0] 40)).heap.size = w.heap.size + 3 := by simp; omega
  have o2 := On.alloc A1 (.cells #[.int .i64 2, .slice none 0 0, .slice none 0 0, .string ⟨#[]⟩, .int .i64 (-1), .slice none 0 0, .int .i64 (-1), .int .i64 1, .int .i64 0] 40)
  have l2 : Below w.heap.size w (A1.alloc (.cells #[.int .i64 2, .slice none 0 0, .slice none 0 0, .string ⟨#[]⟩, .int .i64 (-1), .slice none 0 0, .int .i64 (-1), .int .i64 1, .int .i64 0] 40)) := l1.alloc (by omega) _
  rw [z1] at b2
  generalize A1.alloc (.cells #[.int .i64 2, .slice none 0 0, .slice none 0 0, .string ⟨#[]⟩, .int .i64 (-1), .slice none 0 0, .int .i64 (-1), .int .i64 1, .int .i64 0] 40) = A2 at *
  have b3 := Blk.new A2 #[.string ⟨#[97]⟩, .string ⟨#[98]⟩, .string ⟨#[99]⟩, .string ⟨#[100]⟩] 9
  have z3 : (A2.alloc (.cells #[.string ⟨#[97]⟩, .string ⟨#[98]⟩, .string ⟨#[99]⟩, .string ⟨#[100]⟩] 9)).heap.size = w.heap.size + 4 := by simp; omega
  have o3 := On.alloc A2 (.cells #[.string ⟨#[97]⟩, .string ⟨#[98]⟩, .string ⟨#[99]⟩, .string ⟨#[100]⟩] 9)
  have l3 : Below w.heap.size w (A2.alloc (.cells #[.string ⟨#[97]⟩, .string ⟨#[98]⟩, .string ⟨#[99]⟩, .string ⟨#[100]⟩] 9)) := l2.alloc (by omega) _
  rw [z2] at b3
  rw [← hW] at b3 z3 o3 l3
  have e1 : On (fun b => b < w.heap.size + 2) A1 W1 := (o2.less fun b hb => by show b < _; omega).trans (o3.less fun b hb => by show b < _; omega)
  have e0 : On (fun b => b < w.heap.size + 1) A0 W1 := (o1.less fun b hb => by show b < _; omega).trans (e1.less fun b hb => by omega)
  refine ⟨⟨va, l.length, vc, l, b1.on e1 (by show _ < _; omega), hv.on ((o0.less fun b hb => hb).trans (e0.less fun b hb => by omega))⟩, ⟨[(⟨nilSl, nilSl, nilSl⟩, Sp.rootO)], rfl, ?_, fun t ht => ?_⟩, b3, b0.on e0 (by show _ < _; omega), l3⟩
  · have hr : Row A2 (fun b => b = w.heap.size + 2) 9 (.slice (some ⟨w.heap.size + 2, 0, none⟩) 1 1) [objC (⟨nilSl, nilSl, nilSl⟩, Sp.rootO)] := obj_row (s := ⟨nilSl, nilSl, nilSl⟩) (o := Sp.rootO) b2
    exact (hr.on (o3.less fun b hb => by show b < _; omega)).more fun b hb => ⟨by omega, by omega⟩
  · simp at ht
    subst ht
    exact ⟨Row.nil _ _ _ _ _, Row.nil _ _ _ _ _, [], rfl, Row.nil _ _ _ _ _, fun t ht => by simp at ht⟩
set_option maxRecDepth 1000000 in
set_option maxHeartbeats 8000000 in
theorem build_any (l : List UInt8) (v : Value) (w : World) (hv : Bytes w (fun b => b < w.heap.size) v l) :
    Calls Try.prog 9 #[v] w fun e w' => ∃ (vo vp vq : Value) (L : List Sp.Ob) (O : List Sp.Opn) (P : List Sp.Prc), e = .returned (.agg #[vo, vp, vq]) ∧ Kern w' (fun b => w.heap.size ≤ b ∧ b < w'.heap.size) vo vp vq L O P ∧ Sp.KOk L O P ∧ Below w.heap.size w w' := by
  obtain ⟨va, vc, rfl, -⟩ := Row.form hv
  have HV : Hid _ := hv
  clear hv
  go_enter Try.func9, Try.ntmps9
  go_wp2_with fail
  have hA : ∃ W1, W1 = ((((w.alloc (.cells #[.slice none 0 0, .slice none 0 0, .slice none 0 0] 27)).alloc (.cells #[.slice va l.length vc] 69)).alloc (.cells #[.int .i64 2, .slice none 0 0, .slice none 0 0, .string ⟨#[]⟩, .int .i64 (-1), .slice none 0 0, .int .i64 (-1), .int .i64 1, .int .i64 0] 40)).alloc (.cells #[.string ⟨#[97]⟩, .string ⟨#[98]⟩, .string ⟨#[99]⟩, .string ⟨#[100]⟩] 9)) := ⟨_, rfl⟩
  obtain ⟨W1, hW1⟩ := hA
  rw [← hW1]
  have HI1 : Hid (BI w (w.heap.size + 1) (some ⟨w.heap.size + 1 + 1, 0, none⟩) 1 [Sp.rootO] W1) := start_ok l va vc w W1 HV.out hW1
  clear hW1
  refine (pick_any (w.heap.size + 1) (fun b => b < w.heap.size) 8 (by decide) (by decide) W1 HI1.out.1 (fun b hb => by omega)).mono ?_
  rintro e W2 ⟨n, rfl, hn, hmk2, hon2, hz2, hbl2⟩
  have HI2 : Hid (BI w (w.heap.size + 1) (some ⟨w.heap.size + 1 + 1, 0, none⟩) 1 [Sp.rootO] W2) := HI1.out.next rfl hmk2 (hon2.less fun b hb => hb.2) hbl2 ((HI1.out.2.1.on (hon2.less fun b hb => by show b ≠ _; omega)).more fun b hb => ⟨hb.1, by omega⟩)
  clear hmk2 hon2 hz2 hbl2 HI1
  go_upto_block 0 with fail
  refine blk0_wp _ _ w W2 (w.heap.size + 1) rfl (some ⟨w.heap.size + 1 + 1, 0, none⟩) 1 [Sp.rootO] n (by omega) Sp.TOk.first (fun o ho => by simp at ho; subst ho; decide) rfl HI2.out _ _ _ _ _ _ _ _ _ _ _ _ _ _ _ _ _ _ _ _ _ _ _ _ _ _ _ _ _ _ _ _ _ _ _ _ _ _ _ _ _ _ _ _ _ _ _ _ _ _ _ _ _ _ _ _ _ _ _ _ _ _ _ _ _ _ _ _ _ _ _ _ _ _ _ _ _ _ _ _ _ _ _ _ _ _ _ _ _ _ _ _ _ _ _ _ _ _ _ _ _ _ _ _ _ _ _ _ _ _ _ _ _ _ _ _ _ _ _ _ _ _ _ _ _ _ _ _ _ _ _ _ _ _ _ _ _ _ _ _ _ _ _ _ _ _ _ _ _ _ _ _ _ _ _ _ _ _ _ _ _ _ _ _ _ _ _ _ _ _ _ _ _ _ _ _ _ _ _ _ _ _ _ _ _ _ _ _ _ _ _ _ _ _ _ _ _ _ _ _ _ _ _ _ _ _ _ _ _ _ _ _ _ _ _ _ _ _ _ _ _ _ _ _ _ _ _ _ _ _ _ _ _ _ _ _ _ _ _ _ _ _ _ _ _ _ _ _ _ _ _ _ _ _ _ _ _ _ _ _ _ _ _ _ _ _ _ _ _ _ _ _ _ _ _ _ _ _ _ _ _ _ _ _ _ _ _ _ _ _ _ _ _ _ ?_
  intro y6 y7 y8 y9 y10 y11 y12 y13 y14 y15 y42 y43 y44 y45 y46 y47 y48 y49 y50 y51 y52 y53 y54 y55 y56 y57 y58 y59 y60 y61 y62 y63 y64 y65 y66 y67 y68 y69 y70 y71 y72 y73 y74 y75 y76 y77 y78 y79 y80 y81 y82 y83 y84 y85 y86 y87 y88 y89 y90 y91 y92 y93 y94 y95 y96 y97 y98 y99 y100 y101 y102 y103 y104 y105 y106 y107 y108 y109 y110 y111 y112 y113 y114 y115 y116 y117 y118 y119 y120 y121 y122 y123 y124 y125 W3 a3 c3 L3 hT3 hK3 hL3 hI3
  dsimp only
  have HI3 : Hid (BI w (w.heap.size + 1) a3 c3 L3 W3) := hI3
  have HT3 : Hid (Sp.TOk L3) := hT3
  have HK3 : Hid (∀ o ∈ L3, o.kind ≤ 3) := hK3
  have HL3 : Hid (L3.length ≤ 8) := hL3
  clear hI3 hT3 hK3 hL3 HI2
  go_wp2_with fail
  refine (pick_any (w.heap.size + 1) (fun b => b < w.heap.size) 3 (by decide) (by decide) W3 HI3.out.1 (fun b hb => by omega)).mono ?_
  rintro e W4 ⟨m, rfl, hm, hmk4, hon4, hz4, hbl4⟩
  have HI4 : Hid (BI w (w.heap.size + 1) a3 c3 L3 W4) := HI3.out.next rfl hmk4 (hon4.less fun b hb => hb.2) hbl4 ((HI3.out.2.1.on (hon4.less fun b hb => by show b ≠ _; omega)).more fun b hb => ⟨hb.1, by omega⟩)
  clear hmk4 hon4 hz4 hbl4 HI3
  have hg4 : w.heap.size + 1 < W4.heap.size := by obtain ⟨_, _, _, _, hq, _⟩ := HI4.out.1; exact hq.lt
  go_upto_block 5 with fail
  refine blk5_wp _ _ W4 (w.heap.size + 1) a3 c3 L3 m (by omega) HT3.out (fun o ho => by have := HK3.out o ho; omega) HL3.out hg4 (HI4.out.2.1.withP fun s o ho hk => by have := HK3.out o ho; dsimp only at hk; omega) _ _ _ _ _ _ _ _ _ _ _ _ _ _ _ _ _ _ _ _ _ _ _ _ _ _ _ _ _ _ _ _ _ _ _ _ _ _ _ _ _ _ _ _ _ _ _ _ _ _ _ _ _ _ _ _ _ _ _ _ _ _ _ _ _ _ _ _ _ _ _ _ _ _ _ _ _ _ _ _ _ _ _ _ _ _ _ _ _ _ _ _ _ _ _ _ _ _ _ _ _ _ _ _ _ _ _ _ _ _ _ _ _ _ _ _ _ _ _ _ _ _ _ _ _ _ _ _ _ _ _ _ _ _ _ _ _ _ _ _ _ _ _ _ _ _ _ _ _ _ _ _ _ _ _ _ _ _ _ _ _ _ _ _ _ _ _ _ _ _ _ _ _ _ _ _ _ _ _ _ _ _ _ _ _ _ _ _ _ _ _ _ _ _ _ _ _ _ _ _ _ _ _ _ _ _ _ _ _ _ _ _ _ _ _ _ _ _ _ _ _ _ _ _ _ _ _ _ _ _ _ _ _ _ _ _ _ _ _ _ _ _ _ _ _ _ _ _ _ _ _ _ _ _ _ _ _ _ _ _ _ _ _ _ _ _ _ _ _ _ _ _ _ _ _ _ _ _ _ _ _ _ _ _ _ _ _ _ _ _ _ _ _ _ _ _ ?_
  intro y16 y17 y18 y128 y129 y130 y131 y132 y133 y134 y135 y136 y137 y138 y139 W5 a5 c5 L5 hT5 hK5 hL5 hO5 hB5
  dsimp only
  have HT5 : Hid (Sp.TOk L5) := hT5
  have HK5 : Hid (∀ o ∈ L5, o.kind ≤ 4) := hK5
  have HL5 : Hid (L5.length ≤ 12) := hL5
  have HO5 : Hid (ObjsP QN W5 (fun b => w.heap.size + 1 < b ∧ b < W5.heap.size) (.slice a5 L5.length c5) L5) := hO5
  have hz5 := hB5.size
  have HM5 : Hid (MK W5 (w.heap.size + 1) (fun b => b < w.heap.size)) := HI4.out.1.on (On.of hB5) hg4 (fun b hb => by show b < W4.heap.size; omega)
  have HR5 : Hid (Blk W5 w.heap.size nil3 27) := Blk.below HI4.out.2.2.2.1 hB5 (by omega)
  have HW5 : Hid (Below w.heap.size w W5) := HI4.out.2.2.2.2.trans (hB5.mono (by omega))
  clear hT5 hK5 hL5 hO5 hB5 HI4 HT3 HK3 HL3
  go_wp2_with fail
  have hbk6 : Blk (W5.alloc (.cells #[.slice a5 L5.length c5, .slice none 0 0, .slice none 0 0] 27)) W5.heap.size (kC a5 L5.length c5 (.slice none 0 0) (.slice none 0 0)) 27 := Blk.new W5 _ _
  have hz6 : (W5.alloc (.cells #[.slice a5 L5.length c5, .slice none 0 0, .slice none 0 0] 27)).heap.size = W5.heap.size + 1 := by simp
  have hon6 := On.alloc W5 (.cells #[.slice a5 L5.length c5, .slice none 0 0, .slice none 0 0] 27)
  have hbl6 : ∀ C, C ≤ W5.heap.size → Below C W5 (W5.alloc (.cells #[.slice a5 L5.length c5, .slice none 0 0, .slice none 0 0] 27)) := fun C hC => (Below.refl C W5).alloc hC _
  generalize W5.alloc (.cells #[.slice a5 L5.length c5, .slice none 0 0, .slice none 0 0] 27) = W6 at *
  have hmk6 : MK W6 (w.heap.size + 1) (fun b => b < w.heap.size) := HM5.out.on hon6 (by show _ < W5.heap.size; omega) (fun b hb => by show b < W5.heap.size; omega)
  refine (pick_any (w.heap.size + 1) (fun b => b < w.heap.size) 3 (by decide) (by decide) W6 hmk6 (fun b hb => by omega)).mono ?_
  rintro e W7 ⟨x, rfl, hx, hmk7, hon7, hz7, hbl7⟩
  have HM7 : Hid (MK W7 (w.heap.size + 1) (fun b => b < w.heap.size)) := hmk7
  have HBK7 : Hid (Blk W7 W5.heap.size (kC a5 L5.length c5 (.slice none 0 0) (.slice none 0 0)) 27) := hbk6.on hon7 (by show W5.heap.size ≠ _; omega)
  have hz7' : W7.heap.size = W5.heap.size + 1 := by omega
  have HO7 : Hid (ObjsP QN W7 (fun b => w.heap.size + 1 < b ∧ b < W7.heap.size ∧ b ≠ W5.heap.size) (.slice a5 L5.length c5) L5) := ((HO5.out.on (hon6.less fun b hb => hb.2)).on (hon7.less fun b hb => by show b ≠ _; omega)).more fun b hb => ⟨hb.1, by omega, by omega⟩
  have HR7 : Hid (Blk W7 w.heap.size nil3 27) := (Blk.on HR5.out hon6 (by show _ < W5.heap.size; omega)).on hon7 (by show w.heap.size ≠ _; omega)
  have HW7 : Hid (Below w.heap.size w W7) := (HW5.out.trans (hbl6 _ (by omega))).trans (hbl7 _ (by omega))
  have HZ7 : Hid (W7.heap.size = W5.heap.size + 1) := hz7'
  have HNX : Hid ((1 + (x : Int)) = ((1 + x : Nat) : Int)) := by unfold Hid; omega
  have hx3 : (x : Int) < 3 := by omega
  clear hbk6 hz6 hon6 hbl6 hmk6 hmk7 hon7 hz7 hbl7 hz7' HM5 HR5 HW5 HO5
  go_upto_block 7 with fail
  rw [HNX.out]
  refine blk7_wp _ _ W7 (w.heap.size + 1) W5.heap.size a5 c5 L5 (1 + x) (by omega) HT5.out HL5.out (by omega) HBK7.out HO7.out _ _ _ _ _ _ _ _ _ _ _ _ _ _ _ _ _ _ _ _ _ _ _ _ _ _ _ _ _ _ _ _ _ _ _ _ _ _ _ _ _ _ _ _ _ _ _ _ _ _ _ _ _ _ _ _ _ _ _ _ _ _ _ _ _ _ _ _ _ _ _ _ _ _ _ _ _ _ _ _ _ _ _ _ _ _ _ _ _ _ _ _ _ _ _ _ _ _ _ _ _ _ _ _ _ _ _ _ _ _ _ _ _ _ _ _ _ _ _ _ _ _ _ _ _ _ _ _ _ _ _ _ _ _ _ _ _ _ _ _ _ _ _ _ _ _ _ _ _ _ _ _ _ _ _ _ _ _ _ _ _ _ _ _ _ _ _ _ _ _ _ _ _ _ _ _ _ _ _ _ _ _ _ _ _ _ _ _ _ _ _ _ _ _ _ _ _ _ _ _ _ _ _ _ _ _ _ _ _ _ _ _ _ _ _ _ _ _ _ _ _ _ _ _ _ _ _ _ _ _ _ _ _ _ _ _ _ _ _ _ _ _ _ _ _ _ _ _ _ _ _ _ _ _ _ _ _ _ _ _ _ _ _ _ _ _ _ _ _ _ _ _ _ _ _ _ _ _ _ _ _ _ _ _ _ _ _ _ _ _ _ _ _ _ _ _ ?_
  intro y21 y22 y23 y24 y146 y147 y148 y149 y150 y151 y152 y153 y154 y155 y156 y157 y158 y159 y160 y161 y162 W8 a8 c8 hbk8 hO8 hon8 hbl8
  dsimp only
  have hz8 : W7.heap.size ≤ W8.heap.size := (hbl8 0 (Nat.zero_le _)).size
  have hzz7 := HZ7.out
  have HBK8 : Hid (Blk W8 W5.heap.size (kC a8 (L5 ++ procsL (1 + x)).length c8 (.slice none 0 0) (.slice none 0 0)) 27) := hbk8
  have HO8 : Hid (ObjsP QN W8 (fun b => w.heap.size + 1 < b ∧ b < W8.heap.size ∧ b ≠ W5.heap.size) (.slice a8 (L5 ++ procsL (1 + x)).length c8) (L5 ++ procsL (1 + x))) := hO8
  have HM8 : Hid (MK W8 (w.heap.size + 1) (fun b => b < w.heap.size)) := HM7.out.on hon8 ⟨by omega, by omega⟩ (fun b hb => ⟨by omega, by omega⟩)
  have HR8 : Hid (Blk W8 w.heap.size nil3 27) := Blk.on HR7.out hon8 ⟨by omega, by omega⟩
  have HW8 : Hid (Below w.heap.size w W8) := HW7.out.trans (hbl8 _ (by omega))
  have HLN : Hid ((L5 ++ procsL (1 + x)).length ≤ 14) := by unfold Hid; rw [List.length_append, procsL_len]; have := HL5.out; omega
  have HT8 : Hid (Sp.TOk (L5 ++ procsL (1 + x))) := procsL_ok HT5.out _ (by omega)
  have hck8 := hbk8.cell
  unfold kC at hck8
  have hgl8 := hbk8.lt
  have hnz8 : ((L5 ++ procsL (1 + x)).length : Int) ≤ 14 := by have := HLN.out; omega
  have HLE : Hid (∀ M : Nat, M = (L5 ++ procsL (1 + x)).length → True) := fun _ _ => trivial
  clear hbk8 hO8 hon8 hbl8 HBK7 HO7 HM7 HR7 HW7
  obtain ⟨L8, hL8⟩ : ∃ L8, L8 = L5 ++ procsL (1 + x) := ⟨_, rfl⟩
  rw [← hL8] at HBK8 HO8 HLN HT8 hck8 hnz8
  have HL8 : Hid (L8 = L5 ++ procsL (1 + x)) := hL8
  clear hL8 HLE
  go_upto_block 9 with fail
  refine blk9_wp _ _ W8 (w.heap.size + 1) W5.heap.size (fun b => b < w.heap.size) (.slice a8 L8.length c8) L8.length HLN.out (fun b hb => by omega) (by omega) HM8.out HBK8.out _ _ _ _ _ _ _ _ _ _ _ _ _ _ _ _ _ _ _ _ _ _ _ _ _ _ _ _ _ _ _ _ _ _ _ _ _ _ _ _ _ _ _ _ _ _ _ _ _ _ _ _ _ _ _ _ _ _ _ _ _ _ _ _ _ _ _ _ _ _ _ _ _ _ _ _ _ _ _ _ _ _ _ _ _ _ _ _ _ _ _ _ _ _ _ _ _ _ _ _ _ _ _ _ _ _ _ _ _ _ _ _ _ _ _ _ _ _ _ _ _ _ _ _ _ _ _ _ _ _ _ _ _ _ _ _ _ _ _ _ _ _ _ _ _ _ _ _ _ _ _ _ _ _ _ _ _ _ _ _ _ _ _ _ _ _ _ _ _ _ _ _ _ _ _ _ _ _ _ _ _ _ _ _ _ _ _ _ _ _ _ _ _ _ _ _ _ _ _ _ _ _ _ _ _ _ _ _ _ _ _ _ _ _ _ _ _ _ _ _ _ _ _ _ _ _ _ _ _ _ _ _ _ _ _ _ _ _ _ _ _ _ _ _ _ _ _ _ _ _ _ _ _ _ _ _ _ _ _ _ _ _ _ _ _ _ _ _ _ _ _ _ _ _ _ _ _ _ _ _ _ _ _ _ _ _ _ _ _ _ _ _ _ _ _ ?_
  intro y25 y166 y167 y168 y169 y170 y171 y172 y173 y174 y175 y176 y177 y178 y179 y180 y181 y182 y183 W9 r9 O9 hO9 hI9
  dsimp only
  obtain ⟨i1, i2, i3, i4, i5, i6⟩ := hI9
  obtain ⟨pa, pc, ep, -, -⟩ := i3.form
  rw [List.length_map] at ep
  rw [ep] at i2 i3
  have hz9 : W8.heap.size ≤ W9.heap.size := (i6 0 (Nat.zero_le _)).size
  have HM9 : Hid (MK W9 (w.heap.size + 1) (fun b => b < w.heap.size)) := i1
  have HBK9 : Hid (Blk W9 W5.heap.size #[.slice a8 L8.length c8, .slice pa O9.length pc, .slice none 0 0] 27) := i2
  have HRO9 : Hid (Row W9 (fun b => W8.heap.size ≤ b ∧ b < W9.heap.size) 2 (.slice pa O9.length pc) (O9.map opnC)) := i3.row (even_opn O9)
  have HOK9 : Hid (∀ y ∈ O9, Sp.OpnOk L8.length y) := i4
  have HO9 : Hid (ObjsP QN W9 (fun b => w.heap.size + 1 < b ∧ b < W8.heap.size ∧ b ≠ W5.heap.size) (.slice a8 L8.length c8) L8) := HO8.out.on (i5.less fun b hb => ⟨hb.2.1, by omega, hb.2.2⟩)
  have HR9 : Hid (Blk W9 w.heap.size nil3 27) := Blk.on HR8.out i5 ⟨by omega, by omega, by omega⟩
  have HW9 : Hid (Below w.heap.size w W9) := HW8.out.trans (i6 _ (by omega))
  have HN9 : Hid (O9.length ≤ 28) := hO9
  clear i1 i2 i3 i4 i5 i6 ep hO9 hck8 HBK8 HO8 HM8 HR8 HW8
  go_upto_block 13 with fail
  refine blk13_wp _ _ W9 (w.heap.size + 1) W5.heap.size (fun b => b < w.heap.size) O9.length pc (1 + x) pa (.slice a8 L8.length c8) (fun b hb => by omega) (by omega) (by omega) (by have := HN9.out; omega) HM9.out HBK9.out _ _ _ _ _ _ _ _ _ _ _ _ _ _ _ _ _ _ _ _ _ _ _ _ _ _ _ _ _ _ _ _ _ _ _ _ _ _ _ _ _ _ _ _ _ _ _ _ _ _ _ _ _ _ _ _ _ _ _ _ _ _ _ _ _ _ _ _ _ _ _ _ _ _ _ _ _ _ _ _ _ _ _ _ _ _ _ _ _ _ _ _ _ _ _ _ _ _ _ _ _ _ _ _ _ _ _ _ _ _ _ _ _ _ _ _ _ _ _ _ _ _ _ _ _ _ _ _ _ _ _ _ _ _ _ _ _ _ _ _ _ _ _ _ _ _ _ _ _ _ _ _ _ _ _ _ _ _ _ _ _ _ _ _ _ _ _ _ _ _ _ _ _ _ _ _ _ _ _ _ _ _ _ _ _ _ _ _ _ _ _ _ _ _ _ _ _ _ _ _ _ _ _ _ _ _ _ _ _ _ _ _ _ _ _ _ _ _ _ _ _ _ _ _ _ _ _ _ _ _ _ _ _ _ _ _ _ _ _ _ _ _ _ _ _ _ _ _ _ _ _ _ _ _ _ _ _ _ _ _ _ _ _ _ _ _ _ _ _ _ _ _ _ _ _ _ _ _ _ _ _ _ _ _ _ _ _ _ _ _ _ _ _ _ _ ?_
  intro y26 y27 y28 y29 y30 y185 y186 y187 y188 y189 y190 y191 y192 y193 y194 y195 y196 y197 y198 y199 y200 y201 y202 y203 y204 y205 y206 y207 y208 y209 y210 y211 y212 y213 y214 y215 y216 y217 y218 y219 y220 y221 y222 y223 y224 y225 y226 y227 y228 y229 y230 y231 y232 y233 y234 y235 y236 y237 y238 y239 y240 y241 y242 y243 y244 y245 y246 W10 r10 ts hts hI10
  dsimp only
  obtain ⟨j1, j2, j3, j4, j5, j6, j7⟩ := hI10
  have hz10 : W9.heap.size ≤ W10.heap.size := (j7 0 (Nat.zero_le _)).size
  have HM10 : Hid (MK W10 (w.heap.size + 1) (fun b => b < w.heap.size)) := j1
  have HBK10 : Hid (Blk W10 W5.heap.size #[.slice a8 L8.length c8, .slice pa O9.length pc, .slice r10.a r10.n r10.c] 27) := j2
  have HRO10 : Hid (Row W10 (fun b => W8.heap.size ≤ b ∧ b < W9.heap.size) 2 (.slice pa O9.length pc) (O9.map opnC)) := HRO9.out.on (j6.less fun b hb => ⟨hb.2, by omega, by omega⟩)
  have HRP10 : Hid (Row W10 (fun b => W9.heap.size ≤ b ∧ b < W10.heap.size) 4 (.slice r10.a r10.n r10.c) (ts.map prcC)) := j3.row (even_prc ts)
  have HRS10 : Hid (∀ t ∈ ts, Row W10 (fun b => W9.heap.size ≤ b ∧ b < W10.heap.size) 3 (.slice t.1.a t.1.n t.1.c) (t.2.slots.map sltC)) := fun t ht => (j4 t ht).1.more fun b hb => ⟨hb.1, hb.2.1⟩
  have HPO : Hid (∀ t ∈ ts, Sp.PrcOk O9.length t.2) := fun t ht => (j4 t ht).2
  have HP0 : Hid (∀ t, ts[0]? = some t → t.2.live = true) := j5
  have HTS : Hid (ts.length = 1 + x) := hts
  have HO10 : Hid (ObjsP QN W10 (fun b => w.heap.size + 1 < b ∧ b < W10.heap.size ∧ b ≠ W5.heap.size) (.slice a8 L8.length c8) L8) := (HO9.out.on (j6.less fun b hb => ⟨by omega, by omega, hb.2.2⟩)).more fun b hb => ⟨hb.1, by omega, hb.2.2⟩
  have HR10 : Hid (Blk W10 w.heap.size nil3 27) := Blk.on HR9.out j6 ⟨by omega, by omega, by omega⟩
  have HW10 : Hid (Below w.heap.size w W10) := HW9.out.trans (j7 _ (by omega))
  have hck10 := j2.cell
  have hgl10 := j2.lt
  clear j1 j2 j3 j4 j5 j6 j7 hts HRO9 HO9 HR9 HW9 HBK9 HM9
  go_upto_block 17 with fail
  refine blk17_wp _ _ W10 (w.heap.size + 1) W5.heap.size (fun b => b < w.heap.size) O9.length pc pa (.slice r10.a r10.n r10.c) a8 c8 L8 (fun b hb => by omega) (by omega) (by have := HN9.out; omega) (by have := HLN.out; omega) HT8.out HM10.out HBK10.out HO10.out (qn_none HT8.out HO10.out) _ _ _ _ _ _ _ _ _ _ _ _ _ _ _ _ _ _ _ _ _ _ _ _ _ _ _ _ _ _ _ _ _ _ _ _ _ _ _ _ _ _ _ _ _ _ _ _ _ _ _ _ _ _ _ _ _ _ _ _ _ _ _ _ _ _ _ _ _ _ _ _ _ _ _ _ _ _ _ _ _ _ _ _ _ _ _ _ _ _ _ _ _ _ _ _ _ _ _ _ _ _ _ _ _ _ _ _ _ _ _ _ _ _ _ _ _ _ _ _ _ _ _ _ _ _ _ _ _ _ _ _ _ _ _ _ _ _ _ _ _ _ _ _ _ _ _ _ _ _ _ _ _ _ _ _ _ _ _ _ _ _ _ _ _ _ _ _ _ _ _ _ _ _ _ _ _ _ _ _ _ _ _ _ _ _ _ _ _ _ _ _ _ _ _ _ _ _ _ _ _ _ _ _ _ _ _ _ _ _ _ _ _ _ _ _ _ _ _ _ _ _ _ _ _ _ _ _ _ _ _ _ _ _ _ _ _ _ _ _ _ _ _ _ _ _ _ _ _ _ _ _ _ _ _ _ _ _ _ _ _ _ _ _ _ _ _ _ _ _ _ _ _ _ _ _ _ _ _ _ _ _ _ _ _ _ _ _ _ _ _ _ _ _ ?_
  intro y31 y32 y33 y250 y251 y252 y253 y254 y255 y256 y257 y258 y259 y260 y261 y262 y263 y264 y265 y266 y267 y268 y269 y270 y271 y272 y273 y274 y275 y276 y277 y278 y279 y280 y281 y282 y283 y284 y285 y286 y287 y288 y289 y290 y291 y292 y293 y294 y295 y296 y297 W11 hQ
  dsimp only
  obtain ⟨a11, c11, M, q1, q2, -, q4, q5, q6, q7, q8, q9, q10⟩ := hQ
  have hz11 : W10.heap.size ≤ W11.heap.size := (q10 0 (Nat.zero_le _)).size
  have HR11 : Hid (Blk W11 w.heap.size nil3 27) := Blk.on HR10.out q9 ⟨by omega, by omega, by omega⟩
  have HW11 : Hid (Below w.heap.size w W11) := HW10.out.trans (q10 _ (by omega))
  have HOB : Hid (Objs W11 (fun b => w.heap.size + 1 < b ∧ b < W11.heap.size ∧ b ≠ W5.heap.size) (.slice a11 M.length c11) M) := q8
  have HRO11 : Hid (Row W11 (fun b => W8.heap.size ≤ b ∧ b < W9.heap.size) 2 (.slice pa O9.length pc) (O9.map opnC)) := HRO10.out.on (q9.less fun b hb => ⟨by omega, by omega, by omega⟩)
  have HRP11 : Hid (Row W11 (fun b => W9.heap.size ≤ b ∧ b < W10.heap.size) 4 (.slice r10.a r10.n r10.c) (ts.map prcC)) := HRP10.out.on (q9.less fun b hb => ⟨hb.2, by omega, by omega⟩)
  have HRS11 : Hid (∀ t ∈ ts, Row W11 (fun b => W9.heap.size ≤ b ∧ b < W10.heap.size) 3 (.slice t.1.a t.1.n t.1.c) (t.2.slots.map sltC)) := fun t ht => (HRS10.out t ht).on (q9.less fun b hb => ⟨hb.2, by omega, by omega⟩)
  have HKO : Hid (Sp.KOk M O9 (ts.map Prod.snd)) := by
    have e := HL8.out
    rw [e] at q1 q4
    have hok := HOK9.out
    rw [e] at hok
    exact kok_of (by omega) (by omega) HK5.out HL5.out q1 q2 q4 q5 hok HN9.out HTS.out HPO.out HP0.out
  have hc11 := q7.cell
  have hgl11 := q7.lt
  have hcr := Blk.cell HR11.out
  have hfr := Blk.free HR11.out
  unfold nil3 at hcr
  have hrl := Blk.lt HR11.out
  clear q1 q2 q4 q5 q6 q7 q8 q9 q10 HRO10 HRP10 HRS10 HPO HP0 HTS HO10 HR10 HW10 HBK10 HM10 hck10 HOK9 HT8 HL8
  go_wp2
  have f1 : Blk (W11.setCell ⟨w.heap.size, 0, none⟩ (.slice a11 M.length c11)) w.heap.size #[.slice a11 M.length c11, .slice none 0 0, .slice none 0 0] 27 := Blk.set HR11.out 0 _
  have f2 : Blk ((W11.setCell ⟨w.heap.size, 0, none⟩ (.slice a11 M.length c11)).setCell ⟨w.heap.size, 1, none⟩ (.slice pa O9.length pc)) w.heap.size #[.slice a11 M.length c11, .slice pa O9.length pc, .slice none 0 0] 27 := f1.set 1 _
  have f3 : Blk (((W11.setCell ⟨w.heap.size, 0, none⟩ (.slice a11 M.length c11)).setCell ⟨w.heap.size, 1, none⟩ (.slice pa O9.length pc)).setCell ⟨w.heap.size, 2, none⟩ (.slice r10.a r10.n r10.c)) w.heap.size #[.slice a11 M.length c11, .slice pa O9.length pc, .slice r10.a r10.n r10.c] 27 := f2.set 2 _
  have hcF := f3.cell
  have honF : On (fun b => b ≠ w.heap.size) W11 (((W11.setCell ⟨w.heap.size, 0, none⟩ (.slice a11 M.length c11)).setCell ⟨w.heap.size, 1, none⟩ (.slice pa O9.length pc)).setCell ⟨w.heap.size, 2, none⟩ (.slice r10.a r10.n r10.c)) := ((On.set W11 ⟨w.heap.size, 0, none⟩ (.slice a11 M.length c11)).trans (On.set _ ⟨w.heap.size, 1, none⟩ (.slice pa O9.length pc))).trans (On.set _ ⟨w.heap.size, 2, none⟩ (.slice r10.a r10.n r10.c))
  have hBF : Below w.heap.size w (((W11.setCell ⟨w.heap.size, 0, none⟩ (.slice a11 M.length c11)).setCell ⟨w.heap.size, 1, none⟩ (.slice pa O9.length pc)).setCell ⟨w.heap.size, 2, none⟩ (.slice r10.a r10.n r10.c)) := ((HW11.out.setCell (p := ⟨w.heap.size, 0, none⟩) (Nat.le_refl _) _).setCell (p := ⟨w.heap.size, 1, none⟩) (Nat.le_refl _) _).setCell (p := ⟨w.heap.size, 2, none⟩) (Nat.le_refl _) _
  have hzF : (((W11.setCell ⟨w.heap.size, 0, none⟩ (.slice a11 M.length c11)).setCell ⟨w.heap.size, 1, none⟩ (.slice pa O9.length pc)).setCell ⟨w.heap.size, 2, none⟩ (.slice r10.a r10.n r10.c)).heap.size = W11.heap.size := by simp
  generalize ((W11.setCell ⟨w.heap.size, 0, none⟩ (.slice a11 M.length c11)).setCell ⟨w.heap.size, 1, none⟩ (.slice pa O9.length pc)).setCell ⟨w.heap.size, 2, none⟩ (.slice r10.a r10.n r10.c) = WF at *
  refine bodyPost_ret (v := .agg #[.slice a11 M.length c11, .slice pa O9.length pc, .slice r10.a r10.n r10.c]) (by simp [results, Try.results9, go_sem, hcF]) rfl ⟨.slice a11 M.length c11, .slice pa O9.length pc, .slice r10.a r10.n r10.c, M, O9, ts.map Prod.snd, rfl, ⟨?_, ?_, ts, rfl, ?_, fun t ht => ?_⟩, HKO.out, hBF⟩
  · exact (HOB.out.on (honF.less fun b hb => by show b ≠ _; omega)).more fun b hb => ⟨by omega, by omega⟩
  · exact (HRO11.out.on (honF.less fun b hb => by show b ≠ _; omega)).more fun b hb => ⟨by omega, by omega⟩
  · exact (HRP11.out.on (honF.less fun b hb => by show b ≠ _; omega)).more fun b hb => ⟨by omega, by omega⟩
  · exact ((HRS11.out t ht).on (honF.less fun b hb => by show b ≠ _; omega)).more fun b hb => ⟨by omega, by omega⟩
end Go.Proofs.Ytdciohinlhbliaa
