import Derived.Test.YtfiiandnopifnaaDoorBW60
import Derived.Test.YtfiiandnopifnaaDoorBW5
import Derived.Lib.SlBytesConst
import Derived.Deep.CutRange
import Derived.Deep.CutBlock
import Derived.Test.YtfiiandnopifnaaDoorBW50
import Derived.Test.YtfiiandnopifnaaDoorBW0
import Derived.Test.YtfiiandnopifnaaDoorSWalkG
import Derived.Deep.RegionHeld3
import Derived.Shelf.Strings.OnBuilder
import Derived.Shelf.LaysM
import Derived.Shelf.Strings.Split
import Derived.Test.YtfiiandnopifnaaDoorProg
import Derived.Test.YtfiiandnopifnaaDoorPWalkA
import Derived.WalkSmall
import Derived.OwnWalk
import Derived.BigQuiet
import Derived.Deep.QuietTactic
import Derived.Test.YtfiiandnopifnaaDoorSWalkJ
import Derived.Test.YtfiiandnopifnaaDoorBPlain
import Derived.Test.YtfiiandnopifnaaDoorSOwn
import Derived.Maps.Own
import Derived.Maps.OwnSet
import Derived.Maps.Views
import Derived.Carry
import Derived.Test.YtfiiandnopifnaaDoorRMake
import Derived.WalkKit
import Derived.ProofKit
import Derived.OpenShut
import Derived.ShutString
import Derived.ChangeOld
import Derived.Deep.Slices
import Derived.SizedLaws
/-
  rgref5.Build, piece by piece: a process begins; a process is laid down.
-/
namespace Go.Proofs.YtfiiandnopifnaaDoor
open Go.RowKit
set_option maxRecDepth 1000000 in
set_option maxHeartbeats 8000000 in
theorem reg56_wp (Q : Exit → Act → World → Prop) (K : Act → World → Prop) (W : World) (g p : Nat) (Sb : Nat → Prop) (hSb : ∀ b, Sb b → b < g) (hmk : MK W g Sb)
    (x0 x1 x2 x4 x5 x6 x7 x8 x9 x10 x11 x12 x13 x14 x15 x16 x17 x18 x19 x20 x21 x22 x23 x24 x25 x27 x28 x29 x30 x31 x32 x33 x34 x35 x36 x37 x38 x39 x40 x41 x42 x43 x44 x45 x46 x47 x48 x49 x50 x51 x52 x53 x54 x55 x56 x57 x58 x59 x60 x61 x62 x63 x64 x65 x66 x67 x68 x69 x70 x71 x72 x73 x74 x75 x76 x77 x78 x79 x80 x81 x82 x83 x84 x85 x86 x87 x88 x89 x90 x91 x92 x93 x94 x95 x96 x97 x98 x99 x100 x101 x102 x103 x104 x105 x106 x107 x108 x109 x110 x111 x112 x113 x114 x115 x116 x117 x118 x119 x120 x121 x122 x123 x124 x125 x126 x127 x128 x129 x130 x131 x132 x133 x134 x135 x136 x137 x138 x139 x140 x141 x142 x143 x144 x145 x146 x147 x148 x149 x150 x151 x152 x153 x154 x155 x156 x157 x158 x159 x160 x161 x162 x163 x164 x165 x166 x167 x168 x169 x170 x171 x172 x173 x174 x175 x176 x177 x178 x179 x180 x181 x182 x183 x184 x185 x186 x187 x188 x189 x190 x191 x192 x193 x194 x195 x196 x197 x198 x199 x200 x201 x202 x203 x204 x205 x206 x207 x208 x209 x210 x211 x212 x213 x214 x215 x216 x217 x218 x219 x220 x221 x222 x223 x224 x225 x226 x227 x228 x229 x230 x231 x232 x233 x234 x235 x236 x237 x238 x239 x240 x241 x242 x243 x244 x245 x246 x247 x248 x249 x250 x251 x252 x253 x254 x255 x256 x257 x258 x259 x260 x261 x262 x263 x264 x265 x266 x267 x268 x269 x270 x271 x272 x273 x274 x275 x276 x277 x278 x279 x280 x281 x282 x283 x284 x285 x286 x287 x288 x289 x290 x291 x292 x293 x294 x295 x296 x297 x298 : Value)
    (h : ∀ (y188 y189 y190 y191 y192 y193 y194 y195 y196 y197 y198 : Value) (W' : World) (lv fe : Bool), (p = 0 → lv = true) → Blk W' W.heap.size #[.bool lv, .bool fe, .int .i64 0, .slice none 0 0] 71 → Pn g Sb W W' → W'.heap.size = W.heap.size + 1 → K ⟨#[x0, x1, x2, .pointer (some ⟨g, 0, none⟩), x4, x5, x6, x7, x8, x9, x10, x11, x12, x13, x14, x15, x16, x17, x18, x19, x20, x21, x22, x23, x24, x25, .int .i64 p, .pointer (some ⟨W.heap.size, 0, none⟩), x28, x29, x30, x31, x32, x33, x34, x35, x36, x37, x38, x39, x40, x41, x42, x43, x44, x45, x46, x47, x48, x49, x50, x51, x52, x53, x54, x55, x56, x57, x58, x59, x60, x61, x62, x63, x64, x65, x66, x67, x68, x69, x70, x71, x72, x73, x74, x75, x76, x77, x78, x79, x80, x81, x82, x83, x84, x85, x86, x87, x88, x89, x90, x91, x92, x93, x94, x95, x96, x97, x98, x99, x100, x101, x102, x103, x104, x105, x106, x107, x108, x109, x110, x111, x112, x113, x114, x115, x116, x117, x118, x119, x120, x121, x122, x123, x124, x125, x126, x127, x128, x129, x130, x131, x132, x133, x134, x135, x136, x137, x138, x139, x140, x141, x142, x143, x144, x145, x146, x147, x148, x149, x150, x151, x152, x153, x154, x155, x156, x157, x158, x159, x160, x161, x162, x163, x164, x165, x166, x167, x168, x169, x170, x171, x172, x173, x174, x175, x176, x177, x178, x179, x180, x181, x182, x183, x184, x185, x186, x187, y188, y189, y190, y191, y192, y193, y194, y195, y196, y197, y198, x199, x200, x201, x202, x203, x204, x205, x206, x207, x208, x209, x210, x211, x212, x213, x214, x215, x216, x217, x218, x219, x220, x221, x222, x223, x224, x225, x226, x227, x228, x229, x230, x231, x232, x233, x234, x235, x236, x237, x238, x239, x240, x241, x242, x243, x244, x245, x246, x247, x248, x249, x250, x251, x252, x253, x254, x255, x256, x257, x258, x259, x260, x261, x262, x263, x264, x265, x266, x267, x268, x269, x270, x271, x272, x273, x274, x275, x276, x277, x278, x279, x280, x281, x282, x283, x284, x285, x286, x287, x288, x289, x290, x291, x292, x293, x294, x295, x296, x297, x298], []⟩ W') :
    Code.wp Tryd.prog ((Tryd.f8.body.bind (findReg 56)).getD .skip) (Exit.then K Q) ⟨#[x0, x1, x2, .pointer (some ⟨g, 0, none⟩), x4, x5, x6, x7, x8, x9, x10, x11, x12, x13, x14, x15, x16, x17, x18, x19, x20, x21, x22, x23, x24, x25, .int .i64 p, x27, x28, x29, x30, x31, x32, x33, x34, x35, x36, x37, x38, x39, x40, x41, x42, x43, x44, x45, x46, x47, x48, x49, x50, x51, x52, x53, x54, x55, x56, x57, x58, x59, x60, x61, x62, x63, x64, x65, x66, x67, x68, x69, x70, x71, x72, x73, x74, x75, x76, x77, x78, x79, x80, x81, x82, x83, x84, x85, x86, x87, x88, x89, x90, x91, x92, x93, x94, x95, x96, x97, x98, x99, x100, x101, x102, x103, x104, x105, x106, x107, x108, x109, x110, x111, x112, x113, x114, x115, x116, x117, x118, x119, x120, x121, x122, x123, x124, x125, x126, x127, x128, x129, x130, x131, x132, x133, x134, x135, x136, x137, x138, x139, x140, x141, x142, x143, x144, x145, x146, x147, x148, x149, x150, x151, x152, x153, x154, x155, x156, x157, x158, x159, x160, x161, x162, x163, x164, x165, x166, x167, x168, x169, x170, x171, x172, x173, x174, x175, x176, x177, x178, x179, x180, x181, x182, x183, x184, x185, x186, x187, x188, x189, x190, x191, x192, x193, x194, x195, x196, x197, x198, x199, x200, x201, x202, x203, x204, x205, x206, x207, x208, x209, x210, x211, x212, x213, x214, x215, x216, x217, x218, x219, x220, x221, x222, x223, x224, x225, x226, x227, x228, x229, x230, x231, x232, x233, x234, x235, x236, x237, x238, x239, x240, x241, x242, x243, x244, x245, x246, x247, x248, x249, x250, x251, x252, x253, x254, x255, x256, x257, x258, x259, x260, x261, x262, x263, x264, x265, x266, x267, x268, x269, x270, x271, x272, x273, x274, x275, x276, x277, x278, x279, x280, x281, x282, x283, x284, x285, x286, x287, x288, x289, x290, x291, x292, x293, x294, x295, x296, x297, x298], []⟩ W := by
  have HH : Hid (∀ (y188 y189 y190 y191 y192 y193 y194 y195 y196 y197 y198 : Value) (W' : World) (lv fe : Bool), (p = 0 → lv = true) → Blk W' W.heap.size #[.bool lv, .bool fe, .int .i64 0, .slice none 0 0] 71 → Pn g Sb W W' → W'.heap.size = W.heap.size + 1 → K ⟨#[x0, x1, x2, .pointer (some ⟨g, 0, none⟩), x4, x5, x6, x7, x8, x9, x10, x11, x12, x13, x14, x15, x16, x17, x18, x19, x20, x21, x22, x23, x24, x25, .int .i64 p, .pointer (some ⟨W.heap.size, 0, none⟩), x28, x29, x30, x31, x32, x33, x34, x35, x36, x37, x38, x39, x40, x41, x42, x43, x44, x45, x46, x47, x48, x49, x50, x51, x52, x53, x54, x55, x56, x57, x58, x59, x60, x61, x62, x63, x64, x65, x66, x67, x68, x69, x70, x71, x72, x73, x74, x75, x76, x77, x78, x79, x80, x81, x82, x83, x84, x85, x86, x87, x88, x89, x90, x91, x92, x93, x94, x95, x96, x97, x98, x99, x100, x101, x102, x103, x104, x105, x106, x107, x108, x109, x110, x111, x112, x113, x114, x115, x116, x117, x118, x119, x120, x121, x122, x123, x124, x125, x126, x127, x128, x129, x130, x131, x132, x133, x134, x135, x136, x137, x138, x139, x140, x141, x142, x143, x144, x145, x146, x147, x148, x149, x150, x151, x152, x153, x154, x155, x156, x157, x158, x159, x160, x161, x162, x163, x164, x165, x166, x167, x168, x169, x170, x171, x172, x173, x174, x175, x176, x177, x178, x179, x180, x181, x182, x183, x184, x185, x186, x187, y188, y189, y190, y191, y192, y193, y194, y195, y196, y197, y198, x199, x200, x201, x202, x203, x204, x205, x206, x207, x208, x209, x210, x211, x212, x213, x214, x215, x216, x217, x218, x219, x220, x221, x222, x223, x224, x225, x226, x227, x228, x229, x230, x231, x232, x233, x234, x235, x236, x237, x238, x239, x240, x241, x242, x243, x244, x245, x246, x247, x248, x249, x250, x251, x252, x253, x254, x255, x256, x257, x258, x259, x260, x261, x262, x263, x264, x265, x266, x267, x268, x269, x270, x271, x272, x273, x274, x275, x276, x277, x278, x279, x280, x281, x282, x283, x284, x285, x286, x287, x288, x289, x290, x291, x292, x293, x294, x295, x296, x297, x298], []⟩ W') := h
  have HSb : Hid (∀ b, Sb b → b < g) := hSb
  have hgW : g < W.heap.size := by obtain ⟨_, _, _, _, hq, _⟩ := hmk; exact hq.lt
  have HM : Hid (MK W g Sb) := hmk
  clear h hSb hmk
  conv => arg 2; whnf
  by_cases hp : p = 0
  · subst hp
    go_wp2_with fail
    refine (pick_pn g Sb HSb.out 2 (by decide) (by decide) W W (Pn.refl HM.out)).mono ?_
    rintro e W2 ⟨x2, rfl, hx2, hp2, ho2, hz2⟩
    have HP2 : Hid (Pn g Sb W W2) := hp2
    have HZ2 : Hid (W2.heap.size = W.heap.size) := hz2
    generalize hfe : ((x2 : Int) == 1) = fe
    clear hp2 ho2 hz2
    go_wp2
    have hbn : Blk (W2.alloc (.cells #[.bool true, .bool fe, .int .i64 0, .slice none 0 0] 71)) W2.heap.size #[.bool true, .bool fe, .int .i64 0, .slice none 0 0] 71 := Blk.new W2 _ _
    rw [HZ2.out] at hbn ⊢
    exact HH.out _ _ _ _ _ _ _ _ _ _ _ _ true fe (fun _ => rfl) hbn (HP2.out.alloc HSb.out hgW _) (by simp; exact HZ2.out)
  · have hpz : ((p : Int) == 0) = false := by simpa using hp
    go_wp2_with fail
    refine (pick_pn g Sb HSb.out 5 (by decide) (by decide) W W (Pn.refl HM.out)).mono ?_
    rintro e W1 ⟨x1, rfl, hx1, hp1, ho1, hz1⟩
    have HP1 : Hid (Pn g Sb W W1) := hp1
    have HZ1 : Hid (W1.heap.size = W.heap.size) := hz1
    clear hp1 ho1 hz1
    go_wp2_with fail
    refine (pick_pn g Sb HSb.out 2 (by decide) (by decide) W W1 HP1.out).mono ?_
    rintro e W2 ⟨x2, rfl, hx2, hp2, ho2, hz2⟩
    have HP2 : Hid (Pn g Sb W W2) := hp2
    have HZ2 : Hid (W2.heap.size = W.heap.size) := hz2.trans HZ1.out
    clear hp2 ho2 hz2
    go_wp2
    have hbn : Blk (W2.alloc (.cells #[.bool (decide (0 < x1)), .bool ((x2 : Int) == 1), .int .i64 0, .slice none 0 0] 71)) W2.heap.size #[.bool (decide (0 < x1)), .bool ((x2 : Int) == 1), .int .i64 0, .slice none 0 0] 71 := Blk.new W2 _ _
    rw [HZ2.out] at hbn ⊢
    exact HH.out _ _ _ _ _ _ _ _ _ _ _ _ (decide (0 < x1)) ((x2 : Int) == 1) (fun e => absurd e hp) hbn (HP2.out.alloc HSb.out hgW _) (by simp; exact HZ2.out)
end Go.Proofs.YtfiiandnopifnaaDoor
/-
  rgref5.Build, piece by piece: processes.
-/
namespace Go.Proofs.YtfiiandnopifnaaDoor
open Go.RowKit
/-- A process's table, as it grows. -/
def XI (W0 : World) (g B : Nat) (Sb : Nat → Prop) (lv fe : Bool) (nO : Nat) (s : Sl) (ss : List Sp.Slt) (wr : World) : Prop :=
  MK wr g Sb ∧ Blk wr B #[.bool lv, .bool fe, .int .i64 0, .slice s.a s.n s.c] 71 ∧ Row wr (fun b => B < b ∧ b < wr.heap.size) 3 (.slice s.a s.n s.c) (ss.map sltC) ∧ (∀ x ∈ ss, Sp.SltOk nO x) ∧ (lv = false → ss = []) ∧ On (fun b => b < B ∧ b ≠ g) W0 wr ∧ W0.heap.size ≤ wr.heap.size ∧ (∀ C, C ≤ g → Below C W0 wr)
def XJ (W0 : World) (g B : Nat) (Sb : Nat → Prop) (lv fe : Bool) (nO n : Nat) (v : Value) (wr : World) : Prop :=
  ∃ (j : Nat) (s : Sl) (ss : List Sp.Slt), j ≤ n ∧ v = .int .i64 j ∧ ss.length ≤ j ∧ XI W0 g B Sb lv fe nO s ss wr
theorem XI.put {W0 W' : World} {g B nO : Nat} {Sb : Nat → Prop} {lv fe : Bool} {s : Sl} {ss : List Sp.Slt} {wr : World} (h : XI W0 g B Sb lv fe nO s ss wr) (hl : lv = true) (hSb : ∀ b, Sb b → b < g) (hgB : g < B) (hB0 : B < W0.heap.size) {a' : Option Addr} {c' : Nat} {op rt : Int} (hok : Sp.SltOk nO ⟨true, op, rt⟩) (hp : Pn g Sb wr W') (hr : Row W' (fun b => wr.heap.size ≤ b ∧ b < W'.heap.size) 3 (.slice a' (ss.length + 1) c') ((ss ++ [(⟨true, op, rt⟩ : Sp.Slt)]).map sltC)) :
    Blk W' B #[.bool lv, .bool fe, .int .i64 0, .slice s.a s.n s.c] 71 ∧ XI W0 g B Sb lv fe nO ⟨a', ss.length + 1, c'⟩ (ss ++ [⟨true, op, rt⟩]) (W'.setCell ⟨B, 3, none⟩ (.slice a' (ss.length + 1) c')) := by
  obtain ⟨h1, h2, h3, h4, h5, h6, h7, h8⟩ := h
  have hset := On.set W' ⟨B, 3, none⟩ (.slice a' (ss.length + 1) c')
  have hb' : Blk W' B #[.bool lv, .bool fe, .int .i64 0, .slice s.a s.n s.c] 71 := h2.on hp.2.1 ⟨by omega, by omega⟩
  have hz := hp.2.2.1
  refine ⟨hb', hp.1.on hset (by show g ≠ B; omega) (fun b hb => by have := hSb b hb; show b ≠ B; omega), hb'.set 3 _, ?_, ?_, fun e => (by rw [hl] at e; cases e), ?_, by simp; omega, fun C hC => ((h8 C hC).trans (hp.2.2.2 C hC)).setCell (by show C ≤ B; omega) _⟩
  · exact (hr.on (hset.less fun b hb => by show b ≠ B; omega)).more fun b hb => ⟨by omega, by simp; exact hb.2⟩
  · intro x hx
    rcases List.mem_append.1 hx with hx | hx
    · exact h4 x hx
    · simp at hx
      subst hx
      exact hok
  · exact (h6.trans (hp.2.1.less fun b hb => ⟨by omega, hb.2⟩)).trans (hset.less fun b hb => by show b ≠ B; omega)
set_option maxRecDepth 1000000 in
set_option maxHeartbeats 8000000 in
theorem blk15_wp (Q : Exit → Act → World → Prop) (K : Act → World → Prop) (W0 : World) (g gk B : Nat) (Sb : Nat → Prop) (nO pc n : Nat) (pa : Option Addr) (vo vq : Value) (lv fe : Bool) (hSb : ∀ b, Sb b → b < g) (hgk : g < gk) (hkB : gk < B) (hn : n ≤ 4) (hnO2 : nO ≤ 1000) (hbk : Blk W0 gk #[vo, .slice pa nO pc, vq] 27) (hmk : MK W0 g Sb) (hbx : Blk W0 B #[.bool lv, .bool fe, .int .i64 0, .slice none 0 0] 71)
    (x0 x1 x2 x4 x5 x6 x7 x8 x9 x10 x11 x12 x13 x14 x15 x16 x17 x18 x20 x21 x22 x23 x24 x25 x26 x28 x29 x30 x31 x32 x33 x34 x35 x36 x37 x38 x39 x40 x41 x42 x43 x44 x45 x46 x47 x48 x49 x50 x51 x52 x53 x54 x55 x56 x57 x58 x59 x60 x61 x62 x63 x64 x65 x66 x67 x68 x69 x70 x71 x72 x73 x74 x75 x76 x77 x78 x79 x80 x81 x82 x83 x84 x85 x86 x87 x88 x89 x90 x91 x92 x93 x94 x95 x96 x97 x98 x99 x100 x101 x102 x103 x104 x105 x106 x107 x108 x109 x110 x111 x112 x113 x114 x115 x116 x117 x118 x119 x120 x121 x122 x123 x124 x125 x126 x127 x128 x129 x130 x131 x132 x133 x134 x135 x136 x137 x138 x139 x140 x141 x142 x143 x144 x145 x146 x147 x148 x149 x150 x151 x152 x153 x154 x155 x156 x157 x158 x159 x160 x161 x162 x163 x164 x165 x166 x167 x168 x169 x170 x171 x172 x173 x174 x175 x176 x177 x178 x179 x180 x181 x182 x183 x184 x185 x186 x187 x188 x189 x190 x191 x192 x193 x194 x195 x196 x197 x198 x199 x202 x203 x204 x205 x206 x207 x208 x209 x210 x211 x212 x213 x214 x215 x216 x217 x218 x219 x220 x221 x222 x223 x224 x225 x226 x227 x228 x229 x230 x231 x232 x233 x234 x235 x236 x237 x238 x239 x240 x241 x242 x243 x244 x245 x246 x247 x248 x249 x250 x251 x252 x253 x254 x255 x256 x257 x258 x259 x260 x261 x262 x263 x264 x265 x266 x267 x268 x269 x270 x271 x272 x273 x274 x275 x276 x277 x278 x279 x280 x281 x282 x283 x284 x285 x286 x287 x288 x289 x290 x291 x292 x293 x294 x295 x296 x297 x298 : Value)
    (h : ∀ (y28 y29 y30 y201 y202 y203 y204 y205 y206 y207 y208 y209 y210 y211 y212 y213 y214 y215 y216 y217 y218 y219 y220 y221 y222 y223 y224 y225 y226 y227 y228 y229 y230 y231 y232 y233 : Value) (W' : World) (s : Sl) (ss : List Sp.Slt), ss.length ≤ 4 → XI W0 g B Sb lv fe nO s ss W' → K ⟨#[x0, x1, x2, .pointer (some ⟨g, 0, none⟩), x4, x5, x6, x7, x8, x9, x10, x11, x12, x13, x14, x15, x16, x17, x18, .pointer (some ⟨gk, 0, none⟩), x20, x21, x22, x23, x24, x25, x26, .pointer (some ⟨B, 0, none⟩), y28, y29, y30, x31, x32, x33, x34, x35, x36, x37, x38, x39, x40, x41, x42, x43, x44, x45, x46, x47, x48, x49, x50, x51, x52, x53, x54, x55, x56, x57, x58, x59, x60, x61, x62, x63, x64, x65, x66, x67, x68, x69, x70, x71, x72, x73, x74, x75, x76, x77, x78, x79, x80, x81, x82, x83, x84, x85, x86, x87, x88, x89, x90, x91, x92, x93, x94, x95, x96, x97, x98, x99, x100, x101, x102, x103, x104, x105, x106, x107, x108, x109, x110, x111, x112, x113, x114, x115, x116, x117, x118, x119, x120, x121, x122, x123, x124, x125, x126, x127, x128, x129, x130, x131, x132, x133, x134, x135, x136, x137, x138, x139, x140, x141, x142, x143, x144, x145, x146, x147, x148, x149, x150, x151, x152, x153, x154, x155, x156, x157, x158, x159, x160, x161, x162, x163, x164, x165, x166, x167, x168, x169, x170, x171, x172, x173, x174, x175, x176, x177, x178, x179, x180, x181, x182, x183, x184, x185, x186, x187, x188, x189, x190, x191, x192, x193, x194, x195, x196, x197, x198, x199, .int .i64 n, y201, y202, y203, y204, y205, y206, y207, y208, y209, y210, y211, y212, y213, y214, y215, y216, y217, y218, y219, y220, y221, y222, y223, y224, y225, y226, y227, y228, y229, y230, y231, y232, y233, x234, x235, x236, x237, x238, x239, x240, x241, x242, x243, x244, x245, x246, x247, x248, x249, x250, x251, x252, x253, x254, x255, x256, x257, x258, x259, x260, x261, x262, x263, x264, x265, x266, x267, x268, x269, x270, x271, x272, x273, x274, x275, x276, x277, x278, x279, x280, x281, x282, x283, x284, x285, x286, x287, x288, x289, x290, x291, x292, x293, x294, x295, x296, x297, x298], []⟩ W') :
    Code.wp Tryd.prog ((Tryd.f8.body.bind (findBlock 15)).getD .skip) (Exit.then K Q) ⟨#[x0, x1, x2, .pointer (some ⟨g, 0, none⟩), x4, x5, x6, x7, x8, x9, x10, x11, x12, x13, x14, x15, x16, x17, x18, .pointer (some ⟨gk, 0, none⟩), x20, x21, x22, x23, x24, x25, x26, .pointer (some ⟨B, 0, none⟩), x28, x29, x30, x31, x32, x33, x34, x35, x36, x37, x38, x39, x40, x41, x42, x43, x44, x45, x46, x47, x48, x49, x50, x51, x52, x53, x54, x55, x56, x57, x58, x59, x60, x61, x62, x63, x64, x65, x66, x67, x68, x69, x70, x71, x72, x73, x74, x75, x76, x77, x78, x79, x80, x81, x82, x83, x84, x85, x86, x87, x88, x89, x90, x91, x92, x93, x94, x95, x96, x97, x98, x99, x100, x101, x102, x103, x104, x105, x106, x107, x108, x109, x110, x111, x112, x113, x114, x115, x116, x117, x118, x119, x120, x121, x122, x123, x124, x125, x126, x127, x128, x129, x130, x131, x132, x133, x134, x135, x136, x137, x138, x139, x140, x141, x142, x143, x144, x145, x146, x147, x148, x149, x150, x151, x152, x153, x154, x155, x156, x157, x158, x159, x160, x161, x162, x163, x164, x165, x166, x167, x168, x169, x170, x171, x172, x173, x174, x175, x176, x177, x178, x179, x180, x181, x182, x183, x184, x185, x186, x187, x188, x189, x190, x191, x192, x193, x194, x195, x196, x197, x198, x199, .int .i64 n, .int .i64 0, x202, x203, x204, x205, x206, x207, x208, x209, x210, x211, x212, x213, x214, x215, x216, x217, x218, x219, x220, x221, x222, x223, x224, x225, x226, x227, x228, x229, x230, x231, x232, x233, x234, x235, x236, x237, x238, x239, x240, x241, x242, x243, x244, x245, x246, x247, x248, x249, x250, x251, x252, x253, x254, x255, x256, x257, x258, x259, x260, x261, x262, x263, x264, x265, x266, x267, x268, x269, x270, x271, x272, x273, x274, x275, x276, x277, x278, x279, x280, x281, x282, x283, x284, x285, x286, x287, x288, x289, x290, x291, x292, x293, x294, x295, x296, x297, x298], []⟩ W0 := by
  have HH : Hid (∀ (y28 y29 y30 y201 y202 y203 y204 y205 y206 y207 y208 y209 y210 y211 y212 y213 y214 y215 y216 y217 y218 y219 y220 y221 y222 y223 y224 y225 y226 y227 y228 y229 y230 y231 y232 y233 : Value) (W' : World) (s : Sl) (ss : List Sp.Slt), ss.length ≤ 4 → XI W0 g B Sb lv fe nO s ss W' → K ⟨#[x0, x1, x2, .pointer (some ⟨g, 0, none⟩), x4, x5, x6, x7, x8, x9, x10, x11, x12, x13, x14, x15, x16, x17, x18, .pointer (some ⟨gk, 0, none⟩), x20, x21, x22, x23, x24, x25, x26, .pointer (some ⟨B, 0, none⟩), y28, y29, y30, x31, x32, x33, x34, x35, x36, x37, x38, x39, x40, x41, x42, x43, x44, x45, x46, x47, x48, x49, x50, x51, x52, x53, x54, x55, x56, x57, x58, x59, x60, x61, x62, x63, x64, x65, x66, x67, x68, x69, x70, x71, x72, x73, x74, x75, x76, x77, x78, x79, x80, x81, x82, x83, x84, x85, x86, x87, x88, x89, x90, x91, x92, x93, x94, x95, x96, x97, x98, x99, x100, x101, x102, x103, x104, x105, x106, x107, x108, x109, x110, x111, x112, x113, x114, x115, x116, x117, x118, x119, x120, x121, x122, x123, x124, x125, x126, x127, x128, x129, x130, x131, x132, x133, x134, x135, x136, x137, x138, x139, x140, x141, x142, x143, x144, x145, x146, x147, x148, x149, x150, x151, x152, x153, x154, x155, x156, x157, x158, x159, x160, x161, x162, x163, x164, x165, x166, x167, x168, x169, x170, x171, x172, x173, x174, x175, x176, x177, x178, x179, x180, x181, x182, x183, x184, x185, x186, x187, x188, x189, x190, x191, x192, x193, x194, x195, x196, x197, x198, x199, .int .i64 n, y201, y202, y203, y204, y205, y206, y207, y208, y209, y210, y211, y212, y213, y214, y215, y216, y217, y218, y219, y220, y221, y222, y223, y224, y225, y226, y227, y228, y229, y230, y231, y232, y233, x234, x235, x236, x237, x238, x239, x240, x241, x242, x243, x244, x245, x246, x247, x248, x249, x250, x251, x252, x253, x254, x255, x256, x257, x258, x259, x260, x261, x262, x263, x264, x265, x266, x267, x268, x269, x270, x271, x272, x273, x274, x275, x276, x277, x278, x279, x280, x281, x282, x283, x284, x285, x286, x287, x288, x289, x290, x291, x292, x293, x294, x295, x296, x297, x298], []⟩ W') := h
  have HS0 : Hid (XJ W0 g B Sb lv fe nO n (.int .i64 0) W0) := ⟨0, nilSl, [], Nat.zero_le _, rfl, by simp, hmk, hbx, Row.nil _ _ _ _ _, fun x hx => by simp at hx, fun _ => rfl, fun _ _ => rfl, Nat.le_refl _, fun C _ => Below.refl C W0⟩
  have HSb : Hid (∀ b, Sb b → b < g) := hSb
  have HBK : Hid (Blk W0 gk #[vo, .slice pa nO pc, vq] 27) := hbk
  have hBl := hbx.lt
  have hnz : (n : Int) ≤ 4 := by omega
  clear h hSb hbk hmk hbx
  conv => arg 2; whnf
  go_wp2_with fail
  go_loopw [201] (fun v wz => XJ W0 g B Sb lv fe nO n v wz) (fun v _ => n - (intOf v).toNat)
  case atStart => exact HS0.out
  case round =>
    obtain ⟨j, s, ss, hj, rfl, hss, hX⟩ := hrel
    clear HS0
    have HX : Hid (XI W0 g B Sb lv fe nO s ss wr) := hX
    have HSS : Hid (ss.length ≤ j) := hss
    have hbk := Blk.on HBK.out hX.2.2.2.2.2.1 ⟨hkB, by omega⟩
    have HBKr : Hid (Blk wr gk #[vo, .slice pa nO pc, vq] 27) := hbk
    have hck := hbk.cell
    have hcb := hX.2.1.cell
    have hzr : W0.heap.size ≤ wr.heap.size := hX.2.2.2.2.2.2.1
    clear hX hss hbk
    by_cases hlt : j < n
    · by_cases hnO : nO = 0
      · have hz0 : ¬ (0 : Int) < (nO : Int) := by omega
        go_wp2
        exact ⟨⟨j + 1, s, ss, by omega, by go_num, by have := HSS.out; omega, HX.out⟩, by simp [intOf]; omega⟩
      · have hz0 : (0 : Int) < (nO : Int) := by omega
        cases lv with
        | false =>
          go_wp2
          exact ⟨⟨j + 1, s, ss, by omega, by go_num, by have := HSS.out; omega, HX.out⟩, by simp [intOf]; omega⟩
        | true =>
          go_upto_region 60 with fail
          refine reg60_wp _ _ wr g gk B Sb (fun b => B < b ∧ b < wr.heap.size) nO pc pa vo vq true fe 0 s ss HSb.out hgk (by omega) HX.out.1 HBKr.out HX.out.2.1 HX.out.2.2.1 (fun b hb => ⟨hb.2, by omega⟩) HX.out.2.2.2.1 (by have := HSS.out; omega) (by omega) hnO2 _ _ _ _ _ _ _ _ _ _ _ _ _ _ _ _ _ _ _ _ _ _ _ _ _ _ _ _ _ _ _ _ _ _ _ _ _ _ _ _ _ _ _ _ _ _ _ _ _ _ _ _ _ _ _ _ _ _ _ _ _ _ _ _ _ _ _ _ _ _ _ _ _ _ _ _ _ _ _ _ _ _ _ _ _ _ _ _ _ _ _ _ _ _ _ _ _ _ _ _ _ _ _ _ _ _ _ _ _ _ _ _ _ _ _ _ _ _ _ _ _ _ _ _ _ _ _ _ _ _ _ _ _ _ _ _ _ _ _ _ _ _ _ _ _ _ _ _ _ _ _ _ _ _ _ _ _ _ _ _ _ _ _ _ _ _ _ _ _ _ _ _ _ _ _ _ _ _ _ _ _ _ _ _ _ _ _ _ _ _ _ _ _ _ _ _ _ _ _ _ _ _ _ _ _ _ _ _ _ _ _ _ _ _ _ _ _ _ _ _ _ _ _ _ _ _ _ _ _ _ _ _ _ _ _ _ _ _ _ _ _ _ _ _ _ _ _ _ _ _ _ _ _ _ _ _ _ _ _ _ _ _ _ _ _ _ _ _ _ _ _ _ _ _ _ _ _ _ _ _ _ _ _ _ _ _ _ _ _ _ _ _ _ _ _ _ ?_
          intro y211 y212 y213 y214 y215 y216 y217 y218 y219 y220 y221 y222 y223 y224 y225 y226 y227 y228 W2 a2 c2 op rt hok hp2 hr2
          dsimp only
          obtain ⟨q1, q2⟩ := HX.out.put rfl HSb.out (by omega) hBl hok hp2 hr2
          have hc2 := q1.cell
          have hf2 := q1.free
          have HX2 : Hid (XI W0 g B Sb true fe nO ⟨a2, ss.length + 1, c2⟩ (ss ++ [⟨true, op, rt⟩]) (W2.setCell ⟨B, 3, none⟩ (.slice a2 (ss.length + 1) c2))) := q2
          clear hok hp2 hr2 q1 q2 hck hcb
          go_wp2
          exact ⟨⟨j + 1, ⟨a2, ss.length + 1, c2⟩, ss ++ [⟨true, op, rt⟩], by omega, by go_num, by have := HSS.out; simp; omega, HX2.out⟩, by simp [intOf]; omega⟩
    · go_wp2
      exact HH.out _ _ _ _ _ _ _ _ _ _ _ _ _ _ _ _ _ _ _ _ _ _ _ _ _ _ _ _ _ _ _ _ _ _ _ _ _ s ss (by have := HSS.out; omega) HX.out
end Go.Proofs.YtfiiandnopifnaaDoor
/-
  rgref5.Build, piece by piece: processes, all of them.
-/
namespace Go.Proofs.YtfiiandnopifnaaDoor
open Go.RowKit
/-- Processes, as they are gathered. -/
def PI (W : World) (g gk : Nat) (Sb : Nat → Prop) (vo vp : Value) (nO : Nat) (r : Sl) (ts : List (Sl × Sp.Prc)) (wr : World) : Prop :=
  MK wr g Sb ∧ Blk wr gk #[vo, vp, .slice r.a r.n r.c] 27 ∧ Mine wr W.heap.size 71 4 (.slice r.a r.n r.c) (ts.map prcC) ∧ (∀ t ∈ ts, Row wr (fun b => W.heap.size ≤ b ∧ b < wr.heap.size ∧ some b ≠ (Value.slice r.a r.n r.c).ownBlock) 3 (.slice t.1.a t.1.n t.1.c) (t.2.slots.map sltC) ∧ Sp.PrcOk nO t.2) ∧ (∀ t, ts[0]? = some t → t.2.live = true) ∧ On (fun b => b < W.heap.size ∧ b ≠ g ∧ b ≠ gk) W wr ∧ (∀ C, C ≤ g → Below C W wr)
theorem PI.next {W W' : World} {g gk nO : Nat} {Sb : Nat → Prop} {vo vp : Value} {r : Sl} {ts : List (Sl × Sp.Prc)} {wr : World} (h : PI W g gk Sb vo vp nO r ts wr) (hgk : g < gk) (hgW : gk < W.heap.size) (hm : MK W' g Sb) (hon : On (fun b => b < wr.heap.size ∧ b ≠ g) wr W') (hz : wr.heap.size ≤ W'.heap.size) (hb : ∀ C, C ≤ g → Below C wr W') : PI W g gk Sb vo vp nO r ts W' := by
  obtain ⟨h1, h2, h3, h4, h5, h6, h7⟩ := h
  have hz0 : W.heap.size ≤ wr.heap.size := (h7 0 (Nat.zero_le _)).size
  refine ⟨hm, h2.on hon ⟨h2.lt, by omega⟩, h3.on hon fun k hk => ⟨(h3.lt k hk).2, by have := (h3.lt k hk).1; omega⟩, fun t ht => ⟨?_, (h4 t ht).2⟩, h5, h6.trans (hon.less fun b hb => ⟨by omega, hb.2.1⟩), fun C hC => (h7 C hC).trans (hb C hC)⟩
  exact ((h4 t ht).1.on (hon.less fun b hb => ⟨hb.2.1, by omega⟩)).more fun b hb => ⟨hb.1, by omega, hb.2.2⟩
/-- One process more. -/
theorem PI.more {W W2 : World} {g gk nO B : Nat} {Sb : Nat → Prop} {vo vp : Value} {r r' s : Sl} {ts : List (Sl × Sp.Prc)} {wr : World} {x : Sp.Prc} (h : PI W g gk Sb vo vp nO r ts wr) (hSb : ∀ b, Sb b → b < g) (hgk : g < gk) (hgW : gk < W.heap.size) (hrow : Row wr (fun b => W.heap.size ≤ b ∧ b < wr.heap.size ∧ some b ≠ (Value.slice r.a r.n r.c).ownBlock) 3 (.slice s.a s.n s.c) (x.slots.map sltC)) (hok : Sp.PrcOk nO x) (hlive : ts = [] → x.live = true)
    (hm : Mine W2 W.heap.size 71 4 (.slice r'.a r'.n r'.c) (ts.map prcC ++ [prcC (s, x)])) (hg : (wr.alloc (.cells (prcC (s, x)).toArray 71)).grownBy W2 (Value.slice r.a r.n r.c).ownBlock) (hat : (Value.slice r'.a r'.n r'.c).ownBlock = (Value.slice r.a r.n r.c).ownBlock ∨ (Value.slice r'.a r'.n r'.c).ownBlock = some (wr.alloc (.cells (prcC (s, x)).toArray 71)).heap.size) (_hB : B = B) :
    Blk W2 gk #[vo, vp, .slice r.a r.n r.c] 27 ∧ PI W g gk Sb vo vp nO r' (ts ++ [(s, x)]) (W2.setCell ⟨gk, 2, none⟩ (.slice r'.a r'.n r'.c)) := by
  obtain ⟨h1, h2, h3, h4, h5, h6, h7⟩ := h
  have hz0 : W.heap.size ≤ wr.heap.size := (h7 0 (Nat.zero_le _)).size
  have hal := On.alloc wr (.cells (prcC (s, x)).toArray 71)
  have hzA : (wr.alloc (.cells (prcC (s, x)).toArray 71)).heap.size = wr.heap.size + 1 := by simp
  rw [hzA] at hat
  have honG : On (fun b => b < wr.heap.size ∧ some b ≠ (Value.slice r.a r.n r.c).ownBlock) wr W2 := (hal.less fun b hb => hb.1).trans (fun b hb => hg.block b (by omega) hb.2)
  have hset := On.set W2 ⟨gk, 2, none⟩ (.slice r'.a r'.n r'.c)
  have hlow : ∀ b, b < W.heap.size → some b ≠ (Value.slice r.a r.n r.c).ownBlock := fun b hb e => by have := (h3.lt b e.symm).1; omega
  have hb2 : Blk W2 gk #[vo, vp, .slice r.a r.n r.c] 27 := h2.on honG ⟨by omega, hlow gk hgW⟩
  have hB2 : ∀ C, C ≤ g → Below C wr W2 := fun C hC => ((Below.refl C wr).alloc (by omega) _).grown hg (by omega) (fun k hk => by have := (h3.lt k hk).1; omega)
  have hz2 : wr.heap.size + 1 ≤ W2.heap.size := by
    have := ((Below.refl 0 (wr.alloc (.cells (prcC (s, x)).toArray 71))).grown hg (Nat.zero_le _) (fun k hk => Nat.zero_le _)).size
    omega
  have key : ∀ (t : Sl × Sp.Prc), Row wr (fun b => W.heap.size ≤ b ∧ b < wr.heap.size ∧ some b ≠ (Value.slice r.a r.n r.c).ownBlock) 3 (.slice t.1.a t.1.n t.1.c) (t.2.slots.map sltC) → Row (W2.setCell ⟨gk, 2, none⟩ (.slice r'.a r'.n r'.c)) (fun b => W.heap.size ≤ b ∧ b < (W2.setCell ⟨gk, 2, none⟩ (.slice r'.a r'.n r'.c)).heap.size ∧ some b ≠ (Value.slice r'.a r'.n r'.c).ownBlock) 3 (.slice t.1.a t.1.n t.1.c) (t.2.slots.map sltC) := fun t ht => by
    refine ((ht.on (honG.less fun b hb => hb.2)).on (hset.less fun b hb => by show b ≠ gk; omega)).more fun b hb => ⟨hb.1, by simp; omega, ?_⟩
    rcases hat with e | e
    · rw [e]; exact hb.2.2
    · rw [e]; intro e'; injection e' with e'; omega
  refine ⟨hb2, ?_, hb2.set 2 _, ?_, ?_, ?_, ?_, fun C hC => ((h7 C hC).trans (hB2 C hC)).setCell (by show C ≤ gk; omega) _⟩
  · exact (h1.on (honG.less fun b hb => hb) ⟨by omega, hlow g (by omega)⟩ (fun b hb => ⟨by have := hSb b hb; omega, hlow b (by have := hSb b hb; omega)⟩)).on hset (by show g ≠ gk; omega) (fun b hb => by have := hSb b hb; show b ≠ gk; omega)
  · rw [List.map_append]
    exact hm.on hset fun k hk => by have := (hm.lt k hk).1; show k ≠ gk; omega
  · intro t ht
    rcases List.mem_append.1 ht with ht | ht
    · exact ⟨key t (h4 t ht).1, (h4 t ht).2⟩
    · simp at ht
      subst ht
      exact ⟨key (s, x) hrow, hok⟩
  · intro t ht
    cases ts with
    | nil => simp at ht; subst ht; exact hlive rfl
    | cons a b => exact h5 t (by simpa using ht)
  · exact ((h6.trans (honG.less fun b hb => ⟨by omega, hlow b hb.1⟩))).trans (hset.less fun b hb => hb.2.2)
set_option maxRecDepth 1000000 in
set_option maxHeartbeats 8000000 in
theorem reg66_wp (Q : Exit → Act → World → Prop) (W wr : World) (g gk B : Nat) (Sb : Nat → Prop) (vo vp : Value) (nO : Nat) (r s : Sl) (ts : List (Sl × Sp.Prc)) (x : Sp.Prc) (hSb : ∀ b, Sb b → b < g) (hgk : g < gk) (hgW : gk < W.heap.size) (hI : PI W g gk Sb vo vp nO r ts wr) (hbx : Blk wr B (prcC (s, x)).toArray 71) (hrow : Row wr (fun b => W.heap.size ≤ b ∧ b < wr.heap.size ∧ some b ≠ (Value.slice r.a r.n r.c).ownBlock) 3 (.slice s.a s.n s.c) (x.slots.map sltC)) (hok : Sp.PrcOk nO x) (hlive : ts = [] → x.live = true) (hn : ts.length ≤ 100)
    (x0 x1 x2 x3 x4 x5 x6 x7 x8 x9 x10 x11 x12 x13 x14 x15 x16 x17 x18 x20 x21 x22 x23 x24 x25 x26 x28 x29 x30 x31 x32 x33 x34 x35 x36 x37 x38 x39 x40 x41 x42 x43 x44 x45 x46 x47 x48 x49 x50 x51 x52 x53 x54 x55 x56 x57 x58 x59 x60 x61 x62 x63 x64 x65 x66 x67 x68 x69 x70 x71 x72 x73 x74 x75 x76 x77 x78 x79 x80 x81 x82 x83 x84 x85 x86 x87 x88 x89 x90 x91 x92 x93 x94 x95 x96 x97 x98 x99 x100 x101 x102 x103 x104 x105 x106 x107 x108 x109 x110 x111 x112 x113 x114 x115 x116 x117 x118 x119 x120 x121 x122 x123 x124 x125 x126 x127 x128 x129 x130 x131 x132 x133 x134 x135 x136 x137 x138 x139 x140 x141 x142 x143 x144 x145 x146 x147 x148 x149 x150 x151 x152 x153 x154 x155 x156 x157 x158 x159 x160 x161 x162 x163 x164 x165 x166 x167 x168 x169 x170 x171 x172 x173 x174 x175 x176 x177 x178 x179 x180 x181 x182 x183 x184 x185 x186 x187 x188 x189 x190 x191 x192 x193 x194 x195 x196 x197 x198 x199 x200 x201 x202 x203 x204 x205 x206 x207 x208 x209 x210 x211 x212 x213 x214 x215 x216 x217 x218 x219 x220 x221 x222 x223 x224 x225 x226 x227 x228 x229 x230 x231 x232 x233 x234 x235 x236 x237 x238 x239 x240 x241 x242 x243 x244 x245 x246 x247 x248 x249 x250 x251 x252 x253 x254 x255 x256 x257 x258 x259 x260 x261 x262 x263 x264 x265 x266 x267 x268 x269 x270 x271 x272 x273 x274 x275 x276 x277 x278 x279 x280 x281 x282 x283 x284 x285 x286 x287 x288 x289 x290 x291 x292 x293 x294 x295 x296 x297 x298 : Value)
    (h : ∀ (y240 y241 y242 y243 y244 y245 : Value) (W' : World) (r' : Sl), PI W g gk Sb vo vp nO r' (ts ++ [(s, x)]) W' → Q .normal ⟨#[x0, x1, x2, x3, x4, x5, x6, x7, x8, x9, x10, x11, x12, x13, x14, x15, x16, x17, x18, .pointer (some ⟨gk, 0, none⟩), x20, x21, x22, x23, x24, x25, x26, .pointer (some ⟨B, 0, none⟩), x28, x29, x30, x31, x32, x33, x34, x35, x36, x37, x38, x39, x40, x41, x42, x43, x44, x45, x46, x47, x48, x49, x50, x51, x52, x53, x54, x55, x56, x57, x58, x59, x60, x61, x62, x63, x64, x65, x66, x67, x68, x69, x70, x71, x72, x73, x74, x75, x76, x77, x78, x79, x80, x81, x82, x83, x84, x85, x86, x87, x88, x89, x90, x91, x92, x93, x94, x95, x96, x97, x98, x99, x100, x101, x102, x103, x104, x105, x106, x107, x108, x109, x110, x111, x112, x113, x114, x115, x116, x117, x118, x119, x120, x121, x122, x123, x124, x125, x126, x127, x128, x129, x130, x131, x132, x133, x134, x135, x136, x137, x138, x139, x140, x141, x142, x143, x144, x145, x146, x147, x148, x149, x150, x151, x152, x153, x154, x155, x156, x157, x158, x159, x160, x161, x162, x163, x164, x165, x166, x167, x168, x169, x170, x171, x172, x173, x174, x175, x176, x177, x178, x179, x180, x181, x182, x183, x184, x185, x186, x187, x188, x189, x190, x191, x192, x193, x194, x195, x196, x197, x198, x199, x200, x201, x202, x203, x204, x205, x206, x207, x208, x209, x210, x211, x212, x213, x214, x215, x216, x217, x218, x219, x220, x221, x222, x223, x224, x225, x226, x227, x228, x229, x230, x231, x232, x233, x234, x235, x236, x237, x238, x239, y240, y241, y242, y243, y244, y245, x246, x247, x248, x249, x250, x251, x252, x253, x254, x255, x256, x257, x258, x259, x260, x261, x262, x263, x264, x265, x266, x267, x268, x269, x270, x271, x272, x273, x274, x275, x276, x277, x278, x279, x280, x281, x282, x283, x284, x285, x286, x287, x288, x289, x290, x291, x292, x293, x294, x295, x296, x297, x298], []⟩ W') :
    Code.wp Tryd.prog ((Tryd.f8.body.bind (findReg 66)).getD .skip) Q ⟨#[x0, x1, x2, x3, x4, x5, x6, x7, x8, x9, x10, x11, x12, x13, x14, x15, x16, x17, x18, .pointer (some ⟨gk, 0, none⟩), x20, x21, x22, x23, x24, x25, x26, .pointer (some ⟨B, 0, none⟩), x28, x29, x30, x31, x32, x33, x34, x35, x36, x37, x38, x39, x40, x41, x42, x43, x44, x45, x46, x47, x48, x49, x50, x51, x52, x53, x54, x55, x56, x57, x58, x59, x60, x61, x62, x63, x64, x65, x66, x67, x68, x69, x70, x71, x72, x73, x74, x75, x76, x77, x78, x79, x80, x81, x82, x83, x84, x85, x86, x87, x88, x89, x90, x91, x92, x93, x94, x95, x96, x97, x98, x99, x100, x101, x102, x103, x104, x105, x106, x107, x108, x109, x110, x111, x112, x113, x114, x115, x116, x117, x118, x119, x120, x121, x122, x123, x124, x125, x126, x127, x128, x129, x130, x131, x132, x133, x134, x135, x136, x137, x138, x139, x140, x141, x142, x143, x144, x145, x146, x147, x148, x149, x150, x151, x152, x153, x154, x155, x156, x157, x158, x159, x160, x161, x162, x163, x164, x165, x166, x167, x168, x169, x170, x171, x172, x173, x174, x175, x176, x177, x178, x179, x180, x181, x182, x183, x184, x185, x186, x187, x188, x189, x190, x191, x192, x193, x194, x195, x196, x197, x198, x199, x200, x201, x202, x203, x204, x205, x206, x207, x208, x209, x210, x211, x212, x213, x214, x215, x216, x217, x218, x219, x220, x221, x222, x223, x224, x225, x226, x227, x228, x229, x230, x231, x232, x233, x234, x235, x236, x237, x238, x239, x240, x241, x242, x243, x244, x245, x246, x247, x248, x249, x250, x251, x252, x253, x254, x255, x256, x257, x258, x259, x260, x261, x262, x263, x264, x265, x266, x267, x268, x269, x270, x271, x272, x273, x274, x275, x276, x277, x278, x279, x280, x281, x282, x283, x284, x285, x286, x287, x288, x289, x290, x291, x292, x293, x294, x295, x296, x297, x298], []⟩ wr := by
  have HH : Hid (∀ (y240 y241 y242 y243 y244 y245 : Value) (W' : World) (r' : Sl), PI W g gk Sb vo vp nO r' (ts ++ [(s, x)]) W' → Q .normal ⟨#[x0, x1, x2, x3, x4, x5, x6, x7, x8, x9, x10, x11, x12, x13, x14, x15, x16, x17, x18, .pointer (some ⟨gk, 0, none⟩), x20, x21, x22, x23, x24, x25, x26, .pointer (some ⟨B, 0, none⟩), x28, x29, x30, x31, x32, x33, x34, x35, x36, x37, x38, x39, x40, x41, x42, x43, x44, x45, x46, x47, x48, x49, x50, x51, x52, x53, x54, x55, x56, x57, x58, x59, x60, x61, x62, x63, x64, x65, x66, x67, x68, x69, x70, x71, x72, x73, x74, x75, x76, x77, x78, x79, x80, x81, x82, x83, x84, x85, x86, x87, x88, x89, x90, x91, x92, x93, x94, x95, x96, x97, x98, x99, x100, x101, x102, x103, x104, x105, x106, x107, x108, x109, x110, x111, x112, x113, x114, x115, x116, x117, x118, x119, x120, x121, x122, x123, x124, x125, x126, x127, x128, x129, x130, x131, x132, x133, x134, x135, x136, x137, x138, x139, x140, x141, x142, x143, x144, x145, x146, x147, x148, x149, x150, x151, x152, x153, x154, x155, x156, x157, x158, x159, x160, x161, x162, x163, x164, x165, x166, x167, x168, x169, x170, x171, x172, x173, x174, x175, x176, x177, x178, x179, x180, x181, x182, x183, x184, x185, x186, x187, x188, x189, x190, x191, x192, x193, x194, x195, x196, x197, x198, x199, x200, x201, x202, x203, x204, x205, x206, x207, x208, x209, x210, x211, x212, x213, x214, x215, x216, x217, x218, x219, x220, x221, x222, x223, x224, x225, x226, x227, x228, x229, x230, x231, x232, x233, x234, x235, x236, x237, x238, x239, y240, y241, y242, y243, y244, y245, x246, x247, x248, x249, x250, x251, x252, x253, x254, x255, x256, x257, x258, x259, x260, x261, x262, x263, x264, x265, x266, x267, x268, x269, x270, x271, x272, x273, x274, x275, x276, x277, x278, x279, x280, x281, x282, x283, x284, x285, x286, x287, x288, x289, x290, x291, x292, x293, x294, x295, x296, x297, x298], []⟩ W') := h
  have HI : Hid (PI W g gk Sb vo vp nO r ts wr) := hI
  have HMO : Hid (∀ (r' : Sl) (W2 : World), Mine W2 W.heap.size 71 4 (.slice r'.a r'.n r'.c) (ts.map prcC ++ [prcC (s, x)]) → (wr.alloc (.cells (prcC (s, x)).toArray 71)).grownBy W2 (Value.slice r.a r.n r.c).ownBlock → ((Value.slice r'.a r'.n r'.c).ownBlock = (Value.slice r.a r.n r.c).ownBlock ∨ (Value.slice r'.a r'.n r'.c).ownBlock = some (wr.alloc (.cells (prcC (s, x)).toArray 71)).heap.size) → Blk W2 gk #[vo, vp, .slice r.a r.n r.c] 27 ∧ PI W g gk Sb vo vp nO r' (ts ++ [(s, x)]) (W2.setCell ⟨gk, 2, none⟩ (.slice r'.a r'.n r'.c))) := fun r' W2 h1 h2 h3 => hI.more (B := B) hSb hgk hgW hrow hok hlive h1 h2 h3 rfl
  have hM1 : Mine (wr.alloc (.cells (prcC (s, x)).toArray 71)) W.heap.size 71 4 (.slice r.a r.n r.c) (ts.map prcC) := hI.2.2.1.on (On.alloc wr _) fun k hk => (hI.2.2.1.lt k hk).2
  have hbn := Blk.new wr (prcC (s, x)).toArray 71
  have hz0 : W.heap.size ≤ wr.heap.size := (hI.2.2.2.2.2.2 0 (Nat.zero_le _)).size
  have hzA : W.heap.size ≤ (wr.alloc (.cells (prcC (s, x)).toArray 71)).heap.size := by simp; omega
  have HM1 : Hid _ := hM1
  have HBN : Hid _ := hbn
  have HZA : Hid _ := hzA
  have hck := hI.2.1.cell
  have hcb := hbx.cell
  have hfk := hI.2.1.free
  clear h hI hSb hrow hok hlive hbx hM1 hbn hzA
  have e4 : (prcC (s, x)).toArray = #[.bool x.live, .bool x.fenced, .int .i64 x.code, .slice s.a s.n s.c] := rfl
  rw [e4] at hcb HM1 HBN HMO HZA
  conv => arg 2; whnf
  go_wp2_with (with_reducible refine stop_at (.call { callee := .builtin .append, args := #[.tmp 241, .tmp 243], argTypes := #[25, 25] }) rfl ?_)
  unfold Hold
  clear e4 hck hcb hfk
  obtain ⟨i0, hi, hi0, hi1, hi2⟩ := info_parts Tryd.infoProc
  refine wpList_append_one rfl _ _ _ rfl W.heap.size 71 71 i0 (.agg #[.bool false, .bool false, .int .i64 0, .slice none 0 0]) 4 40 Tryd.underlying25 hi hi0 hi1 hi2 rfl (by decide) _ (ts.map prcC) rfl HM1.out (even_prc ts) wr.heap.size rfl (prcC (s, x)) HBN.out rfl (fun u hu => ones_prc [(s, x)] _ (List.mem_singleton.2 rfl) u hu) (by rw [List.length_map]; omega) (by decide) HZA.out ?_
  intro r2 W2 hm2 hg2 hat2
  clear hi hi0 hi1 hi2
  obtain ⟨q1, q2⟩ := HMO.out r2 W2 hm2 hg2 hat2
  have HQ2 : Hid (PI W g gk Sb vo vp nO r2 (ts ++ [(s, x)]) (W2.setCell ⟨gk, 2, none⟩ (.slice r2.a r2.n r2.c))) := q2
  have hc2 := q1.cell
  have hf2 := q1.free
  clear hm2 hg2 hat2 q1 q2 HMO HM1 HBN
  go_wp2
  exact HH.out _ _ _ _ _ _ _ r2 HQ2.out
/-- The processes' loop. -/
def PJ (W : World) (g gk : Nat) (Sb : Nat → Prop) (vo vp : Value) (nO n : Nat) (v : Value) (wr : World) : Prop :=
  ∃ (p : Nat) (r : Sl) (ts : List (Sl × Sp.Prc)), p ≤ n ∧ v = .int .i64 p ∧ ts.length = p ∧ PI W g gk Sb vo vp nO r ts wr
set_option maxRecDepth 1000000 in
set_option maxHeartbeats 8000000 in
theorem blk13_wp (Q : Exit → Act → World → Prop) (K : Act → World → Prop) (W : World) (g gk : Nat) (Sb : Nat → Prop) (nO pc n : Nat) (pa : Option Addr) (vo : Value) (hSb : ∀ b, Sb b → b < g) (hgk : g < gk) (hn : n ≤ 3) (hnO2 : nO ≤ 1000) (hmk : MK W g Sb) (hbk : Blk W gk #[vo, .slice pa nO pc, .slice none 0 0] 27)
    (x0 x1 x2 x4 x5 x6 x7 x8 x9 x10 x11 x12 x13 x14 x15 x16 x17 x18 x20 x21 x22 x23 x24 x25 x26 x27 x28 x29 x30 x31 x32 x33 x34 x35 x36 x37 x38 x39 x40 x41 x42 x43 x44 x45 x46 x47 x48 x49 x50 x51 x52 x53 x54 x55 x56 x57 x58 x59 x60 x61 x62 x63 x64 x65 x66 x67 x68 x69 x70 x71 x72 x73 x74 x75 x76 x77 x78 x79 x80 x81 x82 x83 x84 x85 x86 x87 x88 x89 x90 x91 x92 x93 x94 x95 x96 x97 x98 x99 x100 x101 x102 x103 x104 x105 x106 x107 x108 x109 x110 x111 x112 x113 x114 x115 x116 x117 x118 x119 x120 x121 x122 x123 x124 x125 x126 x127 x128 x129 x130 x131 x132 x133 x134 x135 x136 x137 x138 x139 x140 x141 x142 x143 x144 x145 x146 x147 x148 x149 x150 x151 x152 x153 x154 x155 x156 x157 x158 x159 x160 x161 x162 x163 x164 x165 x166 x167 x168 x169 x170 x171 x172 x173 x174 x175 x176 x177 x178 x179 x180 x181 x182 x183 x186 x187 x188 x189 x190 x191 x192 x193 x194 x195 x196 x197 x198 x199 x200 x201 x202 x203 x204 x205 x206 x207 x208 x209 x210 x211 x212 x213 x214 x215 x216 x217 x218 x219 x220 x221 x222 x223 x224 x225 x226 x227 x228 x229 x230 x231 x232 x233 x234 x235 x236 x237 x238 x239 x240 x241 x242 x243 x244 x245 x246 x247 x248 x249 x250 x251 x252 x253 x254 x255 x256 x257 x258 x259 x260 x261 x262 x263 x264 x265 x266 x267 x268 x269 x270 x271 x272 x273 x274 x275 x276 x277 x278 x279 x280 x281 x282 x283 x284 x285 x286 x287 x288 x289 x290 x291 x292 x293 x294 x295 x296 x297 x298 : Value)
    (h : ∀ (y26 y27 y28 y29 y30 y185 y186 y187 y188 y189 y190 y191 y192 y193 y194 y195 y196 y197 y198 y199 y200 y201 y202 y203 y204 y205 y206 y207 y208 y209 y210 y211 y212 y213 y214 y215 y216 y217 y218 y219 y220 y221 y222 y223 y224 y225 y226 y227 y228 y229 y230 y231 y232 y233 y234 y235 y236 y237 y238 y239 y240 y241 y242 y243 y244 y245 y246 : Value) (W' : World) (r' : Sl) (ts : List (Sl × Sp.Prc)), ts.length = n → PI W g gk Sb vo (.slice pa nO pc) nO r' ts W' → K ⟨#[x0, x1, x2, .pointer (some ⟨g, 0, none⟩), x4, x5, x6, x7, x8, x9, x10, x11, x12, x13, x14, x15, x16, x17, x18, .pointer (some ⟨gk, 0, none⟩), x20, x21, x22, x23, x24, x25, y26, y27, y28, y29, y30, x31, x32, x33, x34, x35, x36, x37, x38, x39, x40, x41, x42, x43, x44, x45, x46, x47, x48, x49, x50, x51, x52, x53, x54, x55, x56, x57, x58, x59, x60, x61, x62, x63, x64, x65, x66, x67, x68, x69, x70, x71, x72, x73, x74, x75, x76, x77, x78, x79, x80, x81, x82, x83, x84, x85, x86, x87, x88, x89, x90, x91, x92, x93, x94, x95, x96, x97, x98, x99, x100, x101, x102, x103, x104, x105, x106, x107, x108, x109, x110, x111, x112, x113, x114, x115, x116, x117, x118, x119, x120, x121, x122, x123, x124, x125, x126, x127, x128, x129, x130, x131, x132, x133, x134, x135, x136, x137, x138, x139, x140, x141, x142, x143, x144, x145, x146, x147, x148, x149, x150, x151, x152, x153, x154, x155, x156, x157, x158, x159, x160, x161, x162, x163, x164, x165, x166, x167, x168, x169, x170, x171, x172, x173, x174, x175, x176, x177, x178, x179, x180, x181, x182, x183, .int .i64 n, y185, y186, y187, y188, y189, y190, y191, y192, y193, y194, y195, y196, y197, y198, y199, y200, y201, y202, y203, y204, y205, y206, y207, y208, y209, y210, y211, y212, y213, y214, y215, y216, y217, y218, y219, y220, y221, y222, y223, y224, y225, y226, y227, y228, y229, y230, y231, y232, y233, y234, y235, y236, y237, y238, y239, y240, y241, y242, y243, y244, y245, y246, x247, x248, x249, x250, x251, x252, x253, x254, x255, x256, x257, x258, x259, x260, x261, x262, x263, x264, x265, x266, x267, x268, x269, x270, x271, x272, x273, x274, x275, x276, x277, x278, x279, x280, x281, x282, x283, x284, x285, x286, x287, x288, x289, x290, x291, x292, x293, x294, x295, x296, x297, x298], []⟩ W') :
    Code.wp Tryd.prog ((Tryd.f8.body.bind (findBlock 13)).getD .skip) (Exit.then K Q) ⟨#[x0, x1, x2, .pointer (some ⟨g, 0, none⟩), x4, x5, x6, x7, x8, x9, x10, x11, x12, x13, x14, x15, x16, x17, x18, .pointer (some ⟨gk, 0, none⟩), x20, x21, x22, x23, x24, x25, x26, x27, x28, x29, x30, x31, x32, x33, x34, x35, x36, x37, x38, x39, x40, x41, x42, x43, x44, x45, x46, x47, x48, x49, x50, x51, x52, x53, x54, x55, x56, x57, x58, x59, x60, x61, x62, x63, x64, x65, x66, x67, x68, x69, x70, x71, x72, x73, x74, x75, x76, x77, x78, x79, x80, x81, x82, x83, x84, x85, x86, x87, x88, x89, x90, x91, x92, x93, x94, x95, x96, x97, x98, x99, x100, x101, x102, x103, x104, x105, x106, x107, x108, x109, x110, x111, x112, x113, x114, x115, x116, x117, x118, x119, x120, x121, x122, x123, x124, x125, x126, x127, x128, x129, x130, x131, x132, x133, x134, x135, x136, x137, x138, x139, x140, x141, x142, x143, x144, x145, x146, x147, x148, x149, x150, x151, x152, x153, x154, x155, x156, x157, x158, x159, x160, x161, x162, x163, x164, x165, x166, x167, x168, x169, x170, x171, x172, x173, x174, x175, x176, x177, x178, x179, x180, x181, x182, x183, .int .i64 n, .int .i64 0, x186, x187, x188, x189, x190, x191, x192, x193, x194, x195, x196, x197, x198, x199, x200, x201, x202, x203, x204, x205, x206, x207, x208, x209, x210, x211, x212, x213, x214, x215, x216, x217, x218, x219, x220, x221, x222, x223, x224, x225, x226, x227, x228, x229, x230, x231, x232, x233, x234, x235, x236, x237, x238, x239, x240, x241, x242, x243, x244, x245, x246, x247, x248, x249, x250, x251, x252, x253, x254, x255, x256, x257, x258, x259, x260, x261, x262, x263, x264, x265, x266, x267, x268, x269, x270, x271, x272, x273, x274, x275, x276, x277, x278, x279, x280, x281, x282, x283, x284, x285, x286, x287, x288, x289, x290, x291, x292, x293, x294, x295, x296, x297, x298], []⟩ W := by
  have HH : Hid (∀ (y26 y27 y28 y29 y30 y185 y186 y187 y188 y189 y190 y191 y192 y193 y194 y195 y196 y197 y198 y199 y200 y201 y202 y203 y204 y205 y206 y207 y208 y209 y210 y211 y212 y213 y214 y215 y216 y217 y218 y219 y220 y221 y222 y223 y224 y225 y226 y227 y228 y229 y230 y231 y232 y233 y234 y235 y236 y237 y238 y239 y240 y241 y242 y243 y244 y245 y246 : Value) (W' : World) (r' : Sl) (ts : List (Sl × Sp.Prc)), ts.length = n → PI W g gk Sb vo (.slice pa nO pc) nO r' ts W' → K ⟨#[x0, x1, x2, .pointer (some ⟨g, 0, none⟩), x4, x5, x6, x7, x8, x9, x10, x11, x12, x13, x14, x15, x16, x17, x18, .pointer (some ⟨gk, 0, none⟩), x20, x21, x22, x23, x24, x25, y26, y27, y28, y29, y30, x31, x32, x33, x34, x35, x36, x37, x38, x39, x40, x41, x42, x43, x44, x45, x46, x47, x48, x49, x50, x51, x52, x53, x54, x55, x56, x57, x58, x59, x60, x61, x62, x63, x64, x65, x66, x67, x68, x69, x70, x71, x72, x73, x74, x75, x76, x77, x78, x79, x80, x81, x82, x83, x84, x85, x86, x87, x88, x89, x90, x91, x92, x93, x94, x95, x96, x97, x98, x99, x100, x101, x102, x103, x104, x105, x106, x107, x108, x109, x110, x111, x112, x113, x114, x115, x116, x117, x118, x119, x120, x121, x122, x123, x124, x125, x126, x127, x128, x129, x130, x131, x132, x133, x134, x135, x136, x137, x138, x139, x140, x141, x142, x143, x144, x145, x146, x147, x148, x149, x150, x151, x152, x153, x154, x155, x156, x157, x158, x159, x160, x161, x162, x163, x164, x165, x166, x167, x168, x169, x170, x171, x172, x173, x174, x175, x176, x177, x178, x179, x180, x181, x182, x183, .int .i64 n, y185, y186, y187, y188, y189, y190, y191, y192, y193, y194, y195, y196, y197, y198, y199, y200, y201, y202, y203, y204, y205, y206, y207, y208, y209, y210, y211, y212, y213, y214, y215, y216, y217, y218, y219, y220, y221, y222, y223, y224, y225, y226, y227, y228, y229, y230, y231, y232, y233, y234, y235, y236, y237, y238, y239, y240, y241, y242, y243, y244, y245, y246, x247, x248, x249, x250, x251, x252, x253, x254, x255, x256, x257, x258, x259, x260, x261, x262, x263, x264, x265, x266, x267, x268, x269, x270, x271, x272, x273, x274, x275, x276, x277, x278, x279, x280, x281, x282, x283, x284, x285, x286, x287, x288, x289, x290, x291, x292, x293, x294, x295, x296, x297, x298], []⟩ W') := h
  have HS0 : Hid (PJ W g gk Sb vo (.slice pa nO pc) nO n (.int .i64 0) W) := ⟨0, nilSl, [], Nat.zero_le _, rfl, rfl, hmk, hbk, Mine.nil _ _ _ _, fun t ht => by simp at ht, fun t ht => by simp at ht, fun _ _ => rfl, fun C _ => Below.refl C W⟩
  have HSb : Hid (∀ b, Sb b → b < g) := hSb
  have hgW := hbk.lt
  have hnz : (n : Int) ≤ 3 := by omega
  clear h hSb hbk hmk
  conv => arg 2; whnf
  go_wp2_with fail
  go_loopw [185] (fun v wz => PJ W g gk Sb vo (.slice pa nO pc) nO n v wz) (fun v _ => n - (intOf v).toNat)
  case atStart => exact HS0.out
  case round =>
    obtain ⟨p, r, ts, hp, rfl, hts, hI⟩ := hrel
    clear HS0
    have HI : Hid (PI W g gk Sb vo (.slice pa nO pc) nO r ts wr) := hI
    have HTS : Hid (ts.length = p) := hts
    have hz0 : W.heap.size ≤ wr.heap.size := (hI.2.2.2.2.2.2 0 (Nat.zero_le _)).size
    have hown : ∀ b, wr.heap.size ≤ b → some b ≠ (Value.slice r.a r.n r.c).ownBlock := fun b hb e => by have := (hI.2.2.1.lt b e.symm).2; omega
    have HOW : Hid (∀ b, wr.heap.size ≤ b → some b ≠ (Value.slice r.a r.n r.c).ownBlock) := hown
    clear hI hts hown
    by_cases hlt : p < n
    · go_upto_region 56 with fail
      refine reg56_wp _ _ wr g p Sb HSb.out HI.out.1 _ _ _ _ _ _ _ _ _ _ _ _ _ _ _ _ _ _ _ _ _ _ _ _ _ _ _ _ _ _ _ _ _ _ _ _ _ _ _ _ _ _ _ _ _ _ _ _ _ _ _ _ _ _ _ _ _ _ _ _ _ _ _ _ _ _ _ _ _ _ _ _ _ _ _ _ _ _ _ _ _ _ _ _ _ _ _ _ _ _ _ _ _ _ _ _ _ _ _ _ _ _ _ _ _ _ _ _ _ _ _ _ _ _ _ _ _ _ _ _ _ _ _ _ _ _ _ _ _ _ _ _ _ _ _ _ _ _ _ _ _ _ _ _ _ _ _ _ _ _ _ _ _ _ _ _ _ _ _ _ _ _ _ _ _ _ _ _ _ _ _ _ _ _ _ _ _ _ _ _ _ _ _ _ _ _ _ _ _ _ _ _ _ _ _ _ _ _ _ _ _ _ _ _ _ _ _ _ _ _ _ _ _ _ _ _ _ _ _ _ _ _ _ _ _ _ _ _ _ _ _ _ _ _ _ _ _ _ _ _ _ _ _ _ _ _ _ _ _ _ _ _ _ _ _ _ _ _ _ _ _ _ _ _ _ _ _ _ _ _ _ _ _ _ _ _ _ _ _ _ _ _ _ _ _ _ _ _ _ _ _ _ _ _ _ _ _ ?_
      intro y188 y189 y190 y191 y192 y193 y194 y195 y196 y197 y198 W1 lv fe hlv hbx1 hp1 hz1
      dsimp only
      have HLV : Hid (p = 0 → lv = true) := hlv
      have HX1 : Hid (Blk W1 wr.heap.size #[.bool lv, .bool fe, .int .i64 0, .slice none 0 0] 71) := hbx1
      have HP1 : Hid (Pn g Sb wr W1) := hp1
      clear hlv hbx1 hp1
      go_wp2_with fail
      refine (pick_pn g Sb HSb.out 5 (by decide) (by decide) wr W1 HP1.out).mono ?_
      rintro e W2 ⟨n5, rfl, hn5, hp2, ho2, hz2⟩
      have HX2 : Hid (Blk W2 wr.heap.size #[.bool lv, .bool fe, .int .i64 0, .slice none 0 0] 71) := Blk.on HX1.out ho2 (by show wr.heap.size ≠ g; omega)
      have HP2 : Hid (Pn g Sb wr W2) := hp2
      have hz2' : W2.heap.size = wr.heap.size + 1 := by omega
      have HI2 : Hid (PI W g gk Sb vo (.slice pa nO pc) nO r ts W2) := HI.out.next hgk hgW hp2.1 hp2.2.1 hp2.2.2.1 hp2.2.2.2
      clear HX1 HP1 hp2 ho2 hz2 hz1
      go_upto_block 15 with fail
      refine blk15_wp _ _ W2 g gk wr.heap.size Sb nO pc n5 pa vo (.slice r.a r.n r.c) lv fe HSb.out hgk (by omega) (by omega) hnO2 HI2.out.2.1 HP2.out.1 HX2.out _ _ _ _ _ _ _ _ _ _ _ _ _ _ _ _ _ _ _ _ _ _ _ _ _ _ _ _ _ _ _ _ _ _ _ _ _ _ _ _ _ _ _ _ _ _ _ _ _ _ _ _ _ _ _ _ _ _ _ _ _ _ _ _ _ _ _ _ _ _ _ _ _ _ _ _ _ _ _ _ _ _ _ _ _ _ _ _ _ _ _ _ _ _ _ _ _ _ _ _ _ _ _ _ _ _ _ _ _ _ _ _ _ _ _ _ _ _ _ _ _ _ _ _ _ _ _ _ _ _ _ _ _ _ _ _ _ _ _ _ _ _ _ _ _ _ _ _ _ _ _ _ _ _ _ _ _ _ _ _ _ _ _ _ _ _ _ _ _ _ _ _ _ _ _ _ _ _ _ _ _ _ _ _ _ _ _ _ _ _ _ _ _ _ _ _ _ _ _ _ _ _ _ _ _ _ _ _ _ _ _ _ _ _ _ _ _ _ _ _ _ _ _ _ _ _ _ _ _ _ _ _ _ _ _ _ _ _ _ _ _ _ _ _ _ _ _ _ _ _ _ _ _ _ _ _ _ _ _ _ _ _ _ _ _ _ _ _ _ _ _ _ _ _ _ _ _ _ _ _ _ _ _ _ _ _ _ _ _ _ _ _ _ _ ?_
      intro y28 y29 y30 y201 y202 y203 y204 y205 y206 y207 y208 y209 y210 y211 y212 y213 y214 y215 y216 y217 y218 y219 y220 y221 y222 y223 y224 y225 y226 y227 y228 y229 y230 y231 y232 y233 W3 s ss hss hX3
      dsimp only
      have hz3 : wr.heap.size + 1 ≤ W3.heap.size := by have := hX3.2.2.2.2.2.2.1; omega
      have HX3 : Hid (XI W2 g wr.heap.size Sb lv fe nO s ss W3) := hX3
      have HSS : Hid (ss.length ≤ 4) := hss
      have HI3 : Hid (PI W g gk Sb vo (.slice pa nO pc) nO r ts W3) := HI.out.next hgk hgW hX3.1 ((HP2.out.2.1.less fun b hb => hb).trans (hX3.2.2.2.2.2.1)) (by omega) (fun C hC => (HP2.out.2.2.2 C hC).trans (hX3.2.2.2.2.2.2.2 C hC))
      have hcb := hX3.2.1.cell
      have HW23 : Hid (On (fun b => b < wr.heap.size ∧ b ≠ g) wr W3) := HP2.out.2.1.trans hX3.2.2.2.2.2.1
      have HB23 : Hid (∀ C, C ≤ g → Below C wr W3) := fun C hC => (HP2.out.2.2.2 C hC).trans (hX3.2.2.2.2.2.2.2 C hC)
      clear hX3 hss HX2 HP2 HI2
      cases lv with
      | true =>
        go_upto_region 66 with fail
        refine reg66_wp _ W W3 g gk wr.heap.size Sb vo (.slice pa nO pc) nO r s ts ⟨true, fe, 0, ss⟩ HSb.out hgk hgW HI3.out HX3.out.2.1 (HX3.out.2.2.1.more fun b hb => ⟨by omega, hb.2, HOW.out b (by omega)⟩) ⟨HSS.out, HX3.out.2.2.2.1, Int.le_refl 0, by show (0 : Int) ≤ 8; decide, fun _ => rfl, fun e => by cases e⟩ (fun _ => rfl) (by have := HTS.out; omega) _ _ _ _ _ _ _ _ _ _ _ _ _ _ _ _ _ _ _ _ _ _ _ _ _ _ _ _ _ _ _ _ _ _ _ _ _ _ _ _ _ _ _ _ _ _ _ _ _ _ _ _ _ _ _ _ _ _ _ _ _ _ _ _ _ _ _ _ _ _ _ _ _ _ _ _ _ _ _ _ _ _ _ _ _ _ _ _ _ _ _ _ _ _ _ _ _ _ _ _ _ _ _ _ _ _ _ _ _ _ _ _ _ _ _ _ _ _ _ _ _ _ _ _ _ _ _ _ _ _ _ _ _ _ _ _ _ _ _ _ _ _ _ _ _ _ _ _ _ _ _ _ _ _ _ _ _ _ _ _ _ _ _ _ _ _ _ _ _ _ _ _ _ _ _ _ _ _ _ _ _ _ _ _ _ _ _ _ _ _ _ _ _ _ _ _ _ _ _ _ _ _ _ _ _ _ _ _ _ _ _ _ _ _ _ _ _ _ _ _ _ _ _ _ _ _ _ _ _ _ _ _ _ _ _ _ _ _ _ _ _ _ _ _ _ _ _ _ _ _ _ _ _ _ _ _ _ _ _ _ _ _ _ _ _ _ _ _ _ _ _ _ _ _ _ _ _ _ _ _ _ _ _ _ _ _ _ _ _ _ _ _ _ _ _ _ _ ?_
        intro y240 y241 y242 y243 y244 y245 W4 r4 hI4
        dsimp only
        have HI4 : Hid (PI W g gk Sb vo (.slice pa nO pc) nO r4 (ts ++ [(s, ⟨true, fe, 0, ss⟩)]) W4) := hI4
        clear hI4 hcb
        go_wp2
        exact ⟨⟨p + 1, r4, ts ++ [(s, ⟨true, fe, 0, ss⟩)], by omega, by go_num, by have := HTS.out; simp; omega, HI4.out⟩, by simp [intOf]; omega⟩
      | false =>
        go_wp2_with fail
        refine (pick_pn g Sb HSb.out 9 (by decide) (by decide) W3 W3 (Pn.refl HX3.out.1)).mono ?_
        rintro e W4 ⟨y, rfl, hy, hp4, ho4, hz4⟩
        have hb4 : Blk W4 wr.heap.size #[.bool false, .bool fe, .int .i64 0, .slice s.a s.n s.c] 71 := Blk.on HX3.out.2.1 ho4 (by show wr.heap.size ≠ g; omega)
        have HB4 : Hid _ := hb4
        have hc4 := hb4.cell
        have hf4 := hb4.free
        have HP4 : Hid (Pn g Sb W3 W4) := hp4
        have HZ4 : Hid (W4.heap.size = W3.heap.size) := hz4
        clear hcb hb4 hp4 ho4 hz4
        go_upto_region 66 with fail
        have s1 := On.set W4 ⟨wr.heap.size, 0, none⟩ (.bool false)
        have s2 := On.set (W4.setCell ⟨wr.heap.size, 0, none⟩ (.bool false)) ⟨wr.heap.size, 1, none⟩ (.bool false)
        have s3 := On.set ((W4.setCell ⟨wr.heap.size, 0, none⟩ (.bool false)).setCell ⟨wr.heap.size, 1, none⟩ (.bool false)) ⟨wr.heap.size, 2, none⟩ (.int .i64 (y : Int))
        have s4 := On.set (((W4.setCell ⟨wr.heap.size, 0, none⟩ (.bool false)).setCell ⟨wr.heap.size, 1, none⟩ (.bool false)).setCell ⟨wr.heap.size, 2, none⟩ (.int .i64 (y : Int))) ⟨wr.heap.size, 3, none⟩ (.slice none 0 0)
        have b1 : Blk (W4.setCell ⟨wr.heap.size, 0, none⟩ (.bool false)) wr.heap.size #[.bool false, .bool fe, .int .i64 0, .slice s.a s.n s.c] 71 := Blk.set HB4.out 0 _
        have b2 : Blk ((W4.setCell ⟨wr.heap.size, 0, none⟩ (.bool false)).setCell ⟨wr.heap.size, 1, none⟩ (.bool false)) wr.heap.size #[.bool false, .bool false, .int .i64 0, .slice s.a s.n s.c] 71 := Blk.set b1 1 _
        have b3 : Blk (((W4.setCell ⟨wr.heap.size, 0, none⟩ (.bool false)).setCell ⟨wr.heap.size, 1, none⟩ (.bool false)).setCell ⟨wr.heap.size, 2, none⟩ (.int .i64 (y : Int))) wr.heap.size #[.bool false, .bool false, .int .i64 (y : Int), .slice s.a s.n s.c] 71 := Blk.set b2 2 _
        have b5 : Blk ((((W4.setCell ⟨wr.heap.size, 0, none⟩ (.bool false)).setCell ⟨wr.heap.size, 1, none⟩ (.bool false)).setCell ⟨wr.heap.size, 2, none⟩ (.int .i64 (y : Int))).setCell ⟨wr.heap.size, 3, none⟩ (.slice none 0 0)) wr.heap.size #[.bool false, .bool false, .int .i64 (y : Int), .slice none 0 0] 71 := Blk.set b3 3 _
        have hon5 : On (fun b => b ≠ wr.heap.size) W4 ((((W4.setCell ⟨wr.heap.size, 0, none⟩ (.bool false)).setCell ⟨wr.heap.size, 1, none⟩ (.bool false)).setCell ⟨wr.heap.size, 2, none⟩ (.int .i64 (y : Int))).setCell ⟨wr.heap.size, 3, none⟩ (.slice none 0 0)) := ((s1.trans s2).trans s3).trans s4
        have hz5 : ((((W4.setCell ⟨wr.heap.size, 0, none⟩ (.bool false)).setCell ⟨wr.heap.size, 1, none⟩ (.bool false)).setCell ⟨wr.heap.size, 2, none⟩ (.int .i64 (y : Int))).setCell ⟨wr.heap.size, 3, none⟩ (.slice none 0 0)).heap.size = W4.heap.size := by simp
        have hbl5 : ∀ C, C ≤ g → Below C W4 ((((W4.setCell ⟨wr.heap.size, 0, none⟩ (.bool false)).setCell ⟨wr.heap.size, 1, none⟩ (.bool false)).setCell ⟨wr.heap.size, 2, none⟩ (.int .i64 (y : Int))).setCell ⟨wr.heap.size, 3, none⟩ (.slice none 0 0)) := fun C hC => ((((Below.refl C W4).setCell (by show C ≤ wr.heap.size; omega) _).setCell (by show C ≤ wr.heap.size; omega) _).setCell (by show C ≤ wr.heap.size; omega) _).setCell (by show C ≤ wr.heap.size; omega) _
        generalize (((W4.setCell ⟨wr.heap.size, 0, none⟩ (.bool false)).setCell ⟨wr.heap.size, 1, none⟩ (.bool false)).setCell ⟨wr.heap.size, 2, none⟩ (.int .i64 (y : Int))).setCell ⟨wr.heap.size, 3, none⟩ (.slice none 0 0) = W5 at *
        have hmk5 : MK W5 g Sb := HP4.out.1.on hon5 (by show g ≠ wr.heap.size; omega) (fun b hb => by have := HSb.out b hb; show b ≠ wr.heap.size; omega)
        have HI5 : Hid (PI W g gk Sb vo (.slice pa nO pc) nO r ts W5) := by
          have hx := HX3.out
          have hi := HI.out
          obtain ⟨-, -, -, -, -, x6, x7, x8⟩ := hx
          have hw2 : On (fun b => b < wr.heap.size ∧ b ≠ g) wr W3 := HW23.out
          refine hi.next hgk hgW hmk5 ((hw2.trans (HP4.out.2.1.less fun b hb => ⟨by omega, hb.2⟩)).trans (hon5.less fun b hb => by show b ≠ wr.heap.size; omega)) (by have := HZ4.out; omega) (fun C hC => ((HB23.out C hC).trans (HP4.out.2.2.2 C hC)).trans (hbl5 C hC))
        refine reg66_wp _ W W5 g gk wr.heap.size Sb vo (.slice pa nO pc) nO r nilSl ts ⟨false, false, (y : Int), []⟩ HSb.out hgk hgW HI5.out b5 (Row.nil _ _ _ _ _) ⟨Nat.zero_le _, fun s hs => by simp at hs, by show (0 : Int) ≤ y; omega, by show (y : Int) ≤ 8; omega, (fun e => by cases e), fun _ => ⟨rfl, rfl⟩⟩ (fun e => by have h1 := HLV.out; have h2 := HTS.out; rw [e] at h2; exact h1 h2.symm) (by have := HTS.out; omega) _ _ _ _ _ _ _ _ _ _ _ _ _ _ _ _ _ _ _ _ _ _ _ _ _ _ _ _ _ _ _ _ _ _ _ _ _ _ _ _ _ _ _ _ _ _ _ _ _ _ _ _ _ _ _ _ _ _ _ _ _ _ _ _ _ _ _ _ _ _ _ _ _ _ _ _ _ _ _ _ _ _ _ _ _ _ _ _ _ _ _ _ _ _ _ _ _ _ _ _ _ _ _ _ _ _ _ _ _ _ _ _ _ _ _ _ _ _ _ _ _ _ _ _ _ _ _ _ _ _ _ _ _ _ _ _ _ _ _ _ _ _ _ _ _ _ _ _ _ _ _ _ _ _ _ _ _ _ _ _ _ _ _ _ _ _ _ _ _ _ _ _ _ _ _ _ _ _ _ _ _ _ _ _ _ _ _ _ _ _ _ _ _ _ _ _ _ _ _ _ _ _ _ _ _ _ _ _ _ _ _ _ _ _ _ _ _ _ _ _ _ _ _ _ _ _ _ _ _ _ _ _ _ _ _ _ _ _ _ _ _ _ _ _ _ _ _ _ _ _ _ _ _ _ _ _ _ _ _ _ _ _ _ _ _ _ _ _ _ _ _ _ _ _ _ _ _ _ _ _ _ _ _ _ _ _ _ _ _ _ _ _ _ _ _ _ _ ?_
        intro y240 y241 y242 y243 y244 y245 W6 r6 hI6
        dsimp only
        have HI6 : Hid (PI W g gk Sb vo (.slice pa nO pc) nO r6 (ts ++ [(nilSl, ⟨false, false, (y : Int), []⟩)]) W6) := hI6
        clear hI6 s1 s2 s3 s4 b1 b2 b3 b5 hon5 hz5 hbl5 hmk5 hc4 hf4
        go_wp2
        exact ⟨⟨p + 1, r6, ts ++ [(nilSl, ⟨false, false, (y : Int), []⟩)], by omega, by go_num, by have := HTS.out; simp; omega, HI6.out⟩, by simp [intOf]; omega⟩
    · go_wp2
      obtain rfl : p = n := by omega
      exact HH.out _ _ _ _ _ _ _ _ _ _ _ _ _ _ _ _ _ _ _ _ _ _ _ _ _ _ _ _ _ _ _ _ _ _ _ _ _ _ _ _ _ _ _ _ _ _ _ _ _ _ _ _ _ _ _ _ _ _ _ _ _ _ _ _ _ _ _ _ r ts HTS.out HI.out
end Go.Proofs.YtfiiandnopifnaaDoor
/-
  rgref5.Build, piece by piece: messages that wait.
-/
namespace Go.Proofs.YtfiiandnopifnaaDoor
open Go.RowKit
/-- Messages, as they are laid down: what is still to be looked at is as it was. -/
def QI (W : World) (g gk : Nat) (Sb : Nat → Prop) (vp vq : Value) (nO : Nat) (L : List Sp.Ob) (i : Nat) (wr : World) : Prop :=
  ∃ (a : Option Addr) (c : Nat) (M : List Sp.Ob), M.length = L.length ∧ Sp.TOk M ∧ (∀ j, i ≤ j → M[j]? = L[j]?) ∧ (∀ (j : Nat) (o : Sp.Ob), M[j]? = some o → ∃ o' : Sp.Ob, L[j]? = some o' ∧ o.kind = o'.kind ∧ o.proc = o'.proc) ∧ (∀ o ∈ M, ∀ m ∈ o.queue, Sp.MsgOk nO m) ∧ MK wr g Sb ∧ Blk wr gk #[.slice a M.length c, vp, vq] 27 ∧ Objs wr (fun b => g < b ∧ b < wr.heap.size ∧ b ≠ gk) (.slice a M.length c) M ∧ On (fun b => b < W.heap.size ∧ b ≠ g ∧ b ≠ gk) W wr ∧ (∀ C, C ≤ g → Below C W wr)
theorem QI.next {W W' : World} {g gk nO i i' : Nat} {Sb : Nat → Prop} {vp vq : Value} {L : List Sp.Ob} {wr : World} (h : QI W g gk Sb vp vq nO L i wr) (hi : i ≤ i') (hgk : g < gk) (hp : Pn g Sb wr W') : QI W g gk Sb vp vq nO L i' W' := by
  obtain ⟨a, c, M, h1, h2, h3, h4, h5, h6, h7, h8, h9, h10⟩ := h
  have hz0 : W.heap.size ≤ wr.heap.size := (h10 0 (Nat.zero_le _)).size
  have hz := hp.2.2.1
  exact ⟨a, c, M, h1, h2, fun j hj => h3 j (by omega), h4, h5, hp.1, h7.on hp.2.1 ⟨h7.lt, by omega⟩, (h8.on (hp.2.1.less fun b hb => ⟨hb.2.1, by omega⟩)).more fun b hb => ⟨hb.1, by omega, hb.2.2⟩, h9.trans (hp.2.1.less fun b hb => ⟨by omega, hb.2.1⟩), fun C hC => (h10 C hC).trans (hp.2.2.2 C hC)⟩
/-- A message's box: bytes, and perhaps a capability. -/
def msgB (b : Nat) (h : Bool) (op rt : Int) : Array Value := #[.slice (some ⟨b, 0, none⟩) 1 1, .bool h, .int .i64 op, .int .i64 rt]
set_option maxRecDepth 1000000 in
set_option maxHeartbeats 8000000 in
/-- A message is made, with or without a capability. -/
theorem reg73_wp (Q : Exit → Act → World → Prop) (_K : Act → World → Prop) (W : World) (g gk G b : Nat) (Sb : Nat → Prop) (nO pc : Nat) (pa : Option Addr) (vo vq : Value) (hSb : ∀ b, Sb b → b < g) (hgk : g < gk) (hgG : gk < G) (hnO2 : nO ≤ 1000) (hmk : MK W g Sb) (hbk : Blk W gk #[vo, .slice pa nO pc, vq] 27) (hbx : Blk W G (msgB b false 0 0) 77)
    (x0 x1 x2 x4 x5 x6 x7 x8 x9 x10 x11 x12 x13 x14 x15 x16 x17 x18 x20 x21 x22 x23 x24 x25 x26 x27 x28 x29 x30 x31 x32 x34 x35 x36 x37 x38 x39 x40 x41 x42 x43 x44 x45 x46 x47 x48 x49 x50 x51 x52 x53 x54 x55 x56 x57 x58 x59 x60 x61 x62 x63 x64 x65 x66 x67 x68 x69 x70 x71 x72 x73 x74 x75 x76 x77 x78 x79 x80 x81 x82 x83 x84 x85 x86 x87 x88 x89 x90 x91 x92 x93 x94 x95 x96 x97 x98 x99 x100 x101 x102 x103 x104 x105 x106 x107 x108 x109 x110 x111 x112 x113 x114 x115 x116 x117 x118 x119 x120 x121 x122 x123 x124 x125 x126 x127 x128 x129 x130 x131 x132 x133 x134 x135 x136 x137 x138 x139 x140 x141 x142 x143 x144 x145 x146 x147 x148 x149 x150 x151 x152 x153 x154 x155 x156 x157 x158 x159 x160 x161 x162 x163 x164 x165 x166 x167 x168 x169 x170 x171 x172 x173 x174 x175 x176 x177 x178 x179 x180 x181 x182 x183 x184 x185 x186 x187 x188 x189 x190 x191 x192 x193 x194 x195 x196 x197 x198 x199 x200 x201 x202 x203 x204 x205 x206 x207 x208 x209 x210 x211 x212 x213 x214 x215 x216 x217 x218 x219 x220 x221 x222 x223 x224 x225 x226 x227 x228 x229 x230 x231 x232 x233 x234 x235 x236 x237 x238 x239 x240 x241 x242 x243 x244 x245 x246 x247 x248 x249 x250 x251 x252 x253 x254 x255 x256 x257 x258 x259 x260 x261 x262 x263 x264 x265 x266 x267 x268 x269 x270 x271 x272 x273 x274 x275 x276 x277 x278 x279 x280 x281 x282 x283 x284 x285 x286 x287 x288 x289 x290 x291 x292 x293 x294 x295 x296 x297 x298 : Value)
    (h : ∀ (y275 y276 y277 y278 y279 y280 y281 y282 y283 y284 : Value) (W' : World) (op rt : Nat), op < nO → rt < 200 → Blk W' G (msgB b true (op : Int) (rt : Int)) 77 → MK W' g Sb → On (fun b => b < W.heap.size ∧ b ≠ g ∧ b ≠ G) W W' → W'.heap.size = W.heap.size → (∀ C, C ≤ g → Below C W W') → Q .normal ⟨#[x0, x1, x2, .pointer (some ⟨g, 0, none⟩), x4, x5, x6, x7, x8, x9, x10, x11, x12, x13, x14, x15, x16, x17, x18, .pointer (some ⟨gk, 0, none⟩), x20, x21, x22, x23, x24, x25, x26, x27, x28, x29, x30, x31, x32, .pointer (some ⟨G, 0, none⟩), x34, x35, x36, x37, x38, x39, x40, x41, x42, x43, x44, x45, x46, x47, x48, x49, x50, x51, x52, x53, x54, x55, x56, x57, x58, x59, x60, x61, x62, x63, x64, x65, x66, x67, x68, x69, x70, x71, x72, x73, x74, x75, x76, x77, x78, x79, x80, x81, x82, x83, x84, x85, x86, x87, x88, x89, x90, x91, x92, x93, x94, x95, x96, x97, x98, x99, x100, x101, x102, x103, x104, x105, x106, x107, x108, x109, x110, x111, x112, x113, x114, x115, x116, x117, x118, x119, x120, x121, x122, x123, x124, x125, x126, x127, x128, x129, x130, x131, x132, x133, x134, x135, x136, x137, x138, x139, x140, x141, x142, x143, x144, x145, x146, x147, x148, x149, x150, x151, x152, x153, x154, x155, x156, x157, x158, x159, x160, x161, x162, x163, x164, x165, x166, x167, x168, x169, x170, x171, x172, x173, x174, x175, x176, x177, x178, x179, x180, x181, x182, x183, x184, x185, x186, x187, x188, x189, x190, x191, x192, x193, x194, x195, x196, x197, x198, x199, x200, x201, x202, x203, x204, x205, x206, x207, x208, x209, x210, x211, x212, x213, x214, x215, x216, x217, x218, x219, x220, x221, x222, x223, x224, x225, x226, x227, x228, x229, x230, x231, x232, x233, x234, x235, x236, x237, x238, x239, x240, x241, x242, x243, x244, x245, x246, x247, x248, x249, x250, x251, x252, x253, x254, x255, x256, x257, x258, x259, x260, x261, x262, x263, x264, x265, x266, x267, x268, x269, x270, x271, x272, x273, x274, y275, y276, y277, y278, y279, y280, y281, y282, y283, y284, x285, x286, x287, x288, x289, x290, x291, x292, x293, x294, x295, x296, x297, x298], []⟩ W') (hnO : 1 ≤ nO) :
    Code.wp Tryd.prog ((Tryd.f8.body.bind (findReg 74)).getD .skip) Q ⟨#[x0, x1, x2, .pointer (some ⟨g, 0, none⟩), x4, x5, x6, x7, x8, x9, x10, x11, x12, x13, x14, x15, x16, x17, x18, .pointer (some ⟨gk, 0, none⟩), x20, x21, x22, x23, x24, x25, x26, x27, x28, x29, x30, x31, x32, .pointer (some ⟨G, 0, none⟩), x34, x35, x36, x37, x38, x39, x40, x41, x42, x43, x44, x45, x46, x47, x48, x49, x50, x51, x52, x53, x54, x55, x56, x57, x58, x59, x60, x61, x62, x63, x64, x65, x66, x67, x68, x69, x70, x71, x72, x73, x74, x75, x76, x77, x78, x79, x80, x81, x82, x83, x84, x85, x86, x87, x88, x89, x90, x91, x92, x93, x94, x95, x96, x97, x98, x99, x100, x101, x102, x103, x104, x105, x106, x107, x108, x109, x110, x111, x112, x113, x114, x115, x116, x117, x118, x119, x120, x121, x122, x123, x124, x125, x126, x127, x128, x129, x130, x131, x132, x133, x134, x135, x136, x137, x138, x139, x140, x141, x142, x143, x144, x145, x146, x147, x148, x149, x150, x151, x152, x153, x154, x155, x156, x157, x158, x159, x160, x161, x162, x163, x164, x165, x166, x167, x168, x169, x170, x171, x172, x173, x174, x175, x176, x177, x178, x179, x180, x181, x182, x183, x184, x185, x186, x187, x188, x189, x190, x191, x192, x193, x194, x195, x196, x197, x198, x199, x200, x201, x202, x203, x204, x205, x206, x207, x208, x209, x210, x211, x212, x213, x214, x215, x216, x217, x218, x219, x220, x221, x222, x223, x224, x225, x226, x227, x228, x229, x230, x231, x232, x233, x234, x235, x236, x237, x238, x239, x240, x241, x242, x243, x244, x245, x246, x247, x248, x249, x250, x251, x252, x253, x254, x255, x256, x257, x258, x259, x260, x261, x262, x263, x264, x265, x266, x267, x268, x269, x270, x271, x272, x273, x274, x275, x276, x277, x278, x279, x280, x281, x282, x283, x284, x285, x286, x287, x288, x289, x290, x291, x292, x293, x294, x295, x296, x297, x298], []⟩ W := by
  have HH : Hid (∀ (y275 y276 y277 y278 y279 y280 y281 y282 y283 y284 : Value) (W' : World) (op rt : Nat), op < nO → rt < 200 → Blk W' G (msgB b true (op : Int) (rt : Int)) 77 → MK W' g Sb → On (fun b => b < W.heap.size ∧ b ≠ g ∧ b ≠ G) W W' → W'.heap.size = W.heap.size → (∀ C, C ≤ g → Below C W W') → Q .normal ⟨#[x0, x1, x2, .pointer (some ⟨g, 0, none⟩), x4, x5, x6, x7, x8, x9, x10, x11, x12, x13, x14, x15, x16, x17, x18, .pointer (some ⟨gk, 0, none⟩), x20, x21, x22, x23, x24, x25, x26, x27, x28, x29, x30, x31, x32, .pointer (some ⟨G, 0, none⟩), x34, x35, x36, x37, x38, x39, x40, x41, x42, x43, x44, x45, x46, x47, x48, x49, x50, x51, x52, x53, x54, x55, x56, x57, x58, x59, x60, x61, x62, x63, x64, x65, x66, x67, x68, x69, x70, x71, x72, x73, x74, x75, x76, x77, x78, x79, x80, x81, x82, x83, x84, x85, x86, x87, x88, x89, x90, x91, x92, x93, x94, x95, x96, x97, x98, x99, x100, x101, x102, x103, x104, x105, x106, x107, x108, x109, x110, x111, x112, x113, x114, x115, x116, x117, x118, x119, x120, x121, x122, x123, x124, x125, x126, x127, x128, x129, x130, x131, x132, x133, x134, x135, x136, x137, x138, x139, x140, x141, x142, x143, x144, x145, x146, x147, x148, x149, x150, x151, x152, x153, x154, x155, x156, x157, x158, x159, x160, x161, x162, x163, x164, x165, x166, x167, x168, x169, x170, x171, x172, x173, x174, x175, x176, x177, x178, x179, x180, x181, x182, x183, x184, x185, x186, x187, x188, x189, x190, x191, x192, x193, x194, x195, x196, x197, x198, x199, x200, x201, x202, x203, x204, x205, x206, x207, x208, x209, x210, x211, x212, x213, x214, x215, x216, x217, x218, x219, x220, x221, x222, x223, x224, x225, x226, x227, x228, x229, x230, x231, x232, x233, x234, x235, x236, x237, x238, x239, x240, x241, x242, x243, x244, x245, x246, x247, x248, x249, x250, x251, x252, x253, x254, x255, x256, x257, x258, x259, x260, x261, x262, x263, x264, x265, x266, x267, x268, x269, x270, x271, x272, x273, x274, y275, y276, y277, y278, y279, y280, y281, y282, y283, y284, x285, x286, x287, x288, x289, x290, x291, x292, x293, x294, x295, x296, x297, x298], []⟩ W') := h
  have HSb : Hid (∀ b, Sb b → b < g) := hSb
  have HM : Hid (MK W g Sb) := hmk
  have HX : Hid (Blk W G (msgB b false 0 0) 77) := hbx
  have hck := hbk.cell
  have hKl := hbk.lt
  clear h hSb hmk hbk hbx
  conv => arg 2; whnf
  go_wp2_with fail
  refine (pick_pk g Sb HSb.out nO hnO (by omega) W W (Pk.refl HM.out)).mono ?_
  rintro e W1 ⟨op, rfl, hop, hp1⟩
  have HP1 : Hid (Pk g Sb W W1) := hp1
  clear hp1
  go_wp2_with fail
  refine (pick_pk g Sb HSb.out 200 (by decide) (by decide) W W1 HP1.out).mono ?_
  rintro e W2 ⟨rt, rfl, hrt, hp2⟩
  have HP2 : Hid (Pk g Sb W W2) := hp2
  have HX2 : Hid (Blk W2 G (msgB b false 0 0) 77) := Blk.on HX.out hp2.2.1 (by show G ≠ g; omega)
  have hc2 := Blk.cell HX2.out
  have hf2 := Blk.free HX2.out
  unfold msgB at hc2
  clear hp2 HP1 hck
  go_wp2
  have s1 := On.set W2 ⟨G, 1, none⟩ (.bool true)
  have s2 := On.set (W2.setCell ⟨G, 1, none⟩ (.bool true)) ⟨G, 2, none⟩ (.int .i64 (op : Int))
  have s3 := On.set ((W2.setCell ⟨G, 1, none⟩ (.bool true)).setCell ⟨G, 2, none⟩ (.int .i64 (op : Int))) ⟨G, 3, none⟩ (.int .i64 (rt : Int))
  have b1 : Blk (W2.setCell ⟨G, 1, none⟩ (.bool true)) G (msgB b true 0 0) 77 := Blk.set HX2.out 1 _
  have b2 : Blk ((W2.setCell ⟨G, 1, none⟩ (.bool true)).setCell ⟨G, 2, none⟩ (.int .i64 (op : Int))) G (msgB b true (op : Int) 0) 77 := Blk.set b1 2 _
  have b3 : Blk (((W2.setCell ⟨G, 1, none⟩ (.bool true)).setCell ⟨G, 2, none⟩ (.int .i64 (op : Int))).setCell ⟨G, 3, none⟩ (.int .i64 (rt : Int))) G (msgB b true (op : Int) (rt : Int)) 77 := Blk.set b2 3 _
  have hon := (s1.trans s2).trans s3
  exact HH.out _ _ _ _ _ _ _ _ _ _ _ op rt hop hrt b3 (HP2.out.1.on hon (by show g ≠ G; omega) (fun b hb => by have := HSb.out b hb; show b ≠ G; omega)) ((HP2.out.2.1.less fun b hb => hb.2.1).trans (hon.less fun b hb => hb.2.2)) (by simp; exact HP2.out.2.2.1) (fun C hC => (((HP2.out.2.2.2 C hC).setCell (by show C ≤ G; omega) _).setCell (by show C ≤ G; omega) _).setCell (by show C ≤ G; omega) _)
/-- An object's box, another queue. -/
theorem objC_q (s : Sls) (x : Sp.Ob) (r : Sl) (l : List Sp.Msg) : objC (⟨s.d, s.e, r⟩, { x with queue := l }) = objC (⟨s.d, s.e, r⟩, x) := rfl
set_option maxRecDepth 1000000 in
set_option maxHeartbeats 8000000 in
theorem reg75_wp (Q : Exit → Act → World → Prop) (K : Act → World → Prop) (W : World) (B G b : Nat) (s : Sls) (x : Sp.Ob) (hh : Bool) (op rt : Int) (hq : s.q = nilSl) (hbx : Blk W B (objC (s, x)).toArray 47) (hbg : Blk W G (msgB b hh op rt) 77)
    (x0 x1 x2 x3 x4 x5 x6 x7 x8 x9 x10 x11 x12 x13 x14 x15 x16 x17 x18 x19 x20 x21 x22 x23 x24 x25 x26 x27 x28 x29 x30 x31 x34 x35 x36 x37 x38 x39 x40 x41 x42 x43 x44 x45 x46 x47 x48 x49 x50 x51 x52 x53 x54 x55 x56 x57 x58 x59 x60 x61 x62 x63 x64 x65 x66 x67 x68 x69 x70 x71 x72 x73 x74 x75 x76 x77 x78 x79 x80 x81 x82 x83 x84 x85 x86 x87 x88 x89 x90 x91 x92 x93 x94 x95 x96 x97 x98 x99 x100 x101 x102 x103 x104 x105 x106 x107 x108 x109 x110 x111 x112 x113 x114 x115 x116 x117 x118 x119 x120 x121 x122 x123 x124 x125 x126 x127 x128 x129 x130 x131 x132 x133 x134 x135 x136 x137 x138 x139 x140 x141 x142 x143 x144 x145 x146 x147 x148 x149 x150 x151 x152 x153 x154 x155 x156 x157 x158 x159 x160 x161 x162 x163 x164 x165 x166 x167 x168 x169 x170 x171 x172 x173 x174 x175 x176 x177 x178 x179 x180 x181 x182 x183 x184 x185 x186 x187 x188 x189 x190 x191 x192 x193 x194 x195 x196 x197 x198 x199 x200 x201 x202 x203 x204 x205 x206 x207 x208 x209 x210 x211 x212 x213 x214 x215 x216 x217 x218 x219 x220 x221 x222 x223 x224 x225 x226 x227 x228 x229 x230 x231 x232 x233 x234 x235 x236 x237 x238 x239 x240 x241 x242 x243 x244 x245 x246 x247 x248 x249 x250 x251 x252 x253 x254 x255 x256 x257 x258 x259 x260 x261 x262 x263 x264 x265 x266 x267 x268 x269 x270 x271 x272 x273 x274 x275 x276 x277 x278 x279 x280 x281 x282 x283 x284 x285 x286 x287 x288 x289 x290 x291 x292 x293 x294 x295 x296 x297 x298 : Value)
    (h : ∀ (y285 y286 y287 y288 y289 y290 : Value) (W' : World) (r : Sl), Blk W' B (objC (⟨s.d, s.e, r⟩, x)).toArray 47 → Row W' (fun c => W.heap.size ≤ c ∧ c < W'.heap.size) 4 (.slice r.a r.n r.c) [msgC (⟨some ⟨b, 0, none⟩, 1, 1⟩, ⟨[109], hh, op, rt⟩)] → On (fun c => c < W.heap.size ∧ c ≠ B) W W' → W.heap.size ≤ W'.heap.size → (∀ C, C ≤ B → Below C W W') → K ⟨#[x0, x1, x2, x3, x4, x5, x6, x7, x8, x9, x10, x11, x12, x13, x14, x15, x16, x17, x18, x19, x20, x21, x22, x23, x24, x25, x26, x27, x28, x29, x30, x31, .pointer (some ⟨B, 0, none⟩), .pointer (some ⟨G, 0, none⟩), x34, x35, x36, x37, x38, x39, x40, x41, x42, x43, x44, x45, x46, x47, x48, x49, x50, x51, x52, x53, x54, x55, x56, x57, x58, x59, x60, x61, x62, x63, x64, x65, x66, x67, x68, x69, x70, x71, x72, x73, x74, x75, x76, x77, x78, x79, x80, x81, x82, x83, x84, x85, x86, x87, x88, x89, x90, x91, x92, x93, x94, x95, x96, x97, x98, x99, x100, x101, x102, x103, x104, x105, x106, x107, x108, x109, x110, x111, x112, x113, x114, x115, x116, x117, x118, x119, x120, x121, x122, x123, x124, x125, x126, x127, x128, x129, x130, x131, x132, x133, x134, x135, x136, x137, x138, x139, x140, x141, x142, x143, x144, x145, x146, x147, x148, x149, x150, x151, x152, x153, x154, x155, x156, x157, x158, x159, x160, x161, x162, x163, x164, x165, x166, x167, x168, x169, x170, x171, x172, x173, x174, x175, x176, x177, x178, x179, x180, x181, x182, x183, x184, x185, x186, x187, x188, x189, x190, x191, x192, x193, x194, x195, x196, x197, x198, x199, x200, x201, x202, x203, x204, x205, x206, x207, x208, x209, x210, x211, x212, x213, x214, x215, x216, x217, x218, x219, x220, x221, x222, x223, x224, x225, x226, x227, x228, x229, x230, x231, x232, x233, x234, x235, x236, x237, x238, x239, x240, x241, x242, x243, x244, x245, x246, x247, x248, x249, x250, x251, x252, x253, x254, x255, x256, x257, x258, x259, x260, x261, x262, x263, x264, x265, x266, x267, x268, x269, x270, x271, x272, x273, x274, x275, x276, x277, x278, x279, x280, x281, x282, x283, x284, y285, y286, y287, y288, y289, y290, x291, x292, x293, x294, x295, x296, x297, x298], []⟩ W') :
    Code.wp Tryd.prog ((Tryd.f8.body.bind (findReg 75)).getD .skip) (Exit.then K Q) ⟨#[x0, x1, x2, x3, x4, x5, x6, x7, x8, x9, x10, x11, x12, x13, x14, x15, x16, x17, x18, x19, x20, x21, x22, x23, x24, x25, x26, x27, x28, x29, x30, x31, .pointer (some ⟨B, 0, none⟩), .pointer (some ⟨G, 0, none⟩), x34, x35, x36, x37, x38, x39, x40, x41, x42, x43, x44, x45, x46, x47, x48, x49, x50, x51, x52, x53, x54, x55, x56, x57, x58, x59, x60, x61, x62, x63, x64, x65, x66, x67, x68, x69, x70, x71, x72, x73, x74, x75, x76, x77, x78, x79, x80, x81, x82, x83, x84, x85, x86, x87, x88, x89, x90, x91, x92, x93, x94, x95, x96, x97, x98, x99, x100, x101, x102, x103, x104, x105, x106, x107, x108, x109, x110, x111, x112, x113, x114, x115, x116, x117, x118, x119, x120, x121, x122, x123, x124, x125, x126, x127, x128, x129, x130, x131, x132, x133, x134, x135, x136, x137, x138, x139, x140, x141, x142, x143, x144, x145, x146, x147, x148, x149, x150, x151, x152, x153, x154, x155, x156, x157, x158, x159, x160, x161, x162, x163, x164, x165, x166, x167, x168, x169, x170, x171, x172, x173, x174, x175, x176, x177, x178, x179, x180, x181, x182, x183, x184, x185, x186, x187, x188, x189, x190, x191, x192, x193, x194, x195, x196, x197, x198, x199, x200, x201, x202, x203, x204, x205, x206, x207, x208, x209, x210, x211, x212, x213, x214, x215, x216, x217, x218, x219, x220, x221, x222, x223, x224, x225, x226, x227, x228, x229, x230, x231, x232, x233, x234, x235, x236, x237, x238, x239, x240, x241, x242, x243, x244, x245, x246, x247, x248, x249, x250, x251, x252, x253, x254, x255, x256, x257, x258, x259, x260, x261, x262, x263, x264, x265, x266, x267, x268, x269, x270, x271, x272, x273, x274, x275, x276, x277, x278, x279, x280, x281, x282, x283, x284, x285, x286, x287, x288, x289, x290, x291, x292, x293, x294, x295, x296, x297, x298], []⟩ W := by
  have HH : Hid (∀ (y285 y286 y287 y288 y289 y290 : Value) (W' : World) (r : Sl), Blk W' B (objC (⟨s.d, s.e, r⟩, x)).toArray 47 → Row W' (fun c => W.heap.size ≤ c ∧ c < W'.heap.size) 4 (.slice r.a r.n r.c) [msgC (⟨some ⟨b, 0, none⟩, 1, 1⟩, ⟨[109], hh, op, rt⟩)] → On (fun c => c < W.heap.size ∧ c ≠ B) W W' → W.heap.size ≤ W'.heap.size → (∀ C, C ≤ B → Below C W W') → K ⟨#[x0, x1, x2, x3, x4, x5, x6, x7, x8, x9, x10, x11, x12, x13, x14, x15, x16, x17, x18, x19, x20, x21, x22, x23, x24, x25, x26, x27, x28, x29, x30, x31, .pointer (some ⟨B, 0, none⟩), .pointer (some ⟨G, 0, none⟩), x34, x35, x36, x37, x38, x39, x40, x41, x42, x43, x44, x45, x46, x47, x48, x49, x50, x51, x52, x53, x54, x55, x56, x57, x58, x59, x60, x61, x62, x63, x64, x65, x66, x67, x68, x69, x70, x71, x72, x73, x74, x75, x76, x77, x78, x79, x80, x81, x82, x83, x84, x85, x86, x87, x88, x89, x90, x91, x92, x93, x94, x95, x96, x97, x98, x99, x100, x101, x102, x103, x104, x105, x106, x107, x108, x109, x110, x111, x112, x113, x114, x115, x116, x117, x118, x119, x120, x121, x122, x123, x124, x125, x126, x127, x128, x129, x130, x131, x132, x133, x134, x135, x136, x137, x138, x139, x140, x141, x142, x143, x144, x145, x146, x147, x148, x149, x150, x151, x152, x153, x154, x155, x156, x157, x158, x159, x160, x161, x162, x163, x164, x165, x166, x167, x168, x169, x170, x171, x172, x173, x174, x175, x176, x177, x178, x179, x180, x181, x182, x183, x184, x185, x186, x187, x188, x189, x190, x191, x192, x193, x194, x195, x196, x197, x198, x199, x200, x201, x202, x203, x204, x205, x206, x207, x208, x209, x210, x211, x212, x213, x214, x215, x216, x217, x218, x219, x220, x221, x222, x223, x224, x225, x226, x227, x228, x229, x230, x231, x232, x233, x234, x235, x236, x237, x238, x239, x240, x241, x242, x243, x244, x245, x246, x247, x248, x249, x250, x251, x252, x253, x254, x255, x256, x257, x258, x259, x260, x261, x262, x263, x264, x265, x266, x267, x268, x269, x270, x271, x272, x273, x274, x275, x276, x277, x278, x279, x280, x281, x282, x283, x284, y285, y286, y287, y288, y289, y290, x291, x292, x293, x294, x295, x296, x297, x298], []⟩ W') := h
  obtain ⟨sd, se, sq⟩ := s
  dsimp only at hq
  subst hq
  have hBl := hbx.lt
  rw [objV_eq] at hbx
  have HX : Hid _ := hbx
  have hcb := hbx.cell
  have hfb := hbx.free
  have hcg := hbg.cell
  unfold msgB at hcg
  dsimp only [nilSl] at hcb
  clear h hbx hbg
  conv => arg 2; whnf
  go_wp2_with (with_reducible refine stop_at (.call { callee := .builtin .append, args := #[.tmp 286, .tmp 288], argTypes := #[45, 45] }) rfl ?_)
  unfold Hold
  have hbn := Blk.new W #[.slice (some ⟨b, 0, none⟩) 1 1, .bool hh, .int .i64 op, .int .i64 rt] 77
  have hon1 := On.alloc W (.cells #[.slice (some ⟨b, 0, none⟩) 1 1, .bool hh, .int .i64 op, .int .i64 rt] 77)
  have hz1 : (W.alloc (.cells #[.slice (some ⟨b, 0, none⟩) 1 1, .bool hh, .int .i64 op, .int .i64 rt] 77)).heap.size = W.heap.size + 1 := by simp
  have hB1 : ∀ C, C ≤ W.heap.size → Below C W (W.alloc (.cells #[.slice (some ⟨b, 0, none⟩) 1 1, .bool hh, .int .i64 op, .int .i64 rt] 77)) := fun C hC => (Below.refl C W).alloc hC _
  generalize W.alloc (.cells #[.slice (some ⟨b, 0, none⟩) 1 1, .bool hh, .int .i64 op, .int .i64 rt] 77) = W1 at *
  obtain ⟨i0, hi, hi0, hi1, hi2⟩ := info_parts Tryd.infoMsg
  clear hcb hfb hcg
  refine wpList_append_one rfl _ _ _ rfl W.heap.size 77 77 i0 (.agg #[.slice none 0 0, .bool false, .int .i64 0, .int .i64 0]) 4 48 Tryd.underlying45 hi hi0 hi1 hi2 rfl (by decide) _ [] rfl (Mine.nil W1 W.heap.size 77 4) (fun _ h => by simp at h) W.heap.size rfl (msgC (⟨some ⟨b, 0, none⟩, 1, 1⟩, ⟨[109], hh, op, rt⟩)) hbn rfl (fun u hu => ones_msg [(⟨some ⟨b, 0, none⟩, 1, 1⟩, ⟨[109], hh, op, rt⟩)] _ (List.mem_singleton.2 rfl) u hu) (by decide) (by decide) (by omega) ?_
  intro r W2 hm2 hg2 _
  rw [List.nil_append] at hm2
  clear hi hi0 hi1 hi2
  have hon2 : On (fun c => c < W.heap.size) W W2 := hon1.trans (fun c hc => hg2.block c (by omega) (by intro e; cases e))
  have hB2 : ∀ C, C ≤ W.heap.size → Below C W W2 := fun C hC => (hB1 C hC).grown hg2 (by omega) (fun k hk => by cases hk)
  have hz2 := (hB2 0 (Nat.zero_le _)).size
  have hb2 := Blk.on HX.out hon2 hBl
  have HB2 : Hid _ := hb2
  have hc2 := hb2.cell
  have hf2 := hb2.free
  have HR2 : Hid (Row W2 (fun c => W.heap.size ≤ c ∧ c < W2.heap.size) 4 (.slice r.a r.n r.c) [msgC (⟨some ⟨b, 0, none⟩, 1, 1⟩, ⟨[109], hh, op, rt⟩)]) := hm2.row (even_msg [(⟨some ⟨b, 0, none⟩, 1, 1⟩, ⟨[109], hh, op, rt⟩)])
  have HO2 : Hid (On (fun c => c < W.heap.size) W W2) := hon2
  have HBB : Hid (∀ C, C ≤ W.heap.size → Below C W W2) := hB2
  clear hm2 hg2 hon2 hB2 hb2 hbn hon1 hB1 hz1
  go_wp2
  have hset := On.set W2 ⟨B, 5, none⟩ (.slice r.a r.n r.c)
  refine HH.out _ _ _ _ _ _ _ r (Blk.set HB2.out 5 _) ((HR2.out.on (hset.less fun c hc => by show c ≠ B; omega)).more fun c hc => ⟨hc.1, by simp; exact hc.2⟩) ((HO2.out.less fun c hc => hc.1).trans (hset.less fun c hc => hc.2)) (by simp; omega) (fun C hC => (HBB.out C (by omega)).setCell (by show C ≤ B; omega) _)
set_option maxRecDepth 1000000 in
set_option maxHeartbeats 8000000 in
theorem reg76_wp (Q : Exit → Act → World → Prop) (W0 W : World) (g gk B i : Nat) (Sb : Nat → Prop) (vp vq : Value) (nO : Nat) (L : List Sp.Ob) (s : Sls) (x : Sp.Ob) (m : Sp.Msg) (hSb : ∀ b, Sb b → b < g) (hgk : g < gk) (_hgW : gk < W0.heap.size) (hL : L.length ≤ 100) (hx : L[i]? = some x) (hxk : x.kind = 4) (hm : Sp.MsgOk nO m) (hI : QI W0 g gk Sb vp vq nO L i W) (hbx : Blk W B (objC (s, { x with queue := [m] })).toArray 47) (hls : Lists W (fun b => g < b ∧ b < W.heap.size ∧ b ≠ gk) (s, { x with queue := [m] }))
    (x0 x1 x2 x3 x4 x5 x6 x7 x8 x9 x10 x11 x12 x13 x14 x15 x16 x17 x18 x20 x21 x22 x23 x24 x25 x26 x27 x28 x29 x30 x33 x34 x35 x36 x37 x38 x39 x40 x41 x42 x43 x44 x45 x46 x47 x48 x49 x50 x51 x52 x53 x54 x55 x56 x57 x58 x59 x60 x61 x62 x63 x64 x65 x66 x67 x68 x69 x70 x71 x72 x73 x74 x75 x76 x77 x78 x79 x80 x81 x82 x83 x84 x85 x86 x87 x88 x89 x90 x91 x92 x93 x94 x95 x96 x97 x98 x99 x100 x101 x102 x103 x104 x105 x106 x107 x108 x109 x110 x111 x112 x113 x114 x115 x116 x117 x118 x119 x120 x121 x122 x123 x124 x125 x126 x127 x128 x129 x130 x131 x132 x133 x134 x135 x136 x137 x138 x139 x140 x141 x142 x143 x144 x145 x146 x147 x148 x149 x150 x151 x152 x153 x154 x155 x156 x157 x158 x159 x160 x161 x162 x163 x164 x165 x166 x167 x168 x169 x170 x171 x172 x173 x174 x175 x176 x177 x178 x179 x180 x181 x182 x183 x184 x185 x186 x187 x188 x189 x190 x191 x192 x193 x194 x195 x196 x197 x198 x199 x200 x201 x202 x203 x204 x205 x206 x207 x208 x209 x210 x211 x212 x213 x214 x215 x216 x217 x218 x219 x220 x221 x222 x223 x224 x225 x226 x227 x228 x229 x230 x231 x232 x233 x234 x235 x236 x237 x238 x239 x240 x241 x242 x243 x244 x245 x246 x247 x248 x249 x250 x251 x252 x253 x254 x255 x256 x257 x258 x259 x260 x261 x262 x263 x264 x265 x266 x267 x268 x269 x270 x271 x272 x273 x274 x275 x276 x277 x278 x279 x280 x281 x282 x283 x284 x285 x286 x287 x288 x289 x290 x291 x292 x293 x294 x295 x296 x297 x298 : Value)
    (h : ∀ (y291 y292 y293 y294 y295 y296 : Value) (W' : World), QI W0 g gk Sb vp vq nO L (i + 1) W' → Q .normal ⟨#[x0, x1, x2, x3, x4, x5, x6, x7, x8, x9, x10, x11, x12, x13, x14, x15, x16, x17, x18, .pointer (some ⟨gk, 0, none⟩), x20, x21, x22, x23, x24, x25, x26, x27, x28, x29, x30, .int .i64 i, .pointer (some ⟨B, 0, none⟩), x33, x34, x35, x36, x37, x38, x39, x40, x41, x42, x43, x44, x45, x46, x47, x48, x49, x50, x51, x52, x53, x54, x55, x56, x57, x58, x59, x60, x61, x62, x63, x64, x65, x66, x67, x68, x69, x70, x71, x72, x73, x74, x75, x76, x77, x78, x79, x80, x81, x82, x83, x84, x85, x86, x87, x88, x89, x90, x91, x92, x93, x94, x95, x96, x97, x98, x99, x100, x101, x102, x103, x104, x105, x106, x107, x108, x109, x110, x111, x112, x113, x114, x115, x116, x117, x118, x119, x120, x121, x122, x123, x124, x125, x126, x127, x128, x129, x130, x131, x132, x133, x134, x135, x136, x137, x138, x139, x140, x141, x142, x143, x144, x145, x146, x147, x148, x149, x150, x151, x152, x153, x154, x155, x156, x157, x158, x159, x160, x161, x162, x163, x164, x165, x166, x167, x168, x169, x170, x171, x172, x173, x174, x175, x176, x177, x178, x179, x180, x181, x182, x183, x184, x185, x186, x187, x188, x189, x190, x191, x192, x193, x194, x195, x196, x197, x198, x199, x200, x201, x202, x203, x204, x205, x206, x207, x208, x209, x210, x211, x212, x213, x214, x215, x216, x217, x218, x219, x220, x221, x222, x223, x224, x225, x226, x227, x228, x229, x230, x231, x232, x233, x234, x235, x236, x237, x238, x239, x240, x241, x242, x243, x244, x245, x246, x247, x248, x249, x250, x251, x252, x253, x254, x255, x256, x257, x258, x259, x260, x261, x262, x263, x264, x265, x266, x267, x268, x269, x270, x271, x272, x273, x274, x275, x276, x277, x278, x279, x280, x281, x282, x283, x284, x285, x286, x287, x288, x289, x290, y291, y292, y293, y294, y295, y296, x297, x298], []⟩ W') :
    Code.wp Tryd.prog ((Tryd.f8.body.bind (findReg 76)).getD .skip) Q ⟨#[x0, x1, x2, x3, x4, x5, x6, x7, x8, x9, x10, x11, x12, x13, x14, x15, x16, x17, x18, .pointer (some ⟨gk, 0, none⟩), x20, x21, x22, x23, x24, x25, x26, x27, x28, x29, x30, .int .i64 i, .pointer (some ⟨B, 0, none⟩), x33, x34, x35, x36, x37, x38, x39, x40, x41, x42, x43, x44, x45, x46, x47, x48, x49, x50, x51, x52, x53, x54, x55, x56, x57, x58, x59, x60, x61, x62, x63, x64, x65, x66, x67, x68, x69, x70, x71, x72, x73, x74, x75, x76, x77, x78, x79, x80, x81, x82, x83, x84, x85, x86, x87, x88, x89, x90, x91, x92, x93, x94, x95, x96, x97, x98, x99, x100, x101, x102, x103, x104, x105, x106, x107, x108, x109, x110, x111, x112, x113, x114, x115, x116, x117, x118, x119, x120, x121, x122, x123, x124, x125, x126, x127, x128, x129, x130, x131, x132, x133, x134, x135, x136, x137, x138, x139, x140, x141, x142, x143, x144, x145, x146, x147, x148, x149, x150, x151, x152, x153, x154, x155, x156, x157, x158, x159, x160, x161, x162, x163, x164, x165, x166, x167, x168, x169, x170, x171, x172, x173, x174, x175, x176, x177, x178, x179, x180, x181, x182, x183, x184, x185, x186, x187, x188, x189, x190, x191, x192, x193, x194, x195, x196, x197, x198, x199, x200, x201, x202, x203, x204, x205, x206, x207, x208, x209, x210, x211, x212, x213, x214, x215, x216, x217, x218, x219, x220, x221, x222, x223, x224, x225, x226, x227, x228, x229, x230, x231, x232, x233, x234, x235, x236, x237, x238, x239, x240, x241, x242, x243, x244, x245, x246, x247, x248, x249, x250, x251, x252, x253, x254, x255, x256, x257, x258, x259, x260, x261, x262, x263, x264, x265, x266, x267, x268, x269, x270, x271, x272, x273, x274, x275, x276, x277, x278, x279, x280, x281, x282, x283, x284, x285, x286, x287, x288, x289, x290, x291, x292, x293, x294, x295, x296, x297, x298], []⟩ W := by
  have HH : Hid (∀ (y291 y292 y293 y294 y295 y296 : Value) (W' : World), QI W0 g gk Sb vp vq nO L (i + 1) W' → Q .normal ⟨#[x0, x1, x2, x3, x4, x5, x6, x7, x8, x9, x10, x11, x12, x13, x14, x15, x16, x17, x18, .pointer (some ⟨gk, 0, none⟩), x20, x21, x22, x23, x24, x25, x26, x27, x28, x29, x30, .int .i64 i, .pointer (some ⟨B, 0, none⟩), x33, x34, x35, x36, x37, x38, x39, x40, x41, x42, x43, x44, x45, x46, x47, x48, x49, x50, x51, x52, x53, x54, x55, x56, x57, x58, x59, x60, x61, x62, x63, x64, x65, x66, x67, x68, x69, x70, x71, x72, x73, x74, x75, x76, x77, x78, x79, x80, x81, x82, x83, x84, x85, x86, x87, x88, x89, x90, x91, x92, x93, x94, x95, x96, x97, x98, x99, x100, x101, x102, x103, x104, x105, x106, x107, x108, x109, x110, x111, x112, x113, x114, x115, x116, x117, x118, x119, x120, x121, x122, x123, x124, x125, x126, x127, x128, x129, x130, x131, x132, x133, x134, x135, x136, x137, x138, x139, x140, x141, x142, x143, x144, x145, x146, x147, x148, x149, x150, x151, x152, x153, x154, x155, x156, x157, x158, x159, x160, x161, x162, x163, x164, x165, x166, x167, x168, x169, x170, x171, x172, x173, x174, x175, x176, x177, x178, x179, x180, x181, x182, x183, x184, x185, x186, x187, x188, x189, x190, x191, x192, x193, x194, x195, x196, x197, x198, x199, x200, x201, x202, x203, x204, x205, x206, x207, x208, x209, x210, x211, x212, x213, x214, x215, x216, x217, x218, x219, x220, x221, x222, x223, x224, x225, x226, x227, x228, x229, x230, x231, x232, x233, x234, x235, x236, x237, x238, x239, x240, x241, x242, x243, x244, x245, x246, x247, x248, x249, x250, x251, x252, x253, x254, x255, x256, x257, x258, x259, x260, x261, x262, x263, x264, x265, x266, x267, x268, x269, x270, x271, x272, x273, x274, x275, x276, x277, x278, x279, x280, x281, x282, x283, x284, x285, x286, x287, x288, x289, x290, y291, y292, y293, y294, y295, y296, x297, x298], []⟩ W') := h
  obtain ⟨a, c, M, h1, h2, h3, h4, h5, h6, h7, h8, h9, h10⟩ := hI
  have hil := (List.getElem?_eq_some_iff.1 hx).1
  have hMi : M[i]? = some x := (h3 i (Nat.le_refl _)).trans hx
  have hR := rwith_any M i s { x with queue := [m] } (.slice a M.length c) (fun b => g < b ∧ b < W.heap.size ∧ b ≠ gk) W h8 (fun b hb => hb.2.1) (by omega) (by omega) hls
  have e1 : Sp.rwith M i { x with queue := [m] } = M.set i { x with queue := [m] } := if_neg (by omega)
  rw [e1, List.length_set, objV_eq] at hR
  have HR : Hid _ := hR
  rw [objV_eq] at hbx
  have hcb := hbx.cell
  have hck := h7.cell
  have hgl := h7.lt
  have hz0 : W0.heap.size ≤ W.heap.size := (h10 0 (Nat.zero_le _)).size
  have H6 : Hid (MK W g Sb) := h6
  have H7 : Hid (Blk W gk #[.slice a M.length c, vp, vq] 27) := h7
  have HF : Hid (∀ (W2 : World) (a' : Option Addr) (c' : Nat), Objs W2 (Or' (fun b => g < b ∧ b < W.heap.size ∧ b ≠ gk) W.heap.size W2.heap.size) (.slice a' M.length c') (M.set i { x with queue := [m] }) → Below W.heap.size W W2 → Blk W2 gk #[.slice a M.length c, vp, vq] 27 ∧ QI W0 g gk Sb vp vq nO L (i + 1) (W2.setCell ⟨gk, 0, none⟩ (.slice a' M.length c'))) := fun W2 a' c' ho hb => by
    have hb2 : Blk W2 gk #[.slice a M.length c, vp, vq] 27 := h7.below hb hgl
    have hset := On.set W2 ⟨gk, 0, none⟩ (.slice a' M.length c')
    have hz := hb.size
    refine ⟨hb2, a', c', M.set i { x with queue := [m] }, by rw [List.length_set]; exact h1, h2.send hMi hxk hm.1, fun j hj => by rw [List.getElem?_set_ne (by omega)]; exact h3 j (by omega), ?_, ?_, ?_, ?_, ?_, ?_, ?_⟩
    · intro j o hj
      by_cases hji : j = i
      · subst hji
        rw [List.getElem?_set_self (by omega)] at hj
        cases hj
        exact ⟨x, hx, rfl, rfl⟩
      · rw [List.getElem?_set_ne (by omega)] at hj
        exact h4 j o hj
    · intro o ho q hq
      rcases List.mem_or_eq_of_mem_set ho with h | h
      · exact h5 o h q hq
      · subst h
        simp at hq
        subst hq
        exact hm
    · exact (h6.on (On.of hb) (by show g < W.heap.size; omega) (fun b hb => by have := hSb b hb; show b < W.heap.size; omega)).on hset (by show g ≠ gk; omega) (fun b hb => by have := hSb b hb; show b ≠ gk; omega)
    · rw [List.length_set]; exact hb2.set 0 _
    · rw [List.length_set]
      exact (ho.on (hset.less fun b hb => by
        show b ≠ gk
        rcases hb with hb | hb
        · exact hb.2.2
        · omega)).more fun b hb => by
          rcases hb with hb | hb
          · exact ⟨hb.1, by simp; omega, hb.2.2⟩
          · exact ⟨by omega, by simp; exact hb.2, by omega⟩
    · exact (h9.trans ((On.of hb).less fun b hb => by omega)).trans (hset.less fun b hb => hb.2.2)
    · intro C hC
      exact ((h10 C hC).trans (hb.mono (by omega))).setCell (by show C ≤ gk; omega) _
  dsimp only at hcb HR
  clear h hSb hm hbx hls h1 h2 h3 h4 h5 h6 h7 h8 h9 h10 hR e1 hMi hx hxk
  conv => arg 2; whnf
  go_wp2_with fail
  refine Calls.mono HR.out ?_
  rintro e W2 ⟨a2, c2, rfl, ho2, hb2⟩
  obtain ⟨q1, q2⟩ := HF.out W2 a2 c2 ho2 hb2
  have HQ : Hid (QI W0 g gk Sb vp vq nO L (i + 1) (W2.setCell ⟨gk, 0, none⟩ (.slice a2 M.length c2))) := q2
  have hc2 := q1.cell
  have hf2 := q1.free
  clear ho2 hb2 q1 q2 hcb hck HR
  go_wp2
  exact HH.out _ _ _ _ _ _ _ HQ.out
set_option maxRecDepth 1000000 in
set_option maxHeartbeats 8000000 in
theorem blk17_wp (Q : Exit → Act → World → Prop) (K : Act → World → Prop) (W : World) (g gk : Nat) (Sb : Nat → Prop) (nO pc : Nat) (pa : Option Addr) (vq : Value) (a : Option Addr) (c : Nat) (L : List Sp.Ob) (hSb : ∀ b, Sb b → b < g) (hgk : g < gk) (hnO2 : nO ≤ 1000) (hL : L.length ≤ 100) (hT : Sp.TOk L) (hmk : MK W g Sb) (hbk : Blk W gk #[.slice a L.length c, .slice pa nO pc, vq] 27) (hv : ObjsP QN W (fun b => g < b ∧ b < W.heap.size ∧ b ≠ gk) (.slice a L.length c) L) (hq0 : ∀ o ∈ L, o.queue = [])
    (x0 x1 x2 x4 x5 x6 x7 x8 x9 x10 x11 x12 x13 x14 x15 x16 x17 x18 x20 x21 x22 x23 x24 x25 x26 x27 x28 x29 x30 x31 x32 x33 x34 x35 x36 x37 x38 x39 x40 x41 x42 x43 x44 x45 x46 x47 x48 x49 x50 x51 x52 x53 x54 x55 x56 x57 x58 x59 x60 x61 x62 x63 x64 x65 x66 x67 x68 x69 x70 x71 x72 x73 x74 x75 x76 x77 x78 x79 x80 x81 x82 x83 x84 x85 x86 x87 x88 x89 x90 x91 x92 x93 x94 x95 x96 x97 x98 x99 x100 x101 x102 x103 x104 x105 x106 x107 x108 x109 x110 x111 x112 x113 x114 x115 x116 x117 x118 x119 x120 x121 x122 x123 x124 x125 x126 x127 x128 x129 x130 x131 x132 x133 x134 x135 x136 x137 x138 x139 x140 x141 x142 x143 x144 x145 x146 x147 x148 x149 x150 x151 x152 x153 x154 x155 x156 x157 x158 x159 x160 x161 x162 x163 x164 x165 x166 x167 x168 x169 x170 x171 x172 x173 x174 x175 x176 x177 x178 x179 x180 x181 x182 x183 x184 x185 x186 x187 x188 x189 x190 x191 x192 x193 x194 x195 x196 x197 x198 x199 x200 x201 x202 x203 x204 x205 x206 x207 x208 x209 x210 x211 x212 x213 x214 x215 x216 x217 x218 x219 x220 x221 x222 x223 x224 x225 x226 x227 x228 x229 x230 x231 x232 x233 x234 x235 x236 x237 x238 x239 x240 x241 x242 x243 x244 x245 x246 x247 x251 x252 x253 x254 x255 x256 x257 x258 x259 x260 x261 x262 x263 x264 x265 x266 x267 x268 x269 x270 x271 x272 x273 x274 x275 x276 x277 x278 x279 x280 x281 x282 x283 x284 x285 x286 x287 x288 x289 x290 x291 x292 x293 x294 x295 x296 x297 x298 : Value)
    (h : ∀ (y31 y32 y33 y250 y251 y252 y253 y254 y255 y256 y257 y258 y259 y260 y261 y262 y263 y264 y265 y266 y267 y268 y269 y270 y271 y272 y273 y274 y275 y276 y277 y278 y279 y280 y281 y282 y283 y284 y285 y286 y287 y288 y289 y290 y291 y292 y293 y294 y295 y296 y297 : Value) (W' : World), QI W g gk Sb (.slice pa nO pc) vq nO L L.length W' → K ⟨#[x0, x1, x2, .pointer (some ⟨g, 0, none⟩), x4, x5, x6, x7, x8, x9, x10, x11, x12, x13, x14, x15, x16, x17, x18, .pointer (some ⟨gk, 0, none⟩), x20, x21, x22, x23, x24, x25, x26, x27, x28, x29, x30, y31, y32, y33, x34, x35, x36, x37, x38, x39, x40, x41, x42, x43, x44, x45, x46, x47, x48, x49, x50, x51, x52, x53, x54, x55, x56, x57, x58, x59, x60, x61, x62, x63, x64, x65, x66, x67, x68, x69, x70, x71, x72, x73, x74, x75, x76, x77, x78, x79, x80, x81, x82, x83, x84, x85, x86, x87, x88, x89, x90, x91, x92, x93, x94, x95, x96, x97, x98, x99, x100, x101, x102, x103, x104, x105, x106, x107, x108, x109, x110, x111, x112, x113, x114, x115, x116, x117, x118, x119, x120, x121, x122, x123, x124, x125, x126, x127, x128, x129, x130, x131, x132, x133, x134, x135, x136, x137, x138, x139, x140, x141, x142, x143, x144, x145, x146, x147, x148, x149, x150, x151, x152, x153, x154, x155, x156, x157, x158, x159, x160, x161, x162, x163, x164, x165, x166, x167, x168, x169, x170, x171, x172, x173, x174, x175, x176, x177, x178, x179, x180, x181, x182, x183, x184, x185, x186, x187, x188, x189, x190, x191, x192, x193, x194, x195, x196, x197, x198, x199, x200, x201, x202, x203, x204, x205, x206, x207, x208, x209, x210, x211, x212, x213, x214, x215, x216, x217, x218, x219, x220, x221, x222, x223, x224, x225, x226, x227, x228, x229, x230, x231, x232, x233, x234, x235, x236, x237, x238, x239, x240, x241, x242, x243, x244, x245, x246, x247, .slice a L.length c, .int .i64 L.length, y250, y251, y252, y253, y254, y255, y256, y257, y258, y259, y260, y261, y262, y263, y264, y265, y266, y267, y268, y269, y270, y271, y272, y273, y274, y275, y276, y277, y278, y279, y280, y281, y282, y283, y284, y285, y286, y287, y288, y289, y290, y291, y292, y293, y294, y295, y296, y297, x298], []⟩ W') :
    Code.wp Tryd.prog ((Tryd.f8.body.bind (findBlock 17)).getD .skip) (Exit.then K Q) ⟨#[x0, x1, x2, .pointer (some ⟨g, 0, none⟩), x4, x5, x6, x7, x8, x9, x10, x11, x12, x13, x14, x15, x16, x17, x18, .pointer (some ⟨gk, 0, none⟩), x20, x21, x22, x23, x24, x25, x26, x27, x28, x29, x30, x31, x32, x33, x34, x35, x36, x37, x38, x39, x40, x41, x42, x43, x44, x45, x46, x47, x48, x49, x50, x51, x52, x53, x54, x55, x56, x57, x58, x59, x60, x61, x62, x63, x64, x65, x66, x67, x68, x69, x70, x71, x72, x73, x74, x75, x76, x77, x78, x79, x80, x81, x82, x83, x84, x85, x86, x87, x88, x89, x90, x91, x92, x93, x94, x95, x96, x97, x98, x99, x100, x101, x102, x103, x104, x105, x106, x107, x108, x109, x110, x111, x112, x113, x114, x115, x116, x117, x118, x119, x120, x121, x122, x123, x124, x125, x126, x127, x128, x129, x130, x131, x132, x133, x134, x135, x136, x137, x138, x139, x140, x141, x142, x143, x144, x145, x146, x147, x148, x149, x150, x151, x152, x153, x154, x155, x156, x157, x158, x159, x160, x161, x162, x163, x164, x165, x166, x167, x168, x169, x170, x171, x172, x173, x174, x175, x176, x177, x178, x179, x180, x181, x182, x183, x184, x185, x186, x187, x188, x189, x190, x191, x192, x193, x194, x195, x196, x197, x198, x199, x200, x201, x202, x203, x204, x205, x206, x207, x208, x209, x210, x211, x212, x213, x214, x215, x216, x217, x218, x219, x220, x221, x222, x223, x224, x225, x226, x227, x228, x229, x230, x231, x232, x233, x234, x235, x236, x237, x238, x239, x240, x241, x242, x243, x244, x245, x246, x247, .slice a L.length c, .int .i64 L.length, .int .i64 0, x251, x252, x253, x254, x255, x256, x257, x258, x259, x260, x261, x262, x263, x264, x265, x266, x267, x268, x269, x270, x271, x272, x273, x274, x275, x276, x277, x278, x279, x280, x281, x282, x283, x284, x285, x286, x287, x288, x289, x290, x291, x292, x293, x294, x295, x296, x297, x298], []⟩ W := by
  have HH : Hid (∀ (y31 y32 y33 y250 y251 y252 y253 y254 y255 y256 y257 y258 y259 y260 y261 y262 y263 y264 y265 y266 y267 y268 y269 y270 y271 y272 y273 y274 y275 y276 y277 y278 y279 y280 y281 y282 y283 y284 y285 y286 y287 y288 y289 y290 y291 y292 y293 y294 y295 y296 y297 : Value) (W' : World), QI W g gk Sb (.slice pa nO pc) vq nO L L.length W' → K ⟨#[x0, x1, x2, .pointer (some ⟨g, 0, none⟩), x4, x5, x6, x7, x8, x9, x10, x11, x12, x13, x14, x15, x16, x17, x18, .pointer (some ⟨gk, 0, none⟩), x20, x21, x22, x23, x24, x25, x26, x27, x28, x29, x30, y31, y32, y33, x34, x35, x36, x37, x38, x39, x40, x41, x42, x43, x44, x45, x46, x47, x48, x49, x50, x51, x52, x53, x54, x55, x56, x57, x58, x59, x60, x61, x62, x63, x64, x65, x66, x67, x68, x69, x70, x71, x72, x73, x74, x75, x76, x77, x78, x79, x80, x81, x82, x83, x84, x85, x86, x87, x88, x89, x90, x91, x92, x93, x94, x95, x96, x97, x98, x99, x100, x101, x102, x103, x104, x105, x106, x107, x108, x109, x110, x111, x112, x113, x114, x115, x116, x117, x118, x119, x120, x121, x122, x123, x124, x125, x126, x127, x128, x129, x130, x131, x132, x133, x134, x135, x136, x137, x138, x139, x140, x141, x142, x143, x144, x145, x146, x147, x148, x149, x150, x151, x152, x153, x154, x155, x156, x157, x158, x159, x160, x161, x162, x163, x164, x165, x166, x167, x168, x169, x170, x171, x172, x173, x174, x175, x176, x177, x178, x179, x180, x181, x182, x183, x184, x185, x186, x187, x188, x189, x190, x191, x192, x193, x194, x195, x196, x197, x198, x199, x200, x201, x202, x203, x204, x205, x206, x207, x208, x209, x210, x211, x212, x213, x214, x215, x216, x217, x218, x219, x220, x221, x222, x223, x224, x225, x226, x227, x228, x229, x230, x231, x232, x233, x234, x235, x236, x237, x238, x239, x240, x241, x242, x243, x244, x245, x246, x247, .slice a L.length c, .int .i64 L.length, y250, y251, y252, y253, y254, y255, y256, y257, y258, y259, y260, y261, y262, y263, y264, y265, y266, y267, y268, y269, y270, y271, y272, y273, y274, y275, y276, y277, y278, y279, y280, y281, y282, y283, y284, y285, y286, y287, y288, y289, y290, y291, y292, y293, y294, y295, y296, y297, x298], []⟩ W') := h
  have HS0 : Hid (QI W g gk Sb (.slice pa nO pc) vq nO L 0 W) := ⟨a, c, L, rfl, hT, fun _ _ => rfl, fun j o h => ⟨o, h, rfl, rfl⟩, fun o ho m hm => by rw [hq0 o ho] at hm; simp at hm, hmk, hbk, hv.objs, fun _ _ => rfl, fun C _ => Below.refl C W⟩
  have HSb : Hid (∀ b, Sb b → b < g) := hSb
  have HV : Hid (ObjsP QN W (fun b => g < b ∧ b < W.heap.size ∧ b ≠ gk) (.slice a L.length c) L) := hv
  have hgW := hbk.lt
  have hLz : (L.length : Int) ≤ 100 := by omega
  clear h hSb hbk hmk hv hq0 hT
  conv => arg 2; whnf
  go_wp2_with fail
  go_loopw [250] (fun v wz => ∃ i : Nat, i ≤ L.length ∧ v = .int .i64 i ∧ QI W g gk Sb (.slice pa nO pc) vq nO L i wz) (fun v _ => L.length - (intOf v).toNat)
  case atStart => exact ⟨0, Nat.zero_le _, rfl, HS0.out⟩
  case round =>
    obtain ⟨i, hi, rfl, hI⟩ := hrel
    clear HS0
    have HI : Hid (QI W g gk Sb (.slice pa nO pc) vq nO L i wr) := hI
    have HON : Hid (On (fun b => b < W.heap.size ∧ b ≠ g ∧ b ≠ gk) W wr) := by obtain ⟨_, _, _, _, _, _, _, _, _, _, _, h9, _⟩ := hI; exact h9
    have HMK : Hid (MK wr g Sb) := by obtain ⟨_, _, _, _, _, _, _, _, h6, _⟩ := hI; exact h6
    have hz0 : W.heap.size ≤ wr.heap.size := by obtain ⟨_, _, _, _, _, _, _, _, _, _, _, _, h10⟩ := hI; exact (h10 0 (Nat.zero_le _)).size
    clear hI
    by_cases hlt : i < L.length
    · have hx : L[i]? = some L[i] := List.getElem?_eq_getElem hlt
      obtain ⟨b, o, c', s, he, hb, h3, h4, hl, hZ, c0, c1, c2, c3, c4, c5, c6, c7, c8⟩ := (HV.out.on (HON.out.less fun b hb => ⟨hb.2.1, by omega, hb.2.2⟩)).open hx
      obtain ⟨rfl, -, rfl⟩ := Value.slice.inj he
      have HX : Hid (L[i]? = some L[i]) := hx
      have HZ : Hid (QN (s, L[i])) := hZ
      have HLS : Hid (Lists wr (fun b => g < b ∧ b < W.heap.size ∧ b ≠ gk) (s, L[i])) := hl
      unfold maxLen at h4
      generalize L[i] = x at *
      clear hx he hb hZ hl
      by_cases hk4 : x.kind = 4
      · have hkz : (x.kind == 4) = true := by simpa using hk4
        have HK4 : Hid (x.kind = 4) := hk4
        clear hk4
        go_wp2_with fail
        have hbx : Blk (wr.alloc (.cells #[.int .i64 x.kind, .slice s.d.a s.d.n s.d.c, .slice s.e.a s.e.n s.e.c, .string x.target, .int .i64 x.peer, .slice s.q.a s.q.n s.q.c, .int .i64 x.proc, .int .i64 x.links, .int .i64 x.up] 47)) wr.heap.size #[.int .i64 x.kind, .slice s.d.a s.d.n s.d.c, .slice s.e.a s.e.n s.e.c, .string x.target, .int .i64 x.peer, .slice s.q.a s.q.n s.q.c, .int .i64 x.proc, .int .i64 x.links, .int .i64 x.up] 47 := Blk.new wr _ _
        have hp1 := Pn.alloc (Pn.refl HMK.out) HSb.out (by omega) (.cells #[.int .i64 x.kind, .slice s.d.a s.d.n s.d.c, .slice s.e.a s.e.n s.e.c, .string x.target, .int .i64 x.peer, .slice s.q.a s.q.n s.q.c, .int .i64 x.proc, .int .i64 x.links, .int .i64 x.up] 47)
        have hz1 : (wr.alloc (.cells #[.int .i64 x.kind, .slice s.d.a s.d.n s.d.c, .slice s.e.a s.e.n s.e.c, .string x.target, .int .i64 x.peer, .slice s.q.a s.q.n s.q.c, .int .i64 x.proc, .int .i64 x.links, .int .i64 x.up] 47)).heap.size = wr.heap.size + 1 := by simp
        generalize wr.alloc (.cells #[.int .i64 x.kind, .slice s.d.a s.d.n s.d.c, .slice s.e.a s.e.n s.e.c, .string x.target, .int .i64 x.peer, .slice s.q.a s.q.n s.q.c, .int .i64 x.proc, .int .i64 x.links, .int .i64 x.up] 47) = W1 at *
        have HB1 : Hid _ := hbx
        clear hbx c0 c1 c2 c3 c4 c5 c6 c7 c8
        refine (pick_pn g Sb HSb.out 2 (by decide) (by decide) wr W1 hp1).mono ?_
        rintro e W2 ⟨y, rfl, hy, hp2, ho2, hz2⟩
        have HP2 : Hid (Pn g Sb wr W2) := hp2
        have HB2 : Hid (Blk W2 wr.heap.size #[.int .i64 x.kind, .slice s.d.a s.d.n s.d.c, .slice s.e.a s.e.n s.e.c, .string x.target, .int .i64 x.peer, .slice s.q.a s.q.n s.q.c, .int .i64 x.proc, .int .i64 x.links, .int .i64 x.up] 47) := Blk.on HB1.out ho2 (by show wr.heap.size ≠ g; omega)
        have HZ2 : Hid (W2.heap.size = wr.heap.size + 1) := by unfold Hid; omega
        clear hp1 hp2 ho2 hz2 hz1 HB1
        by_cases hy1 : y = 1
        · subst hy1
          have kc := fun (w : World) (C : Array Value) (n c : Nat) => Lib.run_convert_bytes_const (P := Tryd.prog) w 22 5 C n c Tryd.underlying22 Tryd.underlying5
          go_upto_region 73 with fail
          have hby : Bytes (W2.alloc (.cells #[.int .u8 109] 5 (1, 2))) (fun b => b = W2.heap.size) (.slice (some ⟨W2.heap.size, 0, none⟩) 1 1) [109] := litB W2 [109] (1, 2) (by decide)
          have hza : (W2.alloc (.cells #[.int .u8 109] 5 (1, 2))).heap.size = W2.heap.size + 1 := by simp
          have hpa := Pn.alloc HP2.out HSb.out (by omega) (.cells #[.int .u8 109] 5 (1, 2))
          have hba := Blk.alloc HB2.out (.cells #[.int .u8 109] 5 (1, 2))
          generalize W2.alloc (.cells #[.int .u8 109] 5 (1, 2)) = Wa at *
          have hbg : Blk (Wa.alloc (.cells #[.slice (some ⟨W2.heap.size, 0, none⟩) 1 1, .bool false, .int .i64 0, .int .i64 0] 77)) (W2.heap.size + 1) (msgB W2.heap.size false 0 0) 77 := by rw [← hza]; exact Blk.new Wa _ _
          have hby3 := Row.on hby ((On.alloc Wa (.cells #[.slice (some ⟨W2.heap.size, 0, none⟩) 1 1, .bool false, .int .i64 0, .int .i64 0] 77)).less fun b hb => by show b < Wa.heap.size; omega)
          have hp3 := Pn.alloc hpa HSb.out (by omega) (.cells #[.slice (some ⟨W2.heap.size, 0, none⟩) 1 1, .bool false, .int .i64 0, .int .i64 0] 77)
          have hb3 := Blk.alloc hba (.cells #[.slice (some ⟨W2.heap.size, 0, none⟩) 1 1, .bool false, .int .i64 0, .int .i64 0] 77)
          have hz3 : (Wa.alloc (.cells #[.slice (some ⟨W2.heap.size, 0, none⟩) 1 1, .bool false, .int .i64 0, .int .i64 0] 77)).heap.size = W2.heap.size + 2 := by simp; omega
          generalize Wa.alloc (.cells #[.slice (some ⟨W2.heap.size, 0, none⟩) 1 1, .bool false, .int .i64 0, .int .i64 0] 77) = W3 at *
          have HBY3 : Hid (Bytes W3 (fun b => b = W2.heap.size) (.slice (some ⟨W2.heap.size, 0, none⟩) 1 1) [109]) := hby3
          have HG3 : Hid (Blk W3 (W2.heap.size + 1) (msgB W2.heap.size false 0 0) 77) := hbg
          have HP3 : Hid (Pn g Sb wr W3) := hp3
          have HB3 : Hid (Blk W3 wr.heap.size (objC (s, x)).toArray 47) := by unfold Hid; rw [objV_eq]; exact hb3
          have HZ3 : Hid (W3.heap.size = W2.heap.size + 2) := hz3
          have hQ3 : QI W g gk Sb (.slice pa nO pc) vq nO L i W3 := HI.out.next (Nat.le_refl _) hgk hp3
          obtain ⟨aK, cK, MK3, -, -, -, -, -, -, hbk3, -, -, -⟩ := hQ3
          have HBK3 : Hid (Blk W3 gk #[.slice aK MK3.length cK, .slice pa nO pc, vq] 27) := hbk3
          have hck3 := hbk3.cell
          have hgl3 := hbk3.lt
          clear hby hza hpa hba hbg hby3 hp3 hb3 hz3 hbk3 kc
          by_cases hnO : nO = 0
          · have hz0' : ¬ (0 : Int) < (nO : Int) := by omega
            have HB4 := HB3
            have HG4 := HG3
            have HBY4 := HBY3
            have HP4 := HP3
            have HZ4 := HZ3
            have HMS : Hid (Sp.MsgOk nO ⟨[109], false, 0, 0⟩) := ⟨rfl, Or.inr ⟨rfl, rfl, rfl⟩⟩
            generalize W3 = W4 at *
            go_upto_region 75 with fail
            refine reg75_wp _ _ W4 wr.heap.size (W2.heap.size + 1) W2.heap.size s x false 0 0 (HZ.out HK4.out).1 HB4.out HG4.out _ _ _ _ _ _ _ _ _ _ _ _ _ _ _ _ _ _ _ _ _ _ _ _ _ _ _ _ _ _ _ _ _ _ _ _ _ _ _ _ _ _ _ _ _ _ _ _ _ _ _ _ _ _ _ _ _ _ _ _ _ _ _ _ _ _ _ _ _ _ _ _ _ _ _ _ _ _ _ _ _ _ _ _ _ _ _ _ _ _ _ _ _ _ _ _ _ _ _ _ _ _ _ _ _ _ _ _ _ _ _ _ _ _ _ _ _ _ _ _ _ _ _ _ _ _ _ _ _ _ _ _ _ _ _ _ _ _ _ _ _ _ _ _ _ _ _ _ _ _ _ _ _ _ _ _ _ _ _ _ _ _ _ _ _ _ _ _ _ _ _ _ _ _ _ _ _ _ _ _ _ _ _ _ _ _ _ _ _ _ _ _ _ _ _ _ _ _ _ _ _ _ _ _ _ _ _ _ _ _ _ _ _ _ _ _ _ _ _ _ _ _ _ _ _ _ _ _ _ _ _ _ _ _ _ _ _ _ _ _ _ _ _ _ _ _ _ _ _ _ _ _ _ _ _ _ _ _ _ _ _ _ _ _ _ _ _ _ _ _ _ _ _ _ _ _ _ _ _ _ _ _ _ _ _ _ _ _ _ _ _ _ _ _ _ _ _ ?_
            intro y285 y286 y287 y288 y289 y290 W5 r hb5 hr5 ho5 hz5 hbl5
            dsimp only
            have hp4 := HP4.out
            have hz45 := hp4.2.2.1
            have hzz2 := HZ2.out
            have hz24 := HZ4.out
            have HP5 : Hid (Pn g Sb wr W5) := ⟨hp4.1.on ho5 ⟨by omega, by omega⟩ (fun b hb => by have := HSb.out b hb; exact ⟨by omega, by omega⟩), hp4.2.1.trans (ho5.less fun b hb => ⟨by omega, by omega⟩), by omega, fun C hC => (hp4.2.2.2 C hC).trans (hbl5 C (by omega))⟩
            have HB5 : Hid (Blk W5 wr.heap.size (objC (⟨s.d, s.e, r⟩, { x with queue := [⟨[109], false, 0, 0⟩] })).toArray 47) := hb5
            have HL5 : Hid (Lists W5 (fun b => g < b ∧ b < W5.heap.size ∧ b ≠ gk) (⟨s.d, s.e, r⟩, { x with queue := [⟨[109], false, 0, 0⟩] })) := by
              have hon : On (fun b => b < wr.heap.size ∧ b ≠ g) wr W5 := HP5.out.2.1
              refine ⟨(Row.on HLS.out.1 (hon.less fun b hb => ⟨by omega, by omega⟩)).more fun b hb => ⟨hb.1, by omega, hb.2.2⟩, (Row.on HLS.out.2.1 (hon.less fun b hb => ⟨by omega, by omega⟩)).more fun b hb => ⟨hb.1, by omega, hb.2.2⟩, [(⟨some ⟨W2.heap.size, 0, none⟩, 1, 1⟩, ⟨[109], false, 0, 0⟩)], rfl, hr5.more fun b hb => ⟨by omega, hb.2, by omega⟩, fun t ht => ?_⟩
              simp at ht
              subst ht
              exact (Row.on HBY4.out (ho5.less fun b hb => ⟨by omega, by omega⟩)).more fun b hb => ⟨by omega, by omega, by omega⟩
            clear hb5 hr5 ho5 hbl5 hp4
            go_upto_region 76 with fail
            refine reg76_wp _ W W5 g gk wr.heap.size i Sb (.slice pa nO pc) vq nO L ⟨s.d, s.e, r⟩ x ⟨[109], false, 0, 0⟩ HSb.out hgk hgW hL HX.out HK4.out HMS.out (HI.out.next (Nat.le_refl _) hgk HP5.out) HB5.out HL5.out _ _ _ _ _ _ _ _ _ _ _ _ _ _ _ _ _ _ _ _ _ _ _ _ _ _ _ _ _ _ _ _ _ _ _ _ _ _ _ _ _ _ _ _ _ _ _ _ _ _ _ _ _ _ _ _ _ _ _ _ _ _ _ _ _ _ _ _ _ _ _ _ _ _ _ _ _ _ _ _ _ _ _ _ _ _ _ _ _ _ _ _ _ _ _ _ _ _ _ _ _ _ _ _ _ _ _ _ _ _ _ _ _ _ _ _ _ _ _ _ _ _ _ _ _ _ _ _ _ _ _ _ _ _ _ _ _ _ _ _ _ _ _ _ _ _ _ _ _ _ _ _ _ _ _ _ _ _ _ _ _ _ _ _ _ _ _ _ _ _ _ _ _ _ _ _ _ _ _ _ _ _ _ _ _ _ _ _ _ _ _ _ _ _ _ _ _ _ _ _ _ _ _ _ _ _ _ _ _ _ _ _ _ _ _ _ _ _ _ _ _ _ _ _ _ _ _ _ _ _ _ _ _ _ _ _ _ _ _ _ _ _ _ _ _ _ _ _ _ _ _ _ _ _ _ _ _ _ _ _ _ _ _ _ _ _ _ _ _ _ _ _ _ _ _ _ _ _ _ _ _ _ _ _ _ _ _ _ _ _ _ _ _ _ _ _ ?_
            intro y291 y292 y293 y294 y295 y296 W6 hI6
            dsimp only
            have HI6 : Hid (QI W g gk Sb (.slice pa nO pc) vq nO L (i + 1) W6) := hI6
            clear hI6
            go_wp2
            exact ⟨⟨i + 1, by omega, by go_num, HI6.out⟩, by simp [intOf]; omega⟩
          · have hz0' : (0 : Int) < (nO : Int) := by omega
            go_wp2_with fail
            refine (pick_pn g Sb HSb.out 2 (by decide) (by decide) W3 W3 (Pn.refl HP3.out.1)).mono ?_
            rintro e W4 ⟨z, rfl, hz, hp4', ho4, hz4⟩
            have HP34 : Hid (Pn g Sb wr W4) := HP3.out.trans hp4'
            have HB34 : Hid (Blk W4 wr.heap.size (objC (s, x)).toArray 47) := Blk.on HB3.out ho4 (by show wr.heap.size ≠ g; omega)
            have HG34 : Hid (Blk W4 (W2.heap.size + 1) (msgB W2.heap.size false 0 0) 77) := Blk.on HG3.out ho4 (by show W2.heap.size + 1 ≠ g; have := HZ2.out; omega)
            have HBY34 : Hid (Bytes W4 (fun b => b = W2.heap.size) (.slice (some ⟨W2.heap.size, 0, none⟩) 1 1) [109]) := Row.on HBY3.out (ho4.less fun b hb => by show b ≠ g; have := HZ2.out; omega)
            have HZ34 : Hid (W4.heap.size = W2.heap.size + 2) := hz4.trans HZ3.out
            have HBK4 : Hid (Blk W4 gk #[.slice aK MK3.length cK, .slice pa nO pc, vq] 27) := Blk.on HBK3.out ho4 (by show gk ≠ g; omega)
            clear hp4' ho4 hz4 hck3 hgl3
            by_cases hz1 : z = 1
            · subst hz1
              go_upto_region 74 with fail
              refine reg73_wp _ (fun _ _ => True) W4 g gk (W2.heap.size + 1) W2.heap.size Sb nO pc pa (.slice aK MK3.length cK) vq HSb.out hgk (by have := HZ2.out; omega) hnO2 HP34.out.1 HBK4.out HG34.out _ _ _ _ _ _ _ _ _ _ _ _ _ _ _ _ _ _ _ _ _ _ _ _ _ _ _ _ _ _ _ _ _ _ _ _ _ _ _ _ _ _ _ _ _ _ _ _ _ _ _ _ _ _ _ _ _ _ _ _ _ _ _ _ _ _ _ _ _ _ _ _ _ _ _ _ _ _ _ _ _ _ _ _ _ _ _ _ _ _ _ _ _ _ _ _ _ _ _ _ _ _ _ _ _ _ _ _ _ _ _ _ _ _ _ _ _ _ _ _ _ _ _ _ _ _ _ _ _ _ _ _ _ _ _ _ _ _ _ _ _ _ _ _ _ _ _ _ _ _ _ _ _ _ _ _ _ _ _ _ _ _ _ _ _ _ _ _ _ _ _ _ _ _ _ _ _ _ _ _ _ _ _ _ _ _ _ _ _ _ _ _ _ _ _ _ _ _ _ _ _ _ _ _ _ _ _ _ _ _ _ _ _ _ _ _ _ _ _ _ _ _ _ _ _ _ _ _ _ _ _ _ _ _ _ _ _ _ _ _ _ _ _ _ _ _ _ _ _ _ _ _ _ _ _ _ _ _ _ _ _ _ _ _ _ _ _ _ _ _ _ _ _ _ _ _ _ _ _ _ _ _ _ _ _ _ _ _ _ _ _ _ _ _ _ _ ?_ (by omega)
              intro y275 y276 y277 y278 y279 y280 y281 y282 y283 y284 W7 op' rt' hop hrt hg7 hm7 ho7 hz7 hb7
              have HMS : Hid (Sp.MsgOk nO ⟨[109], true, (op' : Int), (rt' : Int)⟩) := ⟨rfl, Or.inl ⟨rfl, by show (0 : Int) ≤ op'; omega, by show (op' : Int) < nO; omega, by show (0 : Int) ≤ rt'; omega, by show (rt' : Int) < 200; omega⟩⟩
              have HG4 : Hid (Blk W7 (W2.heap.size + 1) (msgB W2.heap.size true (op' : Int) (rt' : Int)) 77) := hg7
              have HB4 : Hid (Blk W7 wr.heap.size (objC (s, x)).toArray 47) := Blk.on HB34.out ho7 ⟨by have := HZ34.out; have := HZ2.out; omega, by omega, by have := HZ2.out; omega⟩
              have HBY4 : Hid (Bytes W7 (fun b => b = W2.heap.size) (.slice (some ⟨W2.heap.size, 0, none⟩) 1 1) [109]) := Row.on HBY34.out (ho7.less fun b hb => ⟨by have := HZ34.out; omega, by have := HZ2.out; omega, by omega⟩)
              have HP4 : Hid (Pn g Sb wr W7) := ⟨hm7, HP34.out.2.1.trans (ho7.less fun b hb => ⟨by have := HP34.out.2.2.1; omega, hb.2, by have := HZ2.out; omega⟩), by have := HP34.out.2.2.1; omega, fun C hC => (HP34.out.2.2.2 C hC).trans (hb7 C hC)⟩
              have HZ4 : Hid (W7.heap.size = W2.heap.size + 2) := hz7.trans HZ34.out
              clear hg7 hm7 ho7 hz7 hb7 hop hrt HB34 HG34 HBY34 HP34 HZ34
              generalize (op' : Int) = op at *
              generalize (rt' : Int) = rt at *
              obtain ⟨hh, hhe⟩ : ∃ hh : Bool, hh = true := ⟨_, rfl⟩
              rw [← hhe] at HMS HG4
              clear hhe
              dsimp only
              go_upto_region 75 with fail
              refine reg75_wp _ _ W7 wr.heap.size (W2.heap.size + 1) W2.heap.size s x hh op rt (HZ.out HK4.out).1 HB4.out HG4.out _ _ _ _ _ _ _ _ _ _ _ _ _ _ _ _ _ _ _ _ _ _ _ _ _ _ _ _ _ _ _ _ _ _ _ _ _ _ _ _ _ _ _ _ _ _ _ _ _ _ _ _ _ _ _ _ _ _ _ _ _ _ _ _ _ _ _ _ _ _ _ _ _ _ _ _ _ _ _ _ _ _ _ _ _ _ _ _ _ _ _ _ _ _ _ _ _ _ _ _ _ _ _ _ _ _ _ _ _ _ _ _ _ _ _ _ _ _ _ _ _ _ _ _ _ _ _ _ _ _ _ _ _ _ _ _ _ _ _ _ _ _ _ _ _ _ _ _ _ _ _ _ _ _ _ _ _ _ _ _ _ _ _ _ _ _ _ _ _ _ _ _ _ _ _ _ _ _ _ _ _ _ _ _ _ _ _ _ _ _ _ _ _ _ _ _ _ _ _ _ _ _ _ _ _ _ _ _ _ _ _ _ _ _ _ _ _ _ _ _ _ _ _ _ _ _ _ _ _ _ _ _ _ _ _ _ _ _ _ _ _ _ _ _ _ _ _ _ _ _ _ _ _ _ _ _ _ _ _ _ _ _ _ _ _ _ _ _ _ _ _ _ _ _ _ _ _ _ _ _ _ _ _ _ _ _ _ _ _ _ _ _ _ _ _ _ _ ?_
              intro y285 y286 y287 y288 y289 y290 W5 r hb5 hr5 ho5 hz5 hbl5
              dsimp only
              have hp4 := HP4.out
              have hz45 := hp4.2.2.1
              have hzz2 := HZ2.out
              have hz24 := HZ4.out
              have HP5 : Hid (Pn g Sb wr W5) := ⟨hp4.1.on ho5 ⟨by omega, by omega⟩ (fun b hb => by have := HSb.out b hb; exact ⟨by omega, by omega⟩), hp4.2.1.trans (ho5.less fun b hb => ⟨by omega, by omega⟩), by omega, fun C hC => (hp4.2.2.2 C hC).trans (hbl5 C (by omega))⟩
              have HB5 : Hid (Blk W5 wr.heap.size (objC (⟨s.d, s.e, r⟩, { x with queue := [⟨[109], hh, op, rt⟩] })).toArray 47) := hb5
              have HL5 : Hid (Lists W5 (fun b => g < b ∧ b < W5.heap.size ∧ b ≠ gk) (⟨s.d, s.e, r⟩, { x with queue := [⟨[109], hh, op, rt⟩] })) := by
                have hon : On (fun b => b < wr.heap.size ∧ b ≠ g) wr W5 := HP5.out.2.1
                refine ⟨(Row.on HLS.out.1 (hon.less fun b hb => ⟨by omega, by omega⟩)).more fun b hb => ⟨hb.1, by omega, hb.2.2⟩, (Row.on HLS.out.2.1 (hon.less fun b hb => ⟨by omega, by omega⟩)).more fun b hb => ⟨hb.1, by omega, hb.2.2⟩, [(⟨some ⟨W2.heap.size, 0, none⟩, 1, 1⟩, ⟨[109], hh, op, rt⟩)], rfl, hr5.more fun b hb => ⟨by omega, hb.2, by omega⟩, fun t ht => ?_⟩
                simp at ht
                subst ht
                exact (Row.on HBY4.out (ho5.less fun b hb => ⟨by omega, by omega⟩)).more fun b hb => ⟨by omega, by omega, by omega⟩
              clear hb5 hr5 ho5 hbl5 hp4
              go_upto_region 76 with fail
              refine reg76_wp _ W W5 g gk wr.heap.size i Sb (.slice pa nO pc) vq nO L ⟨s.d, s.e, r⟩ x ⟨[109], hh, op, rt⟩ HSb.out hgk hgW hL HX.out HK4.out HMS.out (HI.out.next (Nat.le_refl _) hgk HP5.out) HB5.out HL5.out _ _ _ _ _ _ _ _ _ _ _ _ _ _ _ _ _ _ _ _ _ _ _ _ _ _ _ _ _ _ _ _ _ _ _ _ _ _ _ _ _ _ _ _ _ _ _ _ _ _ _ _ _ _ _ _ _ _ _ _ _ _ _ _ _ _ _ _ _ _ _ _ _ _ _ _ _ _ _ _ _ _ _ _ _ _ _ _ _ _ _ _ _ _ _ _ _ _ _ _ _ _ _ _ _ _ _ _ _ _ _ _ _ _ _ _ _ _ _ _ _ _ _ _ _ _ _ _ _ _ _ _ _ _ _ _ _ _ _ _ _ _ _ _ _ _ _ _ _ _ _ _ _ _ _ _ _ _ _ _ _ _ _ _ _ _ _ _ _ _ _ _ _ _ _ _ _ _ _ _ _ _ _ _ _ _ _ _ _ _ _ _ _ _ _ _ _ _ _ _ _ _ _ _ _ _ _ _ _ _ _ _ _ _ _ _ _ _ _ _ _ _ _ _ _ _ _ _ _ _ _ _ _ _ _ _ _ _ _ _ _ _ _ _ _ _ _ _ _ _ _ _ _ _ _ _ _ _ _ _ _ _ _ _ _ _ _ _ _ _ _ _ _ _ _ _ _ _ _ _ _ _ _ _ _ _ _ _ _ _ _ _ _ _ _ _ ?_
              intro y291 y292 y293 y294 y295 y296 W6 hI6
              dsimp only
              have HI6 : Hid (QI W g gk Sb (.slice pa nO pc) vq nO L (i + 1) W6) := hI6
              clear hI6
              go_wp2
              exact ⟨⟨i + 1, by omega, by go_num, HI6.out⟩, by simp [intOf]; omega⟩
            · have hzz : ((z : Int) == 1) = false := by simp; omega
              have HB4 := HB34
              have HG4 := HG34
              have HBY4 := HBY34
              have HP4 := HP34
              have HZ4 := HZ34
              have HMS : Hid (Sp.MsgOk nO ⟨[109], false, 0, 0⟩) := ⟨rfl, Or.inr ⟨rfl, rfl, rfl⟩⟩
              go_upto_region 75 with fail
              refine reg75_wp _ _ W4 wr.heap.size (W2.heap.size + 1) W2.heap.size s x false 0 0 (HZ.out HK4.out).1 HB4.out HG4.out _ _ _ _ _ _ _ _ _ _ _ _ _ _ _ _ _ _ _ _ _ _ _ _ _ _ _ _ _ _ _ _ _ _ _ _ _ _ _ _ _ _ _ _ _ _ _ _ _ _ _ _ _ _ _ _ _ _ _ _ _ _ _ _ _ _ _ _ _ _ _ _ _ _ _ _ _ _ _ _ _ _ _ _ _ _ _ _ _ _ _ _ _ _ _ _ _ _ _ _ _ _ _ _ _ _ _ _ _ _ _ _ _ _ _ _ _ _ _ _ _ _ _ _ _ _ _ _ _ _ _ _ _ _ _ _ _ _ _ _ _ _ _ _ _ _ _ _ _ _ _ _ _ _ _ _ _ _ _ _ _ _ _ _ _ _ _ _ _ _ _ _ _ _ _ _ _ _ _ _ _ _ _ _ _ _ _ _ _ _ _ _ _ _ _ _ _ _ _ _ _ _ _ _ _ _ _ _ _ _ _ _ _ _ _ _ _ _ _ _ _ _ _ _ _ _ _ _ _ _ _ _ _ _ _ _ _ _ _ _ _ _ _ _ _ _ _ _ _ _ _ _ _ _ _ _ _ _ _ _ _ _ _ _ _ _ _ _ _ _ _ _ _ _ _ _ _ _ _ _ _ _ _ _ _ _ _ _ _ _ _ _ _ _ _ _ _ ?_
              intro y285 y286 y287 y288 y289 y290 W5 r hb5 hr5 ho5 hz5 hbl5
              dsimp only
              have hp4 := HP4.out
              have hz45 := hp4.2.2.1
              have hzz2 := HZ2.out
              have hz24 := HZ4.out
              have HP5 : Hid (Pn g Sb wr W5) := ⟨hp4.1.on ho5 ⟨by omega, by omega⟩ (fun b hb => by have := HSb.out b hb; exact ⟨by omega, by omega⟩), hp4.2.1.trans (ho5.less fun b hb => ⟨by omega, by omega⟩), by omega, fun C hC => (hp4.2.2.2 C hC).trans (hbl5 C (by omega))⟩
              have HB5 : Hid (Blk W5 wr.heap.size (objC (⟨s.d, s.e, r⟩, { x with queue := [⟨[109], false, 0, 0⟩] })).toArray 47) := hb5
              have HL5 : Hid (Lists W5 (fun b => g < b ∧ b < W5.heap.size ∧ b ≠ gk) (⟨s.d, s.e, r⟩, { x with queue := [⟨[109], false, 0, 0⟩] })) := by
                have hon : On (fun b => b < wr.heap.size ∧ b ≠ g) wr W5 := HP5.out.2.1
                refine ⟨(Row.on HLS.out.1 (hon.less fun b hb => ⟨by omega, by omega⟩)).more fun b hb => ⟨hb.1, by omega, hb.2.2⟩, (Row.on HLS.out.2.1 (hon.less fun b hb => ⟨by omega, by omega⟩)).more fun b hb => ⟨hb.1, by omega, hb.2.2⟩, [(⟨some ⟨W2.heap.size, 0, none⟩, 1, 1⟩, ⟨[109], false, 0, 0⟩)], rfl, hr5.more fun b hb => ⟨by omega, hb.2, by omega⟩, fun t ht => ?_⟩
                simp at ht
                subst ht
                exact (Row.on HBY4.out (ho5.less fun b hb => ⟨by omega, by omega⟩)).more fun b hb => ⟨by omega, by omega, by omega⟩
              clear hb5 hr5 ho5 hbl5 hp4
              go_upto_region 76 with fail
              refine reg76_wp _ W W5 g gk wr.heap.size i Sb (.slice pa nO pc) vq nO L ⟨s.d, s.e, r⟩ x ⟨[109], false, 0, 0⟩ HSb.out hgk hgW hL HX.out HK4.out HMS.out (HI.out.next (Nat.le_refl _) hgk HP5.out) HB5.out HL5.out _ _ _ _ _ _ _ _ _ _ _ _ _ _ _ _ _ _ _ _ _ _ _ _ _ _ _ _ _ _ _ _ _ _ _ _ _ _ _ _ _ _ _ _ _ _ _ _ _ _ _ _ _ _ _ _ _ _ _ _ _ _ _ _ _ _ _ _ _ _ _ _ _ _ _ _ _ _ _ _ _ _ _ _ _ _ _ _ _ _ _ _ _ _ _ _ _ _ _ _ _ _ _ _ _ _ _ _ _ _ _ _ _ _ _ _ _ _ _ _ _ _ _ _ _ _ _ _ _ _ _ _ _ _ _ _ _ _ _ _ _ _ _ _ _ _ _ _ _ _ _ _ _ _ _ _ _ _ _ _ _ _ _ _ _ _ _ _ _ _ _ _ _ _ _ _ _ _ _ _ _ _ _ _ _ _ _ _ _ _ _ _ _ _ _ _ _ _ _ _ _ _ _ _ _ _ _ _ _ _ _ _ _ _ _ _ _ _ _ _ _ _ _ _ _ _ _ _ _ _ _ _ _ _ _ _ _ _ _ _ _ _ _ _ _ _ _ _ _ _ _ _ _ _ _ _ _ _ _ _ _ _ _ _ _ _ _ _ _ _ _ _ _ _ _ _ _ _ _ _ _ _ _ _ _ _ _ _ _ _ _ _ _ _ _ _ ?_
              intro y291 y292 y293 y294 y295 y296 W6 hI6
              dsimp only
              have HI6 : Hid (QI W g gk Sb (.slice pa nO pc) vq nO L (i + 1) W6) := hI6
              clear hI6
              go_wp2
              exact ⟨⟨i + 1, by omega, by go_num, HI6.out⟩, by simp [intOf]; omega⟩
        · have hyz : ((y : Int) == 1) = false := by simp; omega
          go_wp2
          exact ⟨⟨i + 1, by omega, by go_num, HI.out.next (by omega) hgk HP2.out⟩, by simp [intOf]; omega⟩
      · have hkz : (x.kind == 4) = false := by simpa using hk4
        clear hk4
        go_wp2
        exact ⟨⟨i + 1, by omega, by go_num, HI.out.next (by omega) hgk (Pn.alloc (Pn.refl HMK.out) HSb.out (by omega) _)⟩, by simp [intOf]; omega⟩
    · obtain rfl : i = L.length := by omega
      go_wp2
      exact HH.out _ _ _ _ _ _ _ _ _ _ _ _ _ _ _ _ _ _ _ _ _ _ _ _ _ _ _ _ _ _ _ _ _ _ _ _ _ _ _ _ _ _ _ _ _ _ _ _ _ _ _ _ HI.out
end Go.Proofs.YtfiiandnopifnaaDoor
/-
  rgref5.Build, piece by piece: open files, all of them.
-/
namespace Go.Proofs.YtfiiandnopifnaaDoor
open Go.RowKit
/-- Open files of one object. -/
def OJ (W : World) (g gk : Nat) (Sb : Nat → Prop) (vo : Value) (m n M : Nat) (s : Value) (wr : World) : Prop :=
  ∃ (j : Nat) (r : Sl) (O : List Sp.Opn), j ≤ n ∧ s = .int .i64 j ∧ O.length ≤ M + j ∧ OI W g gk Sb vo m r O wr
set_option maxRecDepth 1000000 in
set_option maxHeartbeats 8000000 in
theorem blk11_wp (Q : Exit → Act → World → Prop) (W wr : World) (g gk : Nat) (Sb : Nat → Prop) (vo : Value) (m i n M : Nat) (r : Sl) (O : List Sp.Opn) (hSb : ∀ b, Sb b → b < g) (hgk : g < gk) (hgW : gk < W.heap.size) (hi : i < m) (hn : n ≤ 2) (hM : M ≤ 90) (hO : O.length ≤ M) (hI : OI W g gk Sb vo m r O wr)
    (x0 x1 x2 x4 x5 x6 x7 x8 x9 x10 x11 x12 x13 x14 x15 x16 x17 x18 x20 x21 x22 x23 x24 x26 x27 x28 x29 x30 x31 x32 x33 x34 x35 x36 x37 x38 x39 x40 x41 x42 x43 x44 x45 x46 x47 x48 x49 x50 x51 x52 x53 x54 x55 x56 x57 x58 x59 x60 x61 x62 x63 x64 x65 x66 x67 x68 x69 x70 x71 x72 x73 x74 x75 x76 x77 x78 x79 x80 x81 x82 x83 x84 x85 x86 x87 x88 x89 x90 x91 x92 x93 x94 x95 x96 x97 x98 x99 x100 x101 x102 x103 x104 x105 x106 x107 x108 x109 x110 x111 x112 x113 x114 x115 x116 x117 x118 x119 x120 x121 x122 x123 x124 x125 x126 x127 x128 x129 x130 x131 x132 x133 x134 x135 x136 x137 x138 x139 x140 x141 x142 x143 x144 x145 x146 x147 x148 x149 x150 x151 x152 x153 x154 x155 x156 x157 x158 x159 x160 x161 x162 x163 x164 x165 x166 x167 x168 x169 x172 x173 x174 x175 x176 x177 x178 x179 x180 x181 x182 x183 x184 x185 x186 x187 x188 x189 x190 x191 x192 x193 x194 x195 x196 x197 x198 x199 x200 x201 x202 x203 x204 x205 x206 x207 x208 x209 x210 x211 x212 x213 x214 x215 x216 x217 x218 x219 x220 x221 x222 x223 x224 x225 x226 x227 x228 x229 x230 x231 x232 x233 x234 x235 x236 x237 x238 x239 x240 x241 x242 x243 x244 x245 x246 x247 x248 x249 x250 x251 x252 x253 x254 x255 x256 x257 x258 x259 x260 x261 x262 x263 x264 x265 x266 x267 x268 x269 x270 x271 x272 x273 x274 x275 x276 x277 x278 x279 x280 x281 x282 x283 x284 x285 x286 x287 x288 x289 x290 x291 x292 x293 x294 x295 x296 x297 x298 : Value)
    (h : ∀ (y171 y172 y173 y174 y175 y176 y177 y178 y179 y180 y181 y182 : Value) (W' : World) (r' : Sl) (O' : List Sp.Opn), O'.length ≤ M + 2 → OI W g gk Sb vo m r' O' W' → Q .normal ⟨#[x0, x1, x2, .pointer (some ⟨g, 0, none⟩), x4, x5, x6, x7, x8, x9, x10, x11, x12, x13, x14, x15, x16, x17, x18, .pointer (some ⟨gk, 0, none⟩), x20, x21, x22, x23, x24, .int .i64 i, x26, x27, x28, x29, x30, x31, x32, x33, x34, x35, x36, x37, x38, x39, x40, x41, x42, x43, x44, x45, x46, x47, x48, x49, x50, x51, x52, x53, x54, x55, x56, x57, x58, x59, x60, x61, x62, x63, x64, x65, x66, x67, x68, x69, x70, x71, x72, x73, x74, x75, x76, x77, x78, x79, x80, x81, x82, x83, x84, x85, x86, x87, x88, x89, x90, x91, x92, x93, x94, x95, x96, x97, x98, x99, x100, x101, x102, x103, x104, x105, x106, x107, x108, x109, x110, x111, x112, x113, x114, x115, x116, x117, x118, x119, x120, x121, x122, x123, x124, x125, x126, x127, x128, x129, x130, x131, x132, x133, x134, x135, x136, x137, x138, x139, x140, x141, x142, x143, x144, x145, x146, x147, x148, x149, x150, x151, x152, x153, x154, x155, x156, x157, x158, x159, x160, x161, x162, x163, x164, x165, x166, x167, x168, x169, .int .i64 n, y171, y172, y173, y174, y175, y176, y177, y178, y179, y180, y181, y182, x183, x184, x185, x186, x187, x188, x189, x190, x191, x192, x193, x194, x195, x196, x197, x198, x199, x200, x201, x202, x203, x204, x205, x206, x207, x208, x209, x210, x211, x212, x213, x214, x215, x216, x217, x218, x219, x220, x221, x222, x223, x224, x225, x226, x227, x228, x229, x230, x231, x232, x233, x234, x235, x236, x237, x238, x239, x240, x241, x242, x243, x244, x245, x246, x247, x248, x249, x250, x251, x252, x253, x254, x255, x256, x257, x258, x259, x260, x261, x262, x263, x264, x265, x266, x267, x268, x269, x270, x271, x272, x273, x274, x275, x276, x277, x278, x279, x280, x281, x282, x283, x284, x285, x286, x287, x288, x289, x290, x291, x292, x293, x294, x295, x296, x297, x298], []⟩ W') :
    Code.wp Tryd.prog ((Tryd.f8.body.bind (findBlock 11)).getD .skip) Q ⟨#[x0, x1, x2, .pointer (some ⟨g, 0, none⟩), x4, x5, x6, x7, x8, x9, x10, x11, x12, x13, x14, x15, x16, x17, x18, .pointer (some ⟨gk, 0, none⟩), x20, x21, x22, x23, x24, .int .i64 i, x26, x27, x28, x29, x30, x31, x32, x33, x34, x35, x36, x37, x38, x39, x40, x41, x42, x43, x44, x45, x46, x47, x48, x49, x50, x51, x52, x53, x54, x55, x56, x57, x58, x59, x60, x61, x62, x63, x64, x65, x66, x67, x68, x69, x70, x71, x72, x73, x74, x75, x76, x77, x78, x79, x80, x81, x82, x83, x84, x85, x86, x87, x88, x89, x90, x91, x92, x93, x94, x95, x96, x97, x98, x99, x100, x101, x102, x103, x104, x105, x106, x107, x108, x109, x110, x111, x112, x113, x114, x115, x116, x117, x118, x119, x120, x121, x122, x123, x124, x125, x126, x127, x128, x129, x130, x131, x132, x133, x134, x135, x136, x137, x138, x139, x140, x141, x142, x143, x144, x145, x146, x147, x148, x149, x150, x151, x152, x153, x154, x155, x156, x157, x158, x159, x160, x161, x162, x163, x164, x165, x166, x167, x168, x169, .int .i64 n, .int .i64 0, x172, x173, x174, x175, x176, x177, x178, x179, x180, x181, x182, x183, x184, x185, x186, x187, x188, x189, x190, x191, x192, x193, x194, x195, x196, x197, x198, x199, x200, x201, x202, x203, x204, x205, x206, x207, x208, x209, x210, x211, x212, x213, x214, x215, x216, x217, x218, x219, x220, x221, x222, x223, x224, x225, x226, x227, x228, x229, x230, x231, x232, x233, x234, x235, x236, x237, x238, x239, x240, x241, x242, x243, x244, x245, x246, x247, x248, x249, x250, x251, x252, x253, x254, x255, x256, x257, x258, x259, x260, x261, x262, x263, x264, x265, x266, x267, x268, x269, x270, x271, x272, x273, x274, x275, x276, x277, x278, x279, x280, x281, x282, x283, x284, x285, x286, x287, x288, x289, x290, x291, x292, x293, x294, x295, x296, x297, x298], []⟩ wr := by
  have HH : Hid (∀ (y171 y172 y173 y174 y175 y176 y177 y178 y179 y180 y181 y182 : Value) (W' : World) (r' : Sl) (O' : List Sp.Opn), O'.length ≤ M + 2 → OI W g gk Sb vo m r' O' W' → Q .normal ⟨#[x0, x1, x2, .pointer (some ⟨g, 0, none⟩), x4, x5, x6, x7, x8, x9, x10, x11, x12, x13, x14, x15, x16, x17, x18, .pointer (some ⟨gk, 0, none⟩), x20, x21, x22, x23, x24, .int .i64 i, x26, x27, x28, x29, x30, x31, x32, x33, x34, x35, x36, x37, x38, x39, x40, x41, x42, x43, x44, x45, x46, x47, x48, x49, x50, x51, x52, x53, x54, x55, x56, x57, x58, x59, x60, x61, x62, x63, x64, x65, x66, x67, x68, x69, x70, x71, x72, x73, x74, x75, x76, x77, x78, x79, x80, x81, x82, x83, x84, x85, x86, x87, x88, x89, x90, x91, x92, x93, x94, x95, x96, x97, x98, x99, x100, x101, x102, x103, x104, x105, x106, x107, x108, x109, x110, x111, x112, x113, x114, x115, x116, x117, x118, x119, x120, x121, x122, x123, x124, x125, x126, x127, x128, x129, x130, x131, x132, x133, x134, x135, x136, x137, x138, x139, x140, x141, x142, x143, x144, x145, x146, x147, x148, x149, x150, x151, x152, x153, x154, x155, x156, x157, x158, x159, x160, x161, x162, x163, x164, x165, x166, x167, x168, x169, .int .i64 n, y171, y172, y173, y174, y175, y176, y177, y178, y179, y180, y181, y182, x183, x184, x185, x186, x187, x188, x189, x190, x191, x192, x193, x194, x195, x196, x197, x198, x199, x200, x201, x202, x203, x204, x205, x206, x207, x208, x209, x210, x211, x212, x213, x214, x215, x216, x217, x218, x219, x220, x221, x222, x223, x224, x225, x226, x227, x228, x229, x230, x231, x232, x233, x234, x235, x236, x237, x238, x239, x240, x241, x242, x243, x244, x245, x246, x247, x248, x249, x250, x251, x252, x253, x254, x255, x256, x257, x258, x259, x260, x261, x262, x263, x264, x265, x266, x267, x268, x269, x270, x271, x272, x273, x274, x275, x276, x277, x278, x279, x280, x281, x282, x283, x284, x285, x286, x287, x288, x289, x290, x291, x292, x293, x294, x295, x296, x297, x298], []⟩ W') := h
  have HS0 : Hid (OJ W g gk Sb vo m n M (.int .i64 0) wr) := ⟨0, r, O, Nat.zero_le _, rfl, hO, hI⟩
  have HSb : Hid (∀ b, Sb b → b < g) := hSb
  have hnz : (n : Int) ≤ 2 := by omega
  clear h hI hSb hO
  conv => arg 2; whnf
  go_wp2_with fail
  go_loopw [171] (fun s wz => OJ W g gk Sb vo m n M s wz) (fun s _ => n - (intOf s).toNat)
  case atStart => exact HS0.out
  case round =>
    obtain ⟨j, r, O, hj, rfl, hO, hI⟩ := hrel
    clear HS0
    have HI : Hid (OI W g gk Sb vo m r O wr) := hI
    have HO : Hid (O.length ≤ M + j) := hO
    clear hI hO
    by_cases hlt : j < n
    · go_upto_region 50 with fail
      refine reg50_wp _ W _ g gk Sb vo m i r O HSb.out hgk hgW hi (by have := HO.out; omega) HI.out _ _ _ _ _ _ _ _ _ _ _ _ _ _ _ _ _ _ _ _ _ _ _ _ _ _ _ _ _ _ _ _ _ _ _ _ _ _ _ _ _ _ _ _ _ _ _ _ _ _ _ _ _ _ _ _ _ _ _ _ _ _ _ _ _ _ _ _ _ _ _ _ _ _ _ _ _ _ _ _ _ _ _ _ _ _ _ _ _ _ _ _ _ _ _ _ _ _ _ _ _ _ _ _ _ _ _ _ _ _ _ _ _ _ _ _ _ _ _ _ _ _ _ _ _ _ _ _ _ _ _ _ _ _ _ _ _ _ _ _ _ _ _ _ _ _ _ _ _ _ _ _ _ _ _ _ _ _ _ _ _ _ _ _ _ _ _ _ _ _ _ _ _ _ _ _ _ _ _ _ _ _ _ _ _ _ _ _ _ _ _ _ _ _ _ _ _ _ _ _ _ _ _ _ _ _ _ _ _ _ _ _ _ _ _ _ _ _ _ _ _ _ _ _ _ _ _ _ _ _ _ _ _ _ _ _ _ _ _ _ _ _ _ _ _ _ _ _ _ _ _ _ _ _ _ _ _ _ _ _ _ _ _ _ _ _ _ _ _ _ _ _ _ _ _ _ _ _ _ _ _ _ _ _ _ _ _ _ _ _ _ _ _ _ _ _ ?_
      intro y173 y174 y175 y176 y177 y178 y179 y180 y181 W2 r2 y hI2
      dsimp only
      have HI2 : Hid (OI W g gk Sb vo m r2 (O ++ [(⟨(i : Int), (y : Int)⟩ : Sp.Opn)]) W2) := hI2
      clear hI2
      go_wp2
      exact ⟨⟨j + 1, r2, O ++ [(⟨(i : Int), (y : Int)⟩ : Sp.Opn)], by omega, by go_num, by have := HO.out; simp; omega, HI2.out⟩, by simp [intOf]; omega⟩
    · go_wp2
      exact HH.out _ _ _ _ _ _ _ _ _ _ _ _ _ r O (by have := HO.out; omega) HI.out
/-- Open files, object by object. -/
def OK9 (W : World) (g gk : Nat) (Sb : Nat → Prop) (vo : Value) (m : Nat) (s : Value) (wr : World) : Prop :=
  ∃ (i : Nat) (r : Sl) (O : List Sp.Opn), i ≤ m ∧ s = .int .i64 i ∧ O.length ≤ 2 * i ∧ OI W g gk Sb vo m r O wr
set_option maxRecDepth 1000000 in
set_option maxHeartbeats 8000000 in
theorem blk9_wp (Q : Exit → Act → World → Prop) (K : Act → World → Prop) (W : World) (g gk : Nat) (Sb : Nat → Prop) (vo : Value) (m : Nat) (hm : m ≤ 14) (hSb : ∀ b, Sb b → b < g) (hgk : g < gk) (hmk : MK W g Sb) (hbk : Blk W gk #[vo, .slice none 0 0, .slice none 0 0] 27)
    (x0 x1 x2 x4 x5 x6 x7 x8 x9 x10 x11 x12 x13 x14 x15 x16 x17 x18 x20 x21 x22 x23 x24 x25 x26 x27 x28 x29 x30 x31 x32 x33 x34 x35 x36 x37 x38 x39 x40 x41 x42 x43 x44 x45 x46 x47 x48 x49 x50 x51 x52 x53 x54 x55 x56 x57 x58 x59 x60 x61 x62 x63 x64 x65 x66 x67 x68 x69 x70 x71 x72 x73 x74 x75 x76 x77 x78 x79 x80 x81 x82 x83 x84 x85 x86 x87 x88 x89 x90 x91 x92 x93 x94 x95 x96 x97 x98 x99 x100 x101 x102 x103 x104 x105 x106 x107 x108 x109 x110 x111 x112 x113 x114 x115 x116 x117 x118 x119 x120 x121 x122 x123 x124 x125 x126 x127 x128 x129 x130 x131 x132 x133 x134 x135 x136 x137 x138 x139 x140 x141 x142 x143 x144 x145 x146 x147 x148 x149 x150 x151 x152 x153 x154 x155 x156 x157 x158 x159 x160 x161 x162 x163 x164 x167 x168 x169 x170 x171 x172 x173 x174 x175 x176 x177 x178 x179 x180 x181 x182 x183 x184 x185 x186 x187 x188 x189 x190 x191 x192 x193 x194 x195 x196 x197 x198 x199 x200 x201 x202 x203 x204 x205 x206 x207 x208 x209 x210 x211 x212 x213 x214 x215 x216 x217 x218 x219 x220 x221 x222 x223 x224 x225 x226 x227 x228 x229 x230 x231 x232 x233 x234 x235 x236 x237 x238 x239 x240 x241 x242 x243 x244 x245 x246 x247 x248 x249 x250 x251 x252 x253 x254 x255 x256 x257 x258 x259 x260 x261 x262 x263 x264 x265 x266 x267 x268 x269 x270 x271 x272 x273 x274 x275 x276 x277 x278 x279 x280 x281 x282 x283 x284 x285 x286 x287 x288 x289 x290 x291 x292 x293 x294 x295 x296 x297 x298 : Value)
    (h : ∀ (y25 y166 y167 y168 y169 y170 y171 y172 y173 y174 y175 y176 y177 y178 y179 y180 y181 y182 y183 : Value) (W' : World) (r' : Sl) (O' : List Sp.Opn), O'.length ≤ 28 → OI W g gk Sb vo m r' O' W' → K ⟨#[x0, x1, x2, .pointer (some ⟨g, 0, none⟩), x4, x5, x6, x7, x8, x9, x10, x11, x12, x13, x14, x15, x16, x17, x18, .pointer (some ⟨gk, 0, none⟩), x20, x21, x22, x23, x24, y25, x26, x27, x28, x29, x30, x31, x32, x33, x34, x35, x36, x37, x38, x39, x40, x41, x42, x43, x44, x45, x46, x47, x48, x49, x50, x51, x52, x53, x54, x55, x56, x57, x58, x59, x60, x61, x62, x63, x64, x65, x66, x67, x68, x69, x70, x71, x72, x73, x74, x75, x76, x77, x78, x79, x80, x81, x82, x83, x84, x85, x86, x87, x88, x89, x90, x91, x92, x93, x94, x95, x96, x97, x98, x99, x100, x101, x102, x103, x104, x105, x106, x107, x108, x109, x110, x111, x112, x113, x114, x115, x116, x117, x118, x119, x120, x121, x122, x123, x124, x125, x126, x127, x128, x129, x130, x131, x132, x133, x134, x135, x136, x137, x138, x139, x140, x141, x142, x143, x144, x145, x146, x147, x148, x149, x150, x151, x152, x153, x154, x155, x156, x157, x158, x159, x160, x161, x162, x163, x164, .int .i64 m, y166, y167, y168, y169, y170, y171, y172, y173, y174, y175, y176, y177, y178, y179, y180, y181, y182, y183, x184, x185, x186, x187, x188, x189, x190, x191, x192, x193, x194, x195, x196, x197, x198, x199, x200, x201, x202, x203, x204, x205, x206, x207, x208, x209, x210, x211, x212, x213, x214, x215, x216, x217, x218, x219, x220, x221, x222, x223, x224, x225, x226, x227, x228, x229, x230, x231, x232, x233, x234, x235, x236, x237, x238, x239, x240, x241, x242, x243, x244, x245, x246, x247, x248, x249, x250, x251, x252, x253, x254, x255, x256, x257, x258, x259, x260, x261, x262, x263, x264, x265, x266, x267, x268, x269, x270, x271, x272, x273, x274, x275, x276, x277, x278, x279, x280, x281, x282, x283, x284, x285, x286, x287, x288, x289, x290, x291, x292, x293, x294, x295, x296, x297, x298], []⟩ W') :
    Code.wp Tryd.prog ((Tryd.f8.body.bind (findBlock 9)).getD .skip) (Exit.then K Q) ⟨#[x0, x1, x2, .pointer (some ⟨g, 0, none⟩), x4, x5, x6, x7, x8, x9, x10, x11, x12, x13, x14, x15, x16, x17, x18, .pointer (some ⟨gk, 0, none⟩), x20, x21, x22, x23, x24, x25, x26, x27, x28, x29, x30, x31, x32, x33, x34, x35, x36, x37, x38, x39, x40, x41, x42, x43, x44, x45, x46, x47, x48, x49, x50, x51, x52, x53, x54, x55, x56, x57, x58, x59, x60, x61, x62, x63, x64, x65, x66, x67, x68, x69, x70, x71, x72, x73, x74, x75, x76, x77, x78, x79, x80, x81, x82, x83, x84, x85, x86, x87, x88, x89, x90, x91, x92, x93, x94, x95, x96, x97, x98, x99, x100, x101, x102, x103, x104, x105, x106, x107, x108, x109, x110, x111, x112, x113, x114, x115, x116, x117, x118, x119, x120, x121, x122, x123, x124, x125, x126, x127, x128, x129, x130, x131, x132, x133, x134, x135, x136, x137, x138, x139, x140, x141, x142, x143, x144, x145, x146, x147, x148, x149, x150, x151, x152, x153, x154, x155, x156, x157, x158, x159, x160, x161, x162, x163, x164, .int .i64 m, .int .i64 0, x167, x168, x169, x170, x171, x172, x173, x174, x175, x176, x177, x178, x179, x180, x181, x182, x183, x184, x185, x186, x187, x188, x189, x190, x191, x192, x193, x194, x195, x196, x197, x198, x199, x200, x201, x202, x203, x204, x205, x206, x207, x208, x209, x210, x211, x212, x213, x214, x215, x216, x217, x218, x219, x220, x221, x222, x223, x224, x225, x226, x227, x228, x229, x230, x231, x232, x233, x234, x235, x236, x237, x238, x239, x240, x241, x242, x243, x244, x245, x246, x247, x248, x249, x250, x251, x252, x253, x254, x255, x256, x257, x258, x259, x260, x261, x262, x263, x264, x265, x266, x267, x268, x269, x270, x271, x272, x273, x274, x275, x276, x277, x278, x279, x280, x281, x282, x283, x284, x285, x286, x287, x288, x289, x290, x291, x292, x293, x294, x295, x296, x297, x298], []⟩ W := by
  have HH : Hid (∀ (y25 y166 y167 y168 y169 y170 y171 y172 y173 y174 y175 y176 y177 y178 y179 y180 y181 y182 y183 : Value) (W' : World) (r' : Sl) (O' : List Sp.Opn), O'.length ≤ 28 → OI W g gk Sb vo m r' O' W' → K ⟨#[x0, x1, x2, .pointer (some ⟨g, 0, none⟩), x4, x5, x6, x7, x8, x9, x10, x11, x12, x13, x14, x15, x16, x17, x18, .pointer (some ⟨gk, 0, none⟩), x20, x21, x22, x23, x24, y25, x26, x27, x28, x29, x30, x31, x32, x33, x34, x35, x36, x37, x38, x39, x40, x41, x42, x43, x44, x45, x46, x47, x48, x49, x50, x51, x52, x53, x54, x55, x56, x57, x58, x59, x60, x61, x62, x63, x64, x65, x66, x67, x68, x69, x70, x71, x72, x73, x74, x75, x76, x77, x78, x79, x80, x81, x82, x83, x84, x85, x86, x87, x88, x89, x90, x91, x92, x93, x94, x95, x96, x97, x98, x99, x100, x101, x102, x103, x104, x105, x106, x107, x108, x109, x110, x111, x112, x113, x114, x115, x116, x117, x118, x119, x120, x121, x122, x123, x124, x125, x126, x127, x128, x129, x130, x131, x132, x133, x134, x135, x136, x137, x138, x139, x140, x141, x142, x143, x144, x145, x146, x147, x148, x149, x150, x151, x152, x153, x154, x155, x156, x157, x158, x159, x160, x161, x162, x163, x164, .int .i64 m, y166, y167, y168, y169, y170, y171, y172, y173, y174, y175, y176, y177, y178, y179, y180, y181, y182, y183, x184, x185, x186, x187, x188, x189, x190, x191, x192, x193, x194, x195, x196, x197, x198, x199, x200, x201, x202, x203, x204, x205, x206, x207, x208, x209, x210, x211, x212, x213, x214, x215, x216, x217, x218, x219, x220, x221, x222, x223, x224, x225, x226, x227, x228, x229, x230, x231, x232, x233, x234, x235, x236, x237, x238, x239, x240, x241, x242, x243, x244, x245, x246, x247, x248, x249, x250, x251, x252, x253, x254, x255, x256, x257, x258, x259, x260, x261, x262, x263, x264, x265, x266, x267, x268, x269, x270, x271, x272, x273, x274, x275, x276, x277, x278, x279, x280, x281, x282, x283, x284, x285, x286, x287, x288, x289, x290, x291, x292, x293, x294, x295, x296, x297, x298], []⟩ W') := h
  have HS0 : Hid (OK9 W g gk Sb vo m (.int .i64 0) W) := ⟨0, nilSl, [], Nat.zero_le _, rfl, by simp, hmk, hbk, Mine.nil _ _ _ _, fun x hx => by simp at hx, fun _ _ => rfl, fun C _ => Below.refl C W⟩
  have HSb : Hid (∀ b, Sb b → b < g) := hSb
  have hgW := hbk.lt
  have hmz : (m : Int) ≤ 14 := by omega
  clear h hSb hmk hbk
  conv => arg 2; whnf
  go_wp2_with fail
  go_loopw [166] (fun s wz => OK9 W g gk Sb vo m s wz) (fun s _ => m - (intOf s).toNat)
  case atStart => exact HS0.out
  case round =>
    obtain ⟨i, r, O, hi, rfl, hO, hI⟩ := hrel
    clear HS0
    have HI : Hid (OI W g gk Sb vo m r O wr) := hI
    have HO : Hid (O.length ≤ 2 * i) := hO
    clear hI hO
    by_cases hlt : i < m
    · go_wp2_with fail
      refine (pick_any g Sb 3 (by decide) (by decide) _ HI.out.1 (fun b hb => by have := HSb.out b hb; omega)).mono ?_
      rintro e W1 ⟨n, rfl, hn, hmk1, hon1, hz1, hbl1⟩
      have HI1 : Hid (OI W g gk Sb vo m r O W1) := by
        obtain ⟨h1, h2, h3, h4, h5, h6⟩ := HI.out
        exact ⟨hmk1, h2.on hon1 (by show gk ≠ g; omega), h3.on hon1 fun k hk => by have := (h3.lt k hk).1; show k ≠ g; omega, h4, h5.trans (hon1.less fun b hb => hb.2.1), fun C hC => (h6 C hC).trans (hbl1 C hC)⟩
      clear hmk1 hon1 hz1 hbl1
      go_upto_block 11 with fail
      refine blk11_wp _ W W1 g gk Sb vo m i n (2 * i) r O HSb.out hgk hgW hlt (by omega) (by omega) HO.out HI1.out _ _ _ _ _ _ _ _ _ _ _ _ _ _ _ _ _ _ _ _ _ _ _ _ _ _ _ _ _ _ _ _ _ _ _ _ _ _ _ _ _ _ _ _ _ _ _ _ _ _ _ _ _ _ _ _ _ _ _ _ _ _ _ _ _ _ _ _ _ _ _ _ _ _ _ _ _ _ _ _ _ _ _ _ _ _ _ _ _ _ _ _ _ _ _ _ _ _ _ _ _ _ _ _ _ _ _ _ _ _ _ _ _ _ _ _ _ _ _ _ _ _ _ _ _ _ _ _ _ _ _ _ _ _ _ _ _ _ _ _ _ _ _ _ _ _ _ _ _ _ _ _ _ _ _ _ _ _ _ _ _ _ _ _ _ _ _ _ _ _ _ _ _ _ _ _ _ _ _ _ _ _ _ _ _ _ _ _ _ _ _ _ _ _ _ _ _ _ _ _ _ _ _ _ _ _ _ _ _ _ _ _ _ _ _ _ _ _ _ _ _ _ _ _ _ _ _ _ _ _ _ _ _ _ _ _ _ _ _ _ _ _ _ _ _ _ _ _ _ _ _ _ _ _ _ _ _ _ _ _ _ _ _ _ _ _ _ _ _ _ _ _ _ _ _ _ _ _ _ _ _ _ _ _ _ _ _ _ _ _ _ _ _ _ ?_
      intro y171 y172 y173 y174 y175 y176 y177 y178 y179 y180 y181 y182 W2 r2 O2 hO2 hI2
      dsimp only
      have HI2 : Hid (OI W g gk Sb vo m r2 O2 W2) := hI2
      have HO2 : Hid (O2.length ≤ 2 * i + 2) := hO2
      clear hI2 hO2
      go_wp2
      exact ⟨⟨i + 1, r2, O2, by omega, by go_num, by have := HO2.out; omega, HI2.out⟩, by simp [intOf]; omega⟩
    · go_wp2
      exact HH.out _ _ _ _ _ _ _ _ _ _ _ _ _ _ _ _ _ _ _ _ r O (by have := HO.out; omega) HI.out
end Go.Proofs.YtfiiandnopifnaaDoor
/-
  rgref5.Build, whole.
-/
namespace Go.Proofs.YtfiiandnopifnaaDoor
open Go.RowKit
/-- Processes lie there, with their tables. -/
def Procs (w : World) (S : Nat → Prop) (v : Value) (P : List Sp.Prc) : Prop :=
  ∃ ts : List (Sl × Sp.Prc), P = ts.map Prod.snd ∧ Row w S 4 v (ts.map prcC) ∧ ∀ t ∈ ts, Row w S 3 (.slice t.1.a t.1.n t.1.c) (t.2.slots.map sltC)
/-- A kernel lies there. -/
def Kern (w : World) (S : Nat → Prop) (vo vp vq : Value) (L : List Sp.Ob) (O : List Sp.Opn) (P : List Sp.Prc) : Prop :=
  Objs w S vo L ∧ Row w S 2 vp (O.map opnC) ∧ Procs w S vq P
def nil3 : Array Value := #[.slice none 0 0, .slice none 0 0, .slice none 0 0]
theorem procs_lt {L : List Sp.Ob} {n : Nat} (hK : ∀ o ∈ L, o.kind ≤ 4) (hn : 1 ≤ n) : ∀ o ∈ L ++ procsL n, o.kind = 5 → o.proc < (n : Int) := by
  intro o ho hk
  rcases List.mem_append.1 ho with h | h
  · have := hK o h; omega
  · obtain ⟨p, hp, rfl⟩ := List.mem_map.1 h
    have := List.mem_range.1 hp
    show (p : Int) + 1 < n
    omega
theorem procs_all {L : List Sp.Ob} {n p : Nat} (h1 : 1 ≤ p) (h2 : p < n) : Sp.obP (p : Int) ∈ L ++ procsL n := by
  refine List.mem_append.2 (Or.inr (List.mem_map.2 ⟨p - 1, List.mem_range.2 (by omega), ?_⟩))
  congr 1
  omega
theorem kok_of {L M : List Sp.Ob} {O : List Sp.Opn} {ts : List (Sl × Sp.Prc)} {n : Nat} (hn1 : 1 ≤ n) (hn3 : n ≤ 3) (hK : ∀ o ∈ L, o.kind ≤ 4) (hL : L.length ≤ 12) (hM : M.length = (L ++ procsL n).length) (hT : Sp.TOk M) (h4 : ∀ (j : Nat) (o : Sp.Ob), M[j]? = some o → ∃ o' : Sp.Ob, (L ++ procsL n)[j]? = some o' ∧ o.kind = o'.kind ∧ o.proc = o'.proc) (h5 : ∀ o ∈ M, ∀ m ∈ o.queue, Sp.MsgOk O.length m) (hO : ∀ x ∈ O, Sp.OpnOk (L ++ procsL n).length x) (hO2 : O.length ≤ 28) (hts : ts.length = n) (hp : ∀ t ∈ ts, Sp.PrcOk O.length t.2) (hf : ∀ t, ts[0]? = some t → t.2.live = true) : Sp.KOk M O (ts.map Prod.snd) := by
  have hlen : (L ++ procsL n).length = L.length + (n - 1) := by rw [List.length_append, procsL_len]
  refine ⟨hT, by omega, fun x hx => by rw [hM]; exact hO x hx, hO2, fun x hx => ?_, by rw [List.length_map]; omega, fun x hx => ?_, h5, fun o ho hk => ?_, fun p h1 h2 => ?_⟩
  · obtain ⟨t, ht, rfl⟩ := List.mem_map.1 hx
    exact hp t ht
  · rw [List.getElem?_map] at hx
    cases h0 : ts[0]? with
    | none => rw [h0] at hx; cases hx
    | some t => rw [h0] at hx; cases hx; exact hf t h0
  · obtain ⟨j, hj, rfl⟩ := List.getElem_of_mem ho
    obtain ⟨o', g1, g2, g3⟩ := h4 j _ (List.getElem?_eq_getElem hj)
    rw [List.length_map, hts, g3]
    exact procs_lt hK hn1 o' (List.mem_of_getElem? g1) (g2 ▸ hk)
  · rw [List.length_map, hts] at h2
    obtain ⟨j, hj, he⟩ := List.getElem_of_mem (procs_all (L := L) h1 h2)
    have hjM : j < M.length := by omega
    obtain ⟨o', g1, g2, g3⟩ := h4 j _ (List.getElem?_eq_getElem hjM)
    rw [List.getElem?_eq_getElem hj, he] at g1
    cases g1
    exact ⟨M[j], List.getElem_mem hjM, g2, g3⟩
theorem qn_none {L : List Sp.Ob} {w : World} {S : Nat → Prop} {v : Value} (hT : Sp.TOk L) (h : ObjsP QN w S v L) : ∀ o ∈ L, o.queue = [] := by
  intro o ho
  obtain ⟨i, hi, rfl⟩ := List.getElem_of_mem ho
  by_cases hk : L[i].kind = 4
  · obtain ⟨ts, rfl, _, _, h4⟩ := h
    rw [List.length_map] at hi
    rw [List.getElem_map] at hk ⊢
    exact (h4 _ (List.getElem_mem hi) hk).2
  · exact (hT.all i _ (List.getElem?_eq_getElem hi)).noqueue hk
theorem start_ok (l : List UInt8) (va : Option Addr) (vc : Nat) (w W1 : World) (hv : Bytes w (fun b => b < w.heap.size) (.slice va (l.map byteC).length vc) l) (hW : W1 = ((((w.alloc (.cells #[.slice none 0 0, .slice none 0 0, .slice none 0 0] 27)).alloc (.cells #[.slice va l.length vc] 60)).alloc (.cells #[.int .i64 2, .slice none 0 0, .slice none 0 0, .string ⟨#[]⟩, .int .i64 (-1), .slice none 0 0, .int .i64 (-1), .int .i64 1, .int .i64 0] 47)).alloc (.cells #[.string ⟨#[97]⟩, .string ⟨#[98]⟩, .string ⟨#[99]⟩, .string ⟨#[100]⟩] 9))) :
    BI w (w.heap.size + 1) (some ⟨w.heap.size + 1 + 1, 0, none⟩) 1 [Sp.rootO] W1 := by
  rw [List.length_map] at hv
  have b0 := Blk.new w #[.slice none 0 0, .slice none 0 0, .slice none 0 0] 27
  have z0 : (w.alloc (.cells #[.slice none 0 0, .slice none 0 0, .slice none 0 0] 27)).heap.size = w.heap.size + 1 := by simp
  have o0 := On.alloc w (.cells #[.slice none 0 0, .slice none 0 0, .slice none 0 0] 27)
  have l0 : Below w.heap.size w (w.alloc (.cells #[.slice none 0 0, .slice none 0 0, .slice none 0 0] 27)) := (Below.refl _ _).alloc (Nat.le_refl _) _
  generalize w.alloc (.cells #[.slice none 0 0, .slice none 0 0, .slice none 0 0] 27) = A0 at *
  have b1 := Blk.new A0 #[.slice va l.length vc] 60
  have z1 : (A0.alloc (.cells #[.slice va l.length vc] 60)).heap.size = w.heap.size + 2 := by simp; omega
  have o1 := On.alloc A0 (.cells #[.slice va l.length vc] 60)
  have l1 : Below w.heap.size w (A0.alloc (.cells #[.slice va l.length vc] 60)) := l0.alloc (by omega) _
  rw [z0] at b1
  generalize A0.alloc (.cells #[.slice va l.length vc] 60) = A1 at *
  have b2 := Blk.new A1 #[.int .i64 2, .slice none 0 0, .slice none 0 0, .string ⟨#[]⟩, .int .i64 (-1), .slice none 0 0, .int .i64 (-1), .int .i64 1, .int .i64 0] 47
  have z2 : (A1.alloc (.cells #[.int .i64 2, .slice none 0 0, .slice none 0 0, .string ⟨#[]⟩, .int .i64 (-1), .slice none 0 0, .int .i64 (-1), .int .i64 1, .int .i64 0] 47)).heap.size = w.heap.size + 3 := by simp; omega
  have o2 := On.alloc A1 (.cells #[.int .i64 2, .slice none 0 0, .slice none 0 0, .string ⟨#[]⟩, .int .i64 (-1), .slice none 0 0, .int .i64 (-1), .int .i64 1, .int .i64 0] 47)
  have l2 : Below w.heap.size w (A1.alloc (.cells #[.int .i64 2, .slice none 0 0, .slice none 0 0, .string ⟨#[]⟩, .int .i64 (-1), .slice none 0 0, .int .i64 (-1), .int .i64 1, .int .i64 0] 47)) := l1.alloc (by omega) _
  rw [z1] at b2
  generalize A1.alloc (.cells #[.int .i64 2, .slice none 0 0, .slice none 0 0, .string ⟨#[]⟩, .int .i64 (-1), .slice none 0 0, .int .i64 (-1), .int .i64 1, .int .i64 0] 47) = A2 at *
  have b3 := Blk.new A2 #[.string ⟨#[97]⟩, .string ⟨#[98]⟩, .string ⟨#[99]⟩, .string ⟨#[100]⟩] 9
  have z3 : (A2.alloc (.cells #[.string ⟨#[97]⟩, .string ⟨#[98]⟩, .string ⟨#[99]⟩, .string ⟨#[100]⟩] 9)).heap.size = w.heap.size + 4 := by simp; omega
  have o3 := On.alloc A2 (.cells #[.string ⟨#[97]⟩, .string ⟨#[98]⟩, .string ⟨#[99]⟩, .string ⟨#[100]⟩] 9)
  have l3 : Below w.heap.size w (A2.alloc (.cells #[.string ⟨#[97]⟩, .string ⟨#[98]⟩, .string ⟨#[99]⟩, .string ⟨#[100]⟩] 9)) := l2.alloc (by omega) _
  rw [z2] at b3
  rw [← hW] at b3 z3 o3 l3
  have e1 : On (fun b => b < w.heap.size + 2) A1 W1 := (o2.less fun b hb => by show b < _; omega).trans (o3.less fun b hb => by show b < _; omega)
  have e0 : On (fun b => b < w.heap.size + 1) A0 W1 := (o1.less fun b hb => by show b < _; omega).trans (e1.less fun b hb => by omega)
  refine ⟨⟨va, l.length, vc, l, b1.on e1 (by show _ < _; omega), hv.on ((o0.less fun b hb => hb).trans (e0.less fun b hb => by omega))⟩, ⟨[(⟨nilSl, nilSl, nilSl⟩, Sp.rootO)], rfl, ?_, fun t ht => ?_⟩, b3, b0.on e0 (by show _ < _; omega), l3⟩
  · have hr : Row A2 (fun b => b = w.heap.size + 2) 9 (.slice (some ⟨w.heap.size + 2, 0, none⟩) 1 1) [objC (⟨nilSl, nilSl, nilSl⟩, Sp.rootO)] := obj_row (s := ⟨nilSl, nilSl, nilSl⟩) (o := Sp.rootO) b2
    exact (hr.on (o3.less fun b hb => by show b < _; omega)).more fun b hb => ⟨by omega, by omega⟩
  · simp at ht
    subst ht
    exact ⟨Row.nil _ _ _ _ _, Row.nil _ _ _ _ _, [], rfl, Row.nil _ _ _ _ _, fun t ht => by simp at ht⟩
set_option maxRecDepth 1000000 in
set_option maxHeartbeats 8000000 in
theorem build_any (l : List UInt8) (v : Value) (w : World) (hv : Bytes w (fun b => b < w.heap.size) v l) :
    Calls Tryd.prog 8 #[v] w fun e w' => ∃ (vo vp vq : Value) (L : List Sp.Ob) (O : List Sp.Opn) (P : List Sp.Prc), e = .returned (.agg #[vo, vp, vq]) ∧ Kern w' (fun b => w.heap.size ≤ b ∧ b < w'.heap.size) vo vp vq L O P ∧ Sp.KOk L O P ∧ Below w.heap.size w w' := by
  obtain ⟨va, vc, rfl, -⟩ := Row.form hv
  have HV : Hid _ := hv
  clear hv
  go_enter Tryd.func8, Tryd.ntmps8
  go_wp2_with fail
  have hA : ∃ W1, W1 = ((((w.alloc (.cells #[.slice none 0 0, .slice none 0 0, .slice none 0 0] 27)).alloc (.cells #[.slice va l.length vc] 60)).alloc (.cells #[.int .i64 2, .slice none 0 0, .slice none 0 0, .string ⟨#[]⟩, .int .i64 (-1), .slice none 0 0, .int .i64 (-1), .int .i64 1, .int .i64 0] 47)).alloc (.cells #[.string ⟨#[97]⟩, .string ⟨#[98]⟩, .string ⟨#[99]⟩, .string ⟨#[100]⟩] 9)) := ⟨_, rfl⟩
  obtain ⟨W1, hW1⟩ := hA
  rw [← hW1]
  have HI1 : Hid (BI w (w.heap.size + 1) (some ⟨w.heap.size + 1 + 1, 0, none⟩) 1 [Sp.rootO] W1) := start_ok l va vc w W1 HV.out hW1
  clear hW1
  refine (pick_any (w.heap.size + 1) (fun b => b < w.heap.size) 8 (by decide) (by decide) W1 HI1.out.1 (fun b hb => by omega)).mono ?_
  rintro e W2 ⟨n, rfl, hn, hmk2, hon2, hz2, hbl2⟩
  have HI2 : Hid (BI w (w.heap.size + 1) (some ⟨w.heap.size + 1 + 1, 0, none⟩) 1 [Sp.rootO] W2) := HI1.out.next rfl hmk2 (hon2.less fun b hb => hb.2) hbl2 ((HI1.out.2.1.on (hon2.less fun b hb => by show b ≠ _; omega)).more fun b hb => ⟨hb.1, by omega⟩)
  clear hmk2 hon2 hz2 hbl2 HI1
  go_upto_block 0 with fail
  refine blk0_wp _ _ w W2 (w.heap.size + 1) rfl (some ⟨w.heap.size + 1 + 1, 0, none⟩) 1 [Sp.rootO] n (by omega) Sp.TOk.first (fun o ho => by simp at ho; subst ho; decide) rfl HI2.out _ _ _ _ _ _ _ _ _ _ _ _ _ _ _ _ _ _ _ _ _ _ _ _ _ _ _ _ _ _ _ _ _ _ _ _ _ _ _ _ _ _ _ _ _ _ _ _ _ _ _ _ _ _ _ _ _ _ _ _ _ _ _ _ _ _ _ _ _ _ _ _ _ _ _ _ _ _ _ _ _ _ _ _ _ _ _ _ _ _ _ _ _ _ _ _ _ _ _ _ _ _ _ _ _ _ _ _ _ _ _ _ _ _ _ _ _ _ _ _ _ _ _ _ _ _ _ _ _ _ _ _ _ _ _ _ _ _ _ _ _ _ _ _ _ _ _ _ _ _ _ _ _ _ _ _ _ _ _ _ _ _ _ _ _ _ _ _ _ _ _ _ _ _ _ _ _ _ _ _ _ _ _ _ _ _ _ _ _ _ _ _ _ _ _ _ _ _ _ _ _ _ _ _ _ _ _ _ _ _ _ _ _ _ _ _ _ _ _ _ _ _ _ _ _ _ _ _ _ _ _ _ _ _ _ _ _ _ _ _ _ _ _ _ _ _ _ _ _ _ _ _ _ _ _ _ _ _ _ _ _ _ _ _ _ _ _ _ _ _ _ _ _ _ _ _ _ _ _ _ _ _ _ _ _ _ _ _ _ _ _ _ _ _ ?_
  intro y6 y7 y8 y9 y10 y11 y12 y13 y14 y15 y42 y43 y44 y45 y46 y47 y48 y49 y50 y51 y52 y53 y54 y55 y56 y57 y58 y59 y60 y61 y62 y63 y64 y65 y66 y67 y68 y69 y70 y71 y72 y73 y74 y75 y76 y77 y78 y79 y80 y81 y82 y83 y84 y85 y86 y87 y88 y89 y90 y91 y92 y93 y94 y95 y96 y97 y98 y99 y100 y101 y102 y103 y104 y105 y106 y107 y108 y109 y110 y111 y112 y113 y114 y115 y116 y117 y118 y119 y120 y121 y122 y123 y124 y125 W3 a3 c3 L3 hT3 hK3 hL3 hI3
  dsimp only
  have HI3 : Hid (BI w (w.heap.size + 1) a3 c3 L3 W3) := hI3
  have HT3 : Hid (Sp.TOk L3) := hT3
  have HK3 : Hid (∀ o ∈ L3, o.kind ≤ 3) := hK3
  have HL3 : Hid (L3.length ≤ 8) := hL3
  clear hI3 hT3 hK3 hL3 HI2
  go_wp2_with fail
  refine (pick_any (w.heap.size + 1) (fun b => b < w.heap.size) 3 (by decide) (by decide) W3 HI3.out.1 (fun b hb => by omega)).mono ?_
  rintro e W4 ⟨m, rfl, hm, hmk4, hon4, hz4, hbl4⟩
  have HI4 : Hid (BI w (w.heap.size + 1) a3 c3 L3 W4) := HI3.out.next rfl hmk4 (hon4.less fun b hb => hb.2) hbl4 ((HI3.out.2.1.on (hon4.less fun b hb => by show b ≠ _; omega)).more fun b hb => ⟨hb.1, by omega⟩)
  clear hmk4 hon4 hz4 hbl4 HI3
  have hg4 : w.heap.size + 1 < W4.heap.size := by obtain ⟨_, _, _, _, hq, _⟩ := HI4.out.1; exact hq.lt
  go_upto_block 5 with fail
  refine blk5_wp _ _ W4 (w.heap.size + 1) a3 c3 L3 m (by omega) HT3.out (fun o ho => by have := HK3.out o ho; omega) HL3.out hg4 (HI4.out.2.1.withP fun s o ho hk => by have := HK3.out o ho; dsimp only at hk; omega) _ _ _ _ _ _ _ _ _ _ _ _ _ _ _ _ _ _ _ _ _ _ _ _ _ _ _ _ _ _ _ _ _ _ _ _ _ _ _ _ _ _ _ _ _ _ _ _ _ _ _ _ _ _ _ _ _ _ _ _ _ _ _ _ _ _ _ _ _ _ _ _ _ _ _ _ _ _ _ _ _ _ _ _ _ _ _ _ _ _ _ _ _ _ _ _ _ _ _ _ _ _ _ _ _ _ _ _ _ _ _ _ _ _ _ _ _ _ _ _ _ _ _ _ _ _ _ _ _ _ _ _ _ _ _ _ _ _ _ _ _ _ _ _ _ _ _ _ _ _ _ _ _ _ _ _ _ _ _ _ _ _ _ _ _ _ _ _ _ _ _ _ _ _ _ _ _ _ _ _ _ _ _ _ _ _ _ _ _ _ _ _ _ _ _ _ _ _ _ _ _ _ _ _ _ _ _ _ _ _ _ _ _ _ _ _ _ _ _ _ _ _ _ _ _ _ _ _ _ _ _ _ _ _ _ _ _ _ _ _ _ _ _ _ _ _ _ _ _ _ _ _ _ _ _ _ _ _ _ _ _ _ _ _ _ _ _ _ _ _ _ _ _ _ _ _ _ _ _ _ _ _ _ _ _ _ _ _ _ _ _ _ _ _ _ _ ?_
  intro y16 y17 y18 y128 y129 y130 y131 y132 y133 y134 y135 y136 y137 y138 y139 W5 a5 c5 L5 hT5 hK5 hL5 hO5 hB5
  dsimp only
  have HT5 : Hid (Sp.TOk L5) := hT5
  have HK5 : Hid (∀ o ∈ L5, o.kind ≤ 4) := hK5
  have HL5 : Hid (L5.length ≤ 12) := hL5
  have HO5 : Hid (ObjsP QN W5 (fun b => w.heap.size + 1 < b ∧ b < W5.heap.size) (.slice a5 L5.length c5) L5) := hO5
  have hz5 := hB5.size
  have HM5 : Hid (MK W5 (w.heap.size + 1) (fun b => b < w.heap.size)) := HI4.out.1.on (On.of hB5) hg4 (fun b hb => by show b < W4.heap.size; omega)
  have HR5 : Hid (Blk W5 w.heap.size nil3 27) := Blk.below HI4.out.2.2.2.1 hB5 (by omega)
  have HW5 : Hid (Below w.heap.size w W5) := HI4.out.2.2.2.2.trans (hB5.mono (by omega))
  clear hT5 hK5 hL5 hO5 hB5 HI4 HT3 HK3 HL3
  go_wp2_with fail
  have hbk6 : Blk (W5.alloc (.cells #[.slice a5 L5.length c5, .slice none 0 0, .slice none 0 0] 27)) W5.heap.size (kC a5 L5.length c5 (.slice none 0 0) (.slice none 0 0)) 27 := Blk.new W5 _ _
  have hz6 : (W5.alloc (.cells #[.slice a5 L5.length c5, .slice none 0 0, .slice none 0 0] 27)).heap.size = W5.heap.size + 1 := by simp
  have hon6 := On.alloc W5 (.cells #[.slice a5 L5.length c5, .slice none 0 0, .slice none 0 0] 27)
  have hbl6 : ∀ C, C ≤ W5.heap.size → Below C W5 (W5.alloc (.cells #[.slice a5 L5.length c5, .slice none 0 0, .slice none 0 0] 27)) := fun C hC => (Below.refl C W5).alloc hC _
  generalize W5.alloc (.cells #[.slice a5 L5.length c5, .slice none 0 0, .slice none 0 0] 27) = W6 at *
  have hmk6 : MK W6 (w.heap.size + 1) (fun b => b < w.heap.size) := HM5.out.on hon6 (by show _ < W5.heap.size; omega) (fun b hb => by show b < W5.heap.size; omega)
  refine (pick_any (w.heap.size + 1) (fun b => b < w.heap.size) 3 (by decide) (by decide) W6 hmk6 (fun b hb => by omega)).mono ?_
  rintro e W7 ⟨x, rfl, hx, hmk7, hon7, hz7, hbl7⟩
  have HM7 : Hid (MK W7 (w.heap.size + 1) (fun b => b < w.heap.size)) := hmk7
  have HBK7 : Hid (Blk W7 W5.heap.size (kC a5 L5.length c5 (.slice none 0 0) (.slice none 0 0)) 27) := hbk6.on hon7 (by show W5.heap.size ≠ _; omega)
  have hz7' : W7.heap.size = W5.heap.size + 1 := by omega
  have HO7 : Hid (ObjsP QN W7 (fun b => w.heap.size + 1 < b ∧ b < W7.heap.size ∧ b ≠ W5.heap.size) (.slice a5 L5.length c5) L5) := ((HO5.out.on (hon6.less fun b hb => hb.2)).on (hon7.less fun b hb => by show b ≠ _; omega)).more fun b hb => ⟨hb.1, by omega, by omega⟩
  have HR7 : Hid (Blk W7 w.heap.size nil3 27) := (Blk.on HR5.out hon6 (by show _ < W5.heap.size; omega)).on hon7 (by show w.heap.size ≠ _; omega)
  have HW7 : Hid (Below w.heap.size w W7) := (HW5.out.trans (hbl6 _ (by omega))).trans (hbl7 _ (by omega))
  have HZ7 : Hid (W7.heap.size = W5.heap.size + 1) := hz7'
  have HNX : Hid ((1 + (x : Int)) = ((1 + x : Nat) : Int)) := by unfold Hid; omega
  have hx3 : (x : Int) < 3 := by omega
  clear hbk6 hz6 hon6 hbl6 hmk6 hmk7 hon7 hz7 hbl7 hz7' HM5 HR5 HW5 HO5
  go_upto_block 7 with fail
  rw [HNX.out]
  refine blk7_wp _ _ W7 (w.heap.size + 1) W5.heap.size a5 c5 L5 (1 + x) (by omega) HT5.out HL5.out (by omega) HBK7.out HO7.out _ _ _ _ _ _ _ _ _ _ _ _ _ _ _ _ _ _ _ _ _ _ _ _ _ _ _ _ _ _ _ _ _ _ _ _ _ _ _ _ _ _ _ _ _ _ _ _ _ _ _ _ _ _ _ _ _ _ _ _ _ _ _ _ _ _ _ _ _ _ _ _ _ _ _ _ _ _ _ _ _ _ _ _ _ _ _ _ _ _ _ _ _ _ _ _ _ _ _ _ _ _ _ _ _ _ _ _ _ _ _ _ _ _ _ _ _ _ _ _ _ _ _ _ _ _ _ _ _ _ _ _ _ _ _ _ _ _ _ _ _ _ _ _ _ _ _ _ _ _ _ _ _ _ _ _ _ _ _ _ _ _ _ _ _ _ _ _ _ _ _ _ _ _ _ _ _ _ _ _ _ _ _ _ _ _ _ _ _ _ _ _ _ _ _ _ _ _ _ _ _ _ _ _ _ _ _ _ _ _ _ _ _ _ _ _ _ _ _ _ _ _ _ _ _ _ _ _ _ _ _ _ _ _ _ _ _ _ _ _ _ _ _ _ _ _ _ _ _ _ _ _ _ _ _ _ _ _ _ _ _ _ _ _ _ _ _ _ _ _ _ _ _ _ _ _ _ _ _ _ _ _ _ _ _ _ _ _ _ _ _ _ _ _ _ _ ?_
  intro y21 y22 y23 y24 y146 y147 y148 y149 y150 y151 y152 y153 y154 y155 y156 y157 y158 y159 y160 y161 y162 W8 a8 c8 hbk8 hO8 hon8 hbl8
  dsimp only
  have hz8 : W7.heap.size ≤ W8.heap.size := (hbl8 0 (Nat.zero_le _)).size
  have hzz7 := HZ7.out
  have HBK8 : Hid (Blk W8 W5.heap.size (kC a8 (L5 ++ procsL (1 + x)).length c8 (.slice none 0 0) (.slice none 0 0)) 27) := hbk8
  have HO8 : Hid (ObjsP QN W8 (fun b => w.heap.size + 1 < b ∧ b < W8.heap.size ∧ b ≠ W5.heap.size) (.slice a8 (L5 ++ procsL (1 + x)).length c8) (L5 ++ procsL (1 + x))) := hO8
  have HM8 : Hid (MK W8 (w.heap.size + 1) (fun b => b < w.heap.size)) := HM7.out.on hon8 ⟨by omega, by omega⟩ (fun b hb => ⟨by omega, by omega⟩)
  have HR8 : Hid (Blk W8 w.heap.size nil3 27) := Blk.on HR7.out hon8 ⟨by omega, by omega⟩
  have HW8 : Hid (Below w.heap.size w W8) := HW7.out.trans (hbl8 _ (by omega))
  have HLN : Hid ((L5 ++ procsL (1 + x)).length ≤ 14) := by unfold Hid; rw [List.length_append, procsL_len]; have := HL5.out; omega
  have HT8 : Hid (Sp.TOk (L5 ++ procsL (1 + x))) := procsL_ok HT5.out _ (by omega)
  have hck8 := hbk8.cell
  unfold kC at hck8
  have hgl8 := hbk8.lt
  have hnz8 : ((L5 ++ procsL (1 + x)).length : Int) ≤ 14 := by have := HLN.out; omega
  have HLE : Hid (∀ M : Nat, M = (L5 ++ procsL (1 + x)).length → True) := fun _ _ => trivial
  clear hbk8 hO8 hon8 hbl8 HBK7 HO7 HM7 HR7 HW7
  obtain ⟨L8, hL8⟩ : ∃ L8, L8 = L5 ++ procsL (1 + x) := ⟨_, rfl⟩
  rw [← hL8] at HBK8 HO8 HLN HT8 hck8 hnz8
  have HL8 : Hid (L8 = L5 ++ procsL (1 + x)) := hL8
  clear hL8 HLE
  go_upto_block 9 with fail
  refine blk9_wp _ _ W8 (w.heap.size + 1) W5.heap.size (fun b => b < w.heap.size) (.slice a8 L8.length c8) L8.length HLN.out (fun b hb => by omega) (by omega) HM8.out HBK8.out _ _ _ _ _ _ _ _ _ _ _ _ _ _ _ _ _ _ _ _ _ _ _ _ _ _ _ _ _ _ _ _ _ _ _ _ _ _ _ _ _ _ _ _ _ _ _ _ _ _ _ _ _ _ _ _ _ _ _ _ _ _ _ _ _ _ _ _ _ _ _ _ _ _ _ _ _ _ _ _ _ _ _ _ _ _ _ _ _ _ _ _ _ _ _ _ _ _ _ _ _ _ _ _ _ _ _ _ _ _ _ _ _ _ _ _ _ _ _ _ _ _ _ _ _ _ _ _ _ _ _ _ _ _ _ _ _ _ _ _ _ _ _ _ _ _ _ _ _ _ _ _ _ _ _ _ _ _ _ _ _ _ _ _ _ _ _ _ _ _ _ _ _ _ _ _ _ _ _ _ _ _ _ _ _ _ _ _ _ _ _ _ _ _ _ _ _ _ _ _ _ _ _ _ _ _ _ _ _ _ _ _ _ _ _ _ _ _ _ _ _ _ _ _ _ _ _ _ _ _ _ _ _ _ _ _ _ _ _ _ _ _ _ _ _ _ _ _ _ _ _ _ _ _ _ _ _ _ _ _ _ _ _ _ _ _ _ _ _ _ _ _ _ _ _ _ _ _ _ _ _ _ _ _ _ _ _ _ _ _ _ _ _ _ _ ?_
  intro y25 y166 y167 y168 y169 y170 y171 y172 y173 y174 y175 y176 y177 y178 y179 y180 y181 y182 y183 W9 r9 O9 hO9 hI9
  dsimp only
  obtain ⟨i1, i2, i3, i4, i5, i6⟩ := hI9
  obtain ⟨pa, pc, ep, -, -⟩ := i3.form
  rw [List.length_map] at ep
  rw [ep] at i2 i3
  have hz9 : W8.heap.size ≤ W9.heap.size := (i6 0 (Nat.zero_le _)).size
  have HM9 : Hid (MK W9 (w.heap.size + 1) (fun b => b < w.heap.size)) := i1
  have HBK9 : Hid (Blk W9 W5.heap.size #[.slice a8 L8.length c8, .slice pa O9.length pc, .slice none 0 0] 27) := i2
  have HRO9 : Hid (Row W9 (fun b => W8.heap.size ≤ b ∧ b < W9.heap.size) 2 (.slice pa O9.length pc) (O9.map opnC)) := i3.row (even_opn O9)
  have HOK9 : Hid (∀ y ∈ O9, Sp.OpnOk L8.length y) := i4
  have HO9 : Hid (ObjsP QN W9 (fun b => w.heap.size + 1 < b ∧ b < W8.heap.size ∧ b ≠ W5.heap.size) (.slice a8 L8.length c8) L8) := HO8.out.on (i5.less fun b hb => ⟨hb.2.1, by omega, hb.2.2⟩)
  have HR9 : Hid (Blk W9 w.heap.size nil3 27) := Blk.on HR8.out i5 ⟨by omega, by omega, by omega⟩
  have HW9 : Hid (Below w.heap.size w W9) := HW8.out.trans (i6 _ (by omega))
  have HN9 : Hid (O9.length ≤ 28) := hO9
  clear i1 i2 i3 i4 i5 i6 ep hO9 hck8 HBK8 HO8 HM8 HR8 HW8
  go_upto_block 13 with fail
  refine blk13_wp _ _ W9 (w.heap.size + 1) W5.heap.size (fun b => b < w.heap.size) O9.length pc (1 + x) pa (.slice a8 L8.length c8) (fun b hb => by omega) (by omega) (by omega) (by have := HN9.out; omega) HM9.out HBK9.out _ _ _ _ _ _ _ _ _ _ _ _ _ _ _ _ _ _ _ _ _ _ _ _ _ _ _ _ _ _ _ _ _ _ _ _ _ _ _ _ _ _ _ _ _ _ _ _ _ _ _ _ _ _ _ _ _ _ _ _ _ _ _ _ _ _ _ _ _ _ _ _ _ _ _ _ _ _ _ _ _ _ _ _ _ _ _ _ _ _ _ _ _ _ _ _ _ _ _ _ _ _ _ _ _ _ _ _ _ _ _ _ _ _ _ _ _ _ _ _ _ _ _ _ _ _ _ _ _ _ _ _ _ _ _ _ _ _ _ _ _ _ _ _ _ _ _ _ _ _ _ _ _ _ _ _ _ _ _ _ _ _ _ _ _ _ _ _ _ _ _ _ _ _ _ _ _ _ _ _ _ _ _ _ _ _ _ _ _ _ _ _ _ _ _ _ _ _ _ _ _ _ _ _ _ _ _ _ _ _ _ _ _ _ _ _ _ _ _ _ _ _ _ _ _ _ _ _ _ _ _ _ _ _ _ _ _ _ _ _ _ _ _ _ _ _ _ _ _ _ _ _ _ _ _ _ _ _ _ _ _ _ _ _ _ _ _ _ _ _ _ _ _ _ _ _ _ _ _ _ _ _ _ _ _ _ _ _ _ _ _ _ _ _ _ ?_
  intro y26 y27 y28 y29 y30 y185 y186 y187 y188 y189 y190 y191 y192 y193 y194 y195 y196 y197 y198 y199 y200 y201 y202 y203 y204 y205 y206 y207 y208 y209 y210 y211 y212 y213 y214 y215 y216 y217 y218 y219 y220 y221 y222 y223 y224 y225 y226 y227 y228 y229 y230 y231 y232 y233 y234 y235 y236 y237 y238 y239 y240 y241 y242 y243 y244 y245 y246 W10 r10 ts hts hI10
  dsimp only
  obtain ⟨j1, j2, j3, j4, j5, j6, j7⟩ := hI10
  have hz10 : W9.heap.size ≤ W10.heap.size := (j7 0 (Nat.zero_le _)).size
  have HM10 : Hid (MK W10 (w.heap.size + 1) (fun b => b < w.heap.size)) := j1
  have HBK10 : Hid (Blk W10 W5.heap.size #[.slice a8 L8.length c8, .slice pa O9.length pc, .slice r10.a r10.n r10.c] 27) := j2
  have HRO10 : Hid (Row W10 (fun b => W8.heap.size ≤ b ∧ b < W9.heap.size) 2 (.slice pa O9.length pc) (O9.map opnC)) := HRO9.out.on (j6.less fun b hb => ⟨hb.2, by omega, by omega⟩)
  have HRP10 : Hid (Row W10 (fun b => W9.heap.size ≤ b ∧ b < W10.heap.size) 4 (.slice r10.a r10.n r10.c) (ts.map prcC)) := j3.row (even_prc ts)
  have HRS10 : Hid (∀ t ∈ ts, Row W10 (fun b => W9.heap.size ≤ b ∧ b < W10.heap.size) 3 (.slice t.1.a t.1.n t.1.c) (t.2.slots.map sltC)) := fun t ht => (j4 t ht).1.more fun b hb => ⟨hb.1, hb.2.1⟩
  have HPO : Hid (∀ t ∈ ts, Sp.PrcOk O9.length t.2) := fun t ht => (j4 t ht).2
  have HP0 : Hid (∀ t, ts[0]? = some t → t.2.live = true) := j5
  have HTS : Hid (ts.length = 1 + x) := hts
  have HO10 : Hid (ObjsP QN W10 (fun b => w.heap.size + 1 < b ∧ b < W10.heap.size ∧ b ≠ W5.heap.size) (.slice a8 L8.length c8) L8) := (HO9.out.on (j6.less fun b hb => ⟨by omega, by omega, hb.2.2⟩)).more fun b hb => ⟨hb.1, by omega, hb.2.2⟩
  have HR10 : Hid (Blk W10 w.heap.size nil3 27) := Blk.on HR9.out j6 ⟨by omega, by omega, by omega⟩
  have HW10 : Hid (Below w.heap.size w W10) := HW9.out.trans (j7 _ (by omega))
  have hck10 := j2.cell
  have hgl10 := j2.lt
  clear j1 j2 j3 j4 j5 j6 j7 hts HRO9 HO9 HR9 HW9 HBK9 HM9
  go_upto_block 17 with fail
  refine blk17_wp _ _ W10 (w.heap.size + 1) W5.heap.size (fun b => b < w.heap.size) O9.length pc pa (.slice r10.a r10.n r10.c) a8 c8 L8 (fun b hb => by omega) (by omega) (by have := HN9.out; omega) (by have := HLN.out; omega) HT8.out HM10.out HBK10.out HO10.out (qn_none HT8.out HO10.out) _ _ _ _ _ _ _ _ _ _ _ _ _ _ _ _ _ _ _ _ _ _ _ _ _ _ _ _ _ _ _ _ _ _ _ _ _ _ _ _ _ _ _ _ _ _ _ _ _ _ _ _ _ _ _ _ _ _ _ _ _ _ _ _ _ _ _ _ _ _ _ _ _ _ _ _ _ _ _ _ _ _ _ _ _ _ _ _ _ _ _ _ _ _ _ _ _ _ _ _ _ _ _ _ _ _ _ _ _ _ _ _ _ _ _ _ _ _ _ _ _ _ _ _ _ _ _ _ _ _ _ _ _ _ _ _ _ _ _ _ _ _ _ _ _ _ _ _ _ _ _ _ _ _ _ _ _ _ _ _ _ _ _ _ _ _ _ _ _ _ _ _ _ _ _ _ _ _ _ _ _ _ _ _ _ _ _ _ _ _ _ _ _ _ _ _ _ _ _ _ _ _ _ _ _ _ _ _ _ _ _ _ _ _ _ _ _ _ _ _ _ _ _ _ _ _ _ _ _ _ _ _ _ _ _ _ _ _ _ _ _ _ _ _ _ _ _ _ _ _ _ _ _ _ _ _ _ _ _ _ _ _ _ _ _ _ _ _ _ _ _ _ _ _ _ _ _ _ _ _ _ _ _ _ _ _ _ _ _ _ _ _ _ _ ?_
  intro y31 y32 y33 y250 y251 y252 y253 y254 y255 y256 y257 y258 y259 y260 y261 y262 y263 y264 y265 y266 y267 y268 y269 y270 y271 y272 y273 y274 y275 y276 y277 y278 y279 y280 y281 y282 y283 y284 y285 y286 y287 y288 y289 y290 y291 y292 y293 y294 y295 y296 y297 W11 hQ
  dsimp only
  obtain ⟨a11, c11, M, q1, q2, -, q4, q5, q6, q7, q8, q9, q10⟩ := hQ
  have hz11 : W10.heap.size ≤ W11.heap.size := (q10 0 (Nat.zero_le _)).size
  have HR11 : Hid (Blk W11 w.heap.size nil3 27) := Blk.on HR10.out q9 ⟨by omega, by omega, by omega⟩
  have HW11 : Hid (Below w.heap.size w W11) := HW10.out.trans (q10 _ (by omega))
  have HOB : Hid (Objs W11 (fun b => w.heap.size + 1 < b ∧ b < W11.heap.size ∧ b ≠ W5.heap.size) (.slice a11 M.length c11) M) := q8
  have HRO11 : Hid (Row W11 (fun b => W8.heap.size ≤ b ∧ b < W9.heap.size) 2 (.slice pa O9.length pc) (O9.map opnC)) := HRO10.out.on (q9.less fun b hb => ⟨by omega, by omega, by omega⟩)
  have HRP11 : Hid (Row W11 (fun b => W9.heap.size ≤ b ∧ b < W10.heap.size) 4 (.slice r10.a r10.n r10.c) (ts.map prcC)) := HRP10.out.on (q9.less fun b hb => ⟨hb.2, by omega, by omega⟩)
  have HRS11 : Hid (∀ t ∈ ts, Row W11 (fun b => W9.heap.size ≤ b ∧ b < W10.heap.size) 3 (.slice t.1.a t.1.n t.1.c) (t.2.slots.map sltC)) := fun t ht => (HRS10.out t ht).on (q9.less fun b hb => ⟨hb.2, by omega, by omega⟩)
  have HKO : Hid (Sp.KOk M O9 (ts.map Prod.snd)) := by
    have e := HL8.out
    rw [e] at q1 q4
    have hok := HOK9.out
    rw [e] at hok
    exact kok_of (by omega) (by omega) HK5.out HL5.out q1 q2 q4 q5 hok HN9.out HTS.out HPO.out HP0.out
  have hc11 := q7.cell
  have hgl11 := q7.lt
  have hcr := Blk.cell HR11.out
  have hfr := Blk.free HR11.out
  unfold nil3 at hcr
  have hrl := Blk.lt HR11.out
  clear q1 q2 q4 q5 q6 q7 q8 q9 q10 HRO10 HRP10 HRS10 HPO HP0 HTS HO10 HR10 HW10 HBK10 HM10 hck10 HOK9 HT8 HL8
  go_wp2
  have f1 : Blk (W11.setCell ⟨w.heap.size, 0, none⟩ (.slice a11 M.length c11)) w.heap.size #[.slice a11 M.length c11, .slice none 0 0, .slice none 0 0] 27 := Blk.set HR11.out 0 _
  have f2 : Blk ((W11.setCell ⟨w.heap.size, 0, none⟩ (.slice a11 M.length c11)).setCell ⟨w.heap.size, 1, none⟩ (.slice pa O9.length pc)) w.heap.size #[.slice a11 M.length c11, .slice pa O9.length pc, .slice none 0 0] 27 := f1.set 1 _
  have f3 : Blk (((W11.setCell ⟨w.heap.size, 0, none⟩ (.slice a11 M.length c11)).setCell ⟨w.heap.size, 1, none⟩ (.slice pa O9.length pc)).setCell ⟨w.heap.size, 2, none⟩ (.slice r10.a r10.n r10.c)) w.heap.size #[.slice a11 M.length c11, .slice pa O9.length pc, .slice r10.a r10.n r10.c] 27 := f2.set 2 _
  have hcF := f3.cell
  have honF : On (fun b => b ≠ w.heap.size) W11 (((W11.setCell ⟨w.heap.size, 0, none⟩ (.slice a11 M.length c11)).setCell ⟨w.heap.size, 1, none⟩ (.slice pa O9.length pc)).setCell ⟨w.heap.size, 2, none⟩ (.slice r10.a r10.n r10.c)) := ((On.set W11 ⟨w.heap.size, 0, none⟩ (.slice a11 M.length c11)).trans (On.set _ ⟨w.heap.size, 1, none⟩ (.slice pa O9.length pc))).trans (On.set _ ⟨w.heap.size, 2, none⟩ (.slice r10.a r10.n r10.c))
  have hBF : Below w.heap.size w (((W11.setCell ⟨w.heap.size, 0, none⟩ (.slice a11 M.length c11)).setCell ⟨w.heap.size, 1, none⟩ (.slice pa O9.length pc)).setCell ⟨w.heap.size, 2, none⟩ (.slice r10.a r10.n r10.c)) := ((HW11.out.setCell (p := ⟨w.heap.size, 0, none⟩) (Nat.le_refl _) _).setCell (p := ⟨w.heap.size, 1, none⟩) (Nat.le_refl _) _).setCell (p := ⟨w.heap.size, 2, none⟩) (Nat.le_refl _) _
  have hzF : (((W11.setCell ⟨w.heap.size, 0, none⟩ (.slice a11 M.length c11)).setCell ⟨w.heap.size, 1, none⟩ (.slice pa O9.length pc)).setCell ⟨w.heap.size, 2, none⟩ (.slice r10.a r10.n r10.c)).heap.size = W11.heap.size := by simp
  generalize ((W11.setCell ⟨w.heap.size, 0, none⟩ (.slice a11 M.length c11)).setCell ⟨w.heap.size, 1, none⟩ (.slice pa O9.length pc)).setCell ⟨w.heap.size, 2, none⟩ (.slice r10.a r10.n r10.c) = WF at *
  refine bodyPost_ret (v := .agg #[.slice a11 M.length c11, .slice pa O9.length pc, .slice r10.a r10.n r10.c]) (by simp [results, Tryd.results8, go_sem, hcF]) rfl ⟨.slice a11 M.length c11, .slice pa O9.length pc, .slice r10.a r10.n r10.c, M, O9, ts.map Prod.snd, rfl, ⟨?_, ?_, ts, rfl, ?_, fun t ht => ?_⟩, HKO.out, hBF⟩
  · exact (HOB.out.on (honF.less fun b hb => by show b ≠ _; omega)).more fun b hb => ⟨by omega, by omega⟩
  · exact (HRO11.out.on (honF.less fun b hb => by show b ≠ _; omega)).more fun b hb => ⟨by omega, by omega⟩
  · exact (HRP11.out.on (honF.less fun b hb => by show b ≠ _; omega)).more fun b hb => ⟨by omega, by omega⟩
  · exact ((HRS11.out t ht).on (honF.less fun b hb => by show b ≠ _; omega)).more fun b hb => ⟨by omega, by omega⟩
end Go.Proofs.YtfiiandnopifnaaDoor
/-
  look.isKind, isDir, noBase, Beneath, walked.
-/
namespace Go.Proofs.YtfiiandnopifnaaDoor
open Go.RowKit
namespace Lk
/-- An object of that number is of that kind. -/
def isK (L : List Sp.Ob) (k kd : Int) : Bool := if 0 ≤ k then (match L[k.toNat]? with | some o => o.kind == kd | none => false) else false
def upOf (L : List Sp.Ob) (k : Int) : Int := match L[k.toNat]? with | some o => o.up | none => 0
/-- Going up, so many times. -/
def ben (L : List Sp.Ob) (base : Int) : Nat → Int → Bool
  | 0, _ => false
  | n + 1, d => if isK L d 2 = false then false else if d = base then true else if d = 0 then false else ben L base n (upOf L d)
theorem isK_some {L : List Sp.Ob} {k kd : Int} (h : isK L k kd = true) : ∃ (n : Nat) (o : Sp.Ob), k = (n : Int) ∧ L[n]? = some o ∧ o.kind = kd := by
  unfold isK at h
  by_cases h0 : 0 ≤ k
  · obtain ⟨n, rfl⟩ := Int.eq_ofNat_of_zero_le h0
    rw [if_pos h0, Int.toNat_natCast] at h
    cases hx : L[n]? with
    | none => rw [hx] at h; cases h
    | some o => rw [hx] at h; exact ⟨n, o, rfl, hx, by simpa using h⟩
  · rw [if_neg h0] at h; cases h
theorem isK_nat {L : List Sp.Ob} {n : Nat} {o : Sp.Ob} (h : L[n]? = some o) (kd : Int) : isK L (n : Int) kd = (o.kind == kd) := by
  unfold isK
  rw [if_pos (by omega), Int.toNat_natCast, h]
theorem upOf_nat {L : List Sp.Ob} {n : Nat} {o : Sp.Ob} (h : L[n]? = some o) : upOf L (n : Int) = o.up := by
  unfold upOf
  rw [Int.toNat_natCast, h]
end Lk
theorem isKind_any (L : List Sp.Ob) (k kd : Int) (v : Value) (S : Nat → Prop) (w : World) (hv : Objs w S v L) :
    Calls Tryd.prog 36 #[v, .int .i64 k, .int .i64 kd] w fun e w' => e = .returned (.bool (Lk.isK L k kd)) ∧ w' = w := by
  by_cases h0 : 0 ≤ k
  · obtain ⟨n, rfl⟩ := Int.eq_ofNat_of_zero_le h0
    by_cases h1 : n < L.length
    · have hx : L[n]? = some L[n] := List.getElem?_eq_getElem h1
      have HE : Hid (Lk.isK L (n : Int) kd = (L[n].kind == kd)) := Lk.isK_nat hx kd
      obtain ⟨b, o, c, s, rfl, hb, hc, hm, -, c0, -⟩ := hv.open hx
      generalize L[n] = x at *
      unfold maxLen at hm
      rw [HE.out]
      clear hv hx HE
      go_enter Tryd.func36, Tryd.ntmps36
      go_wp2
      go_ret
      exact ⟨rfl, rfl⟩
    · have HE : Hid (Lk.isK L (n : Int) kd = false) := by
        unfold Hid Lk.isK
        rw [if_pos (by omega), Int.toNat_natCast, List.getElem?_eq_none (by omega)]
      obtain ⟨a, c, rfl, -⟩ := hv.form
      rw [HE.out]
      clear hv HE
      go_enter Tryd.func36, Tryd.ntmps36
      go_wp2
      go_ret
      exact ⟨rfl, rfl⟩
  · have HE : Hid (Lk.isK L k kd = false) := by unfold Hid Lk.isK; rw [if_neg h0]
    rw [HE.out]
    obtain ⟨a, c, rfl, -⟩ := hv.form
    clear hv HE
    go_enter Tryd.func36, Tryd.ntmps36
    go_wp2
    go_ret
    exact ⟨rfl, rfl⟩
theorem isDir_any (L : List Sp.Ob) (k : Int) (v : Value) (S : Nat → Prop) (w : World) (hv : Objs w S v L) :
    Calls Tryd.prog 31 #[v, .int .i64 k] w fun e w' => e = .returned (.bool (Lk.isK L k 2)) ∧ w' = w := by
  have HK : Hid (Calls Tryd.prog 36 #[v, .int .i64 k, .int .i64 2] w fun e w' => e = .returned (.bool (Lk.isK L k 2)) ∧ w' = w) := isKind_any L k 2 v S w hv
  clear hv
  go_enter Tryd.func31, Tryd.ntmps31
  go_wp2_with fail
  refine HK.out.mono ?_
  rintro e w1 ⟨rfl, rfl⟩
  go_wp2
  go_ret
  exact ⟨rfl, rfl⟩
theorem noBase_any (L : List Sp.Ob) (k : Int) (v : Value) (S : Nat → Prop) (w : World) (hv : Objs w S v L) :
    Calls Tryd.prog 26 #[v, .int .i64 k] w fun e w' => e = .returned (.int .i64 (Sp.noDir L k)) ∧ w' = w := by
  have HK : Hid (Calls Tryd.prog 31 #[v, .int .i64 k] w fun e w' => e = .returned (.bool (Lk.isK L k 2)) ∧ w' = w) := isDir_any L k v S w hv
  by_cases h0 : 0 ≤ k
  · obtain ⟨n, rfl⟩ := Int.eq_ofNat_of_zero_le h0
    by_cases h1 : n < L.length
    · have hx : L[n]? = some L[n] := List.getElem?_eq_getElem h1
      have HE : Hid (Lk.isK L (n : Int) 2 = (L[n].kind == 2)) := Lk.isK_nat hx 2
      obtain ⟨b, o, c, s, rfl, hb, hc, hm, -, c0, -⟩ := hv.open hx
      have hnd : Sp.noDir L (n : Int) = if L[n].kind = 0 then 6 else if L[n].kind = 2 then 0 else 11 := by
        unfold Sp.noDir
        rw [objAt_nat, hx, Option.filter_some]
        by_cases hz : L[n].kind = 0
        · rw [if_pos hz, hz]; rfl
        · rw [if_neg hz, if_pos (by simpa using hz)]
      rw [hnd]
      generalize L[n] = x at *
      unfold maxLen at hm
      rw [HE.out] at HK
      clear hv hx HE hnd
      by_cases hz : x.kind = 0
      · rw [if_pos hz]
        rw [hz] at c0
        clear HK
        go_enter Tryd.func26, Tryd.ntmps26
        go_wp2
        go_ret
        exact ⟨rfl, rfl⟩
      · rw [if_neg hz]
        have hz' : (x.kind == 0) = false := by simpa using hz
        by_cases h2 : x.kind = 2
        · rw [if_pos h2]
          have HK' : Hid (Calls Tryd.prog 31 #[.slice (some ⟨b, o, none⟩) L.length c, .int .i64 n] w fun e w' => e = .returned (.bool true) ∧ w' = w) := by have := HK.out; rw [h2] at this; exact this
          clear HK hz h2
          go_enter Tryd.func26, Tryd.ntmps26
          go_wp2_with fail
          refine HK'.out.mono ?_
          rintro e w1 ⟨rfl, rfl⟩
          go_wp2
          go_ret
          exact ⟨rfl, rfl⟩
        · rw [if_neg h2]
          have h2' : (x.kind == 2) = false := by simpa using h2
          rw [h2'] at HK
          clear hz h2 h2'
          go_enter Tryd.func26, Tryd.ntmps26
          go_wp2_with fail
          refine HK.out.mono ?_
          rintro e w1 ⟨rfl, rfl⟩
          go_wp2
          go_ret
          exact ⟨rfl, rfl⟩
    · have HE : Hid (Sp.noDir L (n : Int) = 6) := by
        unfold Hid Sp.noDir
        rw [objAt_nat, List.getElem?_eq_none (by omega)]
        rfl
      obtain ⟨a, c, rfl, -⟩ := hv.form
      rw [HE.out]
      clear hv HE HK
      go_enter Tryd.func26, Tryd.ntmps26
      go_wp2
      go_ret
      exact ⟨rfl, rfl⟩
  · have HE : Hid (Sp.noDir L k = 6) := by unfold Hid Sp.noDir; rw [objAt_neg h0]
    rw [HE.out]
    obtain ⟨a, c, rfl, -⟩ := hv.form
    clear hv HE HK
    go_enter Tryd.func26, Tryd.ntmps26
    go_wp2
    go_ret
    exact ⟨rfl, rfl⟩
set_option maxRecDepth 100000 in
set_option maxHeartbeats 2000000 in
theorem beneath_any (L : List Sp.Ob) (dir base : Int) (v : Value) (S : Nat → Prop) (w : World) (hv : Objs w S v L) :
    Calls Tryd.prog 11 #[v, .int .i64 dir, .int .i64 base] w fun e w' => e = .returned (.bool (Lk.ben L base L.length dir)) ∧ w' = w := by
  have HK : Hid (∀ k, Calls Tryd.prog 31 #[v, .int .i64 k] w fun e w' => e = .returned (.bool (Lk.isK L k 2)) ∧ w' = w) := fun k => isDir_any L k v S w hv
  obtain ⟨a, c, rfl, hm⟩ := hv.form
  have HV : Hid (Objs w S (.slice a L.length c) L) := hv
  unfold maxLen at hm
  clear hv
  go_enter Tryd.func11, Tryd.ntmps11
  go_wp2
  go_loop [1, 9] (fun d i => ∃ (k : Nat) (d' : Int), k ≤ L.length ∧ i = .int .i64 k ∧ d = .int .i64 d' ∧ Lk.ben L base L.length dir = Lk.ben L base (L.length - k) d') (fun _ i => L.length - (intOf i).toNat)
  case atStart => exact ⟨0, dir, Nat.zero_le _, rfl, rfl, by rw [Nat.sub_zero]⟩
  case round =>
    obtain ⟨k, d, hk, rfl, rfl, hF⟩ := hrel
    have HF : Hid (Lk.ben L base L.length dir = Lk.ben L base (L.length - k) d) := hF
    clear hF
    by_cases hlt : k < L.length
    · have hB : Lk.ben L base L.length dir = if Lk.isK L d 2 = false then false else if d = base then true else if d = 0 then false else Lk.ben L base (L.length - (k + 1)) (Lk.upOf L d) := by
        rw [HF.out, show L.length - k = (L.length - (k + 1)) + 1 by omega, Lk.ben]
      clear HF
      cases hd : Lk.isK L d 2 with
      | false =>
        have HN : Hid (Lk.ben L base L.length dir = false) := by unfold Hid; rw [hB, if_pos hd]
        clear hB
        go_wp2_with fail
        have h := HK.out d
        rw [hd] at h
        refine Calls.mono h ?_
        rintro e w1 ⟨rfl, hw⟩
        rw [hw]
        clear hw h hd
        go_wp2
        go_ret
        exact ⟨by rw [HN.out]; rfl, rfl⟩
      | true =>
        rw [if_neg (by rw [hd]; decide)] at hB
        obtain ⟨m, x, rfl, hx, hxk⟩ := Lk.isK_some hd
        by_cases h1 : (m : Int) = base
        · have HN : Hid (Lk.ben L base L.length dir = true) := by unfold Hid; rw [hB, if_pos h1]
          have h1' : ((m : Int) == base) = true := by simpa using h1
          clear hB h1
          go_wp2_with fail
          have h := HK.out (m : Int)
          rw [hd] at h
          refine Calls.mono h ?_
          rintro e w1 ⟨rfl, hw⟩
          rw [hw]
          clear hw h hd
          go_wp2
          go_ret
          exact ⟨by rw [HN.out]; rfl, rfl⟩
        · rw [if_neg h1] at hB
          have h1' : ((m : Int) == base) = false := by simpa using h1
          by_cases h2 : (m : Int) = 0
          · have HN : Hid (Lk.ben L base L.length dir = false) := by unfold Hid; rw [hB, if_pos h2]
            obtain rfl : m = 0 := by omega
            have hd' : Lk.isK L 0 2 = true := hd
            have h1'' : ((0 : Int) == base) = false := h1'
            clear hB h1 h1' h2 hx hd
            go_wp2_with fail
            have h := HK.out 0
            rw [hd'] at h
            refine Calls.mono h ?_
            rintro e w1 ⟨rfl, hw⟩
            rw [hw]
            clear hw h hd'
            go_wp2
            go_ret
            exact ⟨by rw [HN.out]; rfl, rfl⟩
          · rw [if_neg h2, Lk.upOf_nat hx] at hB
            have HN : Hid (Lk.ben L base L.length dir = Lk.ben L base (L.length - (k + 1)) x.up) := hB
            have h2' : ((m : Int) == 0) = false := by simpa using h2
            have hml := (List.getElem?_eq_some_iff.1 hx).1
            obtain ⟨b, o, c', s, he, hb, hc, hm', -, -, -, -, -, -, -, -, -, k8⟩ := HV.out.open hx
            obtain ⟨rfl, -, rfl⟩ := Value.slice.inj he
            clear hB h1 h2 he hm'
            go_wp2_with fail
            have h := HK.out (m : Int)
            rw [hd] at h
            refine Calls.mono h ?_
            rintro e w1 ⟨rfl, hw⟩
            rw [hw]
            clear hw h hd
            go_wp2
            exact ⟨⟨k + 1, x.up, by omega, by go_num, rfl, HN.out⟩, by simp [intOf]; omega⟩
    · obtain rfl : k = L.length := by omega
      have HN : Hid (Lk.ben L base L.length dir = false) := by unfold Hid; rw [HF.out, Nat.sub_self]; rfl
      clear HF
      go_wp2
      go_ret
      exact ⟨by rw [HN.out]; rfl, rfl⟩
end Go.Proofs.YtfiiandnopifnaaDoor
/-
  look's walk, as it lies in memory; rise.
-/
namespace Go.Proofs.YtfiiandnopifnaaDoor
open Go.RowKit
/-- A walk's cells: the objects, where it began, the fence, whether it follows, where it stands, the parts that are left, the links that were gone through. -/
def wkC (vl : Value) (base : Int) (fence follow : Bool) (at_ : Int) (vleft : Value) (hops : Int) : Array Value := #[vl, .int .i64 base, .bool fence, .bool follow, .int .i64 at_, vleft, .int .i64 hops]
/-- All but one block is as it was. -/
def Only (g : Nat) (W W' : World) : Prop := On (fun b => b < W.heap.size ∧ b ≠ g) W W' ∧ W.heap.size ≤ W'.heap.size ∧ ∀ B, B ≤ g → Below B W W'
theorem Only.refl (g : Nat) (W : World) : Only g W W := ⟨fun _ _ => rfl, Nat.le_refl _, fun B _ => Below.refl B W⟩
theorem Only.trans {g : Nat} {W W1 W2 : World} (h : Only g W W1) (h' : Only g W1 W2) : Only g W W2 := ⟨h.1.trans (h'.1.less fun b hb => ⟨by have := h.2.1; omega, hb.2⟩), by have := h.2.1; have := h'.2.1; omega, fun B hB => (h.2.2 B hB).trans (h'.2.2 B hB)⟩
theorem Only.set {g : Nat} {W W1 : World} (h : Only g W W1) (i : Nat) (v : Value) : Only g W (W1.setCell ⟨g, i, none⟩ v) := ⟨h.1.trans ((On.set W1 ⟨g, i, none⟩ v).less fun b hb => hb.2), by have := h.2.1; simp; omega, fun B hB => (h.2.2 B hB).setCell hB _⟩
theorem Only.drew {g : Nat} {W W1 : World} (h : Only g W W1) : Only g W W1.drew := ⟨fun b hb => h.1 b hb, h.2.1, fun B hB => (h.2.2 B hB).drew⟩
theorem Only.below {g : Nat} {W W1 : World} (hg : g < W.heap.size) (h : Below W.heap.size W W1) : Only g W W1 := ⟨(On.of h).less fun b hb => hb.1, h.size, fun B hB => h.mono (by omega)⟩
/-- Where rise leads, and its error. -/
def riseE (base : Int) (fence : Bool) (at_ : Int) : Int := if fence = true ∧ at_ = base then 14 else 0
def riseA (base : Int) (fence : Bool) (at_ up : Int) : Int := if fence = true ∧ at_ = base then at_ else up
set_option maxRecDepth 100000 in
set_option maxHeartbeats 4000000 in
theorem rise_any (L : List Sp.Ob) (g m : Nat) (x : Sp.Ob) (vl vleft : Value) (base hops : Int) (fence follow : Bool) (S : Nat → Prop) (W : World) (hg : Blk W g (wkC vl base fence follow (m : Int) vleft hops) 80) (hv : Objs W S vl L) (hS : ∀ b, S b → b < W.heap.size ∧ b ≠ g) (hx : L[m]? = some x) :
    Calls Tryd.prog 34 #[.pointer (some ⟨g, 0, none⟩)] W fun e w' => e = .returned (.int .i64 (riseE base fence (m : Int))) ∧ Blk w' g (wkC vl base fence follow (riseA base fence (m : Int) x.up) vleft hops) 80 ∧ Only g W w' := by
  have HG : Hid (Blk W g (wkC vl base fence follow (m : Int) vleft hops) 80) := hg
  have hml := (List.getElem?_eq_some_iff.1 hx).1
  obtain ⟨b, o, c, s, rfl, hb, hc, hm, -, -, -, -, -, -, -, -, -, k8⟩ := hv.open hx
  have hbl := (hS b hb).1
  have hbg := (hS b hb).2
  have hgl := hg.lt
  unfold maxLen at hm
  have g0 : W.cell? ⟨g, 0, none⟩ = some (.slice (some ⟨b, o, none⟩) L.length c) := hg.cell 0
  have g1 : W.cell? ⟨g, 1, none⟩ = some (.int .i64 base) := hg.cell 1
  have g2 : W.cell? ⟨g, 2, none⟩ = some (.bool fence) := hg.cell 2
  have g4 : W.cell? ⟨g, 4, none⟩ = some (.int .i64 (m : Int)) := hg.cell 4
  have f4 : W.frozen? ⟨g, 4, none⟩ = false := hg.free 4
  clear hg hv hS hx hb
  by_cases hf : fence = true ∧ (m : Int) = base
  · have e1 : riseE base fence (m : Int) = 14 := if_pos hf
    have e2 : riseA base fence (m : Int) x.up = (m : Int) := if_pos hf
    rw [e1, e2]
    obtain ⟨rfl, rfl⟩ := hf
    clear e1 e2 k8
    go_enter Tryd.func34, Tryd.ntmps34
    go_wp2_with fail
    go_region_held3 (fun w' => w'.cell? ⟨g, 1, none⟩ = some (.int .i64 (m : Int)) ∧ w'.cell? ⟨g, 2, none⟩ = some (.bool true) ∧ w'.cell? ⟨g, 4, none⟩ = some (.int .i64 (m : Int))) (go_keep) (fail)
    go_wp2
    go_ret
    exact ⟨rfl, HG.out, (Only.refl g W).drew⟩
  · have e1 : riseE base fence (m : Int) = 0 := if_neg hf
    have e2 : riseA base fence (m : Int) x.up = x.up := if_neg hf
    rw [e1, e2]
    clear e1 e2
    have HF : Hid (∀ W', W' = (W.drew.drew).setCell ⟨g, 4, none⟩ (.int .i64 x.up) → Blk W' g (wkC (.slice (some ⟨b, o, none⟩) L.length c) base fence follow x.up vleft hops) 80 ∧ Only g W W') := fun W' hW => by
      subst hW
      have h1 : Blk W.drew.drew g (wkC (.slice (some ⟨b, o, none⟩) L.length c) base fence follow (m : Int) vleft hops) 80 := HG.out
      exact ⟨h1.set 4 _, ((Only.refl g W).drew.drew).set 4 _⟩
    cases fence with
    | false =>
      clear hf
      go_enter Tryd.func34, Tryd.ntmps34
      go_wp2_with fail
      refine wp_region_noPanic ?_
      refine wp_region_held_drew (S := fun w' => w'.cell? ⟨g, 2, none⟩ = some (.bool false)) (by kernel_rfl) ?_ (fun hHeld => ?_)
      · exact g2
      refine wpAnyH_take (i := 0) (v := ?_) (by simp only [List.getElem?_toArray, List.getElem?_cons_zero]; rfl) (by kernel_rfl) (by kernel_rfl) (by kernel_rfl) (fun _ _ _ h => h) (Or.inl ⟨by rfl, ?_⟩) (by assumption) ?_
      rotate_left
      · intro w hSw; (try dsimp only at hSw); go_simp; first | done | with_reducible rfl
      try simp only [Act.put, List.setIfInBounds_toArray, List.set_cons_zero, List.set_cons_succ]
      refine wpAnyH_take (i := 1) (v := ?_) (by simp only [List.getElem?_toArray, List.getElem?_cons_succ, List.getElem?_cons_zero]; rfl) (by kernel_rfl) (by kernel_rfl) (by kernel_rfl) (fun _ _ _ h => h) (Or.inl ⟨by rfl, ?_⟩) (by assumption) ?_
      rotate_left
      · intro w hSw; (try dsimp only at hSw); go_simp; first | done | with_reducible rfl
      try simp only [Act.put, List.setIfInBounds_toArray, List.set_cons_zero, List.set_cons_succ]
      refine wpAnyH_take (i := 2) (v := ?_) (by simp only [List.getElem?_toArray, List.getElem?_cons_succ, List.getElem?_cons_zero]; rfl) (by kernel_rfl) (by kernel_rfl) (by kernel_rfl) (fun _ _ _ h => h) (Or.inl ⟨by rfl, ?_⟩) (by assumption) ?_
      rotate_left
      · intro w hSw; (try dsimp only at hSw); go_simp; first | done | with_reducible rfl
      try simp only [Act.put, List.setIfInBounds_toArray, List.set_cons_zero, List.set_cons_succ]
      refine wpAnyH_take (i := 3) (v := ?_) (by simp only [List.getElem?_toArray, List.getElem?_cons_succ, List.getElem?_cons_zero]; rfl) (by kernel_rfl) (by kernel_rfl) (by kernel_rfl) (fun _ _ _ h => h) (Or.inl ⟨by rfl, ?_⟩) (by assumption) ?_
      rotate_left
      · intro w hSw; (try dsimp only at hSw); go_simp; first | done | with_reducible rfl
      try simp only [Act.put, List.setIfInBounds_toArray, List.set_cons_zero, List.set_cons_succ]
      refine wpAnyH_take (i := 4) (v := ?_) (by simp only [List.getElem?_toArray, List.getElem?_cons_succ, List.getElem?_cons_zero]; rfl) (by kernel_rfl) (by kernel_rfl) (by kernel_rfl) (fun _ _ _ h => h) (Or.inl ⟨by rfl, ?_⟩) (by assumption) ?_
      rotate_left
      · intro w hSw; (try dsimp only at hSw); go_simp; first | done | with_reducible rfl
      try simp only [Act.put, List.setIfInBounds_toArray, List.set_cons_zero, List.set_cons_succ]
      refine wpAnyH_take (i := 5) (v := undef) (by simp only [List.getElem?_toArray, List.getElem?_cons_succ, List.getElem?_cons_zero]; rfl) (by kernel_rfl) (by kernel_rfl) (by kernel_rfl) (fun _ _ _ h => h) (Or.inr ⟨by rfl, rfl⟩) (by assumption) ?_
      try simp only [Act.put, List.setIfInBounds_toArray, List.set_cons_zero, List.set_cons_succ]
      refine wpAnyH_take (i := 6) (v := undef) (by simp only [List.getElem?_toArray, List.getElem?_cons_succ, List.getElem?_cons_zero]; rfl) (by kernel_rfl) (by kernel_rfl) (by kernel_rfl) (fun _ _ _ h => h) (Or.inr ⟨by rfl, rfl⟩) (by assumption) ?_
      try simp only [Act.put, List.setIfInBounds_toArray, List.set_cons_zero, List.set_cons_succ]
      refine wpAnyH_take (i := 7) (v := undef) (by simp only [List.getElem?_toArray, List.getElem?_cons_succ, List.getElem?_cons_zero]; rfl) (by kernel_rfl) (by kernel_rfl) (by kernel_rfl) (fun _ _ _ h => h) (Or.inr ⟨by rfl, rfl⟩) (by assumption) ?_
      try simp only [Act.put, List.setIfInBounds_toArray, List.set_cons_zero, List.set_cons_succ]
      refine wpAnyH_take (i := 8) (v := undef) (by simp only [List.getElem?_toArray, List.getElem?_cons_succ, List.getElem?_cons_zero]; rfl) (by kernel_rfl) (by kernel_rfl) (by kernel_rfl) (fun _ _ _ h => h) (Or.inr ⟨by rfl, rfl⟩) (by assumption) ?_
      try simp only [Act.put, List.setIfInBounds_toArray, List.set_cons_zero, List.set_cons_succ]
      refine wpAnyH_take (i := 9) (v := undef) (by simp only [List.getElem?_toArray, List.getElem?_cons_succ, List.getElem?_cons_zero]; rfl) (by kernel_rfl) (by kernel_rfl) (by kernel_rfl) (fun _ _ _ h => h) (Or.inr ⟨by rfl, rfl⟩) (by assumption) ?_
      try simp only [Act.put, List.setIfInBounds_toArray, List.set_cons_zero, List.set_cons_succ]
      refine wpAnyH_take (i := 10) (v := undef) (by simp only [List.getElem?_toArray, List.getElem?_cons_succ, List.getElem?_cons_zero]; rfl) (by kernel_rfl) (by kernel_rfl) (by kernel_rfl) (fun _ _ _ h => h) (Or.inr ⟨by rfl, rfl⟩) (by assumption) ?_
      try simp only [Act.put, List.setIfInBounds_toArray, List.set_cons_zero, List.set_cons_succ]
      refine wpAnyH_take (i := 11) (v := undef) (by simp only [List.getElem?_toArray, List.getElem?_cons_succ, List.getElem?_cons_zero]; rfl) (by kernel_rfl) (by kernel_rfl) (by kernel_rfl) (fun _ _ _ h => h) (Or.inr ⟨by rfl, rfl⟩) (by assumption) ?_
      try simp only [Act.put, List.setIfInBounds_toArray, List.set_cons_zero, List.set_cons_succ]
      refine wpAnyH_take (i := 12) (v := undef) (by simp only [List.getElem?_toArray, List.getElem?_cons_succ, List.getElem?_cons_zero]; rfl) (by kernel_rfl) (by kernel_rfl) (by kernel_rfl) (fun _ _ _ h => h) (Or.inr ⟨by rfl, rfl⟩) (by assumption) ?_
      try simp only [Act.put, List.setIfInBounds_toArray, List.set_cons_zero, List.set_cons_succ]
      refine wpAnyH_take (i := 13) (v := undef) (by simp only [List.getElem?_toArray, List.getElem?_cons_succ, List.getElem?_cons_zero]; rfl) (by kernel_rfl) (by kernel_rfl) (by kernel_rfl) (fun _ _ _ h => h) (Or.inr ⟨by rfl, rfl⟩) (by assumption) ?_
      try simp only [Act.put, List.setIfInBounds_toArray, List.set_cons_zero, List.set_cons_succ]
      refine wpAnyH_take (i := 14) (v := ?_) (by simp only [List.getElem?_toArray, List.getElem?_cons_succ, List.getElem?_cons_zero]; rfl) (by kernel_rfl) (by kernel_rfl) (by kernel_rfl) (fun _ _ _ h => h) (Or.inl ⟨by rfl, ?_⟩) (by assumption) ?_
      rotate_left
      · intro w hSw; (try dsimp only at hSw); go_simp; first | done | with_reducible rfl
      try simp only [Act.put, List.setIfInBounds_toArray, List.set_cons_zero, List.set_cons_succ]
      refine wpAnyH_done (by kernel_rfl) (NoPanic.normal ?_) _
      go_wp2_with fail
      go_region_with (fail)
      all_goals
        go_wp2
        go_ret
        exact ⟨rfl, HF.out _ rfl⟩
    | true =>
      have hne : ((m : Int) == base) = false := by simpa using hf
      clear hf
      go_enter Tryd.func34, Tryd.ntmps34
      go_wp2_with fail
      go_region_held3 (fun w' => w'.cell? ⟨g, 1, none⟩ = some (.int .i64 base) ∧ w'.cell? ⟨g, 2, none⟩ = some (.bool true) ∧ w'.cell? ⟨g, 4, none⟩ = some (.int .i64 (m : Int))) (go_keep) (fail)
      go_wp2_with fail
      go_region_with (fail)
      all_goals
        go_wp2
        go_ret
        exact ⟨rfl, HF.out _ rfl⟩
end Go.Proofs.YtfiiandnopifnaaDoor
/-
  Contracts of the library, laid at this dump.
-/
namespace Go.Proofs
open Go.Shelf
def Tryd.lays146_ren : Go.Shelf.Ren := ⟨fun | 146 => 38 | 221 => 42 | 268 => 47 | 138 => 48 | 143 => 49 | 195 => 50 | 197 => 51 | 218 => 52 | 219 => 53 | 260 => 54 | 217 => 55 | 225 => 56 | 224 => 57 | 267 => 58 | 266 => 59 | 314 => 60 | n => n, fun | 9 => 9 | 31 => 42 | 3 => 3 | 4 => 4 | 0 => 0 | 105 => 105 | 21 => 21 | 5 => 5 | 46 => 108 | 119 => 109 | 139 => 112 | 138 => 111 | 146 => 114 | 51 => 113 | n => n, fun | 1 => 0 | 3 => 1 | 4 => 2 | n => n⟩
theorem Tryd.lays146 : Go.Proofs.Lays.n146 Tryd.prog Tryd.lays146_ren := {
  mixed := by kernel_rfl
  f138 := Tryd.func48.trans (congrArg some (by kernel_rfl))
  f143 := Tryd.func49.trans (congrArg some (by kernel_rfl))
  f146 := Tryd.func38.trans (congrArg some (by kernel_rfl))
  f195 := Tryd.func50.trans (congrArg some (by kernel_rfl))
  f197 := Tryd.func51.trans (congrArg some (by kernel_rfl))
  f217 := Tryd.func55.trans (congrArg some (by kernel_rfl))
  f218 := Tryd.func52.trans (congrArg some (by kernel_rfl))
  f219 := Tryd.func53.trans (congrArg some (by kernel_rfl))
  f221 := Tryd.func42.trans (congrArg some (by kernel_rfl))
  f224 := Tryd.func57.trans (congrArg some (by kernel_rfl))
  f225 := Tryd.func56.trans (congrArg some (by kernel_rfl))
  f260 := Tryd.func54.trans (congrArg some (by kernel_rfl))
  f266 := Tryd.func59.trans (congrArg some (by kernel_rfl))
  f267 := Tryd.func58.trans (congrArg some (by kernel_rfl))
  f268 := Tryd.func47.trans (congrArg some (by kernel_rfl))
  f314 := Tryd.func60.trans (congrArg some (by kernel_rfl))
  t0 := Tryd.underlying0
  a0 := Tryd.isAgg0
  z0 := Tryd.sizeOf0
  v0 := Tryd.zeroValue0
  t3 := Tryd.underlying3
  a3 := Tryd.isAgg3
  z3 := Tryd.sizeOf3
  v3 := Tryd.zeroValue3
  t4 := Tryd.underlying4
  a4 := Tryd.isAgg4
  z4 := Tryd.sizeOf4
  v4 := Tryd.zeroValue4
  t5 := Tryd.underlying5
  a5 := Tryd.isAgg5
  z5 := Tryd.sizeOf5
  v5 := Tryd.zeroValue5
  t9 := Tryd.underlying9
  a9 := Tryd.isAgg9
  z9 := Tryd.sizeOf9
  v9 := Tryd.zeroValue9
  t21 := Tryd.underlying21
  a21 := Tryd.isAgg21
  z21 := Tryd.sizeOf21
  v21 := Tryd.zeroValue21
  t31 := Tryd.underlying42
  a31 := Tryd.isAgg42
  z31 := Tryd.sizeOf42
  v31 := Tryd.zeroValue42
  t46 := Tryd.underlying108
  a46 := Tryd.isAgg108
  z46 := Tryd.sizeOf108
  v46 := Tryd.zeroValue108
  t51 := Tryd.underlying113
  a51 := Tryd.isAgg113
  z51 := Tryd.sizeOf113
  v51 := Tryd.zeroValue113
  t105 := Tryd.underlying105
  a105 := Tryd.isAgg105
  z105 := Tryd.sizeOf105
  v105 := Tryd.zeroValue105
  t119 := Tryd.underlying109
  a119 := Tryd.isAgg109
  z119 := Tryd.sizeOf109
  t138 := Tryd.underlying111
  a138 := Tryd.isAgg111
  z138 := Tryd.sizeOf111
  v138 := Tryd.zeroValue111
  t139 := Tryd.underlying112
  a139 := Tryd.isAgg112
  z139 := Tryd.sizeOf112
  v139 := Tryd.zeroValue112
  t146 := Tryd.underlying114
  a146 := Tryd.isAgg114
  z146 := Tryd.sizeOf114
  v146 := Tryd.zeroValue114
  g1 := by kernel_rfl
  g3 := by kernel_rfl
  g4 := by kernel_rfl }
open Go.RowKit Go.Lib in
theorem Tryd.strings_Split (s sep : ByteArray) (m : Int) (w : World) (hs : s.size < 4294967281) (hm : w.cell? ⟨0, 0, none⟩ = some (.int .i64 m)) (h1 : 1 ≤ sep.size) :
    Calls Tryd.prog 38 #[.string s, .string sep] w fun e w' =>
      e = .returned (.slice (some ⟨w.heap.size, 0, none⟩) (Lib.countB s sep + 1) (Lib.countB s sep + 1)) ∧ w' = w.alloc (.cells ((Lib.splitB sep 0 (Lib.countB s sep) s).map Value.string).toArray 9) := Any.strings_Split Tryd.lays146 (by kernel_rfl) s sep m w hs hm h1
def Tryd.laysM146_ren : Go.Shelf.Ren := ⟨fun | 146 => 38 | 221 => 42 | 268 => 47 | 138 => 48 | 143 => 49 | 195 => 50 | 197 => 51 | 218 => 52 | 219 => 53 | 260 => 54 | 217 => 55 | 225 => 56 | 224 => 57 | 267 => 58 | 266 => 59 | 314 => 60 | n => n, fun | 9 => 9 | 31 => 42 | 3 => 3 | 4 => 4 | 0 => 0 | 105 => 105 | 21 => 21 | 5 => 5 | 46 => 108 | 119 => 109 | 139 => 112 | 138 => 111 | 146 => 114 | 51 => 113 | n => n, fun | 1 => 0 | 3 => 1 | 4 => 2 | n => n⟩
theorem Tryd.laysM146 : Go.Proofs.LaysM.n146 Tryd.prog Tryd.laysM146_ren := {
  mixed := by kernel_rfl
  f138 := Tryd.func48.trans (congrArg some (by kernel_rfl))
  f143 := Tryd.func49.trans (congrArg some (by kernel_rfl))
  f146 := Tryd.func38.trans (congrArg some (by kernel_rfl))
  f195 := Tryd.func50.trans (congrArg some (by kernel_rfl))
  f197 := Tryd.func51.trans (congrArg some (by kernel_rfl))
  f217 := Tryd.func55.trans (congrArg some (by kernel_rfl))
  f218 := Tryd.func52.trans (congrArg some (by kernel_rfl))
  f219 := Tryd.func53.trans (congrArg some (by kernel_rfl))
  f221 := Tryd.func42.trans (congrArg some (by kernel_rfl))
  f224 := Tryd.func57.trans (congrArg some (by kernel_rfl))
  f225 := Tryd.func56.trans (congrArg some (by kernel_rfl))
  f260 := Tryd.func54.trans (congrArg some (by kernel_rfl))
  f266 := Tryd.func59.trans (congrArg some (by kernel_rfl))
  f267 := Tryd.func58.trans (congrArg some (by kernel_rfl))
  f268 := Tryd.func47.trans (congrArg some (by kernel_rfl))
  f314 := Tryd.func60.trans (congrArg some (by kernel_rfl))
  t0 := Tryd.underlying0
  a0 := Tryd.isAgg0
  z0 := Tryd.sizeOf0
  v0 := Tryd.zeroValue0
  t3 := Tryd.underlying3
  a3 := Tryd.isAgg3
  z3 := Tryd.sizeOf3
  v3 := Tryd.zeroValue3
  t4 := Tryd.underlying4
  a4 := Tryd.isAgg4
  z4 := Tryd.sizeOf4
  v4 := Tryd.zeroValue4
  t5 := Tryd.underlying5
  a5 := Tryd.isAgg5
  z5 := Tryd.sizeOf5
  v5 := Tryd.zeroValue5
  t9 := Tryd.underlying9
  a9 := Tryd.isAgg9
  z9 := Tryd.sizeOf9
  v9 := Tryd.zeroValue9
  t21 := Tryd.underlying21
  a21 := Tryd.isAgg21
  z21 := Tryd.sizeOf21
  v21 := Tryd.zeroValue21
  t31 := Tryd.underlying42
  a31 := Tryd.isAgg42
  z31 := Tryd.sizeOf42
  v31 := Tryd.zeroValue42
  t46 := Tryd.underlying108
  a46 := Tryd.isAgg108
  z46 := Tryd.sizeOf108
  v46 := Tryd.zeroValue108
  t51 := Tryd.underlying113
  a51 := Tryd.isAgg113
  z51 := Tryd.sizeOf113
  v51 := Tryd.zeroValue113
  t105 := Tryd.underlying105
  a105 := Tryd.isAgg105
  z105 := Tryd.sizeOf105
  v105 := Tryd.zeroValue105
  t119 := Tryd.underlying109
  a119 := Tryd.isAgg109
  z119 := Tryd.sizeOf109
  t138 := Tryd.underlying111
  a138 := Tryd.isAgg111
  z138 := Tryd.sizeOf111
  v138 := Tryd.zeroValue111
  t139 := Tryd.underlying112
  a139 := Tryd.isAgg112
  z139 := Tryd.sizeOf112
  v139 := Tryd.zeroValue112
  t146 := Tryd.underlying114
  a146 := Tryd.isAgg114
  z146 := Tryd.sizeOf114
  v146 := Tryd.zeroValue114
  g1 := by kernel_rfl
  g3 := by kernel_rfl
  g4 := by kernel_rfl
  i0 := by kernel_rfl
  i3 := by kernel_rfl
  i4 := by kernel_rfl
  i5 := by kernel_rfl
  i9 := by kernel_rfl
  i21 := by kernel_rfl
  i31 := by kernel_rfl
  i46 := by kernel_rfl
  i51 := by kernel_rfl
  i105 := by kernel_rfl
  i138 := by kernel_rfl
  i139 := by kernel_rfl
  i146 := by kernel_rfl
  m1 := by kernel_rfl
  s1_3 := fun w h => Go.Proofs.cell_of_shapedOpen_int (zero := #[.int .i64 0]) (t := 3) h (of_decide_eq_true (by kernel_rfl)) (by kernel_rfl) rfl (by kernel_rfl) (by kernel_rfl) Tryd.underlying3
  m3 := by kernel_rfl
  m4 := by kernel_rfl }
end Go.Proofs
/-
  What path.Split answers.
-/
namespace Go.Proofs.YtfiiandnopifnaaDoor
open Go.RowKit
theorem Tryd.infoS : (Tryd.prog.info? 9).map (fun i => (i.zero, i.size, i.bytes)) = some (some (.string ByteArray.empty), 1, 16) := by kernel_rfl
def keepB (x : ByteArray) : Bool := Pt.keep x.data.toList
def fitB (x : ByteArray) : Bool := Pt.fit x.data.toList
/-- The parts of a path. -/
def partsB (s : ByteArray) : List ByteArray := (Pt.pcs s).filter keepB
theorem filter_data (l : List ByteArray) : (l.filter keepB).map (·.data.toList) = (l.map (·.data.toList)).filter Pt.keep := by
  rw [List.filter_map]; rfl
theorem partsB_data (s : ByteArray) : (partsB s).map (·.data.toList) = Pt.parts s.data.toList := by
  unfold partsB Pt.parts
  rw [filter_data, Pt.pcs_cut]
theorem fine_all (s : ByteArray) : Pt.fine s.data.toList = (partsB s).all fitB := by
  unfold Pt.fine
  rw [← partsB_data, List.all_map]; rfl
theorem wide_mem : ∀ (xs : List (List UInt8)) (x : List UInt8), x ∈ xs → x.length + 1 ≤ Pt.wide xs
  | [], x, h => by simp at h
  | y :: r, x, h => by
    unfold Pt.wide
    rw [List.map_cons, List.sum_cons]
    rcases List.mem_cons.1 h with rfl | h
    · omega
    · have := wide_mem r x h
      unfold Pt.wide at this
      omega
theorem pcs_small (s : ByteArray) (x : ByteArray) (h : x ∈ Pt.pcs s) : x.size ≤ s.size := by
  have h1 : x.data.toList ∈ Pt.cut s.data.toList := by rw [← Pt.pcs_cut]; exact List.mem_map_of_mem h
  have h2 := wide_mem _ _ h1
  rw [Pt.wide_cut] at h2
  rw [size_list, size_list]
  omega
theorem split_form (s : ByteArray) (h : s.data.toList = []) (w : World) :
    Calls Tryd.prog 33 #[.string s] w fun e w' => e = .returned (.tuple #[.slice none 0 0, .bool false, .int .i64 2]) ∧ w' = w := by
  have e1 : (s.toList == []) = true := by rw [toList_beq]; simp [h]
  clear h
  go_enter Tryd.func33, Tryd.ntmps33
  go_wp2
  exact bodyPost_ret (v := .tuple #[.slice none 0 0, .bool false, .int .i64 2]) (by simp [results, Tryd.results33, go_sem]) rfl ⟨rfl, rfl⟩
theorem split_much (s : ByteArray) (hs : s.size ≤ maxLen) (h : 60 < s.size) (w : World) :
    Calls Tryd.prog 33 #[.string s] w fun e w' => e = .returned (.tuple #[.slice none 0 0, .bool false, .int .i64 4]) ∧ w' = w := by
  have e1 : (s.toList == []) = false := by
    rw [toList_beq, decide_eq_false_iff_not]; intro e; rw [size_list, e] at h; simp at h
  unfold maxLen at hs
  have h' : (60 : Int) < s.size := by omega
  go_enter Tryd.func33, Tryd.ntmps33
  go_wp2
  exact bodyPost_ret (v := .tuple #[.slice none 0 0, .bool false, .int .i64 4]) (by simp [results, Tryd.results33, go_sem]) rfl ⟨rfl, rfl⟩
def SRel (w w1 : World) (s : ByteArray) (v i : Value) (wr : World) : Prop :=
  ∃ k : Nat, k ≤ (Pt.pcs s).length ∧ i = .int .i64 k ∧ Hid ((((Pt.pcs s).take k).filter keepB).all fitB = true) ∧ wr.ownsRow (w.heap.size + 1) 9 1 v (((Pt.pcs s).take k).filter keepB).length ((((Pt.pcs s).take k).filter keepB).map Value.string) ∧ Below (w.heap.size + 1) w1 wr
theorem take_keep (l : List ByteArray) (k : Nat) (x : ByteArray) (hx : l[k]? = some x) : (l.take (k + 1)).filter keepB = (l.take k).filter keepB ++ if keepB x then [x] else [] := by
  rw [List.take_add_one, hx, List.filter_append, Option.toList_some, List.filter_cons, List.filter_nil]
theorem keepB_eq (x : ByteArray) : keepB x = !((x.toList == []) || (x.toList == [46])) := by
  unfold keepB Pt.keep Pt.idle
  rw [toList_beq, toList_beq]
  by_cases h1 : x.data.toList = [] <;> by_cases h2 : x.data.toList = [46] <;> simp [h1, h2]
theorem fitB_eq (x : ByteArray) : fitB x = ((x.toList == [46, 46]) || Pt.isName x.data.toList) := by
  unfold fitB Pt.fit
  rw [toList_beq]
theorem bad_fine {s x : ByteArray} {k : Nat} (hx : (Pt.pcs s)[k]? = some x) (hf : fitB x = false) (hk : keepB x = true) : Pt.fine s.data.toList = false := by
  cases e : Pt.fine s.data.toList with
  | false => rfl
  | true =>
    rw [fine_all] at e
    have := List.all_eq_true.1 e x (List.mem_filter.2 ⟨List.mem_of_getElem? hx, hk⟩)
    rw [hf] at this; cases this
theorem root_at (s : ByteArray) (h : 0 < s.size) : (((s[0].toNat : Nat) : Int) == 47) = Pt.root s.data.toList := by
  have e : s.data.toList.head? = some s[0] := by
    rw [List.head?_eq_getElem?]; exact List.getElem?_eq_getElem (by rw [← size_list]; exact h)
  unfold Pt.root
  rw [e, Bool.eq_iff_iff, beq_iff_eq, decide_eq_true_eq]
  constructor
  · intro h2; congr 1; exact UInt8.toNat_inj.1 (by show s[0].toNat = 47; omega)
  · intro h2; simp at h2; rw [h2]; rfl
theorem pcs_le (s : ByteArray) : (Pt.pcs s).length ≤ s.size + 1 := by
  rw [Pt.pcs_length]
  have := Lib.countB_le ⟨#[47]⟩ (by decide) s.size s (Nat.le_refl _)
  omega
set_option maxHeartbeats 1000000 in
theorem split_some (s : ByteArray) (m : Int) (h0 : s.data.toList ≠ []) (hs : s.size ≤ 60) (w : World) (hm : w.cell? ⟨0, 0, none⟩ = some (.int .i64 m)) :
    Calls Tryd.prog 33 #[.string s] w fun e w' => Below w.heap.size w w' ∧
      ((Pt.fine s.data.toList = false ∧ e = .returned (.tuple #[.slice none 0 0, .bool false, .int .i64 7])) ∨
       (Pt.fine s.data.toList = true ∧ ∃ v, e = .returned (.tuple #[v, .bool (Pt.root s.data.toList), .int .i64 0]) ∧ w'.ownsRow (w.heap.size + 1) 9 1 v (partsB s).length ((partsB s).map Value.string))) := by
  obtain ⟨i0, hi, hz0, hz1, hz2⟩ := info_parts Tryd.infoS
  have e1 : (s.toList == []) = false := by rw [toList_beq]; simp [h0]
  have g2 : ¬ (60 : Int) < s.size := by omega
  have HM : Hid (w.cell? ⟨0, 0, none⟩ = some (.int .i64 m)) := hm
  have H0 : Hid (s.data.toList ≠ []) := h0
  have hlen := pcs_le s
  have HL : Hid (Lib.countB s ⟨#[47]⟩ + 1 = (Pt.pcs s).length) := (Pt.pcs_length s).symm
  have HP : Hid (∀ x ∈ Pt.pcs s, x.size ≤ s.size) := pcs_small s
  have hgen : Lib.splitB ⟨#[47]⟩ 0 (Lib.countB s ⟨#[47]⟩) s = Pt.pcs s := rfl
  have HG : Hid (Lib.splitB ⟨#[47]⟩ 0 (Lib.countB s ⟨#[47]⟩) s = Pt.pcs s) := hgen
  clear hm h0 hgen
  go_enter Tryd.func33, Tryd.ntmps33
  go_wp2_with (go_at_call 38; refine (Tryd.strings_Split _ _ m _ (by omega) HM.out (by decide)).mono ?_; rintro e w1 ⟨rfl, rfl⟩; rw [HG.out, HL.out])
  go_loopw [5, 16] (fun v i wr => SRel w (w.alloc (.cells ((Pt.pcs s).map Value.string).toArray 9)) s v i wr) (fun _ i _ => (Pt.pcs s).length - (intOf i).toNat)
  case atStart => exact ⟨0, Nat.zero_le _, rfl, rfl, World.ownsRow_nil _ _ _ _, Below.refl _ _⟩
  case round =>
    obtain ⟨k, hk, rfl, hall, hown, hb⟩ := hrel
    have hz : w.heap.size + 1 ≤ wr.heap.size := by have := hb.size; simpa using this
    have hbw : Below w.heap.size w wr := ((Below.refl _ _).alloc (Nat.le_refl _) _).trans (hb.mono (by omega))
    have HBW : Hid (Below w.heap.size w wr) := hbw
    have hl2 : (((Pt.pcs s).take k).filter keepB).length ≤ k := Nat.le_trans (List.length_filter_le _ _) (List.length_take_le _ _)
    clear hbw
    by_cases hlt : k < (Pt.pcs s).length
    · obtain ⟨x, hx⟩ : ∃ x, (Pt.pcs s)[k]? = some x := ⟨_, List.getElem?_eq_getElem hlt⟩
      have hcx : wr.cell? ⟨w.heap.size, k, none⟩ = some (.string x) := by
        rw [hb.cell (p := ⟨w.heap.size, k, none⟩) (Nat.lt_succ_self _), World.cell?_alloc_at _ _ _ _ rfl, List.getElem?_toArray, List.getElem?_map, hx]; rfl
      have HT : Hid (((Pt.pcs s).take (k + 1)).filter keepB = ((Pt.pcs s).take k).filter keepB ++ if keepB x then [x] else []) := take_keep _ _ _ hx
      have HK : Hid (keepB x = !((x.toList == []) || (x.toList == [46]))) := keepB_eq x
      have hxs : x.size ≤ 60 := Nat.le_trans (HP.out x (List.mem_of_getElem? hx)) hs
      have HX : Hid ((Pt.pcs s)[k]? = some x) := hx
      clear hx
      have HU : Hid (fitB x = ((x.toList == [46, 46]) || Pt.isName x.data.toList)) := fitB_eq x
      cases h1 : (x.toList == []) with
      | true =>
        have HF : Hid (((Pt.pcs s).take (k + 1)).filter keepB = ((Pt.pcs s).take k).filter keepB) := by unfold Hid; rw [HT.out, HK.out, h1]; simp
        go_wp2
        go_roundw
        case rel => exact ⟨k + 1, by omega, by go_num, by unfold Hid; rw [HF.out]; exact hall.out, by rw [HF.out]; exact hown, hb⟩
        case measure => simp [intOf]; omega
      | false =>
        cases h2 : (x.toList == [46]) with
        | true =>
          have HF : Hid (((Pt.pcs s).take (k + 1)).filter keepB = ((Pt.pcs s).take k).filter keepB) := by unfold Hid; rw [HT.out, HK.out, h2]; simp
          go_wp2
          go_roundw
          case rel => exact ⟨k + 1, by omega, by go_num, by unfold Hid; rw [HF.out]; exact hall.out, by rw [HF.out]; exact hown, hb⟩
          case measure => simp [intOf]; omega
        | false =>
          have HF : Hid (((Pt.pcs s).take (k + 1)).filter keepB = ((Pt.pcs s).take k).filter keepB ++ [x]) := by unfold Hid; rw [HT.out, HK.out, h1, h2]; rfl
          cases h3 : (x.toList == [46, 46]) with
          | true =>
            have h4 : (x.toList != [46, 46]) = false := by rw [bne, h3]; rfl
            have HFit : Hid (fitB x = true) := by unfold Hid; rw [HU.out, h3]; rfl
            go_wp2_with (at_builtin; refine wpList_append_own _ rfl _ _ 42 rfl (w.heap.size + 1) 9 i0 (.string ByteArray.empty) 1 16 Tryd.underlying42 hi hz0 hz1 hz2 rfl (by decide) _ _ _ rfl (hown.alloc _) ⟨wr.heap.size, 0, none⟩ 1 1 [.string x] rfl rfl ?c1 ?c2 ?c3 ?c4 ?c5 ?_)
            case c1 =>
              intro j u hj
              match j, hj with
              | 0, hj => simp at hj; subst hj; simp [Addr.add]
            case c2 => intro u hu; simp at hu; subst hu; rfl
            case c3 => unfold maxLen; omega
            case c4 => omega
            case c5 => simp; omega
            intro v' w2 hown' hgrow _
            have hb2 : Below (w.heap.size + 1) (w.alloc (.cells ((Pt.pcs s).map Value.string).toArray 9)) w2 := (hb.alloc hz _).grown hgrow (by simp; omega) (fun j hj => (hown.lt j hj).1)
            have hown2 : Hid (w2.ownsRow (w.heap.size + 1) 9 1 v' (((Pt.pcs s).take (k + 1)).filter keepB).length ((((Pt.pcs s).take (k + 1)).filter keepB).map Value.string)) := by unfold Hid; rw [HF.out]; simpa using hown'
            have HB2 : Hid (Below (w.heap.size + 1) (w.alloc (.cells ((Pt.pcs s).map Value.string).toArray 9)) w2) := hb2
            clear hown' hgrow hown hb hcx hb2
            go_wp2
            go_roundw
            case rel => exact ⟨k + 1, by omega, by go_num, by unfold Hid; rw [HF.out, List.all_append, hall.out]; simp [HFit.out], hown2.out, HB2.out⟩
            case measure => simp [intOf]; omega
          | false =>
            have h4 : (x.toList != [46, 46]) = true := by rw [bne, h3]; rfl
            cases hn : Pt.isName x.data.toList with
            | true =>
              have HN : Hid (Pt.isName x.data.toList = true) := hn
              have HFit : Hid (fitB x = true) := by unfold Hid; rw [HU.out, hn]; simp
              clear hn
              go_wp2_with (first | (go_at_call 39; refine (name_any _ (by unfold maxLen; omega) _).mono ?_; rintro e w' ⟨rfl, hw⟩; rw [hw, HN.out]; clear hw) | (at_builtin; refine wpList_append_own _ rfl _ _ 42 rfl (w.heap.size + 1) 9 i0 (.string ByteArray.empty) 1 16 Tryd.underlying42 hi hz0 hz1 hz2 rfl (by decide) _ _ _ rfl (hown.alloc _) ⟨wr.heap.size, 0, none⟩ 1 1 [.string x] rfl rfl ?c1 ?c2 ?c3 ?c4 ?c5 ?_))
              case c1 =>
                intro j u hj
                match j, hj with
                | 0, hj => simp at hj; subst hj; simp [Addr.add]
              case c2 => intro u hu; simp at hu; subst hu; rfl
              case c3 => unfold maxLen; omega
              case c4 => omega
              case c5 => simp; omega
              intro v' w2 hown' hgrow _
              have hb2 : Below (w.heap.size + 1) (w.alloc (.cells ((Pt.pcs s).map Value.string).toArray 9)) w2 := (hb.alloc hz _).grown hgrow (by simp; omega) (fun j hj => (hown.lt j hj).1)
              have hown2 : Hid (w2.ownsRow (w.heap.size + 1) 9 1 v' (((Pt.pcs s).take (k + 1)).filter keepB).length ((((Pt.pcs s).take (k + 1)).filter keepB).map Value.string)) := by unfold Hid; rw [HF.out]; simpa using hown'
              have HB2 : Hid (Below (w.heap.size + 1) (w.alloc (.cells ((Pt.pcs s).map Value.string).toArray 9)) w2) := hb2
              clear hown' hgrow hown hb hcx hb2
              go_wp2
              go_roundw
              case rel => exact ⟨k + 1, by omega, by go_num, by unfold Hid; rw [HF.out, List.all_append, hall.out]; simp [HFit.out], hown2.out, HB2.out⟩
              case measure => simp [intOf]; omega
            | false =>
              have HN : Hid (Pt.isName x.data.toList = false) := hn
              have HFit : Hid (fitB x = false) := by unfold Hid; rw [HU.out, hn, h3]; rfl
              have HBad : Hid (Pt.fine s.data.toList = false) := bad_fine HX.out HFit.out (by rw [HK.out, h1, h2]; rfl)
              clear hn
              go_wp2_with (go_at_call 39; refine (name_any _ (by unfold maxLen; omega) _).mono ?_; rintro e w' ⟨rfl, rfl⟩; rw [HN.out])
              go_ret3
              exact ⟨HBW.out, Or.inl ⟨HBad.out, rfl⟩⟩
    · obtain rfl : k = (Pt.pcs s).length := by omega
      have hi0 : 0 < s.size := by
        rcases Nat.eq_zero_or_pos s.size with h | h
        · rw [size_list] at h; exact absurd (List.length_eq_zero_iff.1 h) H0.out
        · exact h
      have hr : (((s[0].toNat : Nat) : Int) == 47) = Pt.root s.data.toList := root_at s hi0
      go_wp2_with fail
      go_region
      go_wp2
      go_ret3
      refine ⟨below_drewN HBW.out 1, Or.inr ⟨?_, u5, ?_, ?_⟩⟩
      · rw [fine_all]; have := hall.out; rw [List.take_length] at this; exact this
      · rfl
      · rw [List.take_length] at hown; exact hown
end Go.Proofs.YtfiiandnopifnaaDoor
/-
  look's walk: turn, through.
-/
namespace Go.Proofs.YtfiiandnopifnaaDoor
open Go.RowKit
def tS (x : ByteArray) : List Value := [.string x]
theorem even_tS (l : List ByteArray) : Even 1 (l.map tS) := by
  intro cs h
  obtain ⟨x, _, rfl⟩ := List.mem_map.1 h
  rfl
theorem ones_tS (l : List ByteArray) : Ones (l.map tS) := by
  intro cs h u hu
  obtain ⟨x, _, rfl⟩ := List.mem_map.1 h
  simp [tS] at hu
  subst hu; rfl
theorem tS_flat (l : List ByteArray) : (l.map tS).flatten = l.map Value.string := by
  induction l with
  | nil => rfl
  | cons a t ih => rw [List.map_cons, List.flatten_cons, ih]; rfl
namespace Lk
/-- What is wrong with a path. -/
def splitE (s : ByteArray) : Int := if s.data.toList = [] then 2 else if 60 < s.size then 4 else if Pt.fine s.data.toList = false then 7 else 0
def turnE (s : ByteArray) (fence : Bool) : Int := if splitE s ≠ 0 then splitE s else if Pt.root s.data.toList = true ∧ fence = true then 14 else 0
def turnA (s : ByteArray) (at_ : Int) : Int := if Pt.root s.data.toList = true then 0 else at_
end Lk
/-- path.Split: an error, or parts of one's own. -/
theorem split_any (s : ByteArray) (m : Int) (hs : s.size ≤ maxLen) (w : World) (hm : w.cell? ⟨0, 0, none⟩ = some (.int .i64 m)) :
    Calls Tryd.prog 33 #[.string s] w fun e w' => Below w.heap.size w w' ∧ ((Lk.splitE s ≠ 0 ∧ e = .returned (.tuple #[.slice none 0 0, .bool false, .int .i64 (Lk.splitE s)])) ∨ (Lk.splitE s = 0 ∧ ∃ v, e = .returned (.tuple #[v, .bool (Pt.root s.data.toList), .int .i64 0]) ∧ Mine w' (w.heap.size + 1) 9 1 v ((partsB s).map tS))) := by
  by_cases h0 : s.data.toList = []
  · have e : Lk.splitE s = 2 := if_pos h0
    rw [e]
    refine (split_form s h0 w).mono ?_
    rintro e w' ⟨rfl, rfl⟩
    exact ⟨Below.refl _ _, Or.inl ⟨by decide, rfl⟩⟩
  · by_cases h1 : 60 < s.size
    · have e : Lk.splitE s = 4 := by unfold Lk.splitE; rw [if_neg h0, if_pos h1]
      rw [e]
      refine (split_much s hs h1 w).mono ?_
      rintro e w' ⟨rfl, rfl⟩
      exact ⟨Below.refl _ _, Or.inl ⟨by decide, rfl⟩⟩
    · refine (split_some s m h0 (by omega) w hm).mono ?_
      rintro e w' ⟨hb, ⟨hf, rfl⟩ | ⟨hf, v, rfl, ho⟩⟩
      · have e : Lk.splitE s = 7 := by unfold Lk.splitE; rw [if_neg h0, if_neg h1, if_pos hf]
        rw [e]
        exact ⟨hb, Or.inl ⟨by decide, rfl⟩⟩
      · have e : Lk.splitE s = 0 := by unfold Lk.splitE; rw [if_neg h0, if_neg h1, if_neg (by rw [hf]; decide)]
        rw [e]
        refine ⟨hb, Or.inr ⟨rfl, v, rfl, ?_⟩⟩
        unfold Mine
        rw [List.length_map, tS_flat]
        exact ho
theorem partsB_len (s : ByteArray) (h : Lk.splitE s = 0) : (partsB s).length ≤ 61 := by
  have h1 : s.size ≤ 60 := by
    unfold Lk.splitE at h
    by_cases h0 : s.data.toList = []
    · rw [if_pos h0] at h; exact absurd h (by decide)
    · rw [if_neg h0] at h
      by_cases h1 : 60 < s.size
      · rw [if_pos h1] at h; exact absurd h (by decide)
      · omega
  have h2 := pcs_le s
  have h3 : (partsB s).length ≤ (Pt.pcs s).length := List.length_filter_le _ _
  omega
set_option maxRecDepth 100000 in
set_option maxHeartbeats 4000000 in
theorem turn_any (s : ByteArray) (mm : Int) (hs : s.size ≤ maxLen) (g : Nat) (vl vleft : Value) (base at_ hops : Int) (fence follow : Bool) (left : List ByteArray) (S : Nat → Prop) (W : World) (hg : Blk W g (wkC vl base fence follow at_ vleft hops) 80) (h0 : W.cell? ⟨0, 0, none⟩ = some (.int .i64 mm)) (hl : Row W S 1 vleft (left.map tS)) (hS : ∀ b, S b → b < W.heap.size ∧ b ≠ g) (hn : left.length ≤ 1000) :
    Calls Tryd.prog 27 #[.pointer (some ⟨g, 0, none⟩), .string s] W fun e w' => e = .returned (.int .i64 (Lk.turnE s fence)) ∧ Only g W w' ∧ ((Lk.turnE s fence ≠ 0 ∧ Blk w' g (wkC vl base fence follow at_ vleft hops) 80) ∨ (Lk.turnE s fence = 0 ∧ ∃ v', Blk w' g (wkC vl base fence follow (Lk.turnA s at_) v' hops) 80 ∧ Row w' (fun b => W.heap.size ≤ b ∧ b < w'.heap.size) 1 v' ((partsB s ++ left).map tS))) := by
  have HSP : Hid (Calls Tryd.prog 33 #[.string s] W fun e w' => Below W.heap.size W w' ∧ ((Lk.splitE s ≠ 0 ∧ e = .returned (.tuple #[.slice none 0 0, .bool false, .int .i64 (Lk.splitE s)])) ∨ (Lk.splitE s = 0 ∧ ∃ v, e = .returned (.tuple #[v, .bool (Pt.root s.data.toList), .int .i64 0]) ∧ Mine w' (W.heap.size + 1) 9 1 v ((partsB s).map tS)))) := split_any s mm hs W h0
  have HG : Hid (Blk W g (wkC vl base fence follow at_ vleft hops) 80) := hg
  have hgl := hg.lt
  have HLE : Hid (Row W S 1 vleft (left.map tS)) := hl
  have HS : Hid (∀ b, S b → b < W.heap.size ∧ b ≠ g) := hS
  obtain ⟨la, lc, rfl, -⟩ := Row.form hl
  rw [List.length_map] at HG HLE ⊢
  have HPL : Hid (Lk.splitE s = 0 → (partsB s).length ≤ 61) := partsB_len s
  clear hg hl hS h0 hs
  go_enter Tryd.func27, Tryd.ntmps27
  go_wp2_with fail
  refine HSP.out.mono ?_
  rintro e w1 ⟨hb1, ⟨hne, rfl⟩ | ⟨hz, v1, rfl, hm1⟩⟩
  · have e1 : Lk.turnE s fence = Lk.splitE s := if_pos hne
    have HO : Hid (Only g W w1) := Only.below hgl hb1
    have HB : Hid (Blk w1 g (wkC vl base fence follow at_ (.slice la left.length lc) hops) 80) := HG.out.below hb1 hgl
    have hne' : (Lk.splitE s != 0) = true := by simpa using hne
    have HE1 : Hid (Lk.turnE s fence = Lk.splitE s) := e1
    have HNE : Hid (Lk.splitE s ≠ 0) := hne
    clear hb1 hne e1
    generalize Lk.splitE s = se at *
    go_wp2
    go_ret
    exact ⟨by rw [HE1.out]; rfl, HO.out, Or.inl ⟨by rw [HE1.out]; exact HNE.out, HB.out⟩⟩
  · have HZ : Hid (Lk.splitE s = 0) := hz
    have HO : Hid (Only g W w1) := Only.below hgl hb1
    have hB : Blk w1 g (wkC vl base fence follow at_ (.slice la left.length lc) hops) 80 := HG.out.below hb1 hgl
    have HB : Hid (Blk w1 g (wkC vl base fence follow at_ (.slice la left.length lc) hops) 80) := hB
    have HM : Hid (Mine w1 W.heap.size 9 1 v1 ((partsB s).map tS)) := hm1.base fun j hj => by have := (hm1.lt j hj).1; omega
    have g2 : w1.cell? ⟨g, 2, none⟩ = some (.bool fence) := hB.cell 2
    have g5 : w1.cell? ⟨g, 5, none⟩ = some (.slice la left.length lc) := hB.cell 5
    have g4 : w1.cell? ⟨g, 4, none⟩ = some (.int .i64 at_) := hB.cell 4
    have f4 : w1.frozen? ⟨g, 4, none⟩ = false := hB.free 4
    have f5 : w1.frozen? ⟨g, 5, none⟩ = false := hB.free 5
    have hgl1 := hB.lt
    clear hz hm1 hB HG HSP
    have HPN : Hid ((partsB s).length ≤ 61) := HPL.out HZ.out
    have hsz0 := HO.out.2.1
    by_cases hr : Pt.root s.data.toList = true
    · cases fence with
      | true =>
        have e1 : Lk.turnE s true = 14 := by unfold Lk.turnE; rw [if_neg (by rw [HZ.out]; decide), if_pos ⟨hr, rfl⟩]
        have HE1 : Hid (Lk.turnE s true = 14) := e1
        rw [hr]
        clear e1 hr
        go_wp2
        go_ret
        exact ⟨by rw [HE1.out]; rfl, HO.out, Or.inl ⟨by rw [HE1.out]; decide, HB.out⟩⟩
      | false =>
        have e1 : Lk.turnE s false = 0 := by unfold Lk.turnE; rw [if_neg (by rw [HZ.out]; decide), if_neg (by simp)]
        have HE1 : Hid (Lk.turnE s false = 0) := e1
        have HA : Hid (Lk.turnA s at_ = 0) := if_pos hr
        rw [hr]
        clear e1 hr
        have HB2 : Hid (Blk (w1.setCell ⟨g, 4, none⟩ (.int .i64 0)) g (wkC vl base false follow 0 (.slice la left.length lc) hops) 80) := HB.out.set 4 _
        have HO2 : Hid (Only g W (w1.setCell ⟨g, 4, none⟩ (.int .i64 0))) := HO.out.set 4 _
        have HM2 : Hid (Mine (w1.setCell ⟨g, 4, none⟩ (.int .i64 0)) W.heap.size 9 1 v1 ((partsB s).map tS)) := HM.out.on (On.set w1 ⟨g, 4, none⟩ _) fun j hj => by have := (HM.out.lt j hj).1; show j ≠ g; omega
        have hszs : (w1.setCell ⟨g, 4, none⟩ (.int .i64 0)).heap.size = w1.heap.size := by simp
        have HSZ : Hid _ := hszs
        clear hszs
        go_wp2_with (with_reducible refine stop_at (.call { callee := .builtin .append, args := #[.tmp 29, .tmp 33], argTypes := #[42, 42] }) rfl ?_)
        unfold Hold
        clear g2 g4 g5 f4 f5 HB HO HM
        generalize w1.setCell ⟨g, 4, none⟩ (.int .i64 0) = w2 at *
        have HLW : Hid (Row w2 S 1 (.slice la left.length lc) (left.map tS)) := Row.on HLE.out (HO2.out.1.less HS.out)
        obtain ⟨i0, hi, hz0, hz1, hz2⟩ := info_parts Tryd.infoS
        refine wpList_append_row rfl _ _ _ rfl W.heap.size 9 i0 (.string ByteArray.empty) 1 16 Tryd.underlying42 hi hz0 hz1 hz2 rfl (by decide) _ ((partsB s).map tS) rfl HM2.out _ _ _ rfl HLW.out (even_tS _) (ones_tS _) ?_ (by decide) ?_ ?_
        · rw [List.length_map, List.length_map]; have := HPN.out; omega
        · have := HSZ.out; omega
        intro v3 w3 ho3 hg3
        clear hi hz0 hz1 hz2
        rw [← List.map_append] at ho3
        obtain ⟨a3, c3, hv3, -, -⟩ := ho3.form
        rw [List.length_map] at hv3
        subst hv3
        generalize hN3 : (partsB s ++ left).length = N3 at *
        have hown : ∀ j, v1.ownBlock = some j → W.heap.size ≤ j ∧ j < w2.heap.size := HM2.out.lt
        have hB23 : ∀ B, B ≤ W.heap.size → Below B w2 w3 := fun B hB => Below.grown (Below.refl B w2) hg3 (by have := HSZ.out; omega) (fun j hj => by have := (hown j hj).1; omega)
        have hB3 : Blk w3 g (wkC vl base false follow 0 (.slice la left.length lc) hops) 80 := HB2.out.below (hB23 W.heap.size (Nat.le_refl _)) (by omega)
        have HB3 : Hid (Blk w3 g (wkC vl base false follow 0 (.slice la left.length lc) hops) 80) := hB3
        have HO3 : Hid (Only g W w3) := ⟨HO2.out.1.trans ((On.of (hB23 W.heap.size (Nat.le_refl _))).less fun b hb => by omega), by have := HO2.out.2.1; have := (hB23 0 (Nat.zero_le _)).size; omega, fun B hB => (HO2.out.2.2 B hB).trans (hB23 B (by omega))⟩
        have HR3 : Hid (Row w3 (fun b => W.heap.size ≤ b ∧ b < w3.heap.size) 1 (.slice a3 N3 c3) ((partsB s ++ left).map tS)) := ho3.row (even_tS _)
        have g5' : w3.cell? ⟨g, 5, none⟩ = some (.slice la left.length lc) := hB3.cell 5
        have f5' : w3.frozen? ⟨g, 5, none⟩ = false := hB3.free 5
        have hgl3 := hB3.lt
        clear ho3 hg3 hown hB23 hB3 HB2 HO2 HM2 HLW hN3
        go_wp2
        go_ret
        refine ⟨by rw [HE1.out]; rfl, HO3.out.set 5 _, Or.inr ⟨HE1.out, .slice a3 N3 c3, ?_, ?_⟩⟩
        · rw [HA.out]; exact HB3.out.set 5 _
        · exact Row.more (Row.on HR3.out ((On.set w3 ⟨g, 5, none⟩ _).less fun b hb => by show b ≠ g; omega)) fun b hb => ⟨hb.1, by simp; omega⟩
    · have hrf : Pt.root s.data.toList = false := by
        cases hq : Pt.root s.data.toList with
        | false => rfl
        | true => exact absurd hq hr
      have e1 : Lk.turnE s fence = 0 := by unfold Lk.turnE; rw [if_neg (by rw [HZ.out]; decide), if_neg (fun h => hr h.1)]
      have HE1 : Hid (Lk.turnE s fence = 0) := e1
      have HA : Hid (Lk.turnA s at_ = at_) := if_neg hr
      rw [hrf]
      clear e1 hr hrf
      have HB2 : Hid (Blk w1 g (wkC vl base fence follow at_ (.slice la left.length lc) hops) 80) := HB.out
      have HO2 : Hid (Only g W w1) := HO.out
      have HM2 : Hid (Mine w1 W.heap.size 9 1 v1 ((partsB s).map tS)) := HM.out
      have HSZ : Hid (w1.heap.size = w1.heap.size) := rfl
      go_wp2_with (with_reducible refine stop_at (.call { callee := .builtin .append, args := #[.tmp 29, .tmp 33], argTypes := #[42, 42] }) rfl ?_)
      unfold Hold
      clear g2 g4 g5 f4 f5 HB HO HM
      generalize w1 = w2 at *
      have HLW : Hid (Row w2 S 1 (.slice la left.length lc) (left.map tS)) := Row.on HLE.out (HO2.out.1.less HS.out)
      obtain ⟨i0, hi, hz0, hz1, hz2⟩ := info_parts Tryd.infoS
      refine wpList_append_row rfl _ _ _ rfl W.heap.size 9 i0 (.string ByteArray.empty) 1 16 Tryd.underlying42 hi hz0 hz1 hz2 rfl (by decide) _ ((partsB s).map tS) rfl HM2.out _ _ _ rfl HLW.out (even_tS _) (ones_tS _) ?_ (by decide) ?_ ?_
      · rw [List.length_map, List.length_map]; have := HPN.out; omega
      · have := HSZ.out; omega
      intro v3 w3 ho3 hg3
      clear hi hz0 hz1 hz2
      rw [← List.map_append] at ho3
      obtain ⟨a3, c3, hv3, -, -⟩ := ho3.form
      rw [List.length_map] at hv3
      subst hv3
      generalize hN3 : (partsB s ++ left).length = N3 at *
      have hown : ∀ j, v1.ownBlock = some j → W.heap.size ≤ j ∧ j < w2.heap.size := HM2.out.lt
      have hB23 : ∀ B, B ≤ W.heap.size → Below B w2 w3 := fun B hB => Below.grown (Below.refl B w2) hg3 (by have := HSZ.out; omega) (fun j hj => by have := (hown j hj).1; omega)
      have hB3 : Blk w3 g (wkC vl base fence follow at_ (.slice la left.length lc) hops) 80 := HB2.out.below (hB23 W.heap.size (Nat.le_refl _)) (by omega)
      have HB3 : Hid (Blk w3 g (wkC vl base fence follow at_ (.slice la left.length lc) hops) 80) := hB3
      have HO3 : Hid (Only g W w3) := ⟨HO2.out.1.trans ((On.of (hB23 W.heap.size (Nat.le_refl _))).less fun b hb => by omega), by have := HO2.out.2.1; have := (hB23 0 (Nat.zero_le _)).size; omega, fun B hB => (HO2.out.2.2 B hB).trans (hB23 B (by omega))⟩
      have HR3 : Hid (Row w3 (fun b => W.heap.size ≤ b ∧ b < w3.heap.size) 1 (.slice a3 N3 c3) ((partsB s ++ left).map tS)) := ho3.row (even_tS _)
      have g5' : w3.cell? ⟨g, 5, none⟩ = some (.slice la left.length lc) := hB3.cell 5
      have f5' : w3.frozen? ⟨g, 5, none⟩ = false := hB3.free 5
      have hgl3 := hB3.lt
      clear ho3 hg3 hown hB23 hB3 HB2 HO2 HM2 HLW hN3
      go_wp2
      go_ret
      refine ⟨by rw [HE1.out]; rfl, HO3.out.set 5 _, Or.inr ⟨HE1.out, .slice a3 N3 c3, ?_, ?_⟩⟩
      · rw [HA.out]; exact HB3.out.set 5 _
      · exact Row.more (Row.on HR3.out ((On.set w3 ⟨g, 5, none⟩ _).less fun b hb => by show b ≠ g; omega)) fun b hb => ⟨hb.1, by simp; omega⟩
end Go.Proofs.YtfiiandnopifnaaDoor
/-
  look's walk: through, end.
-/
namespace Go.Proofs.YtfiiandnopifnaaDoor
open Go.RowKit
namespace Lk
def throughE (s : ByteArray) (fence : Bool) (hops : Nat) : Int := if 6 ≤ hops then 13 else turnE s fence
end Lk
set_option maxRecDepth 100000 in
set_option maxHeartbeats 4000000 in
theorem through_any (s : ByteArray) (mm : Int) (hs : s.size ≤ maxLen) (g : Nat) (vl vleft : Value) (base at_ : Int) (hops : Nat) (fence follow : Bool) (left : List ByteArray) (S : Nat → Prop) (W : World) (hg : Blk W g (wkC vl base fence follow at_ vleft hops) 80) (h0 : W.cell? ⟨0, 0, none⟩ = some (.int .i64 mm)) (hg0 : g ≠ 0) (hl : Row W S 1 vleft (left.map tS)) (hS : ∀ b, S b → b < W.heap.size ∧ b ≠ g) (hn : left.length ≤ 1000) (hh : hops ≤ 6) :
    Calls Tryd.prog 37 #[.pointer (some ⟨g, 0, none⟩), .string s] W fun e w' => e = .returned (.int .i64 (Lk.throughE s fence hops)) ∧ Only g W w' ∧ (Lk.throughE s fence hops = 0 → ∃ v', Blk w' g (wkC vl base fence follow (Lk.turnA s at_) v' (hops + 1 : Nat)) 80 ∧ Row w' (fun b => W.heap.size ≤ b ∧ b < w'.heap.size) 1 v' ((partsB s ++ left).map tS)) := by
  have g6 : W.cell? ⟨g, 6, none⟩ = some (.int .i64 (hops : Int)) := hg.cell 6
  have f6 : W.frozen? ⟨g, 6, none⟩ = false := hg.free 6
  have hgl := hg.lt
  by_cases h6 : 6 ≤ hops
  · have HE : Hid (Lk.throughE s fence hops = 13) := if_pos h6
    have h6z : (6 : Int) ≤ (hops : Int) := by omega
    clear hg h0 hl hS hn hs
    go_enter Tryd.func37, Tryd.ntmps37
    go_wp2
    go_ret
    exact ⟨by rw [HE.out]; rfl, Only.refl _ _, fun h => by rw [HE.out] at h; exact absurd h (by decide)⟩
  · have HE : Hid (Lk.throughE s fence hops = Lk.turnE s fence) := if_neg h6
    have h6z : ¬ (6 : Int) ≤ (hops : Int) := by omega
    have hB2 : Blk (W.setCell ⟨g, 6, none⟩ (.int .i64 ((hops + 1 : Nat) : Int))) g (wkC vl base fence follow at_ vleft ((hops + 1 : Nat) : Int)) 80 := hg.set 6 _
    have hc0 : (W.setCell ⟨g, 6, none⟩ (.int .i64 ((hops + 1 : Nat) : Int))).cell? ⟨0, 0, none⟩ = some (.int .i64 mm) := by rw [(On.set W ⟨g, 6, none⟩ _).cell (b := 0) (fun e => hg0 e.symm)]; exact h0
    have HT : Hid (Calls Tryd.prog 27 #[.pointer (some ⟨g, 0, none⟩), .string s] (W.setCell ⟨g, 6, none⟩ (.int .i64 ((hops + 1 : Nat) : Int))) _) := turn_any s mm hs g vl vleft base at_ ((hops + 1 : Nat) : Int) fence follow left S _ hB2 hc0 (Row.on hl ((On.set W ⟨g, 6, none⟩ _).less fun b hb => (hS b hb).2)) (fun b hb => ⟨by simp; exact (hS b hb).1, (hS b hb).2⟩) hn
    have HO : Hid (Only g W (W.setCell ⟨g, 6, none⟩ (.int .i64 ((hops + 1 : Nat) : Int)))) := (Only.refl g W).set 6 _
    have ez : ((hops + 1 : Nat) : Int) = (hops : Int) + 1 := by omega
    rw [ez] at HT HO
    have EZ : Hid (((hops + 1 : Nat) : Int) = (hops : Int) + 1) := ez
    clear hg h0 hl hS hn hs hB2 hc0 ez
    go_enter Tryd.func37, Tryd.ntmps37
    go_wp2_with fail
    refine Calls.mono HT.out ?_
    rintro e w2 ⟨rfl, ho2, hcase⟩
    have HO2 : Hid (Only g W w2) := HO.out.trans ho2
    have HC : Hid _ := hcase
    clear ho2 hcase HT HO
    go_wp2
    go_ret
    refine ⟨by rw [HE.out]; rfl, HO2.out, fun h => ?_⟩
    rw [HE.out] at h
    rcases HC.out with ⟨h1, -⟩ | ⟨-, v', h2, h3⟩
    · exact absurd h h1
    · exact ⟨v', by rw [EZ.out]; exact h2, Row.more h3 fun b hb => ⟨by have := hb.1; simpa using this, hb.2⟩⟩
/-- Found, as a value. -/
def fdV (obj dir : Int) (name : ByteArray) : Value := .agg #[.int .i64 obj, .int .i64 dir, .string name]
set_option maxRecDepth 100000 in
set_option maxHeartbeats 4000000 in
theorem end_dir (L : List Sp.Ob) (g m : Nat) (x : Sp.Ob) (vl vleft : Value) (base hops : Int) (fence follow : Bool) (S : Nat → Prop) (W : World) (hg : Blk W g (wkC vl base fence follow (m : Int) vleft hops) 80) (hv : Objs W S vl L) (hS : ∀ b, S b → b < W.heap.size ∧ b ≠ g) (hx : L[m]? = some x) (hk : x.kind = 2) :
    Calls Tryd.prog 29 #[.pointer (some ⟨g, 0, none⟩)] W fun e w' => e = .returned (.tuple #[fdV (m : Int) x.up ⟨#[]⟩, .int .i64 0]) ∧ Below W.heap.size W w' := by
  have hK : Lk.isK L (m : Int) 2 = true := by rw [Lk.isK_nat hx, hk]; rfl
  have HD : Hid (∀ W', Below W.heap.size W W' → Calls Tryd.prog 31 #[vl, .int .i64 (m : Int)] W' fun e w' => e = .returned (.bool true) ∧ w' = W') := fun W' hW => by
    have := isDir_any L (m : Int) vl S W' (hv.on ((On.of hW).less fun b hb => (hS b hb).1))
    rw [hK] at this
    exact this
  have hml := (List.getElem?_eq_some_iff.1 hx).1
  obtain ⟨b, o, c, s, rfl, hb, hc, hm, -, -, -, -, -, -, -, -, -, k8⟩ := hv.open hx
  have hbl := (hS b hb).1
  have hgl := hg.lt
  unfold maxLen at hm
  have g0 : W.cell? ⟨g, 0, none⟩ = some (.slice (some ⟨b, o, none⟩) L.length c) := hg.cell 0
  have g4 : W.cell? ⟨g, 4, none⟩ = some (.int .i64 (m : Int)) := hg.cell 4
  clear hg hv hS hx hb hK hk
  unfold fdV
  go_enter Tryd.func29, Tryd.ntmps29
  go_wp2_with fail
  have HB0 : Hid (Below W.heap.size W (W.alloc (.cells #[.int .i64 0, .int .i64 0, .string ⟨#[]⟩] 30))) := (Below.refl _ _).alloc (Nat.le_refl _) _
  have hK0 : Blk (W.alloc (.cells #[.int .i64 0, .int .i64 0, .string ⟨#[]⟩] 30)) W.heap.size #[.int .i64 0, .int .i64 0, .string ⟨#[]⟩] 30 := Blk.new W _ _
  have c0 : (W.alloc (.cells #[.int .i64 0, .int .i64 0, .string ⟨#[]⟩] 30)).cell? ⟨g, 0, none⟩ = some (.slice (some ⟨b, o, none⟩) L.length c) := by rw [(On.alloc W _).cell hgl]; exact g0
  have c4 : (W.alloc (.cells #[.int .i64 0, .int .i64 0, .string ⟨#[]⟩] 30)).cell? ⟨g, 4, none⟩ = some (.int .i64 (m : Int)) := by rw [(On.alloc W _).cell hgl]; exact g4
  have c8 : (W.alloc (.cells #[.int .i64 0, .int .i64 0, .string ⟨#[]⟩] 30)).cell? ⟨b, o + m * 9 + 8, none⟩ = some (.int .i64 x.up) := by rw [(On.alloc W _).cell hbl]; exact k8
  have HK0 : Hid (Blk (W.alloc (.cells #[.int .i64 0, .int .i64 0, .string ⟨#[]⟩] 30)) W.heap.size #[.int .i64 0, .int .i64 0, .string ⟨#[]⟩] 30) := hK0
  have hlt0 := hK0.lt
  have r0 := hK0.cell 0
  have r1 := hK0.cell 1
  have r2 := hK0.cell 2
  have q0 := hK0.free 0
  have q1 := hK0.free 1
  have q2 := hK0.free 2
  have n1 : ¬ g = W.heap.size := by omega
  have n2 : ¬ W.heap.size = g := by omega
  have n3 : ¬ b = W.heap.size := by omega
  have n4 : ¬ W.heap.size = b := by omega
  clear g0 g4 k8 hK0
  generalize W.alloc (.cells #[.int .i64 0, .int .i64 0, .string ⟨#[]⟩] 30) = w0 at *
  go_region_held3 (fun w' => w'.cell? ⟨g, 0, none⟩ = some (.slice (some ⟨b, o, none⟩) L.length c) ∧ w'.cell? ⟨g, 4, none⟩ = some (.int .i64 (m : Int)) ∧ w'.cell? ⟨b, o + m * 9 + 8, none⟩ = some (.int .i64 x.up)) (go_keep) (first | (refine Calls.mono (HD.out _ HB0.out.drew) ?_; rintro e w2 ⟨rfl, rfl⟩; go_wp2_with fail))
  go_wp2_with fail
  go_region_held3 (fun w' => w'.cell? ⟨g, 0, none⟩ = some (.slice (some ⟨b, o, none⟩) L.length c) ∧ w'.cell? ⟨g, 4, none⟩ = some (.int .i64 (m : Int)) ∧ w'.cell? ⟨b, o + m * 9 + 8, none⟩ = some (.int .i64 x.up)) (go_keep) (fail)
  go_wp2
  generalize hW : (((w0.setCell ⟨W.heap.size, 0, none⟩ (.int .i64 (m : Int))).setCell ⟨W.heap.size, 1, none⟩ (.int .i64 x.up)).setCell ⟨W.heap.size, 2, none⟩ (.string ⟨#[]⟩)).drew.drew = W9
  have hb9 : Blk W9 W.heap.size #[.int .i64 (m : Int), .int .i64 x.up, .string ⟨#[]⟩] 30 := by
    rw [← hW]
    exact ((HK0.out.set 0 _).set 1 _).set 2 _
  have hc9 := hb9.cell
  have hB9 : Below W.heap.size W W9 := by
    rw [← hW]
    exact (((HB0.out.setCell (Nat.le_refl _) _).setCell (Nat.le_refl _) _).setCell (Nat.le_refl _) _).drew.drew
  exact bodyPost_ret (v := .tuple #[.agg #[.int .i64 (m : Int), .int .i64 x.up, .string ⟨#[]⟩], .int .i64 0]) (by simp [results, Tryd.results29, go_sem, hc9]) rfl ⟨rfl, hB9⟩
end Go.Proofs.YtfiiandnopifnaaDoor
/-
  What chapter 6 says of paths, as plain functions: one part, and all of them.
-/
namespace Go.Proofs.YtfiiandnopifnaaDoor
open Go.RowKit
namespace Lk
/-- What is found. -/
structure Fd where
  obj : Int
  dir : Int
  name : ByteArray
def nilF : Fd := ⟨0, 0, ⟨#[]⟩⟩
/-- Where one stands, the parts that are left, the links that were gone through. -/
structure St where
  pos : Int
  left : List ByteArray
  hops : Nat
/-- What one part comes to: what is found, whether that is all, an error; where one stands then. -/
structure Res where
  fd : Fd
  done : Bool
  err : Int
  st : St
def trg (L : List Sp.Ob) (k : Int) : ByteArray := match L[k.toNat]? with | some o => o.target | none => ⟨#[]⟩
def isUp (p : ByteArray) : Bool := p.toList == [46, 46]
def one (L : List Sp.Ob) (base : Int) (fence follow : Bool) (pos : Int) (part : ByteArray) (rest : List ByteArray) (hops : Nat) : Res :=
  if isK L pos 2 = false then ⟨nilF, false, 11, ⟨pos, rest, hops⟩⟩
  else if isUp part = true then ⟨nilF, false, riseE base fence pos, ⟨riseA base fence pos (upOf L pos), rest, hops⟩⟩
  else if isK L (Sp.find L pos part) 3 = true ∧ (follow = true ∨ rest ≠ []) then ⟨nilF, false, throughE (trg L (Sp.find L pos part)) fence hops, ⟨turnA (trg L (Sp.find L pos part)) pos, partsB (trg L (Sp.find L pos part)) ++ rest, hops + 1⟩⟩
  else if rest = [] then ⟨⟨Sp.find L pos part, pos, part⟩, true, 0, ⟨pos, rest, hops⟩⟩
  else if Sp.find L pos part < 0 then ⟨nilF, false, 6, ⟨pos, rest, hops⟩⟩
  else ⟨nilF, false, 0, ⟨Sp.find L pos part, rest, hops⟩⟩
/-- Part by part, so many at most. -/
def go (L : List Sp.Ob) (base : Int) (fence follow : Bool) : Nat → St → Fd × Int
  | 0, _ => (nilF, 0)
  | n + 1, s => match s.left with
    | [] => (⟨s.pos, upOf L s.pos, ⟨#[]⟩⟩, 0)
    | part :: rest =>
      if (one L base fence follow s.pos part rest s.hops).done = true ∨ (one L base fence follow s.pos part rest s.hops).err ≠ 0 then ((one L base fence follow s.pos part rest s.hops).fd, (one L base fence follow s.pos part rest s.hops).err)
      else go L base fence follow n (one L base fence follow s.pos part rest s.hops).st
def mu (s : St) : Nat := (6 - s.hops) * 62 + s.left.length
def path (L : List Sp.Ob) (base : Int) (s : ByteArray) (fence follow : Bool) : Fd × Int :=
  if Sp.noDir L base ≠ 0 then (nilF, Sp.noDir L base)
  else if turnE s fence ≠ 0 then (nilF, turnE s fence)
  else go L base fence follow 1000 ⟨turnA s base, partsB s, 0⟩
theorem turnE_split {s : ByteArray} {fence : Bool} (h : turnE s fence = 0) : splitE s = 0 := by
  unfold turnE at h
  by_cases h0 : splitE s = 0
  · exact h0
  · rw [if_pos h0] at h; exact absurd h h0
theorem throughE_zero {s : ByteArray} {fence : Bool} {hops : Nat} (h : throughE s fence hops = 0) : hops < 6 ∧ turnE s fence = 0 := by
  unfold throughE at h
  by_cases h0 : 6 ≤ hops
  · rw [if_pos h0] at h; exact absurd h (by decide)
  · rw [if_neg h0] at h; exact ⟨by omega, h⟩
theorem one_less {L : List Sp.Ob} {base pos : Int} {fence follow : Bool} {part : ByteArray} {rest : List ByteArray} {hops : Nat} (hh : hops ≤ 6) (h0 : (one L base fence follow pos part rest hops).err = 0) : (one L base fence follow pos part rest hops).st.hops ≤ 6 ∧ mu (one L base fence follow pos part rest hops).st < mu ⟨pos, part :: rest, hops⟩ := by
  unfold one at h0 ⊢
  unfold mu
  by_cases c1 : isK L pos 2 = false
  · rw [if_pos c1] at h0; exact absurd h0 (show ¬ ((11 : Int) = 0) by decide)
  · simp only [if_neg c1] at h0 ⊢
    by_cases c2 : isUp part = true
    · simp only [if_pos c2] at h0 ⊢
      exact ⟨hh, by simp⟩
    · simp only [if_neg c2] at h0 ⊢
      by_cases c3 : isK L (Sp.find L pos part) 3 = true ∧ (follow = true ∨ rest ≠ [])
      · simp only [if_pos c3] at h0 ⊢
        obtain ⟨h1, h2⟩ := throughE_zero h0
        have h3 := partsB_len _ (turnE_split h2)
        refine ⟨by omega, ?_⟩
        simp only [List.length_append, List.length_cons]
        omega
      · simp only [if_neg c3] at h0 ⊢
        by_cases c4 : rest = []
        · simp only [if_pos c4]
          exact ⟨hh, by simp⟩
        · simp only [if_neg c4] at h0 ⊢
          by_cases c5 : Sp.find L pos part < 0
          · simp only [if_pos c5] at h0; exact absurd h0 (show ¬ ((6 : Int) = 0) by decide)
          · simp only [if_neg c5] at h0 ⊢
            exact ⟨hh, by simp⟩
/-- How many at most does not matter, when it is enough. -/
theorem go_more {L : List Sp.Ob} {base : Int} {fence follow : Bool} : ∀ (n m : Nat) (s : St), s.hops ≤ 6 → mu s < n → mu s < m → go L base fence follow n s = go L base fence follow m s
  | 0, _, _, _, h, _ => absurd h (Nat.not_lt_zero _)
  | _ + 1, 0, _, _, _, h => absurd h (Nat.not_lt_zero _)
  | n + 1, m + 1, s, hh, h1, h2 => by
    obtain ⟨pos, left, hops⟩ := s
    cases left with
    | nil => rfl
    | cons part rest =>
      unfold go
      dsimp only
      by_cases c : (one L base fence follow pos part rest hops).done = true ∨ (one L base fence follow pos part rest hops).err ≠ 0
      · rw [if_pos c, if_pos c]
      · rw [if_neg c, if_neg c]
        have h0 : (one L base fence follow pos part rest hops).err = 0 := Classical.byContradiction fun h => c (Or.inr h)
        obtain ⟨g1, g2⟩ := one_less hh h0
        exact go_more n m _ g1 (Nat.lt_of_lt_of_le g2 (Nat.lt_succ_iff.1 h1)) (Nat.lt_of_lt_of_le g2 (Nat.lt_succ_iff.1 h2))
/-- What holds of stores in which paths are looked for. -/
structure Tree (L : List Sp.Ob) : Prop where
  root : isK L 0 2 = true
  ups : ∀ (n : Nat) (o : Sp.Ob), L[n]? = some o → o.kind = 2 → isK L o.up 2 = true
  leads : ∀ (n : Nat) (o : Sp.Ob), L[n]? = some o → o.kind = 2 → ∀ e ∈ o.ents, ∃ (j : Nat) (oj : Sp.Ob), e.obj = (j : Int) ∧ L[j]? = some oj
  small : ∀ o ∈ L, o.target.size ≤ maxLen
/-- Where one may stand. -/
def Stand (L : List Sp.Ob) (s : St) : Prop := (∃ (m : Nat) (x : Sp.Ob), s.pos = (m : Int) ∧ L[m]? = some x) ∧ (s.left = [] → isK L s.pos 2 = true)
theorem isK_stand {L : List Sp.Ob} {k : Int} (h : isK L k 2 = true) : ∃ (m : Nat) (x : Sp.Ob), k = (m : Int) ∧ L[m]? = some x := by
  obtain ⟨n, o, h1, h2, _⟩ := isK_some h
  exact ⟨n, o, h1, h2⟩
theorem find_stand {L : List Sp.Ob} (hT : Tree L) {pos : Int} {name : ByteArray} (h : 0 ≤ Sp.find L pos name) : ∃ (m : Nat) (x : Sp.Ob), Sp.find L pos name = (m : Int) ∧ L[m]? = some x := by
  unfold Sp.find at h ⊢
  cases ho : Sp.objAt L pos with
  | none => rw [ho] at h; exact absurd h (show ¬ ((0 : Int) ≤ -1) by decide)
  | some o =>
    rw [ho] at h
    dsimp only at h ⊢
    by_cases h2 : o.kind = 2
    · rw [if_pos h2] at h ⊢
      cases hf : o.ents.find? (fun e => Sp.eqB e.name name) with
      | none => rw [hf] at h; exact absurd h (show ¬ ((0 : Int) ≤ -1) by decide)
      | some e =>
        obtain ⟨n, _, hx, _⟩ := objAt_some ho
        obtain ⟨j, oj, h3, h4⟩ := hT.leads n o hx h2 e (List.mem_of_find?_eq_some hf)
        exact ⟨j, oj, h3, h4⟩
    · rw [if_neg h2] at h; exact absurd h (show ¬ ((0 : Int) ≤ -1) by decide)
theorem one_stand {L : List Sp.Ob} (hT : Tree L) {base pos : Int} {fence follow : Bool} {part : ByteArray} {rest : List ByteArray} {hops : Nat} (hs : Stand L ⟨pos, part :: rest, hops⟩) (h0 : (one L base fence follow pos part rest hops).err = 0) (hd : (one L base fence follow pos part rest hops).done = false) : Stand L (one L base fence follow pos part rest hops).st := by
  unfold one at h0 hd ⊢
  by_cases c1 : isK L pos 2 = false
  · rw [if_pos c1] at h0; exact absurd h0 (show ¬ ((11 : Int) = 0) by decide)
  · simp only [if_neg c1] at h0 hd ⊢
    have c1' : isK L pos 2 = true := by cases h : isK L pos 2 with | true => rfl | false => exact absurd h c1
    by_cases c2 : isUp part = true
    · simp only [if_pos c2] at h0 hd ⊢
      obtain ⟨n, o, rfl, h2, h3⟩ := isK_some c1'
      have hu : isK L (riseA base fence (n : Int) (upOf L (n : Int))) 2 = true := by
        unfold riseA
        split
        · exact c1'
        · rw [upOf_nat h2]; exact hT.ups n o h2 h3
      exact ⟨isK_stand hu, fun _ => hu⟩
    · simp only [if_neg c2] at h0 hd ⊢
      by_cases c3 : isK L (Sp.find L pos part) 3 = true ∧ (follow = true ∨ rest ≠ [])
      · simp only [if_pos c3] at h0 hd ⊢
        have hu : isK L (turnA (trg L (Sp.find L pos part)) pos) 2 = true := by
          unfold turnA
          split
          · exact hT.root
          · exact c1'
        exact ⟨isK_stand hu, fun _ => hu⟩
      · simp only [if_neg c3] at h0 hd ⊢
        by_cases c4 : rest = []
        · rw [if_pos c4] at hd; exact absurd hd (by simp)
        · simp only [if_neg c4] at h0 hd ⊢
          by_cases c5 : Sp.find L pos part < 0
          · simp only [if_pos c5] at h0; exact absurd h0 (show ¬ ((6 : Int) = 0) by decide)
          · simp only [if_neg c5] at h0 hd ⊢
            exact ⟨find_stand hT (by omega), fun h => absurd h c4⟩
/-- Build's stores are such stores. -/
theorem tree_of {L : List Sp.Ob} (h : Sp.TOk L) : Tree L := by
  refine ⟨?_, ?_, ?_, ?_⟩
  · obtain ⟨o, h1, h2, _⟩ := h.root
    rw [show (0 : Int) = ((0 : Nat) : Int) from rfl, isK_nat h1, h2]; rfl
  · intro n o ho hk
    obtain ⟨u, ou, h1, _, h2, h3, _⟩ := (h.all n o ho).up hk
    rw [h1, isK_nat h2, h3]; rfl
  · intro n o ho hk e he
    obtain ⟨j, oj, h1, _, h2, _⟩ := (h.all n o ho).leads e he
    exact ⟨j, oj, h1, h2⟩
  · intro o ho
    obtain ⟨n, hn⟩ := List.mem_iff_getElem?.1 ho
    have := (h.all n o hn).target
    unfold maxLen
    omega
end Lk
end Go.Proofs.YtfiiandnopifnaaDoor
/-
  A set of ints as a map of bools that a call made.
-/
namespace Go.Proofs.YtfiiandnopifnaaDoor
open Go.RowKit Go.Maps
theorem plainElem_bool_inv {H : Type} {P : Program} {e : TypeId} (he : P.underlying e = some .bool) {v : Value} {z : DataW H × List MemPlace} (h : plainElem P e v = some z) : ∃ x, v = .bool x ∧ z = (.lit (.bool x), []) := by
  unfold plainElem at h
  rw [he] at h
  split at h <;> simp_all
theorem keyI : Keyed Tryd.prog 3 := int_keyed Tryd.underlying3
theorem zeroB (w : World) : (zeroValue 4).run Tryd.prog w = .ok (.bool false) w := by kernel_rfl
/-- Block g is a map of bools that says true of just the numbers of ks. -/
def SetIs (w : World) (g n : Nat) (ks : List Int) : Prop :=
  ∃ D : DataW Unit, w.ownsMap Tryd.prog 3 (plainElem Tryd.prog 4) g n D ∧ ∀ c : Int, D.atKey (.int .i64 c) (.lit (.bool false)) = .lit (.bool (decide (c ∈ ks)))
theorem SetIs.made (w : World) : SetIs (w.alloc (.map #[] 0)) w.heap.size 0 [] := ⟨_, World.ownsMap_made _ _ _ _, fun c => by simp [DataW.atKey]⟩
theorem SetIs.look {w : World} {g n : Nat} {ks : List Int} (h : SetIs w g n ks) (c : Int) (hc : (Lit.int .i64 c).wf = true) :
    (Instr.lookup 87 (.map (some g)) (.int .i64 c) false).run Tryd.prog w = .ok (.bool (decide (c ∈ ks))) w := by
  obtain ⟨D, hD, hat⟩ := h
  obtain ⟨v, ps, hrun, hv⟩ := hD.lookup keyI Tryd.underlying87 (zeroB w) (plainElem_bool Tryd.underlying4 false) (keyOf_int_mk Tryd.underlying3 hc)
  rw [hat c] at hv
  obtain ⟨x, rfl, hx⟩ := plainElem_bool_inv Tryd.underlying4 hv
  simp only [Prod.mk.injEq, DataW.lit.injEq, Lit.bool.injEq] at hx
  rw [hrun, hx.1]
theorem SetIs.lt {w : World} {g n : Nat} {ks : List Int} (h : SetIs w g n ks) : g < w.heap.size := by obtain ⟨D, hD, _⟩ := h; exact hD.lt
theorem SetIs.on {w w' : World} {g n : Nat} {ks : List Int} (h : SetIs w g n ks) {B : Nat} (hb : Below B w w') (hg : g < B) : SetIs w' g n ks := by
  obtain ⟨D, ⟨es, clock, he, hf⟩, hat⟩ := h
  exact ⟨D, ⟨es, clock, by rw [hb.block g hg]; exact he, hf⟩, hat⟩
/-- 'had[c] = true'. -/
theorem wpList_setPut {w : World} {ops : Array Oper} {rest : List Oper} {o : Oper} {a : Act} {Q : Exit → Act → World → Prop} (hgd : o.guard = none) (m x v : Operand) (hop : o.op = Op.mapUpdate 87 m x v)
    (g n : Nat) (ks : List Int) (hm : a.eval m = .map (some g)) (hs : SetIs w g n ks) (hn : n ≤ 1000) (c : Int) (hc : (Lit.int .i64 c).wf = true) (hx : a.eval x = .int .i64 c) (hv : a.eval v = .bool true)
    (h : ∀ w', SetIs w' g (n + 1) (c :: ks) → w.grownBy w' (some g) → wpList Tryd.prog ops Q rest (a.put o.dst undef) w') : wpList Tryd.prog ops Q (o :: rest) a w := by
  obtain ⟨D, hD, hat⟩ := hs
  have hkey := keyOf_int_mk (P := Tryd.prog) Tryd.underlying3 hc
  refine wpList_mapUpdate_own w hgd m x v 87 hop 3 4 keyI Tryd.underlying87 _ g n D hm hD (by unfold maxLen; omega) _ _ (.int .i64 c) hx hv hkey (.lit (.bool true)) [] (plainElem_bool Tryd.underlying4 true) fun w' h1 h2 => h w' ⟨_, h1, fun c' => ?_⟩ h2
  by_cases e : c' = c
  · subst e
    rw [atKey_put_same hD.isMap (keyI.key hkey)]
    simp
  · rw [atKey_put_other (by intro e'; cases e'; exact e rfl), hat c']
    simp [e]
end Go.Proofs.YtfiiandnopifnaaDoor
/-
  rgref5.Beneath, walked, over stores whose ways up rise to no higher number.
-/
namespace Go.Proofs.YtfiiandnopifnaaDoor
open Go.RowKit
namespace Lk
/-- Ways up lead to directories of no higher number. -/
def Ups (L : List Sp.Ob) : Prop := ∀ (n : Nat) (o : Sp.Ob), L[n]? = some o → o.kind = 2 → ∃ (u : Nat) (ou : Sp.Ob), o.up = (u : Int) ∧ u ≤ n ∧ L[u]? = some ou ∧ ou.kind = 2
theorem ups_of {L : List Sp.Ob} (h : Sp.TOk L) : Ups L := fun n o ho hk => by
  obtain ⟨u, ou, h1, h2, h3, h4, _⟩ := (h.all n o ho).up hk
  exact ⟨u, ou, h1, h2, h3, h4⟩
theorem ben_off {L : List Sp.Ob} {base d : Int} (h : isK L d 2 = false) : ∀ n, ben L base n d = false
  | 0 => rfl
  | _ + 1 => if_pos h
theorem ben_self {L : List Sp.Ob} {base : Int} {m : Nat} {o : Sp.Ob} (hx : L[m]? = some o) (hk : o.kind = 2) (hu : o.up = (m : Int)) (hb : (m : Int) ≠ base) : ∀ n, ben L base n (m : Int) = false
  | 0 => rfl
  | n + 1 => by
    unfold ben
    rw [if_neg (by rw [isK_nat hx, hk]; decide), if_neg hb]
    split
    · rfl
    · rw [upOf_nat hx, hu]; exact ben_self hx hk hu hb n
theorem ben_succ {L : List Sp.Ob} {base : Int} {m : Nat} {o : Sp.Ob} (hx : L[m]? = some o) (hk : o.kind = 2) (n : Nat) : ben L base (n + 1) (m : Int) = if (m : Int) = base then true else if (m : Int) = 0 then false else ben L base n o.up := by
  show (if _ then _ else _) = _
  rw [if_neg (by rw [isK_nat hx, hk]; decide), upOf_nat hx]
theorem ben_more {L : List Sp.Ob} (hU : Ups L) {base : Int} : ∀ (m : Nat) (o : Sp.Ob), L[m]? = some o → o.kind = 2 → ∀ n k, m < n → m < k → ben L base n (m : Int) = ben L base k (m : Int) := by
  intro m
  induction m using Nat.strongRecOn with
  | _ m ih =>
    intro o hx hk n k hn hk'
    obtain ⟨n', rfl⟩ : ∃ n', n = n' + 1 := ⟨n - 1, by omega⟩
    obtain ⟨k', rfl⟩ : ∃ k', k = k' + 1 := ⟨k - 1, by omega⟩
    rw [ben_succ hx hk, ben_succ hx hk]
    by_cases hb : (m : Int) = base
    · rw [if_pos hb, if_pos hb]
    · rw [if_neg hb, if_neg hb]
      by_cases h0 : (m : Int) = 0
      · rw [if_pos h0, if_pos h0]
      · rw [if_neg h0, if_neg h0]
        obtain ⟨u, ou, h1, h2, h3, h4⟩ := hU m o hx hk
        by_cases he : u = m
        · subst he
          rw [h1, ben_self hx hk h1 hb, ben_self hx hk h1 hb]
        · rw [h1]
          exact ih u (by omega) ou h3 h4 n' k' (by omega) (by omega)
/-- One step up. -/
theorem ben_step {L : List Sp.Ob} (hU : Ups L) {base : Int} {m : Nat} {o : Sp.Ob} (hx : L[m]? = some o) (hk : o.kind = 2) (hb : (m : Int) ≠ base) (h0 : (m : Int) ≠ 0) : ben L base L.length (m : Int) = ben L base L.length o.up := by
  have hm := (List.getElem?_eq_some_iff.1 hx).1
  obtain ⟨u, ou, h1, h2, h3, h4⟩ := hU m o hx hk
  rw [ben_more hU m o hx hk L.length (L.length + 1) hm (by omega)]
  rw [ben_succ hx hk, if_neg hb, if_neg h0]
end Lk
theorem is_isK (L : List Sp.Ob) (k : Int) : Sp.is L k 2 = Lk.isK L k 2 := by
  unfold Sp.is Lk.isK Sp.objAt
  by_cases h0 : 0 ≤ k
  · rw [if_pos h0, if_pos h0]
    cases hx : L[k.toNat]? with
    | none => rfl
    | some o =>
      by_cases hz : o.kind = 0
      · rw [Option.filter_some]; simp [hz]
      · rw [Option.filter_some]; simp [hz]
  · rw [if_neg h0, if_neg h0]
/-- Where Beneath stands in its loop. -/
def BeI (L : List Sp.Ob) (W : World) (base dir : Int) (gk : Nat) (s1 : Value) (wr : World) : Prop :=
  ∃ (d : Int) (n : Nat) (ks : List Int), s1 = .int .i64 d ∧ SetIs wr W.heap.size n ks ∧ n + gk ≤ 2 * L.length + 2 ∧ Below W.heap.size W wr ∧ W.heap.size < wr.heap.size ∧ Lk.ben L base L.length dir = Lk.ben L base L.length d ∧ (d ∈ ks → Lk.ben L base L.length d = false) ∧ (∀ c ∈ ks, d ≤ c) ∧ (∀ m : Nat, d = (m : Int) → m < L.length → 2 * m + (if d ∈ ks then 0 else 1) < gk)
set_option maxRecDepth 100000 in
set_option maxHeartbeats 4000000 in
theorem rben_any (L : List Sp.Ob) (hU : Lk.Ups L) (hn : L.length ≤ 100) (dir base : Int) (v : Value) (S : Nat → Prop) (w : World) (hv : Objs w S v L) (hS : ∀ b, S b → b < w.heap.size) :
    Calls Tryd.prog 12 #[v, .int .i64 dir, .int .i64 base] w fun e w' => e = .returned (.bool (Lk.ben L base L.length dir)) ∧ Below w.heap.size w w' := by
  have HV : Hid (Objs w S v L) := hv
  have HS : Hid (∀ b, S b → b < w.heap.size) := hS
  have HU : Hid (Lk.Ups L) := hU
  have HN : Hid (L.length ≤ 100) := hn
  obtain ⟨a, c, rfl, -⟩ := hv.form
  clear hv hS hU hn
  have hmm := @run_makeMap Tryd.prog
  go_enter Tryd.func12, Tryd.ntmps12
  go_wp2
  go_loopg [1] (2 * L.length + 2) (fun gk s1 wr => BeI L w base dir gk s1 wr)
  case atStart => exact ⟨dir, 0, [], rfl, SetIs.made w, by omega, (Below.refl _ _).alloc (Nat.le_refl _) _, by simp, rfl, (fun h => absurd h List.not_mem_nil), (fun c h => absurd h List.not_mem_nil), (fun m hd hm => by rw [if_neg List.not_mem_nil]; omega)⟩
  case round =>
    obtain ⟨d, n, ks, rfl, hset, hng, hb, hlt, hF, hin, hle, hms⟩ := hrel
    have HSET : Hid (SetIs wr w.heap.size n ks) := hset
    have HB : Hid (Below w.heap.size w wr) := hb
    have HF : Hid (Lk.ben L base L.length dir = Lk.ben L base L.length d) := hF
    have HIN : Hid (d ∈ ks → Lk.ben L base L.length d = false) := hin
    have HLE : Hid (∀ c ∈ ks, d ≤ c) := hle
    have HMS : Hid (∀ m : Nat, d = (m : Int) → m < L.length → 2 * m + (if d ∈ ks then 0 else 1) < gk) := hms
    have HNG : Hid (n + gk ≤ 2 * L.length + 2) := hng
    have HLT : Hid (w.heap.size < wr.heap.size) := hlt
    have HVr : Hid (Objs wr S (.slice a L.length c) L) := HV.out.on ((On.of hb).less HS.out)
    have HIS : Hid (Calls Tryd.prog 15 #[.slice a L.length c, .int .i64 d, .int .i64 2] wr fun e w' => e = .returned (.bool (Lk.isK L d 2)) ∧ w' = wr) := by
      have := is_any L d 2 (.slice a L.length c) S wr HVr.out
      rw [is_isK] at this
      exact this
    clear hset hng hb hlt hF hin hle hms
    cases hd : Lk.isK L d 2 with
    | false =>
      rw [hd] at HIS
      have HR : Hid (Lk.ben L base L.length dir = false) := by unfold Hid; rw [HF.out, Lk.ben_off hd]
      clear hd
      go_wp2_with fail
      refine Calls.mono HIS.out ?_
      rintro e w1 ⟨rfl, hw1⟩
      rw [hw1]
      clear hw1
      go_wp2
      go_ret
      exact ⟨by rw [HR.out]; rfl, HB.out⟩
    | true =>
      rw [hd] at HIS
      obtain ⟨m, x, rfl, hx, hxk⟩ := Lk.isK_some hd
      have hml := (List.getElem?_eq_some_iff.1 hx).1
      have hwf : (Lit.int .i64 (m : Int)).wf = true := WalkArith.wf_i64 (by have := HN.out; omega)
      have HWF : Hid ((Lit.int .i64 (m : Int)).wf = true) := hwf
      have hlook := HSET.out.look (m : Int) hwf
      clear hwf hd
      by_cases hk : (m : Int) ∈ ks
      · have e1 : decide ((m : Int) ∈ ks) = true := decide_eq_true hk
        rw [e1] at hlook
        have HR : Hid (Lk.ben L base L.length dir = false) := by unfold Hid; rw [HF.out, HIN.out hk]
        clear hk e1
        go_wp2_with fail
        refine Calls.mono HIS.out ?_
        rintro e w1 ⟨rfl, hw1⟩
        rw [hw1]
        clear hw1
        go_wp2
        go_ret
        exact ⟨by rw [HR.out]; rfl, HB.out⟩
      · have e1 : decide ((m : Int) ∈ ks) = false := decide_eq_false hk
        rw [e1] at hlook
        have HK : Hid ((m : Int) ∉ ks) := hk
        clear e1 hk
        by_cases hbs : (m : Int) = base
        · have HR : Hid (Lk.ben L base L.length dir = true) := by
            unfold Hid
            obtain ⟨k, hk⟩ : ∃ k, L.length = k + 1 := ⟨L.length - 1, by omega⟩
            rw [HF.out, hk, Lk.ben_succ hx hxk, if_pos hbs]
          have hbs' : ((m : Int) == base) = true := by simpa using hbs
          clear hbs
          go_wp2_with fail
          refine Calls.mono HIS.out ?_
          rintro e w1 ⟨rfl, hw1⟩
          rw [hw1]
          clear hw1
          go_wp2
          go_ret
          exact ⟨by rw [HR.out]; rfl, HB.out⟩
        · have hbs' : ((m : Int) == base) = false := by simpa using hbs
          have hmg := HMS.out m rfl hml
          rw [if_neg HK.out] at hmg
          have HGK : Hid (2 * m + 1 < gk) := hmg
          clear hmg
          by_cases h0 : (m : Int) = 0
          · have HR : Hid (Lk.ben L base L.length dir = false) := by
              unfold Hid
              obtain ⟨k, hk⟩ : ∃ k, L.length = k + 1 := ⟨L.length - 1, by omega⟩
              rw [HF.out, hk, Lk.ben_succ hx hxk, if_neg hbs, if_pos h0]
            have h0' : ((m : Int) == 0) = true := by simpa using h0
            clear h0 hbs
            go_wp2_with fail
            refine Calls.mono HIS.out ?_
            rintro e w1 ⟨rfl, hw1⟩
            rw [hw1]
            clear hw1
            go_wp2_with (at_mapUpdate; refine wpList_setPut rfl _ _ _ rfl w.heap.size n ks rfl HSET.out (by have := HNG.out; have := HN.out; omega) (m : Int) HWF.out rfl rfl ?_)
            intro wu hSu hgu
            have HBu : Hid (Below w.heap.size w wu) := HB.out.grown hgu (by have := HLT.out; omega) (fun j hj => by cases hj; exact Nat.le_refl _)
            clear hSu hgu hlook
            go_wp2
            go_ret
            exact ⟨by rw [HR.out]; rfl, HBu.out⟩
          · have h0' : ((m : Int) == 0) = false := by simpa using h0
            obtain ⟨u, ou, hu, hum, hou, houk⟩ := HU.out m x hx hxk
            have hst := Lk.ben_step HU.out (base := base) hx hxk hbs h0
            rw [hu] at hst
            have HREL : Hid (∀ wu, SetIs wu w.heap.size (n + 1) ((m : Int) :: ks) → wr.grownBy wu (some w.heap.size) → BeI L w base dir (2 * m + 1) (.int .i64 (u : Int)) wu) := fun wu hSu hgu => by
              have hle := HLE.out
              have hk := HK.out
              refine ⟨(u : Int), n + 1, (m : Int) :: ks, rfl, hSu, by have := HNG.out; have := HGK.out; omega, HB.out.grown hgu (by have := HLT.out; omega) (fun j hj => by cases hj; exact Nat.le_refl _), Nat.lt_of_lt_of_le HLT.out hgu.size, by rw [HF.out, hst], ?_, ?_, ?_⟩
              · intro hmem
                have hum' : u = m := by
                  rcases List.mem_cons.1 hmem with h | h
                  · omega
                  · have := hle _ h; omega
                subst hum'
                exact Lk.ben_self hx hxk hu hbs _
              · intro c' hc'
                rcases List.mem_cons.1 hc' with h | h
                · omega
                · have := hle _ h; omega
              · intro m' hm' _
                by_cases he : u = m
                · subst he
                  obtain rfl : m' = u := by omega
                  rw [if_pos List.mem_cons_self]
                  omega
                · split <;> omega
            obtain ⟨b, o, c', s, he, hSb, hc, hm', -, -, -, -, -, -, -, -, -, k8⟩ := HVr.out.open hx
            obtain ⟨rfl, -, rfl⟩ := Value.slice.inj he
            rw [hu] at k8
            have hbl := HS.out b hSb
            unfold maxLen at hm'
            clear he hst h0 hbs hx hu hum hou
            go_wp2_with fail
            refine Calls.mono HIS.out ?_
            rintro e w1 ⟨rfl, hw1⟩
            rw [hw1]
            clear hw1
            go_wp2_with (at_mapUpdate; refine wpList_setPut rfl _ _ _ rfl w.heap.size n ks rfl HSET.out (by have := HNG.out; have := HN.out; omega) (m : Int) HWF.out rfl rfl ?_)
            intro wu hSu hgu
            have c8 : wu.cell? ⟨b, o + m * 9 + 8, none⟩ = some (.int .i64 (u : Int)) := (World.cell?_of_block (hgu.block b (by have := HLT.out; omega) (by simp; omega))).trans k8
            have HR : Hid (BeI L w base dir (2 * m + 1) (.int .i64 (u : Int)) wu) := HREL.out wu hSu hgu
            clear hSu hgu hlook k8 HREL
            go_wp2
            go_roundg (2 * m + 1)
            case measure => exact HGK.out
            case rel => exact HR.out
end Go.Proofs.YtfiiandnopifnaaDoor
/-
  A kernel of Build's, made at the beginning of a law: its objects alone.
-/
namespace Go.Proofs.YtfiiandnopifnaaDoor
open Go.RowKit
theorem fieldKL (a a1 a2 : Option Addr) (n n1 n2 c c1 c2 : Nat) (w : World) : (Instr.field 27 (.agg #[.slice a n c, .slice a1 n1 c1, .slice a2 n2 c2]) 0).run Tryd.prog w = .ok (.slice a n c) w := by kernel_rfl
/-- What Build makes: its objects. -/
theorem build_objs (l : List UInt8) (v : Value) (w : World) (hv : Bytes w (fun b => b < w.heap.size) v l) :
    Calls Tryd.prog 8 #[v] w fun e w' => ∃ (a1 a2 a3 : Option Addr) (n2 n3 c1 c2 c3 : Nat) (L : List Sp.Ob), e = .returned (.agg #[.slice a1 L.length c1, .slice a2 n2 c2, .slice a3 n3 c3]) ∧ Objs w' (fun b => b < w'.heap.size) (.slice a1 L.length c1) L ∧ Sp.TOk L ∧ L.length ≤ 14 ∧ Below w.heap.size w w' := by
  refine (build_any l v w hv).mono ?_
  rintro e w2 ⟨vo, vp, vq, L, O, P, rfl, hK, hKO, hb2⟩
  obtain ⟨a2, c2, rfl, -⟩ := hK.1.form
  obtain ⟨a3, c3, rfl, -⟩ := Row.form hK.2.1
  obtain ⟨ts, -, h4, -⟩ := hK.2.2
  obtain ⟨a4, c4, rfl, -⟩ := Row.form h4
  exact ⟨a2, a3, a4, _, _, c2, c3, c4, L, rfl, hK.1.more fun b hb => hb.2, hKO.objs, hKO.len, hb2⟩
end Go.Proofs.YtfiiandnopifnaaDoor
/-
  Arguments opened: bytes, as they lie there.
-/
namespace Go.Proofs.YtfiiandnopifnaaDoor
open Go.ChangeShapes Go.WideShapes Go.ChangeAt Go.RowKit Go.Deep
theorem Tryd.cellsByte : Tryd.prog.cellsOf 5 = 1 := by kernel_rfl
theorem Tryd.bytesByte : Tryd.prog.bytesOf 5 = 1 := by kernel_rfl
theorem block_lt {w : World} {a : Addr} {v : Value} (h : w.cell? a = some v) : a.block < w.heap.size := by
  rcases Nat.lt_or_ge a.block w.heap.size with h' | h'
  · exact h'
  · simp [World.cell?, Array.getElem?_eq_none h'] at h
section
variable {H : Type} {enc : TypeId × Value → H} {W : World}
set_option maxRecDepth 100000 in
theorem open_bytes {base b0 : Nat} {held : Bool} {r : Reach} {v : Value} {d : DataW H} {q : List MemPlace} {sp : Nat → Bool}
    (hv : Value.okWide Tryd.prog W r b0 22 v) (h : DataW.Trod enc Tryd.prog W base sp held 22 v d q) :
    ∃ l : List UInt8, Bytes W (fun x => x < W.heap.size) v l ∧ (l = [] ∨ ∃ es spare, d = .slice es spare ∧ es.length = l.length) := by
  obtain ⟨a1, len1, cap1, rfl⟩ := okWide_slice Tryd.underlying22 hv
  obtain ⟨fuel, hf⟩ := h
  rcases open_ints Tryd.underlying22 Tryd.underlying5 Tryd.cellsByte hf with ⟨hcs, hx⟩ | ⟨a, len, cap, zs, hcs, _, hl, hm, hz, hx, hcell, hwz⟩
  · simp [Value.cells] at hcs
    obtain ⟨rfl, rfl, rfl⟩ := hcs
    exact ⟨[], Row.nil _ _ _ _ _, Or.inl rfl⟩
  · simp [Value.cells] at hcs
    obtain ⟨rfl, rfl, rfl⟩ := hcs
    have hlm : len1 ≤ zs.length := by rw [hz]; split <;> omega
    by_cases h0 : len1 = 0
    · subst h0; exact ⟨[], Row.nil _ _ _ _ _, Or.inl rfl⟩
    obtain ⟨ab, ao, spot⟩ := a
    have hspot : spot = none := by simpa [Addr.add] using World.cell?_spot (hcell 0 (by omega))
    subst hspot
    simp only [Addr.add_lit] at hcell
    have hlt : ab < W.heap.size := block_lt (hcell 0 (by omega))
    refine ⟨(zs.take len1).map fun z => UInt8.ofNat z.toNat, Or.inr ⟨ab, ao, cap1, by simp; omega, hlt, by simp; omega, hm, ?_⟩, Or.inr ⟨_, _, (Prod.mk.inj hx).1, by simp [lits]⟩⟩
    intro i cs hi j u hj
    rw [List.getElem?_map, List.getElem?_map] at hi
    by_cases hil : i < len1
    · have e : zs[i]? = some (zs.getD i 0) := by rw [List.getD_eq_getElem?_getD, List.getElem?_eq_getElem (by omega)]; rfl
      rw [List.getElem?_take_of_lt hil, e] at hi
      simp only [Option.map_some, Option.some.injEq] at hi
      have hb : 0 ≤ zs.getD i 0 ∧ zs.getD i 0 < 256 := by
        have := range_u8 hwz i
        rw [List.getD_eq_getElem?_getD]
        omega
      subst hi
      have hc := hcell i (by omega)
      generalize zs.getD i 0 = z at hb hc hj
      match j, hj with
      | 0, hj =>
        simp [byteC] at hj
        subst hj
        rw [Nat.mul_one, Nat.add_zero, hc]
        congr 2
        omega
      | j + 1, hj => simp [byteC] at hj
    · rw [List.getElem?_eq_none (by simp; omega)] at hi
      cases hi
end
theorem law_own : ownKnob Tryd.prog.godebug = none := by kernel_rfl
theorem law_laidOut : laidOutB Tryd.prog = true := by kernel_rfl
end Go.Proofs.YtfiiandnopifnaaDoor
