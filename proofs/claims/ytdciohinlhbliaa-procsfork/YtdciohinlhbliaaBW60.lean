
/-
  rgref5.Build, piece by piece: a capability is put into a table.
-/
import Derived.Test.YtdciohinlhbliaaBW50
import Derived.Deep.RegionHeld3
namespace Go.Proofs.Ytdciohinlhbliaa
open Go.RowKit
def rightsT : List Int := [4095, 255, 1, 768, 3072, 9]
def rightAt (x : Nat) : Int := rightsT.getD x 0
theorem rightsT_ok (x : Nat) (h : x < 6) : 0 ≤ rightAt x ∧ rightAt x ≤ 4095 := by
  match x, h with
  | 0, _ => decide
  | 1, _ => decide
  | 2, _ => decide
  | 3, _ => decide
  | 4, _ => decide
  | 5, _ => decide
/-- A world that came of another one by picks, and blocks that are new. -/
def Pn (g : Nat) (S : Nat → Prop) (W W' : World) : Prop := MK W' g S ∧ On (fun b => b < W.heap.size ∧ b ≠ g) W W' ∧ W.heap.size ≤ W'.heap.size ∧ ∀ B, B ≤ g → Below B W W'
theorem Pn.pick {g : Nat} {S : Nat → Prop} {W W1 W2 : World} (h : Pn g S W W1) (h' : Pk g S W1 W2) : Pn g S W W2 := ⟨h'.1, h.2.1.trans (h'.2.1.less fun b hb => hb.2), by have := h'.2.2.1; have := h.2.2.1; omega, fun B hB => (h.2.2.2 B hB).trans (h'.2.2.2 B hB)⟩
theorem Pn.below {g : Nat} {S : Nat → Prop} {W W1 W2 : World} (h : Pn g S W W1) (hS : ∀ b, S b → b < g) (hg : g < W.heap.size) (h' : Below W1.heap.size W1 W2) : Pn g S W W2 := by
  have := h.2.2.1
  exact ⟨h.1.on (On.of h') (by show g < W1.heap.size; omega) (fun b hb => by have := hS b hb; show b < W1.heap.size; omega), h.2.1.trans ((On.of h').less fun b hb => by omega), by have := h'.size; omega, fun B hB => (h.2.2.2 B hB).trans (h'.mono (by omega))⟩
theorem Pn.alloc {g : Nat} {S : Nat → Prop} {W W1 : World} (h : Pn g S W W1) (hS : ∀ b, S b → b < g) (hg : g < W.heap.size) (o : Obj) : Pn g S W (W1.alloc o) := h.below hS hg ((Below.refl _ _).alloc (Nat.le_refl _) _)
theorem Pn.refl {g : Nat} {S : Nat → Prop} {W : World} (h : MK W g S) : Pn g S W W := ⟨h, fun _ _ => rfl, Nat.le_refl _, fun B _ => Below.refl B W⟩
theorem Pn.drew {g : Nat} {S : Nat → Prop} {W : World} (h : MK W g S) : Pn g S W W.drew := ⟨h.on (T := fun _ => True) (fun _ _ => rfl) trivial (fun _ _ => trivial), fun _ _ => rfl, Nat.le_refl _, fun B _ => (Below.refl B W).drew⟩
theorem Pn.trans {g : Nat} {S : Nat → Prop} {W W1 W2 : World} (h : Pn g S W W1) (h' : Pn g S W1 W2) : Pn g S W W2 := ⟨h'.1, h.2.1.trans (h'.2.1.less fun b hb => ⟨by have := h.2.2.1; omega, hb.2⟩), by have := h'.2.2.1; have := h.2.2.1; omega, fun B hB => (h.2.2.2 B hB).trans (h'.2.2.2 B hB)⟩
theorem pick_pn (g : Nat) (S : Nat → Prop) (hS : ∀ b, S b → b < g) (n : Nat) (hn : 1 ≤ n) (hn2 : n ≤ 1000000) (W W' : World) (h : Pn g S W W') :
    Calls Try.prog 28 #[.pointer (some ⟨g, 0, none⟩), .int .i64 n] W' fun e w' => ∃ x : Nat, e = .returned (.int .i64 x) ∧ x < n ∧ Pn g S W w' ∧ On (fun b => b ≠ g) W' w' ∧ w'.heap.size = W'.heap.size := by
  refine (pick_any g S n hn hn2 W' h.1 (fun b hb => by have := hS b hb; omega)).mono ?_
  rintro e w' ⟨x, rfl, hx, h1, h2, h3, h4⟩
  exact ⟨x, rfl, hx, h.pick ⟨h1, h2, h3, h4⟩, h2, h3⟩
set_option maxRecDepth 1000000 in
set_option maxHeartbeats 16000000 in
theorem reg60_wp (Q : Exit → Act → World → Prop) (K : Act → World → Prop) (W : World) (g gk B : Nat) (Sb S : Nat → Prop) (nO pc : Nat) (pa : Option Addr) (vo vq : Value) (lv fe : Bool) (cd : Int) (s : Sl) (ss : List Sp.Slt) (hSb : ∀ b, Sb b → b < g) (hgk : g < gk) (hgB : g < B) (hmk : MK W g Sb) (hbk : Blk W gk #[vo, .slice pa nO pc, vq] 27) (hbx : Blk W B #[.bool lv, .bool fe, .int .i64 cd, .slice s.a s.n s.c] 43) (hr : Row W S 3 (.slice s.a s.n s.c) (ss.map sltC)) (hS : ∀ b, S b → b < W.heap.size ∧ b ≠ g) (hok : ∀ x ∈ ss, Sp.SltOk nO x) (hn : ss.length < 10) (hnO : 1 ≤ nO) (hnO2 : nO ≤ 1000)
    (x0 x1 x2 x4 x5 x6 x7 x8 x9 x10 x11 x12 x13 x14 x15 x16 x17 x18 x20 x21 x22 x23 x24 x25 x26 x28 x29 x30 x31 x32 x33 x34 x35 x36 x37 x38 x39 x40 x41 x42 x43 x44 x45 x46 x47 x48 x49 x50 x51 x52 x53 x54 x55 x56 x57 x58 x59 x60 x61 x62 x63 x64 x65 x66 x67 x68 x69 x70 x71 x72 x73 x74 x75 x76 x77 x78 x79 x80 x81 x82 x83 x84 x85 x86 x87 x88 x89 x90 x91 x92 x93 x94 x95 x96 x97 x98 x99 x100 x101 x102 x103 x104 x105 x106 x107 x108 x109 x110 x111 x112 x113 x114 x115 x116 x117 x118 x119 x120 x121 x122 x123 x124 x125 x126 x127 x128 x129 x130 x131 x132 x133 x134 x135 x136 x137 x138 x139 x140 x141 x142 x143 x144 x145 x146 x147 x148 x149 x150 x151 x152 x153 x154 x155 x156 x157 x158 x159 x160 x161 x162 x163 x164 x165 x166 x167 x168 x169 x170 x171 x172 x173 x174 x175 x176 x177 x178 x179 x180 x181 x182 x183 x184 x185 x186 x187 x188 x189 x190 x191 x192 x193 x194 x195 x196 x197 x198 x199 x200 x201 x202 x203 x204 x205 x206 x207 x208 x209 x210 x211 x212 x213 x214 x215 x216 x217 x218 x219 x220 x221 x222 x223 x224 x225 x226 x227 x228 x229 x230 x231 x232 x233 x234 x235 x236 x237 x238 x239 x240 x241 x242 x243 x244 x245 x246 x247 x248 x249 x250 x251 x252 x253 x254 x255 x256 x257 x258 x259 x260 x261 x262 x263 x264 x265 x266 x267 x268 x269 x270 x271 x272 x273 x274 x275 x276 x277 x278 x279 x280 x281 x282 x283 x284 x285 x286 x287 x288 x289 x290 x291 x292 x293 x294 x295 x296 x297 x298 : Value)
    (h : ∀ (y211 y212 y213 y214 y215 y216 y217 y218 y219 y220 y221 y222 y223 y224 y225 y226 y227 y228 : Value) (W' : World) (a' : Option Addr) (c' : Nat) (op rt : Int), Sp.SltOk nO ⟨true, op, rt⟩ → Pn g Sb W W' → Row W' (fun b => W.heap.size ≤ b ∧ b < W'.heap.size) 3 (.slice a' (ss.length + 1) c') ((ss ++ [(⟨true, op, rt⟩ : Sp.Slt)]).map sltC) → K ⟨#[x0, x1, x2, .pointer (some ⟨g, 0, none⟩), x4, x5, x6, x7, x8, x9, x10, x11, x12, x13, x14, x15, x16, x17, x18, .pointer (some ⟨gk, 0, none⟩), x20, x21, x22, x23, x24, x25, x26, .pointer (some ⟨B, 0, none⟩), .slice a' (ss.length + 1) c', .int .i64 ss.length, .int .i64 0, x31, x32, x33, x34, x35, x36, x37, x38, x39, x40, x41, x42, x43, x44, x45, x46, x47, x48, x49, x50, x51, x52, x53, x54, x55, x56, x57, x58, x59, x60, x61, x62, x63, x64, x65, x66, x67, x68, x69, x70, x71, x72, x73, x74, x75, x76, x77, x78, x79, x80, x81, x82, x83, x84, x85, x86, x87, x88, x89, x90, x91, x92, x93, x94, x95, x96, x97, x98, x99, x100, x101, x102, x103, x104, x105, x106, x107, x108, x109, x110, x111, x112, x113, x114, x115, x116, x117, x118, x119, x120, x121, x122, x123, x124, x125, x126, x127, x128, x129, x130, x131, x132, x133, x134, x135, x136, x137, x138, x139, x140, x141, x142, x143, x144, x145, x146, x147, x148, x149, x150, x151, x152, x153, x154, x155, x156, x157, x158, x159, x160, x161, x162, x163, x164, x165, x166, x167, x168, x169, x170, x171, x172, x173, x174, x175, x176, x177, x178, x179, x180, x181, x182, x183, x184, x185, x186, x187, x188, x189, x190, x191, x192, x193, x194, x195, x196, x197, x198, x199, x200, x201, x202, x203, x204, x205, x206, x207, x208, x209, x210, y211, y212, y213, y214, y215, y216, y217, y218, y219, y220, y221, y222, y223, y224, y225, y226, y227, y228, x229, x230, x231, x232, x233, x234, x235, x236, x237, x238, x239, x240, x241, x242, x243, x244, x245, x246, x247, x248, x249, x250, x251, x252, x253, x254, x255, x256, x257, x258, x259, x260, x261, x262, x263, x264, x265, x266, x267, x268, x269, x270, x271, x272, x273, x274, x275, x276, x277, x278, x279, x280, x281, x282, x283, x284, x285, x286, x287, x288, x289, x290, x291, x292, x293, x294, x295, x296, x297, x298], []⟩ W') :
    Code.wp Try.prog ((Try.f9.body.bind (findReg 60)).getD .skip) (Exit.then K Q) ⟨#[x0, x1, x2, .pointer (some ⟨g, 0, none⟩), x4, x5, x6, x7, x8, x9, x10, x11, x12, x13, x14, x15, x16, x17, x18, .pointer (some ⟨gk, 0, none⟩), x20, x21, x22, x23, x24, x25, x26, .pointer (some ⟨B, 0, none⟩), x28, x29, x30, x31, x32, x33, x34, x35, x36, x37, x38, x39, x40, x41, x42, x43, x44, x45, x46, x47, x48, x49, x50, x51, x52, x53, x54, x55, x56, x57, x58, x59, x60, x61, x62, x63, x64, x65, x66, x67, x68, x69, x70, x71, x72, x73, x74, x75, x76, x77, x78, x79, x80, x81, x82, x83, x84, x85, x86, x87, x88, x89, x90, x91, x92, x93, x94, x95, x96, x97, x98, x99, x100, x101, x102, x103, x104, x105, x106, x107, x108, x109, x110, x111, x112, x113, x114, x115, x116, x117, x118, x119, x120, x121, x122, x123, x124, x125, x126, x127, x128, x129, x130, x131, x132, x133, x134, x135, x136, x137, x138, x139, x140, x141, x142, x143, x144, x145, x146, x147, x148, x149, x150, x151, x152, x153, x154, x155, x156, x157, x158, x159, x160, x161, x162, x163, x164, x165, x166, x167, x168, x169, x170, x171, x172, x173, x174, x175, x176, x177, x178, x179, x180, x181, x182, x183, x184, x185, x186, x187, x188, x189, x190, x191, x192, x193, x194, x195, x196, x197, x198, x199, x200, x201, x202, x203, x204, x205, x206, x207, x208, x209, x210, x211, x212, x213, x214, x215, x216, x217, x218, x219, x220, x221, x222, x223, x224, x225, x226, x227, x228, x229, x230, x231, x232, x233, x234, x235, x236, x237, x238, x239, x240, x241, x242, x243, x244, x245, x246, x247, x248, x249, x250, x251, x252, x253, x254, x255, x256, x257, x258, x259, x260, x261, x262, x263, x264, x265, x266, x267, x268, x269, x270, x271, x272, x273, x274, x275, x276, x277, x278, x279, x280, x281, x282, x283, x284, x285, x286, x287, x288, x289, x290, x291, x292, x293, x294, x295, x296, x297, x298], []⟩ W := by
  have HH : Hid (∀ (y211 y212 y213 y214 y215 y216 y217 y218 y219 y220 y221 y222 y223 y224 y225 y226 y227 y228 : Value) (W' : World) (a' : Option Addr) (c' : Nat) (op rt : Int), Sp.SltOk nO ⟨true, op, rt⟩ → Pn g Sb W W' → Row W' (fun b => W.heap.size ≤ b ∧ b < W'.heap.size) 3 (.slice a' (ss.length + 1) c') ((ss ++ [(⟨true, op, rt⟩ : Sp.Slt)]).map sltC) → K ⟨#[x0, x1, x2, .pointer (some ⟨g, 0, none⟩), x4, x5, x6, x7, x8, x9, x10, x11, x12, x13, x14, x15, x16, x17, x18, .pointer (some ⟨gk, 0, none⟩), x20, x21, x22, x23, x24, x25, x26, .pointer (some ⟨B, 0, none⟩), .slice a' (ss.length + 1) c', .int .i64 ss.length, .int .i64 0, x31, x32, x33, x34, x35, x36, x37, x38, x39, x40, x41, x42, x43, x44, x45, x46, x47, x48, x49, x50, x51, x52, x53, x54, x55, x56, x57, x58, x59, x60, x61, x62, x63, x64, x65, x66, x67, x68, x69, x70, x71, x72, x73, x74, x75, x76, x77, x78, x79, x80, x81, x82, x83, x84, x85, x86, x87, x88, x89, x90, x91, x92, x93, x94, x95, x96, x97, x98, x99, x100, x101, x102, x103, x104, x105, x106, x107, x108, x109, x110, x111, x112, x113, x114, x115, x116, x117, x118, x119, x120, x121, x122, x123, x124, x125, x126, x127, x128, x129, x130, x131, x132, x133, x134, x135, x136, x137, x138, x139, x140, x141, x142, x143, x144, x145, x146, x147, x148, x149, x150, x151, x152, x153, x154, x155, x156, x157, x158, x159, x160, x161, x162, x163, x164, x165, x166, x167, x168, x169, x170, x171, x172, x173, x174, x175, x176, x177, x178, x179, x180, x181, x182, x183, x184, x185, x186, x187, x188, x189, x190, x191, x192, x193, x194, x195, x196, x197, x198, x199, x200, x201, x202, x203, x204, x205, x206, x207, x208, x209, x210, y211, y212, y213, y214, y215, y216, y217, y218, y219, y220, y221, y222, y223, y224, y225, y226, y227, y228, x229, x230, x231, x232, x233, x234, x235, x236, x237, x238, x239, x240, x241, x242, x243, x244, x245, x246, x247, x248, x249, x250, x251, x252, x253, x254, x255, x256, x257, x258, x259, x260, x261, x262, x263, x264, x265, x266, x267, x268, x269, x270, x271, x272, x273, x274, x275, x276, x277, x278, x279, x280, x281, x282, x283, x284, x285, x286, x287, x288, x289, x290, x291, x292, x293, x294, x295, x296, x297, x298], []⟩ W') := h
  have hgW : g < W.heap.size := by have := hbk.lt; omega
  have hBl := hbx.lt
  have hkl := hbk.lt
  have HP0 : Hid (Pn g Sb W W.drew) := Pn.drew hmk
  have hfar : ∀ w', Pn g Sb W w' → w'.cell? ⟨B, 3, none⟩ = some (.slice s.a s.n s.c) ∧ w'.cell? ⟨gk, 1, none⟩ = some (.slice pa nO pc) := fun w' hp => ⟨by rw [Blk.cell (hbx.on hp.2.1 ⟨hbx.lt, by omega⟩)]; rfl, by rw [Blk.cell (hbk.on hp.2.1 ⟨hbk.lt, by omega⟩)]; rfl⟩
  have HF0 : Hid _ := hfar
  have HAL : Hid (∀ w', Pn g Sb W w' → Pn g Sb W (w'.alloc (.cells #[.int .i64 4095, .int .i64 255, .int .i64 1, .int .i64 768, .int .i64 3072, .int .i64 9] 3))) := fun w' hp => hp.alloc hSb hgW _
  have HPD : Hid (Pn g Sb W (W.alloc (.cells #[.int .i64 4095, .int .i64 255, .int .i64 1, .int .i64 768, .int .i64 3072, .int .i64 9] 3)).drew) := (HAL.out _ HP0.out)
  have HP1 : Hid (∀ w', Pn g Sb W w' → Calls Try.prog 28 #[.pointer (some ⟨g, 0, none⟩), .int .i64 nO] w' fun e w'' => ∃ x : Nat, e = .returned (.int .i64 x) ∧ x < nO ∧ Pn g Sb W w'' ∧ (w''.cell? ⟨B, 3, none⟩ = some (.slice s.a s.n s.c) ∧ w''.cell? ⟨gk, 1, none⟩ = some (.slice pa nO pc)) ∧ On (fun b => b ≠ g) w' w'' ∧ (B < w''.heap.size ∧ gk < w''.heap.size ∧ g < w''.heap.size)) := fun w' hp => by
    refine (pick_pn g Sb hSb nO hnO (by omega) W w' hp).mono ?_
    rintro e w'' ⟨x, rfl, hx, hp', ho, hz⟩
    exact ⟨x, rfl, hx, hp', hfar _ hp', ho, by have := hp'.2.2.1; omega⟩
  have HP2 : Hid (∀ w', Pn g Sb W w' → Calls Try.prog 28 #[.pointer (some ⟨g, 0, none⟩), .int .i64 6] w' fun e w'' => ∃ x : Nat, e = .returned (.int .i64 x) ∧ x < 6 ∧ Pn g Sb W w'' ∧ (w''.cell? ⟨B, 3, none⟩ = some (.slice s.a s.n s.c) ∧ w''.cell? ⟨gk, 1, none⟩ = some (.slice pa nO pc)) ∧ On (fun b => b ≠ g) w' w'' ∧ (B < w''.heap.size ∧ gk < w''.heap.size ∧ g < w''.heap.size)) := fun w' hp => by
    refine (pick_pn g Sb hSb 6 (by decide) (by decide) W w' hp).mono ?_
    rintro e w'' ⟨x, rfl, hx, hp', ho, hz⟩
    exact ⟨x, rfl, hx, hp', hfar _ hp', ho, by have := hp'.2.2.1; omega⟩
  have HPU : Hid (∀ w', Pn g Sb W w' → ∀ (op : Nat) (x : Nat), op < nO → x < 6 → Calls Try.prog 33 #[.slice s.a s.n s.c, .agg #[.int .i64 op, .int .i64 (rightAt x)]] w' fun e w'' => ∃ a c, e = .returned (.tuple #[.slice a (ss.length + 1) c, .int .i64 ss.length, .int .i64 0]) ∧ Row w'' (fun b => W.heap.size ≤ b ∧ b < w''.heap.size) 3 (.slice a (ss.length + 1) c) ((ss ++ [(⟨true, (op : Int), rightAt x⟩ : Sp.Slt)]).map sltC) ∧ Pn g Sb W w'') := fun w' hp op x hop hx => by
    refine (put_app ss (op : Int) (rightAt x) (.slice s.a s.n s.c) S w' (hr.on (hp.2.1.less hS)) (fun b hb => by have := (hS b hb).1; have := hp.2.2.1; omega) hn (fun y hy => (hok y hy).1) (by omega) (rightsT_ok x hx).1 (rightsT_ok x hx).2).mono ?_
    rintro e w'' ⟨a, c, rfl, hrow, hb⟩
    exact ⟨a, c, rfl, hrow.more fun b hb => ⟨by have := hp.2.2.1; omega, hb.2⟩, hp.below hSb hgW hb⟩
  have HOK : Hid (∀ (op x : Nat), op < nO → x < 6 → Sp.SltOk nO ⟨true, (op : Int), rightAt x⟩) := fun op x hop hx => ⟨rfl, by show (0 : Int) ≤ op; omega, by show (op : Int) < nO; omega, (rightsT_ok x hx).1, (rightsT_ok x hx).2⟩
  have HT : Hid (∀ (x : Nat), x < 6 → ∀ (w' : World) (b : Nat), (∀ j, w'.cell? ⟨b, j, none⟩ = (#[.int .i64 4095, .int .i64 255, .int .i64 1, .int .i64 768, .int .i64 3072, .int .i64 9] : Array Value)[j]?) → w'.cell? ⟨b, x, none⟩ = some (.int .i64 (rightAt x))) := fun x hx w' b hc => by
    rw [hc]
    match x, hx with
    | 0, _ | 1, _ | 2, _ | 3, _ | 4, _ | 5, _ => rfl
  have HT2 : Hid (∀ (x : Nat), x < 6 → (#[.int .i64 4095, .int .i64 255, .int .i64 1, .int .i64 768, .int .i64 3072, .int .i64 9] : Array Value)[x]? = some (.int .i64 (rightAt x))) := fun x hx => by
    match x, hx with
    | 0, _ | 1, _ | 2, _ | 3, _ | 4, _ | 5, _ => rfl
  have HT3 : Hid (∀ (x : Nat), x < 6 → ([.int .i64 4095, .int .i64 255, .int .i64 1, .int .i64 768, .int .i64 3072, .int .i64 9] : List Value)[x]? = some (.int .i64 (rightAt x))) := fun x hx => by
    match x, hx with
    | 0, _ | 1, _ | 2, _ | 3, _ | 4, _ | 5, _ => rfl
  have HT4 : Hid (∀ (x : Nat), x < 6 → ∀ h, ([.int .i64 4095, .int .i64 255, .int .i64 1, .int .i64 768, .int .i64 3072, .int .i64 9] : List Value)[x]'h = .int .i64 (rightAt x)) := fun x hx _ => by
    match x, hx with
    | 0, _ | 1, _ | 2, _ | 3, _ | 4, _ | 5, _ => rfl
  have hc0 := (hfar W (Pn.refl hmk)).1
  have hc1 := (hfar W (Pn.refl hmk)).2
  have hnz : (1 : Int) ≤ (nO : Int) := by omega
  clear h hfar hbk hbx hr hS hok hmk hSb
  refine wp_mono (Q := Exit.then K (fun _ _ _ => False)) ?_ (fun e a w h => by cases e <;> first | exact h | exact h.elim)
  conv => arg 2; whnf
  refine wp_region_held_drew (S := (fun w' => w'.cell? ⟨B, 3, none⟩ = some (.slice s.a s.n s.c) ∧ w'.cell? ⟨gk, 1, none⟩ = some (.slice pa nO pc))) (by kernel_rfl) ?_ (fun hHeld => ?_)
  · exact ⟨hc0, hc1⟩
  refine wpAnyH_take (i := 0) (v := ?_) (by simp only [List.getElem?_toArray, List.getElem?_cons_zero]; rfl) (by kernel_rfl) (by kernel_rfl) (by kernel_rfl) (fun _ _ _ h => h) (Or.inl ⟨by rfl, ?_⟩) (by assumption) ?_
  rotate_left
  · intro w hSw; (try dsimp only at hSw); go_simp; first | done | with_reducible rfl
  try simp only [Act.put, List.setIfInBounds_toArray, List.set_cons_zero, List.set_cons_succ]
  refine wpAnyH_take (i := 1) (v := ?_) (by simp only [List.getElem?_toArray, List.getElem?_cons_succ, List.getElem?_cons_zero]; rfl) (by kernel_rfl) (by kernel_rfl) (by kernel_rfl) (fun _ _ _ h => h) (Or.inl ⟨by rfl, ?_⟩) (by assumption) ?_
  rotate_left
  · intro w hSw; (try dsimp only at hSw); go_simp; first | done | with_reducible rfl
  try simp only [Act.put, List.setIfInBounds_toArray, List.set_cons_zero, List.set_cons_succ]
  refine wpAnyH_take (i := 2) (v := ?_) (by simp only [List.getElem?_toArray, List.getElem?_cons_succ, List.getElem?_cons_zero]; rfl) (by kernel_rfl) (by kernel_rfl) (by kernel_rfl) (fun _ _ _ h => h) (Or.inl ⟨by rfl, ?_⟩) (by assumption) ?_
  rotate_left
  · intro w hSw; (try dsimp only at hSw); go_simp; first | done | with_reducible rfl
  try simp only [Act.put, List.setIfInBounds_toArray, List.set_cons_zero, List.set_cons_succ]
  refine wpAnyH_take (i := 3) (v := ?_) (by simp only [List.getElem?_toArray, List.getElem?_cons_succ, List.getElem?_cons_zero]; rfl) (by kernel_rfl) (by kernel_rfl) (by kernel_rfl) (fun _ _ _ h => h) (Or.inl ⟨by rfl, ?_⟩) (by assumption) ?_
  rotate_left
  · intro w hSw; (try dsimp only at hSw); go_simp; first | done | with_reducible rfl
  try simp only [Act.put, List.setIfInBounds_toArray, List.set_cons_zero, List.set_cons_succ]
  refine wpAnyH_take (i := 4) (v := ?_) (by simp only [List.getElem?_toArray, List.getElem?_cons_succ, List.getElem?_cons_zero]; rfl) (by kernel_rfl) (by kernel_rfl) (by kernel_rfl) (fun _ _ _ h => h) (Or.inl ⟨by rfl, ?_⟩) (by assumption) ?_
  rotate_left
  · intro w hSw; (try dsimp only at hSw); go_simp; first | done | with_reducible rfl
  try simp only [Act.put, List.setIfInBounds_toArray, List.set_cons_zero, List.set_cons_succ]
  refine wpAnyH_take (i := 5) (v := ?_) (by simp only [List.getElem?_toArray, List.getElem?_cons_succ, List.getElem?_cons_zero]; rfl) (by kernel_rfl) (by kernel_rfl) (by kernel_rfl) (fun _ _ _ h => h) (Or.inl ⟨by rfl, ?_⟩) (by assumption) ?_
  rotate_left
  · intro w hSw; (try dsimp only at hSw); go_simp; first | done | with_reducible rfl
  try simp only [Act.put, List.setIfInBounds_toArray, List.set_cons_zero, List.set_cons_succ]
  refine wpAnyH_take (i := 8) (v := ?_) (by simp only [List.getElem?_toArray, List.getElem?_cons_succ, List.getElem?_cons_zero]; rfl) (by kernel_rfl) (by kernel_rfl) (by kernel_rfl) (fun _ _ _ h => h) (Or.inl ⟨by rfl, ?_⟩) (by assumption) ?_
  rotate_left
  · intro w hSw; (try dsimp only at hSw); go_simp; first | done | with_reducible rfl
  try simp only [Act.put, List.setIfInBounds_toArray, List.set_cons_zero, List.set_cons_succ]
  refine wpAnyH_ready (rs := [6, 7]) (by kernel_rfl) (by simp) ?_
  refine AllReadyH.cons (by simp only [List.getElem?_toArray, List.getElem?_cons_succ, List.getElem?_cons_zero]; rfl) (fun K hK => ?_) (AllReadyH.cons (by simp only [List.getElem?_toArray, List.getElem?_cons_succ, List.getElem?_cons_zero]; rfl) (fun K hK => ?_) AllReadyH.nil)
  · go_simp
    refine Calls.mono (HP1.out _ HP0.out) ?_
    rintro e W1 ⟨x1, rfl, hx1, hp1, ⟨hs1, hs1'⟩, ho1, hb1, hb1', hb1''⟩
    go_wp2_with fail
    refine hK.out _ _ ⟨hs1, hs1'⟩ (fun hHeld => ?_)
    clear hK K
    refine wpAnyH_ready (rs := [7, 9]) (by kernel_rfl) (by simp) ?_
    refine AllReadyH.cons (by simp only [List.getElem?_toArray, List.getElem?_cons_succ, List.getElem?_cons_zero]; rfl) (fun K hK => ?_) (AllReadyH.cons (by simp only [List.getElem?_toArray, List.getElem?_cons_succ, List.getElem?_cons_zero]; rfl) (fun K hK => ?_) AllReadyH.nil)
    · go_simp
      refine hK.out _ _ ?_ (fun hHeld => ?_)
      · (try dsimp only); go_keep
      clear hK K
      refine wpAnyH_ready (rs := [9]) (by kernel_rfl) (by simp) ?_
      refine AllReadyH.cons (by simp only [List.getElem?_toArray, List.getElem?_cons_succ, List.getElem?_cons_zero]; rfl) (fun K hK => ?_) AllReadyH.nil
      go_simp
      refine Calls.mono (HP2.out _ (HAL.out _ hp1)) ?_
      rintro e W2 ⟨x2, rfl, hx2, hp2, ⟨hs2, hs2'⟩, ho2, hb2, hb2', hb2''⟩
      have hx2z : (x2 : Int) < 6 := by omega
      have hx20 : (0 : Int) ≤ (x2 : Int) := by omega
      have ht : W2.cell? ⟨W1.heap.size, x2, none⟩ = some (.int .i64 (rightAt x2)) := HT.out x2 hx2 W2 W1.heap.size (Blk.cell (Blk.on (Blk.new W1 #[.int .i64 4095, .int .i64 255, .int .i64 1, .int .i64 768, .int .i64 3072, .int .i64 9] 3) ho2 (by show W1.heap.size ≠ g; omega)))
      go_wp2_with fail
      refine hK.out _ _ ⟨hs2, hs2'⟩ (fun hHeld => ?_)
      clear hK K
      refine wpAnyH_take (i := 10) (v := ?_) (by simp only [List.getElem?_toArray, List.getElem?_cons_succ, List.getElem?_cons_zero]; rfl) (by kernel_rfl) (by kernel_rfl) (by kernel_rfl) (fun _ _ _ h => h) (Or.inl ⟨by rfl, ?_⟩) (by assumption) ?_
      rotate_left
      · intro w hSw; (try dsimp only at hSw); go_simp; first | done | with_reducible rfl
      try simp only [Act.put, List.setIfInBounds_toArray, List.set_cons_zero, List.set_cons_succ]
      refine wpAnyH_ready (rs := [11]) (by kernel_rfl) (by simp) ?_
      refine AllReadyH.cons (by simp only [List.getElem?_toArray, List.getElem?_cons_succ, List.getElem?_cons_zero]; rfl) (fun K hK => ?_) AllReadyH.nil
      go_simp
      refine hK.out _ _ (by assumption) (fun hHeld => ?_)
      clear hK K
      refine wpAnyH_take (i := 12) (v := ?_) (by simp only [List.getElem?_toArray, List.getElem?_cons_succ, List.getElem?_cons_zero]; rfl) (by kernel_rfl) (by kernel_rfl) (by kernel_rfl) (fun _ _ _ h => h) (Or.inl ⟨by rfl, ?_⟩) (by assumption) ?_
      rotate_left
      · intro w hSw; (try dsimp only at hSw); go_simp; first | done | with_reducible rfl
      try simp only [Act.put, List.setIfInBounds_toArray, List.set_cons_zero, List.set_cons_succ]
      refine wpAnyH_ready (rs := [13]) (by kernel_rfl) (by simp) ?_
      refine AllReadyH.cons (by simp only [List.getElem?_toArray, List.getElem?_cons_succ, List.getElem?_cons_zero]; rfl) (fun K hK => ?_) AllReadyH.nil
      go_simp
      refine Calls.mono (HPU.out _ hp2 x1 x2 hx1 hx2) ?_
      rintro e W3 ⟨a3, c3, rfl, hrow3, hp3⟩
      have hs3 := HF0.out W3 hp3
      go_wp2_with fail
      refine hK.out _ _ hs3 (fun hHeld => ?_)
      clear hK K
      refine wpAnyH_take (i := 14) (v := ?_) (by simp only [List.getElem?_toArray, List.getElem?_cons_succ, List.getElem?_cons_zero]; rfl) (by kernel_rfl) (by kernel_rfl) (by kernel_rfl) (fun _ _ _ h => h) (Or.inl ⟨by rfl, ?_⟩) (by assumption) ?_
      rotate_left
      · intro w hSw; (try dsimp only at hSw); go_simp; first | done | with_reducible rfl
      try simp only [Act.put, List.setIfInBounds_toArray, List.set_cons_zero, List.set_cons_succ]
      refine wpAnyH_take (i := 15) (v := ?_) (by simp only [List.getElem?_toArray, List.getElem?_cons_succ, List.getElem?_cons_zero]; rfl) (by kernel_rfl) (by kernel_rfl) (by kernel_rfl) (fun _ _ _ h => h) (Or.inl ⟨by rfl, ?_⟩) (by assumption) ?_
      rotate_left
      · intro w hSw; (try dsimp only at hSw); go_simp; first | done | with_reducible rfl
      try simp only [Act.put, List.setIfInBounds_toArray, List.set_cons_zero, List.set_cons_succ]
      refine wpAnyH_take (i := 16) (v := ?_) (by simp only [List.getElem?_toArray, List.getElem?_cons_succ, List.getElem?_cons_zero]; rfl) (by kernel_rfl) (by kernel_rfl) (by kernel_rfl) (fun _ _ _ h => h) (Or.inl ⟨by rfl, ?_⟩) (by assumption) ?_
      rotate_left
      · intro w hSw; (try dsimp only at hSw); go_simp; first | done | with_reducible rfl
      try simp only [Act.put, List.setIfInBounds_toArray, List.set_cons_zero, List.set_cons_succ]
      refine wpAnyH_take (i := 17) (v := ?_) (by simp only [List.getElem?_toArray, List.getElem?_cons_succ, List.getElem?_cons_zero]; rfl) (by kernel_rfl) (by kernel_rfl) (by kernel_rfl) (fun _ _ _ h => h) (Or.inl ⟨by rfl, ?_⟩) (by assumption) ?_
      rotate_left
      · intro w hSw; (try dsimp only at hSw); go_simp; first | done | with_reducible rfl
      try simp only [Act.put, List.setIfInBounds_toArray, List.set_cons_zero, List.set_cons_succ]
      refine wpAnyH_take (i := 18) (v := ?_) (by simp only [List.getElem?_toArray, List.getElem?_cons_succ, List.getElem?_cons_zero]; rfl) (by kernel_rfl) (by kernel_rfl) (by kernel_rfl) (fun _ _ _ h => h) (Or.inl ⟨by rfl, ?_⟩) (by assumption) ?_
      rotate_left
      · intro w hSw; (try dsimp only at hSw); go_simp; first | done | with_reducible rfl
      try simp only [Act.put, List.setIfInBounds_toArray, List.set_cons_zero, List.set_cons_succ]
      refine wpAnyH_take (i := 19) (v := ?_) (by simp only [List.getElem?_toArray, List.getElem?_cons_succ, List.getElem?_cons_zero]; rfl) (by kernel_rfl) (by kernel_rfl) (by kernel_rfl) (fun _ _ _ h => h) (Or.inl ⟨by rfl, ?_⟩) (by assumption) ?_
      rotate_left
      · intro w hSw; (try dsimp only at hSw); go_simp; first | done | with_reducible rfl
      try simp only [Act.put, List.setIfInBounds_toArray, List.set_cons_zero, List.set_cons_succ]
      refine wpAnyH_take (i := 20) (v := ?_) (by simp only [List.getElem?_toArray, List.getElem?_cons_succ, List.getElem?_cons_zero]; rfl) (by kernel_rfl) (by kernel_rfl) (by kernel_rfl) (fun _ _ _ h => h) (Or.inl ⟨by rfl, ?_⟩) (by assumption) ?_
      rotate_left
      · intro w hSw; (try dsimp only at hSw); go_simp; first | done | with_reducible rfl
      try simp only [Act.put, List.setIfInBounds_toArray, List.set_cons_zero, List.set_cons_succ]
      refine wpAnyH_done (by kernel_rfl) ?_ _
      exact HH.out _ _ _ _ _ _ _ _ _ _ _ _ _ _ _ _ _ _ W3 a3 c3 _ _ (HOK.out x1 x2 hx1 hx2) hp3 hrow3
    · go_simp
      refine Calls.mono (HP2.out _ hp1) ?_
      rintro e W2 ⟨x2, rfl, hx2, hp2, ⟨hs2, hs2'⟩, ho2, hb2, hb2', hb2''⟩
      have hx2z : (x2 : Int) < 6 := by omega
      have hx20 : (0 : Int) ≤ (x2 : Int) := by omega
      have ht4 := HT4.out x2 hx2
      go_wp2_with fail
      refine hK.out _ _ ⟨hs2, hs2'⟩ (fun hHeld => ?_)
      clear hK K
      refine wpAnyH_ready (rs := [7]) (by kernel_rfl) (by simp) ?_
      refine AllReadyH.cons (by simp only [List.getElem?_toArray, List.getElem?_cons_succ, List.getElem?_cons_zero]; rfl) (fun K hK => ?_) AllReadyH.nil
      go_simp
      refine hK.out _ _ ?_ (fun hHeld => ?_)
      · (try dsimp only); go_keep
      clear hK K
      refine wpAnyH_take (i := 10) (v := ?_) (by simp only [List.getElem?_toArray, List.getElem?_cons_succ, List.getElem?_cons_zero]; rfl) (by kernel_rfl) (by kernel_rfl) (by kernel_rfl) (fun _ _ _ h => h) (Or.inl ⟨by rfl, ?_⟩) (by assumption) ?_
      rotate_left
      · intro w hSw; (try dsimp only at hSw); go_simp; first | done | with_reducible rfl
      try simp only [Act.put, List.setIfInBounds_toArray, List.set_cons_zero, List.set_cons_succ]
      refine wpAnyH_ready (rs := [11]) (by kernel_rfl) (by simp) ?_
      refine AllReadyH.cons (by simp only [List.getElem?_toArray, List.getElem?_cons_succ, List.getElem?_cons_zero]; rfl) (fun K hK => ?_) AllReadyH.nil
      go_simp
      refine hK.out _ _ (by assumption) (fun hHeld => ?_)
      clear hK K
      refine wpAnyH_take (i := 12) (v := ?_) (by simp only [List.getElem?_toArray, List.getElem?_cons_succ, List.getElem?_cons_zero]; rfl) (by kernel_rfl) (by kernel_rfl) (by kernel_rfl) (fun _ _ _ h => h) (Or.inl ⟨by rfl, ?_⟩) (by assumption) ?_
      rotate_left
      · intro w hSw; (try dsimp only at hSw); go_simp; first | done | with_reducible rfl
      try simp only [Act.put, List.setIfInBounds_toArray, List.set_cons_zero, List.set_cons_succ]
      refine wpAnyH_ready (rs := [13]) (by kernel_rfl) (by simp) ?_
      refine AllReadyH.cons (by simp only [List.getElem?_toArray, List.getElem?_cons_succ, List.getElem?_cons_zero]; rfl) (fun K hK => ?_) AllReadyH.nil
      go_simp
      refine Calls.mono (HPU.out _ (HAL.out _ hp2) x1 x2 hx1 hx2) ?_
      rintro e W3 ⟨a3, c3, rfl, hrow3, hp3⟩
      have hs3 := HF0.out W3 hp3
      go_wp2_with fail
      refine hK.out _ _ hs3 (fun hHeld => ?_)
      clear hK K
      refine wpAnyH_take (i := 14) (v := ?_) (by simp only [List.getElem?_toArray, List.getElem?_cons_succ, List.getElem?_cons_zero]; rfl) (by kernel_rfl) (by kernel_rfl) (by kernel_rfl) (fun _ _ _ h => h) (Or.inl ⟨by rfl, ?_⟩) (by assumption) ?_
      rotate_left
      · intro w hSw; (try dsimp only at hSw); go_simp; first | done | with_reducible rfl
      try simp only [Act.put, List.setIfInBounds_toArray, List.set_cons_zero, List.set_cons_succ]
      refine wpAnyH_take (i := 15) (v := ?_) (by simp only [List.getElem?_toArray, List.getElem?_cons_succ, List.getElem?_cons_zero]; rfl) (by kernel_rfl) (by kernel_rfl) (by kernel_rfl) (fun _ _ _ h => h) (Or.inl ⟨by rfl, ?_⟩) (by assumption) ?_
      rotate_left
      · intro w hSw; (try dsimp only at hSw); go_simp; first | done | with_reducible rfl
      try simp only [Act.put, List.setIfInBounds_toArray, List.set_cons_zero, List.set_cons_succ]
      refine wpAnyH_take (i := 16) (v := ?_) (by simp only [List.getElem?_toArray, List.getElem?_cons_succ, List.getElem?_cons_zero]; rfl) (by kernel_rfl) (by kernel_rfl) (by kernel_rfl) (fun _ _ _ h => h) (Or.inl ⟨by rfl, ?_⟩) (by assumption) ?_
      rotate_left
      · intro w hSw; (try dsimp only at hSw); go_simp; first | done | with_reducible rfl
      try simp only [Act.put, List.setIfInBounds_toArray, List.set_cons_zero, List.set_cons_succ]
      refine wpAnyH_take (i := 17) (v := ?_) (by simp only [List.getElem?_toArray, List.getElem?_cons_succ, List.getElem?_cons_zero]; rfl) (by kernel_rfl) (by kernel_rfl) (by kernel_rfl) (fun _ _ _ h => h) (Or.inl ⟨by rfl, ?_⟩) (by assumption) ?_
      rotate_left
      · intro w hSw; (try dsimp only at hSw); go_simp; first | done | with_reducible rfl
      try simp only [Act.put, List.setIfInBounds_toArray, List.set_cons_zero, List.set_cons_succ]
      refine wpAnyH_take (i := 18) (v := ?_) (by simp only [List.getElem?_toArray, List.getElem?_cons_succ, List.getElem?_cons_zero]; rfl) (by kernel_rfl) (by kernel_rfl) (by kernel_rfl) (fun _ _ _ h => h) (Or.inl ⟨by rfl, ?_⟩) (by assumption) ?_
      rotate_left
      · intro w hSw; (try dsimp only at hSw); go_simp; first | done | with_reducible rfl
      try simp only [Act.put, List.setIfInBounds_toArray, List.set_cons_zero, List.set_cons_succ]
      refine wpAnyH_take (i := 19) (v := ?_) (by simp only [List.getElem?_toArray, List.getElem?_cons_succ, List.getElem?_cons_zero]; rfl) (by kernel_rfl) (by kernel_rfl) (by kernel_rfl) (fun _ _ _ h => h) (Or.inl ⟨by rfl, ?_⟩) (by assumption) ?_
      rotate_left
      · intro w hSw; (try dsimp only at hSw); go_simp; first | done | with_reducible rfl
      try simp only [Act.put, List.setIfInBounds_toArray, List.set_cons_zero, List.set_cons_succ]
      refine wpAnyH_take (i := 20) (v := ?_) (by simp only [List.getElem?_toArray, List.getElem?_cons_succ, List.getElem?_cons_zero]; rfl) (by kernel_rfl) (by kernel_rfl) (by kernel_rfl) (fun _ _ _ h => h) (Or.inl ⟨by rfl, ?_⟩) (by assumption) ?_
      rotate_left
      · intro w hSw; (try dsimp only at hSw); go_simp; first | done | with_reducible rfl
      try simp only [Act.put, List.setIfInBounds_toArray, List.set_cons_zero, List.set_cons_succ]
      refine wpAnyH_done (by kernel_rfl) ?_ _
      exact HH.out _ _ _ _ _ _ _ _ _ _ _ _ _ _ _ _ _ _ W3 a3 c3 _ _ (HOK.out x1 x2 hx1 hx2) hp3 hrow3
  · go_simp
    refine hK.out _ _ ?_ (fun hHeld => ?_)
    · (try dsimp only); go_keep
    clear hK K
    refine wpAnyH_ready (rs := [6]) (by kernel_rfl) (by simp) ?_
    refine AllReadyH.cons (by simp only [List.getElem?_toArray, List.getElem?_cons_succ, List.getElem?_cons_zero]; rfl) (fun K hK => ?_) AllReadyH.nil
    go_simp
    refine Calls.mono (HP1.out _ HPD.out) ?_
    rintro e W1 ⟨x1, rfl, hx1, hp1, ⟨hs1, hs1'⟩, ho1, hb1, hb1', hb1''⟩
    have hB1 : Blk W1 W.heap.size #[.int .i64 4095, .int .i64 255, .int .i64 1, .int .i64 768, .int .i64 3072, .int .i64 9] 3 := Blk.on (w := (W.alloc (.cells #[.int .i64 4095, .int .i64 255, .int .i64 1, .int .i64 768, .int .i64 3072, .int .i64 9] 3)).drew) (Blk.new W #[.int .i64 4095, .int .i64 255, .int .i64 1, .int .i64 768, .int .i64 3072, .int .i64 9] 3) ho1 (by show W.heap.size ≠ g; omega)
    go_wp2_with fail
    refine hK.out _ _ ⟨hs1, hs1'⟩ (fun hHeld => ?_)
    clear hK K
    refine wpAnyH_ready (rs := [9]) (by kernel_rfl) (by simp) ?_
    refine AllReadyH.cons (by simp only [List.getElem?_toArray, List.getElem?_cons_succ, List.getElem?_cons_zero]; rfl) (fun K hK => ?_) AllReadyH.nil
    go_simp
    refine Calls.mono (HP2.out _ hp1) ?_
    rintro e W2 ⟨x2, rfl, hx2, hp2, ⟨hs2, hs2'⟩, ho2, hb2, hb2', hb2''⟩
    have hx2z : (x2 : Int) < 6 := by omega
    have hx20 : (0 : Int) ≤ (x2 : Int) := by omega
    have ht : W2.cell? ⟨W.heap.size, x2, none⟩ = some (.int .i64 (rightAt x2)) := HT.out x2 hx2 W2 W.heap.size (Blk.cell (Blk.on hB1 ho2 (by show W.heap.size ≠ g; omega)))
    go_wp2_with fail
    refine hK.out _ _ ⟨hs2, hs2'⟩ (fun hHeld => ?_)
    clear hK K
    refine wpAnyH_take (i := 10) (v := ?_) (by simp only [List.getElem?_toArray, List.getElem?_cons_succ, List.getElem?_cons_zero]; rfl) (by kernel_rfl) (by kernel_rfl) (by kernel_rfl) (fun _ _ _ h => h) (Or.inl ⟨by rfl, ?_⟩) (by assumption) ?_
    rotate_left
    · intro w hSw; (try dsimp only at hSw); go_simp; first | done | with_reducible rfl
    try simp only [Act.put, List.setIfInBounds_toArray, List.set_cons_zero, List.set_cons_succ]
    refine wpAnyH_ready (rs := [11]) (by kernel_rfl) (by simp) ?_
    refine AllReadyH.cons (by simp only [List.getElem?_toArray, List.getElem?_cons_succ, List.getElem?_cons_zero]; rfl) (fun K hK => ?_) AllReadyH.nil
    go_simp
    refine hK.out _ _ (by assumption) (fun hHeld => ?_)
    clear hK K
    refine wpAnyH_take (i := 12) (v := ?_) (by simp only [List.getElem?_toArray, List.getElem?_cons_succ, List.getElem?_cons_zero]; rfl) (by kernel_rfl) (by kernel_rfl) (by kernel_rfl) (fun _ _ _ h => h) (Or.inl ⟨by rfl, ?_⟩) (by assumption) ?_
    rotate_left
    · intro w hSw; (try dsimp only at hSw); go_simp; first | done | with_reducible rfl
    try simp only [Act.put, List.setIfInBounds_toArray, List.set_cons_zero, List.set_cons_succ]
    refine wpAnyH_ready (rs := [13]) (by kernel_rfl) (by simp) ?_
    refine AllReadyH.cons (by simp only [List.getElem?_toArray, List.getElem?_cons_succ, List.getElem?_cons_zero]; rfl) (fun K hK => ?_) AllReadyH.nil
    go_simp
    refine Calls.mono (HPU.out _ hp2 x1 x2 hx1 hx2) ?_
    rintro e W3 ⟨a3, c3, rfl, hrow3, hp3⟩
    have hs3 := HF0.out W3 hp3
    go_wp2_with fail
    refine hK.out _ _ hs3 (fun hHeld => ?_)
    clear hK K
    refine wpAnyH_take (i := 14) (v := ?_) (by simp only [List.getElem?_toArray, List.getElem?_cons_succ, List.getElem?_cons_zero]; rfl) (by kernel_rfl) (by kernel_rfl) (by kernel_rfl) (fun _ _ _ h => h) (Or.inl ⟨by rfl, ?_⟩) (by assumption) ?_
    rotate_left
    · intro w hSw; (try dsimp only at hSw); go_simp; first | done | with_reducible rfl
    try simp only [Act.put, List.setIfInBounds_toArray, List.set_cons_zero, List.set_cons_succ]
    refine wpAnyH_take (i := 15) (v := ?_) (by simp only [List.getElem?_toArray, List.getElem?_cons_succ, List.getElem?_cons_zero]; rfl) (by kernel_rfl) (by kernel_rfl) (by kernel_rfl) (fun _ _ _ h => h) (Or.inl ⟨by rfl, ?_⟩) (by assumption) ?_
    rotate_left
    · intro w hSw; (try dsimp only at hSw); go_simp; first | done | with_reducible rfl
    try simp only [Act.put, List.setIfInBounds_toArray, List.set_cons_zero, List.set_cons_succ]
    refine wpAnyH_take (i := 16) (v := ?_) (by simp only [List.getElem?_toArray, List.getElem?_cons_succ, List.getElem?_cons_zero]; rfl) (by kernel_rfl) (by kernel_rfl) (by kernel_rfl) (fun _ _ _ h => h) (Or.inl ⟨by rfl, ?_⟩) (by assumption) ?_
    rotate_left
    · intro w hSw; (try dsimp only at hSw); go_simp; first | done | with_reducible rfl
    try simp only [Act.put, List.setIfInBounds_toArray, List.set_cons_zero, List.set_cons_succ]
    refine wpAnyH_take (i := 17) (v := ?_) (by simp only [List.getElem?_toArray, List.getElem?_cons_succ, List.getElem?_cons_zero]; rfl) (by kernel_rfl) (by kernel_rfl) (by kernel_rfl) (fun _ _ _ h => h) (Or.inl ⟨by rfl, ?_⟩) (by assumption) ?_
    rotate_left
    · intro w hSw; (try dsimp only at hSw); go_simp; first | done | with_reducible rfl
    try simp only [Act.put, List.setIfInBounds_toArray, List.set_cons_zero, List.set_cons_succ]
    refine wpAnyH_take (i := 18) (v := ?_) (by simp only [List.getElem?_toArray, List.getElem?_cons_succ, List.getElem?_cons_zero]; rfl) (by kernel_rfl) (by kernel_rfl) (by kernel_rfl) (fun _ _ _ h => h) (Or.inl ⟨by rfl, ?_⟩) (by assumption) ?_
    rotate_left
    · intro w hSw; (try dsimp only at hSw); go_simp; first | done | with_reducible rfl
    try simp only [Act.put, List.setIfInBounds_toArray, List.set_cons_zero, List.set_cons_succ]
    refine wpAnyH_take (i := 19) (v := ?_) (by simp only [List.getElem?_toArray, List.getElem?_cons_succ, List.getElem?_cons_zero]; rfl) (by kernel_rfl) (by kernel_rfl) (by kernel_rfl) (fun _ _ _ h => h) (Or.inl ⟨by rfl, ?_⟩) (by assumption) ?_
    rotate_left
    · intro w hSw; (try dsimp only at hSw); go_simp; first | done | with_reducible rfl
    try simp only [Act.put, List.setIfInBounds_toArray, List.set_cons_zero, List.set_cons_succ]
    refine wpAnyH_take (i := 20) (v := ?_) (by simp only [List.getElem?_toArray, List.getElem?_cons_succ, List.getElem?_cons_zero]; rfl) (by kernel_rfl) (by kernel_rfl) (by kernel_rfl) (fun _ _ _ h => h) (Or.inl ⟨by rfl, ?_⟩) (by assumption) ?_
    rotate_left
    · intro w hSw; (try dsimp only at hSw); go_simp; first | done | with_reducible rfl
    try simp only [Act.put, List.setIfInBounds_toArray, List.set_cons_zero, List.set_cons_succ]
    refine wpAnyH_done (by kernel_rfl) ?_ _
    exact HH.out _ _ _ _ _ _ _ _ _ _ _ _ _ _ _ _ _ _ W3 a3 c3 _ _ (HOK.out x1 x2 hx1 hx2) hp3 hrow3
end Go.Proofs.Ytdciohinlhbliaa
