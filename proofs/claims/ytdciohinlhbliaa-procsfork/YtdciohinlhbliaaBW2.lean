
/-
  rgref5.Build, piece by piece: an object is made.
-/
import Derived.Test.YtdciohinlhbliaaBDefs
import Derived.Test.YtdciohinlhbliaaSNine
import Derived.Lib.SlBytesConst
namespace Go.Proofs.Ytdciohinlhbliaa
open Go.RowKit
/-- One block of a function's code, by its number. -/
def findBlock (n : Nat) : Code → Option Code
  | .block k c => if k = n then some (.block k c) else findBlock n c
  | .seq a b => match findBlock n a with
    | some c => some c
    | none => findBlock n b
  | .loop c => findBlock n c
  | .scope c => findBlock n c
  | .cond _ a b => match findBlock n a with
    | some c => some c
    | none => findBlock n b
  | _ => none
/-- One region of a function's code, by its number. -/
def findReg (n : Nat) : Code → Option Code
  | .region k ops d => if k = n then some (.region k ops d) else none
  | .seq a b => match findReg n a with
    | some c => some c
    | none => findReg n b
  | .block _ c => findReg n c
  | .loop c => findReg n c
  | .scope c => findReg n c
  | .cond _ a b => match findReg n a with
    | some c => some c
    | none => findReg n b
  | _ => none
/-- A text's bytes, as a slice. -/
theorem litB (w : World) (l : List UInt8) (fr : Nat × Nat) (hl : l.length ≤ maxLen) : Bytes (w.alloc (.cells (l.map fun x => Value.int .u8 (x.toNat : Int)).toArray 5 fr)) (fun b => b = w.heap.size) (.slice (some ⟨w.heap.size, 0, none⟩) l.length l.length) l := by
  refine Or.inr ⟨w.heap.size, 0, l.length, by rw [List.length_map], rfl, by rw [List.length_map]; exact Nat.le_refl _, hl, fun i cs hi j u hj => ?_⟩
  rw [List.getElem?_map] at hi
  cases hx : l[i]? with
  | none => rw [hx] at hi; cases hi
  | some x =>
    rw [hx] at hi
    simp at hi
    subst hi
    match j, hj with
    | 0, hj =>
      simp [byteC] at hj
      subst hj
      rw [World.cell?_alloc_mark]
      simp [hx]
    | j + 1, hj => simp [byteC] at hj
/-- A fresh object's box, of that kind. -/
def boxK (k : Int) : Array Value := #[.int .i64 k, .slice none 0 0, .slice none 0 0, .string ⟨#[]⟩, .int .i64 (-1), .slice none 0 0, .int .i64 (-1), .int .i64 0, .int .i64 0]
set_option maxRecDepth 1000000 in
set_option maxHeartbeats 4000000 in
theorem blk2_wp (Q : Exit → Act → World → Prop) (K : Act → World → Prop) (W : World) (g B : Nat) (S : Nat → Prop) (k : Int) (hk : k = 1 ∨ k = 2 ∨ k = 3) (hgB : g < B) (hS : ∀ b, S b → b < g) (hmk : MK W g S) (hbx : Blk W B (boxK k) 40)
    (x0 x1 x2 x4 x5 x7 x8 x9 x10 x11 x12 x13 x14 x15 x16 x17 x18 x19 x20 x21 x22 x23 x24 x25 x26 x27 x28 x29 x30 x31 x32 x33 x34 x35 x36 x37 x38 x39 x40 x41 x42 x43 x44 x45 x46 x47 x48 x50 x51 x52 x53 x54 x55 x56 x57 x58 x59 x60 x61 x62 x63 x64 x65 x66 x67 x68 x69 x70 x71 x72 x73 x74 x75 x76 x77 x78 x79 x80 x81 x82 x83 x84 x85 x86 x87 x88 x89 x90 x91 x92 x93 x94 x95 x96 x97 x98 x99 x100 x101 x102 x103 x104 x105 x106 x107 x108 x109 x110 x111 x112 x113 x114 x115 x116 x117 x118 x119 x120 x121 x122 x123 x124 x125 x126 x127 x128 x129 x130 x131 x132 x133 x134 x135 x136 x137 x138 x139 x140 x141 x142 x143 x144 x145 x146 x147 x148 x149 x150 x151 x152 x153 x154 x155 x156 x157 x158 x159 x160 x161 x162 x163 x164 x165 x166 x167 x168 x169 x170 x171 x172 x173 x174 x175 x176 x177 x178 x179 x180 x181 x182 x183 x184 x185 x186 x187 x188 x189 x190 x191 x192 x193 x194 x195 x196 x197 x198 x199 x200 x201 x202 x203 x204 x205 x206 x207 x208 x209 x210 x211 x212 x213 x214 x215 x216 x217 x218 x219 x220 x221 x222 x223 x224 x225 x226 x227 x228 x229 x230 x231 x232 x233 x234 x235 x236 x237 x238 x239 x240 x241 x242 x243 x244 x245 x246 x247 x248 x249 x250 x251 x252 x253 x254 x255 x256 x257 x258 x259 x260 x261 x262 x263 x264 x265 x266 x267 x268 x269 x270 x271 x272 x273 x274 x275 x276 x277 x278 x279 x280 x281 x282 x283 x284 x285 x286 x287 x288 x289 x290 x291 x292 x293 x294 x295 x296 x297 x298 : Value)
    (h : ∀ (y50 y51 y52 y53 y54 y55 y56 y57 y58 y59 y60 y61 y62 y63 y64 y65 : Value) (W' : World) (s : Sls) (r : Sp.Rnd), Sp.rK r = k → Blk W' B (objC (s, Sp.rO r)).toArray 40 → Lists W' (fun b => B < b ∧ b < W'.heap.size) (s, Sp.rO r) → MK W' g S → On (fun b => b < W.heap.size ∧ b ≠ g ∧ b ≠ B) W W' → (∀ C, C ≤ g → Below C W W') → W.heap.size ≤ W'.heap.size → K ⟨#[x0, x1, x2, .pointer (some ⟨g, 0, none⟩), x4, x5, .pointer (some ⟨B, 0, none⟩), x7, x8, x9, x10, x11, x12, x13, x14, x15, x16, x17, x18, x19, x20, x21, x22, x23, x24, x25, x26, x27, x28, x29, x30, x31, x32, x33, x34, x35, x36, x37, x38, x39, x40, x41, x42, x43, x44, x45, x46, x47, x48, .int .i64 k, y50, y51, y52, y53, y54, y55, y56, y57, y58, y59, y60, y61, y62, y63, y64, y65, x66, x67, x68, x69, x70, x71, x72, x73, x74, x75, x76, x77, x78, x79, x80, x81, x82, x83, x84, x85, x86, x87, x88, x89, x90, x91, x92, x93, x94, x95, x96, x97, x98, x99, x100, x101, x102, x103, x104, x105, x106, x107, x108, x109, x110, x111, x112, x113, x114, x115, x116, x117, x118, x119, x120, x121, x122, x123, x124, x125, x126, x127, x128, x129, x130, x131, x132, x133, x134, x135, x136, x137, x138, x139, x140, x141, x142, x143, x144, x145, x146, x147, x148, x149, x150, x151, x152, x153, x154, x155, x156, x157, x158, x159, x160, x161, x162, x163, x164, x165, x166, x167, x168, x169, x170, x171, x172, x173, x174, x175, x176, x177, x178, x179, x180, x181, x182, x183, x184, x185, x186, x187, x188, x189, x190, x191, x192, x193, x194, x195, x196, x197, x198, x199, x200, x201, x202, x203, x204, x205, x206, x207, x208, x209, x210, x211, x212, x213, x214, x215, x216, x217, x218, x219, x220, x221, x222, x223, x224, x225, x226, x227, x228, x229, x230, x231, x232, x233, x234, x235, x236, x237, x238, x239, x240, x241, x242, x243, x244, x245, x246, x247, x248, x249, x250, x251, x252, x253, x254, x255, x256, x257, x258, x259, x260, x261, x262, x263, x264, x265, x266, x267, x268, x269, x270, x271, x272, x273, x274, x275, x276, x277, x278, x279, x280, x281, x282, x283, x284, x285, x286, x287, x288, x289, x290, x291, x292, x293, x294, x295, x296, x297, x298], []⟩ W') :
    Code.wp Try.prog ((Try.f9.body.bind (findBlock 2)).getD .skip) (Exit.then K Q) ⟨#[x0, x1, x2, .pointer (some ⟨g, 0, none⟩), x4, x5, .pointer (some ⟨B, 0, none⟩), x7, x8, x9, x10, x11, x12, x13, x14, x15, x16, x17, x18, x19, x20, x21, x22, x23, x24, x25, x26, x27, x28, x29, x30, x31, x32, x33, x34, x35, x36, x37, x38, x39, x40, x41, x42, x43, x44, x45, x46, x47, x48, .int .i64 k, x50, x51, x52, x53, x54, x55, x56, x57, x58, x59, x60, x61, x62, x63, x64, x65, x66, x67, x68, x69, x70, x71, x72, x73, x74, x75, x76, x77, x78, x79, x80, x81, x82, x83, x84, x85, x86, x87, x88, x89, x90, x91, x92, x93, x94, x95, x96, x97, x98, x99, x100, x101, x102, x103, x104, x105, x106, x107, x108, x109, x110, x111, x112, x113, x114, x115, x116, x117, x118, x119, x120, x121, x122, x123, x124, x125, x126, x127, x128, x129, x130, x131, x132, x133, x134, x135, x136, x137, x138, x139, x140, x141, x142, x143, x144, x145, x146, x147, x148, x149, x150, x151, x152, x153, x154, x155, x156, x157, x158, x159, x160, x161, x162, x163, x164, x165, x166, x167, x168, x169, x170, x171, x172, x173, x174, x175, x176, x177, x178, x179, x180, x181, x182, x183, x184, x185, x186, x187, x188, x189, x190, x191, x192, x193, x194, x195, x196, x197, x198, x199, x200, x201, x202, x203, x204, x205, x206, x207, x208, x209, x210, x211, x212, x213, x214, x215, x216, x217, x218, x219, x220, x221, x222, x223, x224, x225, x226, x227, x228, x229, x230, x231, x232, x233, x234, x235, x236, x237, x238, x239, x240, x241, x242, x243, x244, x245, x246, x247, x248, x249, x250, x251, x252, x253, x254, x255, x256, x257, x258, x259, x260, x261, x262, x263, x264, x265, x266, x267, x268, x269, x270, x271, x272, x273, x274, x275, x276, x277, x278, x279, x280, x281, x282, x283, x284, x285, x286, x287, x288, x289, x290, x291, x292, x293, x294, x295, x296, x297, x298], []⟩ W := by
  have HH : Hid (∀ (y50 y51 y52 y53 y54 y55 y56 y57 y58 y59 y60 y61 y62 y63 y64 y65 : Value) (W' : World) (s : Sls) (r : Sp.Rnd), Sp.rK r = k → Blk W' B (objC (s, Sp.rO r)).toArray 40 → Lists W' (fun b => B < b ∧ b < W'.heap.size) (s, Sp.rO r) → MK W' g S → On (fun b => b < W.heap.size ∧ b ≠ g ∧ b ≠ B) W W' → (∀ C, C ≤ g → Below C W W') → W.heap.size ≤ W'.heap.size → K ⟨#[x0, x1, x2, .pointer (some ⟨g, 0, none⟩), x4, x5, .pointer (some ⟨B, 0, none⟩), x7, x8, x9, x10, x11, x12, x13, x14, x15, x16, x17, x18, x19, x20, x21, x22, x23, x24, x25, x26, x27, x28, x29, x30, x31, x32, x33, x34, x35, x36, x37, x38, x39, x40, x41, x42, x43, x44, x45, x46, x47, x48, .int .i64 k, y50, y51, y52, y53, y54, y55, y56, y57, y58, y59, y60, y61, y62, y63, y64, y65, x66, x67, x68, x69, x70, x71, x72, x73, x74, x75, x76, x77, x78, x79, x80, x81, x82, x83, x84, x85, x86, x87, x88, x89, x90, x91, x92, x93, x94, x95, x96, x97, x98, x99, x100, x101, x102, x103, x104, x105, x106, x107, x108, x109, x110, x111, x112, x113, x114, x115, x116, x117, x118, x119, x120, x121, x122, x123, x124, x125, x126, x127, x128, x129, x130, x131, x132, x133, x134, x135, x136, x137, x138, x139, x140, x141, x142, x143, x144, x145, x146, x147, x148, x149, x150, x151, x152, x153, x154, x155, x156, x157, x158, x159, x160, x161, x162, x163, x164, x165, x166, x167, x168, x169, x170, x171, x172, x173, x174, x175, x176, x177, x178, x179, x180, x181, x182, x183, x184, x185, x186, x187, x188, x189, x190, x191, x192, x193, x194, x195, x196, x197, x198, x199, x200, x201, x202, x203, x204, x205, x206, x207, x208, x209, x210, x211, x212, x213, x214, x215, x216, x217, x218, x219, x220, x221, x222, x223, x224, x225, x226, x227, x228, x229, x230, x231, x232, x233, x234, x235, x236, x237, x238, x239, x240, x241, x242, x243, x244, x245, x246, x247, x248, x249, x250, x251, x252, x253, x254, x255, x256, x257, x258, x259, x260, x261, x262, x263, x264, x265, x266, x267, x268, x269, x270, x271, x272, x273, x274, x275, x276, x277, x278, x279, x280, x281, x282, x283, x284, x285, x286, x287, x288, x289, x290, x291, x292, x293, x294, x295, x296, x297, x298], []⟩ W') := h
  have HM : Hid (MK W g S) := hmk
  have HX : Hid (Blk W B (boxK k) 40) := hbx
  have HS : Hid (∀ b, S b → b < g) := hS
  have hBl := hbx.lt
  have kc := fun (w : World) (C : Array Value) (n c : Nat) => Lib.run_convert_bytes_const (P := Try.prog) w 22 5 C n c Try.underlying22 Try.underlying5
  clear h hmk hbx hS
  conv => arg 2; whnf
  rcases hk with rfl | rfl | rfl
  · go_wp2_with fail
    have hon1 := On.alloc W (.cells #[.int .u8 100, .int .u8 97, .int .u8 116, .int .u8 97] 5 (4, 5))
    have hL1 : Bytes (W.alloc (.cells #[.int .u8 100, .int .u8 97, .int .u8 116, .int .u8 97] 5 (4, 5))) (fun b => b = W.heap.size) (.slice (some ⟨W.heap.size, 0, none⟩) 4 4) Sp.dataT := litB W Sp.dataT (4, 5) (by decide)
    have hz1 : (W.alloc (.cells #[.int .u8 100, .int .u8 97, .int .u8 116, .int .u8 97] 5 (4, 5))).heap.size = W.heap.size + 1 := by simp
    have hB1 : ∀ C, C ≤ g → Below C W (W.alloc (.cells #[.int .u8 100, .int .u8 97, .int .u8 116, .int .u8 97] 5 (4, 5))) := fun C hC => (Below.refl C W).alloc (by omega) _
    generalize W.alloc (.cells #[.int .u8 100, .int .u8 97, .int .u8 116, .int .u8 97] 5 (4, 5)) = W1 at *
    have HM1 : Hid (MK W1 g S) := HM.out.on hon1 (by show g < W.heap.size; omega) (fun b hb => by have := HS.out b hb; show b < W.heap.size; omega)
    have HX1 : Hid (Blk W1 B (boxK 1) 40) := Blk.on HX.out hon1 hBl
    have HL1 : Hid (Bytes W1 (fun b => b = W.heap.size) (.slice (some ⟨W.heap.size, 0, none⟩) 4 4) Sp.dataT) := hL1
    have HO1 : Hid (On (fun b => b < W.heap.size) W W1) := hon1
    have HB1 : Hid (∀ C, C ≤ g → Below C W W1) := hB1
    have HZ1 : Hid (W1.heap.size = W.heap.size + 1) := hz1
    clear hon1 hL1 hz1 hB1 HM HX kc
    refine (pick_any g S 5 (by decide) (by decide) W1 HM1.out (fun b hb => by have := HS.out b hb; omega)).mono ?_
    rintro e W2 ⟨y, rfl, hy, hmk2, hon2, hz2, hbl2⟩
    have HM2 : Hid (MK W2 g S) := hmk2
    have HX2 : Hid (Blk W2 B (boxK 1) 40) := Blk.on HX1.out hon2 (by show B ≠ g; omega)
    have HL2 : Hid (Bytes W2 (fun b => b = W.heap.size) (.slice (some ⟨W.heap.size, 0, none⟩) 4 4) Sp.dataT) := Row.on HL1.out (hon2.less fun b hb => by show b ≠ g; omega)
    have HO2 : Hid (On (fun b => b < W.heap.size ∧ b ≠ g) W W2) := (HO1.out.less fun b hb => hb.1).trans (hon2.less fun b hb => hb.2)
    have HB2 : Hid (∀ C, C ≤ g → Below C W W2) := fun C hC => (HB1.out C hC).trans (hbl2 C hC)
    have HZ2 : Hid (W2.heap.size = W.heap.size + 1) := hz2.trans HZ1.out
    have hc2 := Blk.cell HX2.out
    have hf2 := Blk.free HX2.out
    unfold boxK at hc2
    have hy5 : (y : Int) < 5 := by omega
    have hy4 : (y : Int) ≤ 4 := by omega
    clear hmk2 hon2 hz2 hbl2 HM1 HX1 HL1 HO1 HB1 HZ1
    go_wp2
    have hon3 := On.set W2 ⟨B, 1, none⟩ (.slice (some ⟨W.heap.size, 0, none⟩) y 4)
    refine HH.out _ _ _ _ _ _ _ _ _ _ _ _ _ _ _ _ _ ⟨⟨some ⟨W.heap.size, 0, none⟩, y, 4⟩, nilSl, nilSl⟩ ⟨0, y, 0, 0, 0⟩ rfl (Blk.set HX2.out 1 _) ⟨?_, Row.nil _ _ _ _ _, [], rfl, Row.nil _ _ _ _ _, fun t ht => by simp at ht⟩ (HM2.out.on hon3 (by show g ≠ B; omega) (fun b hb => by have := HS.out b hb; show b ≠ B; omega)) ((HO2.out.less fun b hb => ⟨hb.1, hb.2.1⟩).trans (hon3.less fun b hb => hb.2.2)) (fun C hC => (HB2.out C hC).setCell (by show C ≤ B; omega) _) (by simp; have := HZ2.out; omega)
    have := (Bytes.sub (d := Sp.dataT) HL2.out 0 y y 4 (by rw [List.length_take, List.length_drop]; show y = min y (4 - 0); omega) (by omega) (by decide)).on (hon3.less fun b hb => by show b ≠ B; omega)
    exact Row.more this fun b hb => ⟨by omega, by simp; have := HZ2.out; omega⟩
  · go_wp2
    exact HH.out _ _ _ _ _ _ _ _ _ _ _ _ _ _ _ _ _ ⟨nilSl, nilSl, nilSl⟩ ⟨1, 0, 0, 0, 0⟩ rfl HX.out ⟨Row.nil _ _ _ _ _, Row.nil _ _ _ _ _, [], rfl, Row.nil _ _ _ _ _, fun t ht => by simp at ht⟩ HM.out (fun _ _ => rfl) (fun C _ => Below.refl C W) (Nat.le_refl _)
  · go_wp2_with fail
    have hon1 := On.alloc W (.cells #[.string ⟨#[97]⟩, .string ⟨#[98, 47, 99]⟩, .string ⟨#[46, 46]⟩, .string ⟨#[47, 97]⟩, .string ⟨#[46, 46, 47, 98]⟩, .string ⟨#[]⟩] 9)
    have hL1 := Blk.new W #[.string ⟨#[97]⟩, .string ⟨#[98, 47, 99]⟩, .string ⟨#[46, 46]⟩, .string ⟨#[47, 97]⟩, .string ⟨#[46, 46, 47, 98]⟩, .string ⟨#[]⟩] 9
    have hz1 : (W.alloc (.cells #[.string ⟨#[97]⟩, .string ⟨#[98, 47, 99]⟩, .string ⟨#[46, 46]⟩, .string ⟨#[47, 97]⟩, .string ⟨#[46, 46, 47, 98]⟩, .string ⟨#[]⟩] 9)).heap.size = W.heap.size + 1 := by simp
    have hB1 : ∀ C, C ≤ g → Below C W (W.alloc (.cells #[.string ⟨#[97]⟩, .string ⟨#[98, 47, 99]⟩, .string ⟨#[46, 46]⟩, .string ⟨#[47, 97]⟩, .string ⟨#[46, 46, 47, 98]⟩, .string ⟨#[]⟩] 9)) := fun C hC => (Below.refl C W).alloc (by omega) _
    generalize W.alloc (.cells #[.string ⟨#[97]⟩, .string ⟨#[98, 47, 99]⟩, .string ⟨#[46, 46]⟩, .string ⟨#[47, 97]⟩, .string ⟨#[46, 46, 47, 98]⟩, .string ⟨#[]⟩] 9) = W1 at *
    have HM1 : Hid (MK W1 g S) := HM.out.on hon1 (by show g < W.heap.size; omega) (fun b hb => by have := HS.out b hb; show b < W.heap.size; omega)
    have HX1 : Hid (Blk W1 B (boxK 3) 40) := Blk.on HX.out hon1 hBl
    have HL1 : Hid (Blk W1 W.heap.size #[.string ⟨#[97]⟩, .string ⟨#[98, 47, 99]⟩, .string ⟨#[46, 46]⟩, .string ⟨#[47, 97]⟩, .string ⟨#[46, 46, 47, 98]⟩, .string ⟨#[]⟩] 9) := hL1
    have HO1 : Hid (On (fun b => b < W.heap.size) W W1) := hon1
    have HB1 : Hid (∀ C, C ≤ g → Below C W W1) := hB1
    have HZ1 : Hid (W1.heap.size = W.heap.size + 1) := hz1
    clear hon1 hL1 hz1 hB1 HM HX kc
    refine (pick_any g S 6 (by decide) (by decide) W1 HM1.out (fun b hb => by have := HS.out b hb; omega)).mono ?_
    rintro e W2 ⟨y, rfl, hy, hmk2, hon2, hz2, hbl2⟩
    have HM2 : Hid (MK W2 g S) := hmk2
    have HX2 : Hid (Blk W2 B (boxK 3) 40) := Blk.on HX1.out hon2 (by show B ≠ g; omega)
    have hcs := Blk.cell (Blk.on HL1.out hon2 (by show W.heap.size ≠ g; omega))
    have hct : W2.cell? ⟨W.heap.size, y, none⟩ = some (.string (Sp.tgts.getD y ⟨#[]⟩)) := by
      rw [hcs]
      match y, hy with
      | 0, _ | 1, _ | 2, _ | 3, _ | 4, _ | 5, _ => rfl
    have HO2 : Hid (On (fun b => b < W.heap.size ∧ b ≠ g) W W2) := (HO1.out.less fun b hb => hb.1).trans (hon2.less fun b hb => hb.2)
    have HB2 : Hid (∀ C, C ≤ g → Below C W W2) := fun C hC => (HB1.out C hC).trans (hbl2 C hC)
    have HZ2 : Hid (W2.heap.size = W.heap.size + 1) := hz2.trans HZ1.out
    have hc2 := Blk.cell HX2.out
    have hf2 := Blk.free HX2.out
    unfold boxK at hc2
    have hy5 : (y : Int) < 6 := by omega
    have HT : Hid (Sp.tgts.getD y ⟨#[]⟩ = Sp.tgts.getD y ⟨#[]⟩) := rfl
    generalize hT : Sp.tgts.getD y ⟨#[]⟩ = T at hct
    have HTT : Hid (Sp.tgts.getD y ⟨#[]⟩ = T) := hT
    clear hmk2 hon2 hz2 hbl2 HM1 HX1 HL1 HO1 HB1 HZ1 hcs HT hT
    go_wp2
    have hon3 := On.set W2 ⟨B, 3, none⟩ (.string T)
    refine HH.out _ _ _ _ _ _ _ _ _ _ _ _ _ _ _ _ _ ⟨nilSl, nilSl, nilSl⟩ ⟨2, 0, y, 0, 0⟩ rfl ?_ ⟨Row.nil _ _ _ _ _, Row.nil _ _ _ _ _, [], rfl, Row.nil _ _ _ _ _, fun t ht => by simp at ht⟩ (HM2.out.on hon3 (by show g ≠ B; omega) (fun b hb => by have := HS.out b hb; show b ≠ B; omega)) ((HO2.out.less fun b hb => ⟨hb.1, hb.2.1⟩).trans (hon3.less fun b hb => hb.2.2)) (fun C hC => (HB2.out C hC).setCell (by show C ≤ B; omega) _) (by simp; have := HZ2.out; omega)
    have hfin : Blk (W2.setCell ⟨B, 3, none⟩ (.string T)) B #[.int .i64 3, .slice none 0 0, .slice none 0 0, .string T, .int .i64 (-1), .slice none 0 0, .int .i64 (-1), .int .i64 0, .int .i64 0] 40 := Blk.set HX2.out 3 _
    rw [← HTT.out] at hfin
    rw [← HTT.out]
    exact hfin
end Go.Proofs.Ytdciohinlhbliaa
