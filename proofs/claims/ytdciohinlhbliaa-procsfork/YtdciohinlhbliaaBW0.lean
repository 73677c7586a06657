
/-
  rgref5.Build, piece by piece: the tree of names.
-/
import Derived.Test.YtdciohinlhbliaaBW22
import Derived.Deep.CutRange
import Derived.Deep.CutBlock
namespace Go.Proofs.Ytdciohinlhbliaa
open Go.RowKit
/-- Where Build stands in the tree's loop: the maker, the objects, the names, the answer's own block. -/
def BI (w : World) (g : Nat) (a : Option Addr) (c : Nat) (L : List Sp.Ob) (wr : World) : Prop :=
  MK wr g (fun b => b < w.heap.size) ∧ Objs wr (fun b => g < b ∧ b < wr.heap.size) (.slice a L.length c) L ∧ Blk wr (g + 2) namesC 9 ∧ Blk wr w.heap.size #[.slice none 0 0, .slice none 0 0, .slice none 0 0] 27 ∧ Below w.heap.size w wr
theorem BI.next {w W W' : World} {g c c' : Nat} {a a' : Option Addr} {L L' : List Sp.Ob} (h : BI w g a c L W) (hg : g = w.heap.size + 1) (hm : MK W' g (fun b => b < w.heap.size)) (hon : On (fun b => b < W.heap.size ∧ b ≠ g) W W') (hb : ∀ C, C ≤ g → Below C W W') (ho : Objs W' (fun b => g < b ∧ b < W'.heap.size) (.slice a' L'.length c') L') : BI w g a' c' L' W' := by
  obtain ⟨_, _, h3, h4, h5⟩ := h
  exact ⟨hm, ho, h3.on hon ⟨h3.lt, by omega⟩, h4.on hon ⟨h4.lt, by omega⟩, h5.trans (hb _ (by omega))⟩
theorem kinds_step {L L' : List Sp.Ob} {r : Sp.Rnd} (h : ∀ o ∈ L, o.kind ≤ 3) (hs : Sp.Step L r L') : ∀ o ∈ L', o.kind ≤ 3 := by
  have hk := Sp.rK_cases r
  obtain ⟨od, hd, _, ⟨_, rfl⟩ | ⟨_, rfl⟩⟩ := hs
  · intro o ho
    rcases List.mem_append.1 ho with h1 | h1
    · rcases List.mem_or_eq_of_mem_set h1 with h2 | h2
      · exact h o h2
      · rw [h2]; exact h od (List.mem_of_getElem? hd)
    · simp at h1
      rw [h1]
      show Sp.rK r ≤ 3
      omega
  · intro o ho
    rcases List.mem_append.1 ho with h1 | h1
    · exact h o h1
    · simp at h1
      rw [h1]
      show Sp.rK r ≤ 3
      omega
/-- The tree's loop. -/
def TI (w : World) (g n : Nat) (s4 s42 : Value) (wr : World) : Prop :=
  ∃ (k : Nat) (a : Option Addr) (c : Nat) (L : List Sp.Ob), k ≤ n ∧ s42 = .int .i64 k ∧ s4 = .slice a L.length c ∧ Sp.TOk L ∧ (∀ o ∈ L, o.kind ≤ 3) ∧ L.length = k + 1 ∧ BI w g a c L wr
set_option maxRecDepth 1000000 in
set_option maxHeartbeats 8000000 in
theorem blk0_wp (Q : Exit → Act → World → Prop) (K : Act → World → Prop) (w W : World) (g : Nat) (hg : g = w.heap.size + 1) (a : Option Addr) (c : Nat) (L : List Sp.Ob) (n : Nat) (hn : n ≤ 7) (hT : Sp.TOk L) (hK4 : ∀ o ∈ L, o.kind ≤ 3) (hL : L.length = 1) (hI : BI w g a c L W)
    (x0 x1 x2 x6 x7 x8 x9 x10 x11 x12 x13 x14 x15 x16 x17 x18 x19 x20 x21 x22 x23 x24 x25 x26 x27 x28 x29 x30 x31 x32 x33 x34 x35 x36 x37 x38 x39 x40 x43 x44 x45 x46 x47 x48 x49 x50 x51 x52 x53 x54 x55 x56 x57 x58 x59 x60 x61 x62 x63 x64 x65 x66 x67 x68 x69 x70 x71 x72 x73 x74 x75 x76 x77 x78 x79 x80 x81 x82 x83 x84 x85 x86 x87 x88 x89 x90 x91 x92 x93 x94 x95 x96 x97 x98 x99 x100 x101 x102 x103 x104 x105 x106 x107 x108 x109 x110 x111 x112 x113 x114 x115 x116 x117 x118 x119 x120 x121 x122 x123 x124 x125 x126 x127 x128 x129 x130 x131 x132 x133 x134 x135 x136 x137 x138 x139 x140 x141 x142 x143 x144 x145 x146 x147 x148 x149 x150 x151 x152 x153 x154 x155 x156 x157 x158 x159 x160 x161 x162 x163 x164 x165 x166 x167 x168 x169 x170 x171 x172 x173 x174 x175 x176 x177 x178 x179 x180 x181 x182 x183 x184 x185 x186 x187 x188 x189 x190 x191 x192 x193 x194 x195 x196 x197 x198 x199 x200 x201 x202 x203 x204 x205 x206 x207 x208 x209 x210 x211 x212 x213 x214 x215 x216 x217 x218 x219 x220 x221 x222 x223 x224 x225 x226 x227 x228 x229 x230 x231 x232 x233 x234 x235 x236 x237 x238 x239 x240 x241 x242 x243 x244 x245 x246 x247 x248 x249 x250 x251 x252 x253 x254 x255 x256 x257 x258 x259 x260 x261 x262 x263 x264 x265 x266 x267 x268 x269 x270 x271 x272 x273 x274 x275 x276 x277 x278 x279 x280 x281 x282 x283 x284 x285 x286 x287 x288 x289 x290 x291 x292 x293 x294 x295 x296 x297 x298 : Value)
    (h : ∀ (y6 y7 y8 y9 y10 y11 y12 y13 y14 y15 y42 y43 y44 y45 y46 y47 y48 y49 y50 y51 y52 y53 y54 y55 y56 y57 y58 y59 y60 y61 y62 y63 y64 y65 y66 y67 y68 y69 y70 y71 y72 y73 y74 y75 y76 y77 y78 y79 y80 y81 y82 y83 y84 y85 y86 y87 y88 y89 y90 y91 y92 y93 y94 y95 y96 y97 y98 y99 y100 y101 y102 y103 y104 y105 y106 y107 y108 y109 y110 y111 y112 y113 y114 y115 y116 y117 y118 y119 y120 y121 y122 y123 y124 y125 : Value) (W' : World) (a' : Option Addr) (c' : Nat) (L' : List Sp.Ob), Sp.TOk L' → (∀ o ∈ L', o.kind ≤ 3) → L'.length ≤ 8 → BI w g a' c' L' W' → K ⟨#[x0, x1, x2, .pointer (some ⟨g, 0, none⟩), .slice a' L'.length c', .slice (some ⟨g + 2, 0, none⟩) 4 4, y6, y7, y8, y9, y10, y11, y12, y13, y14, y15, x16, x17, x18, x19, x20, x21, x22, x23, x24, x25, x26, x27, x28, x29, x30, x31, x32, x33, x34, x35, x36, x37, x38, x39, x40, .int .i64 n, y42, y43, y44, y45, y46, y47, y48, y49, y50, y51, y52, y53, y54, y55, y56, y57, y58, y59, y60, y61, y62, y63, y64, y65, y66, y67, y68, y69, y70, y71, y72, y73, y74, y75, y76, y77, y78, y79, y80, y81, y82, y83, y84, y85, y86, y87, y88, y89, y90, y91, y92, y93, y94, y95, y96, y97, y98, y99, y100, y101, y102, y103, y104, y105, y106, y107, y108, y109, y110, y111, y112, y113, y114, y115, y116, y117, y118, y119, y120, y121, y122, y123, y124, y125, x126, x127, x128, x129, x130, x131, x132, x133, x134, x135, x136, x137, x138, x139, x140, x141, x142, x143, x144, x145, x146, x147, x148, x149, x150, x151, x152, x153, x154, x155, x156, x157, x158, x159, x160, x161, x162, x163, x164, x165, x166, x167, x168, x169, x170, x171, x172, x173, x174, x175, x176, x177, x178, x179, x180, x181, x182, x183, x184, x185, x186, x187, x188, x189, x190, x191, x192, x193, x194, x195, x196, x197, x198, x199, x200, x201, x202, x203, x204, x205, x206, x207, x208, x209, x210, x211, x212, x213, x214, x215, x216, x217, x218, x219, x220, x221, x222, x223, x224, x225, x226, x227, x228, x229, x230, x231, x232, x233, x234, x235, x236, x237, x238, x239, x240, x241, x242, x243, x244, x245, x246, x247, x248, x249, x250, x251, x252, x253, x254, x255, x256, x257, x258, x259, x260, x261, x262, x263, x264, x265, x266, x267, x268, x269, x270, x271, x272, x273, x274, x275, x276, x277, x278, x279, x280, x281, x282, x283, x284, x285, x286, x287, x288, x289, x290, x291, x292, x293, x294, x295, x296, x297, x298], []⟩ W') :
    Code.wp Try.prog ((Try.f9.body.bind (findBlock 0)).getD .skip) (Exit.then K Q) ⟨#[x0, x1, x2, .pointer (some ⟨g, 0, none⟩), .slice a L.length c, .slice (some ⟨g + 2, 0, none⟩) 4 4, x6, x7, x8, x9, x10, x11, x12, x13, x14, x15, x16, x17, x18, x19, x20, x21, x22, x23, x24, x25, x26, x27, x28, x29, x30, x31, x32, x33, x34, x35, x36, x37, x38, x39, x40, .int .i64 n, .int .i64 0, x43, x44, x45, x46, x47, x48, x49, x50, x51, x52, x53, x54, x55, x56, x57, x58, x59, x60, x61, x62, x63, x64, x65, x66, x67, x68, x69, x70, x71, x72, x73, x74, x75, x76, x77, x78, x79, x80, x81, x82, x83, x84, x85, x86, x87, x88, x89, x90, x91, x92, x93, x94, x95, x96, x97, x98, x99, x100, x101, x102, x103, x104, x105, x106, x107, x108, x109, x110, x111, x112, x113, x114, x115, x116, x117, x118, x119, x120, x121, x122, x123, x124, x125, x126, x127, x128, x129, x130, x131, x132, x133, x134, x135, x136, x137, x138, x139, x140, x141, x142, x143, x144, x145, x146, x147, x148, x149, x150, x151, x152, x153, x154, x155, x156, x157, x158, x159, x160, x161, x162, x163, x164, x165, x166, x167, x168, x169, x170, x171, x172, x173, x174, x175, x176, x177, x178, x179, x180, x181, x182, x183, x184, x185, x186, x187, x188, x189, x190, x191, x192, x193, x194, x195, x196, x197, x198, x199, x200, x201, x202, x203, x204, x205, x206, x207, x208, x209, x210, x211, x212, x213, x214, x215, x216, x217, x218, x219, x220, x221, x222, x223, x224, x225, x226, x227, x228, x229, x230, x231, x232, x233, x234, x235, x236, x237, x238, x239, x240, x241, x242, x243, x244, x245, x246, x247, x248, x249, x250, x251, x252, x253, x254, x255, x256, x257, x258, x259, x260, x261, x262, x263, x264, x265, x266, x267, x268, x269, x270, x271, x272, x273, x274, x275, x276, x277, x278, x279, x280, x281, x282, x283, x284, x285, x286, x287, x288, x289, x290, x291, x292, x293, x294, x295, x296, x297, x298], []⟩ W := by
  have HH : Hid (∀ (y6 y7 y8 y9 y10 y11 y12 y13 y14 y15 y42 y43 y44 y45 y46 y47 y48 y49 y50 y51 y52 y53 y54 y55 y56 y57 y58 y59 y60 y61 y62 y63 y64 y65 y66 y67 y68 y69 y70 y71 y72 y73 y74 y75 y76 y77 y78 y79 y80 y81 y82 y83 y84 y85 y86 y87 y88 y89 y90 y91 y92 y93 y94 y95 y96 y97 y98 y99 y100 y101 y102 y103 y104 y105 y106 y107 y108 y109 y110 y111 y112 y113 y114 y115 y116 y117 y118 y119 y120 y121 y122 y123 y124 y125 : Value) (W' : World) (a' : Option Addr) (c' : Nat) (L' : List Sp.Ob), Sp.TOk L' → (∀ o ∈ L', o.kind ≤ 3) → L'.length ≤ 8 → BI w g a' c' L' W' → K ⟨#[x0, x1, x2, .pointer (some ⟨g, 0, none⟩), .slice a' L'.length c', .slice (some ⟨g + 2, 0, none⟩) 4 4, y6, y7, y8, y9, y10, y11, y12, y13, y14, y15, x16, x17, x18, x19, x20, x21, x22, x23, x24, x25, x26, x27, x28, x29, x30, x31, x32, x33, x34, x35, x36, x37, x38, x39, x40, .int .i64 n, y42, y43, y44, y45, y46, y47, y48, y49, y50, y51, y52, y53, y54, y55, y56, y57, y58, y59, y60, y61, y62, y63, y64, y65, y66, y67, y68, y69, y70, y71, y72, y73, y74, y75, y76, y77, y78, y79, y80, y81, y82, y83, y84, y85, y86, y87, y88, y89, y90, y91, y92, y93, y94, y95, y96, y97, y98, y99, y100, y101, y102, y103, y104, y105, y106, y107, y108, y109, y110, y111, y112, y113, y114, y115, y116, y117, y118, y119, y120, y121, y122, y123, y124, y125, x126, x127, x128, x129, x130, x131, x132, x133, x134, x135, x136, x137, x138, x139, x140, x141, x142, x143, x144, x145, x146, x147, x148, x149, x150, x151, x152, x153, x154, x155, x156, x157, x158, x159, x160, x161, x162, x163, x164, x165, x166, x167, x168, x169, x170, x171, x172, x173, x174, x175, x176, x177, x178, x179, x180, x181, x182, x183, x184, x185, x186, x187, x188, x189, x190, x191, x192, x193, x194, x195, x196, x197, x198, x199, x200, x201, x202, x203, x204, x205, x206, x207, x208, x209, x210, x211, x212, x213, x214, x215, x216, x217, x218, x219, x220, x221, x222, x223, x224, x225, x226, x227, x228, x229, x230, x231, x232, x233, x234, x235, x236, x237, x238, x239, x240, x241, x242, x243, x244, x245, x246, x247, x248, x249, x250, x251, x252, x253, x254, x255, x256, x257, x258, x259, x260, x261, x262, x263, x264, x265, x266, x267, x268, x269, x270, x271, x272, x273, x274, x275, x276, x277, x278, x279, x280, x281, x282, x283, x284, x285, x286, x287, x288, x289, x290, x291, x292, x293, x294, x295, x296, x297, x298], []⟩ W') := h
  have HS0 : Hid (TI w g n (.slice a L.length c) (.int .i64 0) W) := ⟨0, a, c, L, Nat.zero_le _, rfl, rfl, hT, hK4, hL, hI⟩
  have HG : Hid (g = w.heap.size + 1) := hg
  have hnz : (n : Int) ≤ 7 := by omega
  clear h hT hK4 hL hI hg
  conv => arg 2; whnf
  go_wp2_with fail
  go_loopw [4, 42] (fun s4 s42 wr => TI w g n s4 s42 wr) (fun _ s42 _ => n - (intOf s42).toNat)
  case atStart => exact HS0.out
  case round =>
    obtain ⟨k, a, c, L, hk, rfl, rfl, hT, hK4, hL, hI⟩ := hrel
    clear HS0
    have HT : Hid (Sp.TOk L) := hT
    have HK4 : Hid (∀ o ∈ L, o.kind ≤ 3) := hK4
    have HL : Hid (L.length = k + 1) := hL
    have HI : Hid (BI w g a c L wr) := hI
    have hLz : (L.length : Int) ≤ 8 := by omega
    clear hT hK4 hL hI
    by_cases hlt : k < n
    · go_wp2_with fail
      refine (pick_any g (fun b => b < w.heap.size) 3 (by decide) (by decide) wr HI.out.1 (fun b hb => by have := HG.out; omega)).mono ?_
      rintro e W1 ⟨x, rfl, hx, hmk1, hon1, hz1, hbl1⟩
      have HM1 : Hid (MK W1 g (fun b => b < w.heap.size)) := hmk1
      have HO1 : Hid (On (fun b => b ≠ g) wr W1) := hon1
      have HZ1 : Hid (W1.heap.size = wr.heap.size) := hz1
      have HB1 : Hid (∀ C, C ≤ g → Below C wr W1) := hbl1
      clear hmk1 hon1 hz1 hbl1
      have hx3 : (x : Int) < 3 := by omega
      go_upto_block 2 with fail
      have hbx2 : Blk (W1.alloc (.cells #[.int .i64 (1 + (x : Int)), .slice none 0 0, .slice none 0 0, .string ⟨#[]⟩, .int .i64 (-1), .slice none 0 0, .int .i64 (-1), .int .i64 0, .int .i64 0] 40)) W1.heap.size (boxK (1 + (x : Int))) 40 := Blk.new W1 _ _
      have hon2 := On.alloc W1 (.cells #[.int .i64 (1 + (x : Int)), .slice none 0 0, .slice none 0 0, .string ⟨#[]⟩, .int .i64 (-1), .slice none 0 0, .int .i64 (-1), .int .i64 0, .int .i64 0] 40)
      have hz2 : (W1.alloc (.cells #[.int .i64 (1 + (x : Int)), .slice none 0 0, .slice none 0 0, .string ⟨#[]⟩, .int .i64 (-1), .slice none 0 0, .int .i64 (-1), .int .i64 0, .int .i64 0] 40)).heap.size = W1.heap.size + 1 := by simp
      have hB2 : ∀ C, C ≤ g → C ≤ W1.heap.size → Below C W1 (W1.alloc (.cells #[.int .i64 (1 + (x : Int)), .slice none 0 0, .slice none 0 0, .string ⟨#[]⟩, .int .i64 (-1), .slice none 0 0, .int .i64 (-1), .int .i64 0, .int .i64 0] 40)) := fun C _ hC => (Below.refl C W1).alloc hC _
      generalize W1.alloc (.cells #[.int .i64 (1 + (x : Int)), .slice none 0 0, .slice none 0 0, .string ⟨#[]⟩, .int .i64 (-1), .slice none 0 0, .int .i64 (-1), .int .i64 0, .int .i64 0] 40) = W2 at *
      have hgw : g < wr.heap.size := by obtain ⟨_, _, _, _, hq, _⟩ := HI.out.1; exact hq.lt
      have HM2 : Hid (MK W2 g (fun b => b < w.heap.size)) := HM1.out.on hon2 (by show g < W1.heap.size; have := HZ1.out; omega) (fun b hb => by show b < W1.heap.size; have := HZ1.out; have := HG.out; omega)
      have HO2 : Hid (On (fun b => b < wr.heap.size ∧ b ≠ g) wr W2) := (HO1.out.less fun b hb => hb.2).trans (hon2.less fun b hb => by show b < W1.heap.size; have := HZ1.out; omega)
      have HB2 : Hid (∀ C, C ≤ g → Below C wr W2) := fun C hC => (HB1.out C hC).trans (hB2 C hC (by have := HZ1.out; omega))
      have HZ2 : Hid (W2.heap.size = wr.heap.size + 1) := by unfold Hid; have := HZ1.out; omega
      have HX2 : Hid (Blk W2 wr.heap.size (boxK (1 + (x : Int))) 40) := by unfold Hid; rw [← HZ1.out]; exact hbx2
      rw [HZ1.out]
      clear hbx2 hon2 hz2 hB2 HM1 HO1 HZ1 HB1
      refine blk2_wp _ _ W2 g wr.heap.size (fun b => b < w.heap.size) (1 + (x : Int)) (by omega) hgw (fun b hb => by have := HG.out; omega) HM2.out HX2.out _ _ _ _ _ _ _ _ _ _ _ _ _ _ _ _ _ _ _ _ _ _ _ _ _ _ _ _ _ _ _ _ _ _ _ _ _ _ _ _ _ _ _ _ _ _ _ _ _ _ _ _ _ _ _ _ _ _ _ _ _ _ _ _ _ _ _ _ _ _ _ _ _ _ _ _ _ _ _ _ _ _ _ _ _ _ _ _ _ _ _ _ _ _ _ _ _ _ _ _ _ _ _ _ _ _ _ _ _ _ _ _ _ _ _ _ _ _ _ _ _ _ _ _ _ _ _ _ _ _ _ _ _ _ _ _ _ _ _ _ _ _ _ _ _ _ _ _ _ _ _ _ _ _ _ _ _ _ _ _ _ _ _ _ _ _ _ _ _ _ _ _ _ _ _ _ _ _ _ _ _ _ _ _ _ _ _ _ _ _ _ _ _ _ _ _ _ _ _ _ _ _ _ _ _ _ _ _ _ _ _ _ _ _ _ _ _ _ _ _ _ _ _ _ _ _ _ _ _ _ _ _ _ _ _ _ _ _ _ _ _ _ _ _ _ _ _ _ _ _ _ _ _ _ _ _ _ _ _ _ _ _ _ _ _ _ _ _ _ _ _ _ _ _ _ _ _ _ _ _ _ _ _ _ _ _ _ _ _ _ _ _ _ _ _ _ ?_
      intro y50 y51 y52 y53 y54 y55 y56 y57 y58 y59 y60 y61 y62 y63 y64 y65 W3 s r hr hbx3 hls3 hmk3 hon3 hbl3 hz3
      dsimp only
      have HR : Hid (Sp.rK r = 1 + (x : Int)) := hr
      have HM3 : Hid (MK W3 g (fun b => b < w.heap.size)) := hmk3
      have HO3 : Hid (On (fun b => b < wr.heap.size ∧ b ≠ g) wr W3) := HO2.out.trans (hon3.less fun b hb => ⟨by have := HZ2.out; omega, hb.2, by omega⟩)
      have HB3 : Hid (∀ C, C ≤ g → Below C wr W3) := fun C hC => (HB2.out C hC).trans (hbl3 C hC)
      have hz03 : wr.heap.size + 1 ≤ W3.heap.size := by have := HZ2.out; omega
      have HV3 : Hid (Objs W3 (fun b => g < b ∧ b < W3.heap.size) (.slice a L.length c) L) := (HI.out.2.1.on (HO3.out.less fun b hb => ⟨hb.2, by omega⟩)).more fun b hb => ⟨hb.1, by omega⟩
      have HLS3 : Hid (Lists W3 (fun b => g < b ∧ b < W3.heap.size) (s, Sp.rO r)) := hls3.more fun b hb => ⟨by omega, hb.2⟩
      rw [objV_eq] at hbx3
      have HX3 : Hid (Blk W3 wr.heap.size #[.int .i64 (Sp.rO r).kind, .slice s.d.a s.d.n s.d.c, .slice s.e.a s.e.n s.e.c, .string (Sp.rO r).target, .int .i64 (Sp.rO r).peer, .slice s.q.a s.q.n s.q.c, .int .i64 (Sp.rO r).proc, .int .i64 (Sp.rO r).links, .int .i64 (Sp.rO r).up] 40) := hbx3
      have hc3 := hbx3.cell
      have hR3 := rmake_app L s (Sp.rO r) (.slice a L.length c) (fun b => g < b ∧ b < W3.heap.size) W3 HV3.out (fun b hb => hb.2) (by omega) (fun o ho => by
        obtain ⟨i, hi, rfl⟩ := List.getElem_of_mem ho
        have := (HT.out.all i _ (List.getElem?_eq_getElem hi)).kind
        omega) HLS3.out
      rw [objV_eq] at hR3
      have HMK : Hid _ := hR3
      clear hR3 hr hmk3 hon3 hbl3 hls3 hbx3 HM2 HO2 HB2 HZ2 HX2 HLS3
      go_wp2_with fail
      refine Calls.mono HMK.out ?_
      rintro e W4 ⟨a4, c4, rfl, hO4, hb4⟩
      have hz4 := hb4.size
      have HO4 : Hid (Objs W4 (fun b => g < b ∧ b < W4.heap.size) (.slice a4 (L.length + 1) c4) (L ++ [Sp.rO r])) := hO4.more fun b hb => by
        rcases hb with hb | hb
        · exact ⟨hb.1, by omega⟩
        · exact ⟨by omega, hb.2⟩
      have HM4 : Hid (MK W4 g (fun b => b < w.heap.size)) := HM3.out.on (On.of hb4) (by show g < W3.heap.size; omega) (fun b hb => by show b < W3.heap.size; have := HG.out; omega)
      have HQ4 : Hid (On (fun b => b < wr.heap.size ∧ b ≠ g) wr W4) := HO3.out.trans ((On.of hb4).less fun b hb => by omega)
      have HB4 : Hid (∀ C, C ≤ g → Below C wr W4) := fun C hC => (HB3.out C hC).trans (hb4.mono (by omega))
      have HV4 : Hid (Objs W4 (fun b => g < b ∧ b < W3.heap.size) (.slice a L.length c) L) := HV3.out.on ((On.of hb4).less fun b hb => hb.2)
      have HX4 : Hid (Blk W4 wr.heap.size #[.int .i64 (Sp.rO r).kind, .slice s.d.a s.d.n s.d.c, .slice s.e.a s.e.n s.e.c, .string (Sp.rO r).target, .int .i64 (Sp.rO r).peer, .slice s.q.a s.q.n s.q.c, .int .i64 (Sp.rO r).proc, .int .i64 (Sp.rO r).links, .int .i64 (Sp.rO r).up] 40) := Blk.below HX3.out hb4 (by omega)
      clear hO4 hb4 HM3 HO3 HB3 HV3 HX3 hc3 HMK
      go_upto_block 3 with fail
      refine blk3_wp _ _ W4 L a c (fun b => g < b ∧ b < W3.heap.size) HV4.out (fun b hb => by omega) (by omega) (by have := HL.out; omega) (by obtain ⟨o, h1, h2, _⟩ := HT.out.root; exact ⟨o, h1, h2⟩) _ _ _ _ _ _ _ _ _ _ _ _ _ _ _ _ _ _ _ _ _ _ _ _ _ _ _ _ _ _ _ _ _ _ _ _ _ _ _ _ _ _ _ _ _ _ _ _ _ _ _ _ _ _ _ _ _ _ _ _ _ _ _ _ _ _ _ _ _ _ _ _ _ _ _ _ _ _ _ _ _ _ _ _ _ _ _ _ _ _ _ _ _ _ _ _ _ _ _ _ _ _ _ _ _ _ _ _ _ _ _ _ _ _ _ _ _ _ _ _ _ _ _ _ _ _ _ _ _ _ _ _ _ _ _ _ _ _ _ _ _ _ _ _ _ _ _ _ _ _ _ _ _ _ _ _ _ _ _ _ _ _ _ _ _ _ _ _ _ _ _ _ _ _ _ _ _ _ _ _ _ _ _ _ _ _ _ _ _ _ _ _ _ _ _ _ _ _ _ _ _ _ _ _ _ _ _ _ _ _ _ _ _ _ _ _ _ _ _ _ _ _ _ _ _ _ _ _ _ _ _ _ _ _ _ _ _ _ _ _ _ _ _ _ _ _ _ _ _ _ _ _ _ _ _ _ _ _ _ _ _ _ _ _ _ _ _ _ _ _ _ _ _ _ _ _ _ _ _ _ _ _ _ _ _ _ _ _ _ _ _ _ _ _ _ ?_
      intro y11 y12 y77 y78 y79 y80 y81 y82 y83 y84 y85 y86 y87 y88 y89 W5 a5 c5 ds hrow hd1 hd2 hdirs hb5
      dsimp only
      have hz5 := hb5.size
      obtain ⟨db, dof, dc, hde, hdS, hd3, hd4, hdc⟩ := hrow.some (by rw [List.length_map]; exact hd1)
      rw [List.length_map] at hde hd3
      obtain ⟨rfl, -, rfl⟩ := Value.slice.inj hde
      have HDC : Hid (∀ (i : Nat) (d : Int), ds[i]? = some d → W5.cell? ⟨db, dof + i, none⟩ = some (.int .i64 d)) := fun i d hi => by
        have := hdc i (intC d) (by rw [List.getElem?_map, hi]; rfl) 0 _ rfl
        rwa [Nat.mul_one, Nat.add_zero] at this
      have HDS : Hid (db ≠ g) := by unfold Hid; omega
      have HD1 : Hid (1 ≤ ds.length) := hd1
      have HD2 : Hid (ds.length ≤ 100) := hd2
      have HD3 : Hid (ds.length ≤ c5) := hd3
      have HD4 : Hid (c5 ≤ maxLen) := hd4
      have HDD : Hid (Dirs L ds) := hdirs
      have HO5 : Hid (Objs W5 (fun b => g < b ∧ b < W5.heap.size) (.slice a4 (L.length + 1) c4) (L ++ [Sp.rO r])) := (HO4.out.on ((On.of hb5).less fun b hb => hb.2)).more fun b hb => ⟨hb.1, by omega⟩
      have HM5 : Hid (MK W5 g (fun b => b < w.heap.size)) := HM4.out.on (On.of hb5) (by show g < W4.heap.size; omega) (fun b hb => by show b < W4.heap.size; have := HG.out; omega)
      have HQ5 : Hid (On (fun b => b < wr.heap.size ∧ b ≠ g) wr W5) := HQ4.out.trans ((On.of hb5).less fun b hb => by omega)
      have HB5 : Hid (∀ C, C ≤ g → Below C wr W5) := fun C hC => (HB4.out C hC).trans (hb5.mono (by omega))
      have HX5 : Hid (Blk W5 wr.heap.size #[.int .i64 (Sp.rO r).kind, .slice s.d.a s.d.n s.d.c, .slice s.e.a s.e.n s.e.c, .string (Sp.rO r).target, .int .i64 (Sp.rO r).peer, .slice s.q.a s.q.n s.q.c, .int .i64 (Sp.rO r).proc, .int .i64 (Sp.rO r).links, .int .i64 (Sp.rO r).up] 40) := Blk.below HX4.out hb5 (by omega)
      have hgn : g + 2 < wr.heap.size := HI.out.2.2.1.lt
      clear hrow hdirs hb5 hde hdS hdc hd1 hd2 hd3 hd4 HM4 HQ4 HB4 HV4 HX4 HO4
      go_upto_region 22 with fail
      refine reg22_wp _ _ W5 g (g + 2) (fun b => b < w.heap.size) (fun b => g < b ∧ b < W5.heap.size) L r a4 (L.length + 1) c4 db dof ds.length c5 ds HT.out (by omega) (fun b hb => by have := HG.out; omega) (fun b hb => ⟨hb.2, by omega⟩) HM5.out HO5.out (by omega) (HI.out.2.2.1.on HQ5.out ⟨hgn, by omega⟩) HDS.out rfl HD1.out HD3.out HD4.out HD2.out HDC.out HDD.out _ _ _ _ _ _ _ _ _ _ _ _ _ _ _ _ _ _ _ _ _ _ _ _ _ _ _ _ _ _ _ _ _ _ _ _ _ _ _ _ _ _ _ _ _ _ _ _ _ _ _ _ _ _ _ _ _ _ _ _ _ _ _ _ _ _ _ _ _ _ _ _ _ _ _ _ _ _ _ _ _ _ _ _ _ _ _ _ _ _ _ _ _ _ _ _ _ _ _ _ _ _ _ _ _ _ _ _ _ _ _ _ _ _ _ _ _ _ _ _ _ _ _ _ _ _ _ _ _ _ _ _ _ _ _ _ _ _ _ _ _ _ _ _ _ _ _ _ _ _ _ _ _ _ _ _ _ _ _ _ _ _ _ _ _ _ _ _ _ _ _ _ _ _ _ _ _ _ _ _ _ _ _ _ _ _ _ _ _ _ _ _ _ _ _ _ _ _ _ _ _ _ _ _ _ _ _ _ _ _ _ _ _ _ _ _ _ _ _ _ _ _ _ _ _ _ _ _ _ _ _ _ _ _ _ _ _ _ _ _ _ _ _ _ _ _ _ _ _ _ _ _ _ _ _ _ _ _ _ _ _ _ _ _ _ _ _ _ _ _ _ _ _ _ _ _ _ _ _ _ _ _ _ _ _ _ _ _ _ _ _ _ _ _ ?_
      intro y91 y92 y93 y94 y95 y96 y97 y98 y99 y100 y101 y102 y103 y104 y105 y106 y107 y108 W6 r6 od a6 n6 c6 err hro hLd hkd hmk6 hon6 hbl6 hz6 hres
      dsimp only
      have HZ6 : Hid (W5.heap.size ≤ W6.heap.size) := hz6
      have HM6 : Hid (MK W6 g (fun b => b < w.heap.size)) := hmk6
      have HQ6 : Hid (On (fun b => b < wr.heap.size ∧ b ≠ g) wr W6) := HQ5.out.trans (hon6.less fun b hb => ⟨by omega, hb.2⟩)
      have HB6 : Hid (∀ C, C ≤ g → Below C wr W6) := fun C hC => (HB5.out C hC).trans (hbl6 C hC)
      have HX6 : Hid (Blk W6 wr.heap.size #[.int .i64 (Sp.rO r).kind, .slice s.d.a s.d.n s.d.c, .slice s.e.a s.e.n s.e.c, .string (Sp.rO r).target, .int .i64 (Sp.rO r).peer, .slice s.q.a s.q.n s.q.c, .int .i64 (Sp.rO r).proc, .int .i64 (Sp.rO r).links, .int .i64 (Sp.rO r).up] 40) := Blk.on HX5.out hon6 ⟨by omega, by omega⟩
      have HO6 : Hid (Objs W6 (fun b => g < b ∧ b < W5.heap.size) (.slice a4 (L.length + 1) c4) (L ++ [Sp.rO r])) := HO5.out.on (hon6.less fun b hb => ⟨hb.2, by omega⟩)
      have HLd : Hid (L[r6.d]? = some od) := hLd
      have HKd : Hid (od.kind = 2) := hkd
      have HRO : Hid (Sp.rO r6 = Sp.rO r) := hro
      have HRK : Hid (Sp.rK r6 = Sp.rK r) := congrArg Sp.Ob.kind hro
      have hkr := Sp.rK_cases r
      clear hmk6 hon6 hbl6 hz6 HM5 HQ5 HB5 HX5 HO5 HDC HDS HDD HD1 HD2 HD3 HD4 hLd hkd hro
      rcases hres with ⟨rfl, hmay, hO6⟩ | ⟨herr, hmay⟩
      · have HF : Hid (Objs W6 (fun b => g < b ∧ b < W6.heap.size) (.slice a6 n6 c6) (Sp.EnterTo L od r6)) := hO6.more fun b hb => by
          have := HZ6.out
          rcases hb with hb | hb
          · exact ⟨hb.1, by omega⟩
          · exact ⟨by omega, hb.2⟩
        have HST : Hid (Sp.Step L r6 (Sp.EnterTo L od r6)) := ⟨od, HLd.out, HKd.out, Or.inl ⟨hmay, rfl⟩⟩
        obtain ⟨a7, c7, e7, -⟩ := hO6.form
        rw [e7] at HF ⊢
        clear hO6 hmay e7
        go_wp2
        refine ⟨⟨k + 1, a7, c7, Sp.EnterTo L od r6, by omega, by go_num, rfl, (HT.out.step HST.out).1, kinds_step HK4.out HST.out, by have := (HT.out.step HST.out).2; have := HL.out; omega, HI.out.next HG.out HM6.out HQ6.out HB6.out HF.out⟩, by simp [intOf]; omega⟩
      · have HST : Hid (Sp.Step L r6 (Sp.LeaveAt L r6)) := ⟨od, HLd.out, HKd.out, Or.inr ⟨hmay, rfl⟩⟩
        have hez : (err == 0) = false := by simpa using herr
        have hc6 := Blk.cell HX6.out
        clear hmay herr
        by_cases hk2 : Sp.rK r = 2
        · have hkz : ((Sp.rO r).kind == 2) = true := by show (Sp.rK r == 2) = true; rw [hk2]; rfl
          obtain ⟨b7, o7, c7, s7, e7, hb7, hc7, hm7, hl7, t0, t1, t2, t3, t4, t5, t6, t7, t8⟩ := HO6.out.open (k := L.length) (x := Sp.rO r) (by rw [List.getElem?_append_right (Nat.le_refl _), Nat.sub_self]; rfl)
          simp only [List.length_append, List.length_cons, List.length_nil] at e7 hc7
          obtain ⟨rfl, -, rfl⟩ := Value.slice.inj e7
          have HL7 : Hid (Lists W6 (fun b => g < b ∧ b < W5.heap.size) (s7, Sp.rO r)) := hl7
          unfold maxLen at hm7
          have HK2 : Hid (Sp.rK r = 2) := hk2
          clear hl7 e7 hk2
          go_wp2_with fail
          have hon7 := On.alloc W6 (.cells #[.int .i64 (Sp.rO r).kind, .slice s7.d.a s7.d.n s7.d.c, .slice s7.e.a s7.e.n s7.e.c, .string (Sp.rO r).target, .int .i64 (Sp.rO r).peer, .slice s7.q.a s7.q.n s7.q.c, .int .i64 (Sp.rO r).proc, .int .i64 (Sp.rO r).links, .int .i64 (L.length : Int)] 40)
          have hz7 : (W6.alloc (.cells #[.int .i64 (Sp.rO r).kind, .slice s7.d.a s7.d.n s7.d.c, .slice s7.e.a s7.e.n s7.e.c, .string (Sp.rO r).target, .int .i64 (Sp.rO r).peer, .slice s7.q.a s7.q.n s7.q.c, .int .i64 (Sp.rO r).proc, .int .i64 (Sp.rO r).links, .int .i64 (L.length : Int)] 40)).heap.size = W6.heap.size + 1 := by simp
          have hB7 : ∀ C, C ≤ W6.heap.size → Below C W6 (W6.alloc (.cells #[.int .i64 (Sp.rO r).kind, .slice s7.d.a s7.d.n s7.d.c, .slice s7.e.a s7.e.n s7.e.c, .string (Sp.rO r).target, .int .i64 (Sp.rO r).peer, .slice s7.q.a s7.q.n s7.q.c, .int .i64 (Sp.rO r).proc, .int .i64 (Sp.rO r).links, .int .i64 (L.length : Int)] 40)) := fun C hC => (Below.refl C W6).alloc hC _
          generalize W6.alloc (.cells #[.int .i64 (Sp.rO r).kind, .slice s7.d.a s7.d.n s7.d.c, .slice s7.e.a s7.e.n s7.e.c, .string (Sp.rO r).target, .int .i64 (Sp.rO r).peer, .slice s7.q.a s7.q.n s7.q.c, .int .i64 (Sp.rO r).proc, .int .i64 (Sp.rO r).links, .int .i64 (L.length : Int)] 40) = W7 at *
          have hz67 := HZ6.out
          have hR7 := rwith_any (L ++ [Sp.rO r]) L.length s7 { Sp.rO r with up := (L.length : Int) } (.slice (some ⟨b7, o7, none⟩) (L.length + 1) c4) (fun b => g < b ∧ b < W5.heap.size) W7 (HO6.out.on (hon7.less fun b hb => by show b < W6.heap.size; omega)) (fun b hb => by omega) (by simp; omega) (by simp) (Lists.on (t := (s7, Sp.rO r)) HL7.out (hon7.less fun b hb => by show b < W6.heap.size; omega))
          have e7 : Sp.rwith (L ++ [Sp.rO r]) L.length { Sp.rO r with up := (L.length : Int) } = Sp.LeaveAt L r6 := by
            unfold Sp.rwith Sp.LeaveAt Sp.lone
            rw [if_neg (by simp), List.set_append_right _ _ (Nat.le_refl _), Nat.sub_self, HRK.out, if_pos HK2.out, HRO.out]
            rfl
          rw [e7, objV_eq] at hR7
          refine Calls.mono hR7 ?_
          rintro e W8 ⟨a8, c8, rfl, ho8, hb8⟩
          have hz8 := hb8.size
          have HF : Hid (Objs W8 (fun b => g < b ∧ b < W8.heap.size) (.slice a8 (Sp.LeaveAt L r6).length c8) (Sp.LeaveAt L r6)) := ho8.more fun b hb => by
            rcases hb with hb | hb
            · exact ⟨hb.1, by omega⟩
            · exact ⟨by omega, hb.2⟩
          have HM8 : Hid (MK W8 g (fun b => b < w.heap.size)) := (HM6.out.on hon7 (by show g < W6.heap.size; omega) (fun b hb => by show b < W6.heap.size; have := HG.out; omega)).on (On.of hb8) (by show g < W7.heap.size; omega) (fun b hb => by show b < W7.heap.size; have := HG.out; omega)
          have HQ8 : Hid (On (fun b => b < wr.heap.size ∧ b ≠ g) wr W8) := (HQ6.out.trans (hon7.less fun b hb => by show b < W6.heap.size; omega)).trans ((On.of hb8).less fun b hb => by omega)
          have HB8 : Hid (∀ C, C ≤ g → Below C wr W8) := fun C hC => ((HB6.out C hC).trans (hB7 C (by omega))).trans (hb8.mono (by omega))
          clear hR7 ho8 hb8 hon7 hB7 hz7 e7 HO6 HL7 HX6 HM6 HQ6 HB6 t0 t1 t2 t3 t4 t5 t6 t7 t8 hc6 hz8
          go_wp2
          exact ⟨⟨k + 1, a8, c8, Sp.LeaveAt L r6, by omega, by go_num, rfl, (HT.out.step HST.out).1, kinds_step HK4.out HST.out, by have := (HT.out.step HST.out).2; have := HL.out; omega, HI.out.next HG.out HM8.out HQ8.out HB8.out HF.out⟩, by simp [intOf]; omega⟩
        · have hkz : ((Sp.rO r).kind == 2) = false := by show (Sp.rK r == 2) = false; simpa using hk2
          have HE : Hid (Sp.LeaveAt L r6 = L ++ [Sp.rO r]) := by
            unfold Hid Sp.LeaveAt Sp.lone
            rw [HRK.out, if_neg hk2, ← HRO.out]
            rfl
          clear hk2
          go_wp2
          refine ⟨⟨k + 1, a4, c4, Sp.LeaveAt L r6, by omega, by go_num, by rw [(HT.out.step HST.out).2], (HT.out.step HST.out).1, kinds_step HK4.out HST.out, by have := (HT.out.step HST.out).2; have := HL.out; omega, HI.out.next HG.out HM6.out HQ6.out HB6.out ?_⟩, by simp [intOf]; omega⟩
          rw [HE.out, List.length_append]
          exact HO6.out.more fun b hb => ⟨hb.1, by have := HZ6.out; omega⟩
    · go_wp2
      obtain rfl : k = n := by omega
      exact HH.out _ _ _ _ _ _ _ _ _ _ _ _ _ _ _ _ _ _ _ _ _ _ _ _ _ _ _ _ _ _ _ _ _ _ _ _ _ _ _ _ _ _ _ _ _ _ _ _ _ _ _ _ _ _ _ _ _ _ _ _ _ _ _ _ _ _ _ _ _ _ _ _ _ _ _ _ _ _ _ _ _ _ _ _ _ _ _ _ _ _ _ _ _ _ _ a c L HT.out HK4.out (by have := HL.out; omega) HI.out
end Go.Proofs.Ytdciohinlhbliaa
