/-
  rgref5.Build, piece by piece: a process begins; a process is laid down.
-/
import Derived.Test.YtaobjpajbpoamaaBW60
namespace Go.Proofs.Ytaobjpajbpoamaa
open Go.RowKit
set_option maxRecDepth 1000000 in
set_option maxHeartbeats 8000000 in
theorem reg56_wp (Q : Exit → Act → World → Prop) (K : Act → World → Prop) (W : World) (g p : Nat) (Sb : Nat → Prop) (hSb : ∀ b, Sb b → b < g) (hmk : MK W g Sb)
    (x0 x1 x2 x4 x5 x6 x7 x8 x9 x10 x11 x12 x13 x14 x15 x16 x17 x18 x19 x20 x21 x22 x23 x24 x25 x27 x28 x29 x30 x31 x32 x33 x34 x35 x36 x37 x38 x39 x40 x41 x42 x43 x44 x45 x46 x47 x48 x49 x50 x51 x52 x53 x54 x55 x56 x57 x58 x59 x60 x61 x62 x63 x64 x65 x66 x67 x68 x69 x70 x71 x72 x73 x74 x75 x76 x77 x78 x79 x80 x81 x82 x83 x84 x85 x86 x87 x88 x89 x90 x91 x92 x93 x94 x95 x96 x97 x98 x99 x100 x101 x102 x103 x104 x105 x106 x107 x108 x109 x110 x111 x112 x113 x114 x115 x116 x117 x118 x119 x120 x121 x122 x123 x124 x125 x126 x127 x128 x129 x130 x131 x132 x133 x134 x135 x136 x137 x138 x139 x140 x141 x142 x143 x144 x145 x146 x147 x148 x149 x150 x151 x152 x153 x154 x155 x156 x157 x158 x159 x160 x161 x162 x163 x164 x165 x166 x167 x168 x169 x170 x171 x172 x173 x174 x175 x176 x177 x178 x179 x180 x181 x182 x183 x184 x185 x186 x187 x188 x189 x190 x191 x192 x193 x194 x195 x196 x197 x198 x199 x200 x201 x202 x203 x204 x205 x206 x207 x208 x209 x210 x211 x212 x213 x214 x215 x216 x217 x218 x219 x220 x221 x222 x223 x224 x225 x226 x227 x228 x229 x230 x231 x232 x233 x234 x235 x236 x237 x238 x239 x240 x241 x242 x243 x244 x245 x246 x247 x248 x249 x250 x251 x252 x253 x254 x255 x256 x257 x258 x259 x260 x261 x262 x263 x264 x265 x266 x267 x268 x269 x270 x271 x272 x273 x274 x275 x276 x277 x278 x279 x280 x281 x282 x283 x284 x285 x286 x287 x288 x289 x290 x291 x292 x293 x294 x295 x296 x297 x298 : Value)
    (h : ∀ (y188 y189 y190 y191 y192 y193 y194 y195 y196 y197 y198 : Value) (W' : World) (lv fe : Bool), (p = 0 → lv = true) → Blk W' W.heap.size #[.bool lv, .bool fe, .int .i64 0, .slice none 0 0] 87 → Pn g Sb W W' → W'.heap.size = W.heap.size + 1 → K ⟨#[x0, x1, x2, .pointer (some ⟨g, 0, none⟩), x4, x5, x6, x7, x8, x9, x10, x11, x12, x13, x14, x15, x16, x17, x18, x19, x20, x21, x22, x23, x24, x25, .int .i64 p, .pointer (some ⟨W.heap.size, 0, none⟩), x28, x29, x30, x31, x32, x33, x34, x35, x36, x37, x38, x39, x40, x41, x42, x43, x44, x45, x46, x47, x48, x49, x50, x51, x52, x53, x54, x55, x56, x57, x58, x59, x60, x61, x62, x63, x64, x65, x66, x67, x68, x69, x70, x71, x72, x73, x74, x75, x76, x77, x78, x79, x80, x81, x82, x83, x84, x85, x86, x87, x88, x89, x90, x91, x92, x93, x94, x95, x96, x97, x98, x99, x100, x101, x102, x103, x104, x105, x106, x107, x108, x109, x110, x111, x112, x113, x114, x115, x116, x117, x118, x119, x120, x121, x122, x123, x124, x125, x126, x127, x128, x129, x130, x131, x132, x133, x134, x135, x136, x137, x138, x139, x140, x141, x142, x143, x144, x145, x146, x147, x148, x149, x150, x151, x152, x153, x154, x155, x156, x157, x158, x159, x160, x161, x162, x163, x164, x165, x166, x167, x168, x169, x170, x171, x172, x173, x174, x175, x176, x177, x178, x179, x180, x181, x182, x183, x184, x185, x186, x187, y188, y189, y190, y191, y192, y193, y194, y195, y196, y197, y198, x199, x200, x201, x202, x203, x204, x205, x206, x207, x208, x209, x210, x211, x212, x213, x214, x215, x216, x217, x218, x219, x220, x221, x222, x223, x224, x225, x226, x227, x228, x229, x230, x231, x232, x233, x234, x235, x236, x237, x238, x239, x240, x241, x242, x243, x244, x245, x246, x247, x248, x249, x250, x251, x252, x253, x254, x255, x256, x257, x258, x259, x260, x261, x262, x263, x264, x265, x266, x267, x268, x269, x270, x271, x272, x273, x274, x275, x276, x277, x278, x279, x280, x281, x282, x283, x284, x285, x286, x287, x288, x289, x290, x291, x292, x293, x294, x295, x296, x297, x298], []⟩ W') :
    Code.wp Try.prog ((Try.f8.body.bind (findReg 56)).getD .skip) (Exit.then K Q) ⟨#[x0, x1, x2, .pointer (some ⟨g, 0, none⟩), x4, x5, x6, x7, x8, x9, x10, x11, x12, x13, x14, x15, x16, x17, x18, x19, x20, x21, x22, x23, x24, x25, .int .i64 p, x27, x28, x29, x30, x31, x32, x33, x34, x35, x36, x37, x38, x39, x40, x41, x42, x43, x44, x45, x46, x47, x48, x49, x50, x51, x52, x53, x54, x55, x56, x57, x58, x59, x60, x61, x62, x63, x64, x65, x66, x67, x68, x69, x70, x71, x72, x73, x74, x75, x76, x77, x78, x79, x80, x81, x82, x83, x84, x85, x86, x87, x88, x89, x90, x91, x92, x93, x94, x95, x96, x97, x98, x99, x100, x101, x102, x103, x104, x105, x106, x107, x108, x109, x110, x111, x112, x113, x114, x115, x116, x117, x118, x119, x120, x121, x122, x123, x124, x125, x126, x127, x128, x129, x130, x131, x132, x133, x134, x135, x136, x137, x138, x139, x140, x141, x142, x143, x144, x145, x146, x147, x148, x149, x150, x151, x152, x153, x154, x155, x156, x157, x158, x159, x160, x161, x162, x163, x164, x165, x166, x167, x168, x169, x170, x171, x172, x173, x174, x175, x176, x177, x178, x179, x180, x181, x182, x183, x184, x185, x186, x187, x188, x189, x190, x191, x192, x193, x194, x195, x196, x197, x198, x199, x200, x201, x202, x203, x204, x205, x206, x207, x208, x209, x210, x211, x212, x213, x214, x215, x216, x217, x218, x219, x220, x221, x222, x223, x224, x225, x226, x227, x228, x229, x230, x231, x232, x233, x234, x235, x236, x237, x238, x239, x240, x241, x242, x243, x244, x245, x246, x247, x248, x249, x250, x251, x252, x253, x254, x255, x256, x257, x258, x259, x260, x261, x262, x263, x264, x265, x266, x267, x268, x269, x270, x271, x272, x273, x274, x275, x276, x277, x278, x279, x280, x281, x282, x283, x284, x285, x286, x287, x288, x289, x290, x291, x292, x293, x294, x295, x296, x297, x298], []⟩ W := by
  have HH : Hid (∀ (y188 y189 y190 y191 y192 y193 y194 y195 y196 y197 y198 : Value) (W' : World) (lv fe : Bool), (p = 0 → lv = true) → Blk W' W.heap.size #[.bool lv, .bool fe, .int .i64 0, .slice none 0 0] 87 → Pn g Sb W W' → W'.heap.size = W.heap.size + 1 → K ⟨#[x0, x1, x2, .pointer (some ⟨g, 0, none⟩), x4, x5, x6, x7, x8, x9, x10, x11, x12, x13, x14, x15, x16, x17, x18, x19, x20, x21, x22, x23, x24, x25, .int .i64 p, .pointer (some ⟨W.heap.size, 0, none⟩), x28, x29, x30, x31, x32, x33, x34, x35, x36, x37, x38, x39, x40, x41, x42, x43, x44, x45, x46, x47, x48, x49, x50, x51, x52, x53, x54, x55, x56, x57, x58, x59, x60, x61, x62, x63, x64, x65, x66, x67, x68, x69, x70, x71, x72, x73, x74, x75, x76, x77, x78, x79, x80, x81, x82, x83, x84, x85, x86, x87, x88, x89, x90, x91, x92, x93, x94, x95, x96, x97, x98, x99, x100, x101, x102, x103, x104, x105, x106, x107, x108, x109, x110, x111, x112, x113, x114, x115, x116, x117, x118, x119, x120, x121, x122, x123, x124, x125, x126, x127, x128, x129, x130, x131, x132, x133, x134, x135, x136, x137, x138, x139, x140, x141, x142, x143, x144, x145, x146, x147, x148, x149, x150, x151, x152, x153, x154, x155, x156, x157, x158, x159, x160, x161, x162, x163, x164, x165, x166, x167, x168, x169, x170, x171, x172, x173, x174, x175, x176, x177, x178, x179, x180, x181, x182, x183, x184, x185, x186, x187, y188, y189, y190, y191, y192, y193, y194, y195, y196, y197, y198, x199, x200, x201, x202, x203, x204, x205, x206, x207, x208, x209, x210, x211, x212, x213, x214, x215, x216, x217, x218, x219, x220, x221, x222, x223, x224, x225, x226, x227, x228, x229, x230, x231, x232, x233, x234, x235, x236, x237, x238, x239, x240, x241, x242, x243, x244, x245, x246, x247, x248, x249, x250, x251, x252, x253, x254, x255, x256, x257, x258, x259, x260, x261, x262, x263, x264, x265, x266, x267, x268, x269, x270, x271, x272, x273, x274, x275, x276, x277, x278, x279, x280, x281, x282, x283, x284, x285, x286, x287, x288, x289, x290, x291, x292, x293, x294, x295, x296, x297, x298], []⟩ W') := h
  have HSb : Hid (∀ b, Sb b → b < g) := hSb
  have hgW : g < W.heap.size := by obtain ⟨_, _, _, _, hq, _⟩ := hmk; exact hq.lt
  have HM : Hid (MK W g Sb) := hmk
  clear h hSb hmk
  conv => arg 2; whnf
  by_cases hp : p = 0
  · subst hp
    go_wp2_with fail
    refine (pick_pn g Sb HSb.out 2 (by decide) (by decide) W W (Pn.refl HM.out)).mono ?_
    rintro e W2 ⟨x2, rfl, hx2, hp2, ho2, hz2⟩
    have HP2 : Hid (Pn g Sb W W2) := hp2
    have HZ2 : Hid (W2.heap.size = W.heap.size) := hz2
    generalize hfe : ((x2 : Int) == 1) = fe
    clear hp2 ho2 hz2
    go_wp2
    have hbn : Blk (W2.alloc (.cells #[.bool true, .bool fe, .int .i64 0, .slice none 0 0] 87)) W2.heap.size #[.bool true, .bool fe, .int .i64 0, .slice none 0 0] 87 := Blk.new W2 _ _
    rw [HZ2.out] at hbn ⊢
    exact HH.out _ _ _ _ _ _ _ _ _ _ _ _ true fe (fun _ => rfl) hbn (HP2.out.alloc HSb.out hgW _) (by simp; exact HZ2.out)
  · have hpz : ((p : Int) == 0) = false := by simpa using hp
    go_wp2_with fail
    refine (pick_pn g Sb HSb.out 5 (by decide) (by decide) W W (Pn.refl HM.out)).mono ?_
    rintro e W1 ⟨x1, rfl, hx1, hp1, ho1, hz1⟩
    have HP1 : Hid (Pn g Sb W W1) := hp1
    have HZ1 : Hid (W1.heap.size = W.heap.size) := hz1
    clear hp1 ho1 hz1
    go_wp2_with fail
    refine (pick_pn g Sb HSb.out 2 (by decide) (by decide) W W1 HP1.out).mono ?_
    rintro e W2 ⟨x2, rfl, hx2, hp2, ho2, hz2⟩
    have HP2 : Hid (Pn g Sb W W2) := hp2
    have HZ2 : Hid (W2.heap.size = W.heap.size) := hz2.trans HZ1.out
    clear hp2 ho2 hz2
    go_wp2
    have hbn : Blk (W2.alloc (.cells #[.bool (decide (0 < x1)), .bool ((x2 : Int) == 1), .int .i64 0, .slice none 0 0] 87)) W2.heap.size #[.bool (decide (0 < x1)), .bool ((x2 : Int) == 1), .int .i64 0, .slice none 0 0] 87 := Blk.new W2 _ _
    rw [HZ2.out] at hbn ⊢
    exact HH.out _ _ _ _ _ _ _ _ _ _ _ _ (decide (0 < x1)) ((x2 : Int) == 1) (fun e => absurd e hp) hbn (HP2.out.alloc HSb.out hgW _) (by simp; exact HZ2.out)
end Go.Proofs.Ytaobjpajbpoamaa
