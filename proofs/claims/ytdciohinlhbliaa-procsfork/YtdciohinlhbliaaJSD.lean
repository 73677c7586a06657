
/-
  rgref5.Sweep, walked: its rounds.
-/
import Derived.Test.YtdciohinlhbliaaJSC
import Derived.Laws.EntriesVeiled
namespace Go.Proofs.Ytdciohinlhbliaa
open Go.RowKit
open Wp
theorem squ_ts (Q : Exit → Act → World → Prop) (K : Act → World → Prop) (n1 : Nat) (hn1 : n1 = 47) (ts : List (Sls × Sp.Ob)) (m ms0 : List Bool) (oa : Option Addr) (oc : Nat) (vp vq : Value) (R : Nat → Prop) (W0 W : World) (k0 bo go gh cn N0 : Nat) (hos : OS W0 W go N0 ms0) (hrow : Row W0 R 9 (.slice oa ts.length oc) (ts.map objC)) (hls : ∀ t ∈ ts, Lists W0 R t) (hR : ∀ b, R b → b < W0.heap.size ∧ b ≠ go) (hkern : Blk W0 k0 #[.slice oa ts.length oc, vp, vq] 27) (hkg : k0 ≠ go) (hmap : MapB W0 gh cn m) (hgg : gh ≠ go) (hbo : Blk W0 bo #[.map (some go)] 29) (hbn : bo ≠ go) (hL : ts.length ≤ 40) (hN : N0 ≤ 200) (hq4 : ∀ t ∈ ts, t.2.queue.length ≤ 4) (hop : ∀ t ∈ ts, ∀ q ∈ t.2.queue, 0 ≤ q.op ∧ q.op ≤ 1000000)
    (x0 x2 x3 x5 x7 x8 x9 x10 x11 x12 x13 x14 x15 x16 x17 x18 x19 x20 x21 x22 x23 x24 x25 x26 x27 x28 x29 x30 x31 x32 x33 x34 x35 x36 x37 x38 x39 x40 x41 x42 x43 x44 x45 x46 x47 x48 x49 x50 x51 x52 x53 x54 x55 x56 x57 x58 x59 x60 x63 x64 x65 x66 x67 x68 x69 x70 x71 x72 x73 x74 x75 x76 x77 x78 x79 x80 x81 x82 x83 x84 x85 x86 x87 x88 x89 x90 x91 x92 x93 x94 x95 x96 x97 x98 x99 x100 x101 x102 x103 x104 x105 x106 x107 x108 x109 x110 x111 x112 x113 x114 x115 x116 x117 x118 x119 x120 x121 x122 x123 x124 x125 x126 x127 x128 x129 x130 x131 x132 x133 x134 x135 x136 x137 x138 x139 x140 x141 x142 x143 x144 x145 x146 x147 x148 x149 x150 x151 x152 x153 x154 x155 x156 x157 x158 x159 x160 x161 x162 x163 x164 x165 x166 x167 x168 x169 x170 x171 x172 x173 x174 x175 x176 x177 x178 x179 x180 x181 x182 x183 x184 x185 x186 x187 x188 x189 x190 x191 x192 x193 x194 x195 x196 x197 x198 x199 x200 x201 x202 x203 x204 x205 x206 x207 x208 x209 x210 x211 x212 x213 x214 x215 x216 x217 x218 x219 x220 x221 x222 x223 x224 x225 x226 x227 x228 x229 x230 x231 x232 x233 x234 x235 x236 x237 x238 x239 x240 x241 x242 x243 x244 x245 x246 x247 x248 x249 x250 x251 x252 x253 x254 x255 x256 x257 x258 x259 x260 x261 x262 x263 x264 x265 x266 x267 x268 x269 x270 x271 x272 x273 x274 x275 x276 x277 x278 x279 x280 x281 x282 x283 : Value)
    (h : ∀ (y11 y13 y63 y64 y65 y66 y67 y68 y69 y70 y71 y72 y73 y74 y75 y76 y77 y78 y79 y80 y81 y82 y83 y84 y85 y86 y87 y88 : Value) (W' : World), OS W0 W' go (N0 + 4 * ts.length) (quTo m (ts.map Prod.snd) ms0 ts.length) → K ⟨#[x0, .pointer (some ⟨k0, 0, none⟩), x2, x3, .map (some gh), x5, .func (.func n1) #[] #[.pointer (some ⟨bo, 0, none⟩)], x7, x8, x9, x10, y11, x12, y13, x14, x15, x16, x17, x18, x19, x20, x21, x22, x23, x24, x25, x26, x27, x28, x29, x30, x31, x32, x33, x34, x35, x36, x37, x38, x39, x40, x41, x42, x43, x44, x45, x46, x47, x48, x49, x50, x51, x52, x53, x54, x55, x56, x57, x58, x59, x60, .int .i64 ts.length, .int .i64 ts.length, y63, y64, y65, y66, y67, y68, y69, y70, y71, y72, y73, y74, y75, y76, y77, y78, y79, y80, y81, y82, y83, y84, y85, y86, y87, y88, x89, x90, x91, x92, x93, x94, x95, x96, x97, x98, x99, x100, x101, x102, x103, x104, x105, x106, x107, x108, x109, x110, x111, x112, x113, x114, x115, x116, x117, x118, x119, x120, x121, x122, x123, x124, x125, x126, x127, x128, x129, x130, x131, x132, x133, x134, x135, x136, x137, x138, x139, x140, x141, x142, x143, x144, x145, x146, x147, x148, x149, x150, x151, x152, x153, x154, x155, x156, x157, x158, x159, x160, x161, x162, x163, x164, x165, x166, x167, x168, x169, x170, x171, x172, x173, x174, x175, x176, x177, x178, x179, x180, x181, x182, x183, x184, x185, x186, x187, x188, x189, x190, x191, x192, x193, x194, x195, x196, x197, x198, x199, x200, x201, x202, x203, x204, x205, x206, x207, x208, x209, x210, x211, x212, x213, x214, x215, x216, x217, x218, x219, x220, x221, x222, x223, x224, x225, x226, x227, x228, x229, x230, x231, x232, x233, x234, x235, x236, x237, x238, x239, x240, x241, x242, x243, x244, x245, x246, x247, x248, x249, x250, x251, x252, x253, x254, x255, x256, x257, x258, x259, x260, x261, x262, x263, x264, x265, x266, x267, x268, x269, x270, x271, x272, x273, x274, x275, x276, x277, x278, x279, x280, x281, x282, x283], []⟩ W') :
    Code.wp Try.prog ((Try.f15.body.bind (findBlock 6)).getD .skip) (Exit.then K Q) ⟨#[x0, .pointer (some ⟨k0, 0, none⟩), x2, x3, .map (some gh), x5, .func (.func n1) #[] #[.pointer (some ⟨bo, 0, none⟩)], x7, x8, x9, x10, x11, x12, x13, x14, x15, x16, x17, x18, x19, x20, x21, x22, x23, x24, x25, x26, x27, x28, x29, x30, x31, x32, x33, x34, x35, x36, x37, x38, x39, x40, x41, x42, x43, x44, x45, x46, x47, x48, x49, x50, x51, x52, x53, x54, x55, x56, x57, x58, x59, x60, .int .i64 ts.length, .int .i64 0, x63, x64, x65, x66, x67, x68, x69, x70, x71, x72, x73, x74, x75, x76, x77, x78, x79, x80, x81, x82, x83, x84, x85, x86, x87, x88, x89, x90, x91, x92, x93, x94, x95, x96, x97, x98, x99, x100, x101, x102, x103, x104, x105, x106, x107, x108, x109, x110, x111, x112, x113, x114, x115, x116, x117, x118, x119, x120, x121, x122, x123, x124, x125, x126, x127, x128, x129, x130, x131, x132, x133, x134, x135, x136, x137, x138, x139, x140, x141, x142, x143, x144, x145, x146, x147, x148, x149, x150, x151, x152, x153, x154, x155, x156, x157, x158, x159, x160, x161, x162, x163, x164, x165, x166, x167, x168, x169, x170, x171, x172, x173, x174, x175, x176, x177, x178, x179, x180, x181, x182, x183, x184, x185, x186, x187, x188, x189, x190, x191, x192, x193, x194, x195, x196, x197, x198, x199, x200, x201, x202, x203, x204, x205, x206, x207, x208, x209, x210, x211, x212, x213, x214, x215, x216, x217, x218, x219, x220, x221, x222, x223, x224, x225, x226, x227, x228, x229, x230, x231, x232, x233, x234, x235, x236, x237, x238, x239, x240, x241, x242, x243, x244, x245, x246, x247, x248, x249, x250, x251, x252, x253, x254, x255, x256, x257, x258, x259, x260, x261, x262, x263, x264, x265, x266, x267, x268, x269, x270, x271, x272, x273, x274, x275, x276, x277, x278, x279, x280, x281, x282, x283], []⟩ W := by
  have hv : Objs W0 R (.slice oa ts.length oc) (ts.map Prod.snd) := ⟨ts, rfl, hrow, hls⟩
  have hq4' : ∀ o ∈ ts.map Prod.snd, o.queue.length ≤ 4 := fun o ho => by obtain ⟨t, ht, rfl⟩ := List.mem_map.1 ho; exact hq4 t ht
  have hop' : ∀ o ∈ ts.map Prod.snd, ∀ q ∈ o.queue, 0 ≤ q.op ∧ q.op ≤ 1000000 := fun o ho => by obtain ⟨t, ht, rfl⟩ := List.mem_map.1 ho; exact hop t ht
  clear hrow hls hq4 hop
  have e : (ts.map Prod.snd).length = ts.length := List.length_map _
  generalize ts.map Prod.snd = L at *
  generalize ts.length = n at *
  subst e
  exact squ_wp Q K n1 hn1 L m ms0 oa oc vp vq R W0 W k0 bo go gh cn N0 hos hv hR hkern hkg hmap hgg hbo hbn hL hN hq4' hop' _ _ _ _ _ _ _ _ _ _ _ _ _ _ _ _ _ _ _ _ _ _ _ _ _ _ _ _ _ _ _ _ _ _ _ _ _ _ _ _ _ _ _ _ _ _ _ _ _ _ _ _ _ _ _ _ _ _ _ _ _ _ _ _ _ _ _ _ _ _ _ _ _ _ _ _ _ _ _ _ _ _ _ _ _ _ _ _ _ _ _ _ _ _ _ _ _ _ _ _ _ _ _ _ _ _ _ _ _ _ _ _ _ _ _ _ _ _ _ _ _ _ _ _ _ _ _ _ _ _ _ _ _ _ _ _ _ _ _ _ _ _ _ _ _ _ _ _ _ _ _ _ _ _ _ _ _ _ _ _ _ _ _ _ _ _ _ _ _ _ _ _ _ _ _ _ _ _ _ _ _ _ _ _ _ _ _ _ _ _ _ _ _ _ _ _ _ _ _ _ _ _ _ _ _ _ _ _ _ _ _ _ _ _ _ _ _ _ _ _ _ _ _ _ _ _ _ _ _ _ _ _ _ _ _ _ _ _ _ _ _ _ _ _ _ _ _ _ _ _ _ _ _ _ _ _ _ _ _ _ _ _ _ _ _ _ _ _ _ _ _ _ _ _ _ _ _ _ _ h
/-- Where Sweep's rounds stand. -/
structure SL (x : Swp) (W wr : World) (k0 : Nat) (y : Swp) (oa pa qa : Option Addr) (oc pc qc : Nat) (b : Bool) (gk : Nat) : Prop where
  ks : KS wr k0 y oa pa qa oc pc qc
  on : On (fun b => b < W.heap.size ∧ b ≠ k0) W wr
  size : W.heap.size ≤ wr.heap.size
  below : ∀ B, B ≤ k0 → Below B W wr
  fit : Fit y
  lens : y.ts.length = x.ts.length ∧ y.O.length = x.O.length ∧ y.ps.length = x.ps.length
  more : b = true → y.all = x.all ∧ y.live + 2 ≤ gk
  fin : b = false → y = x.all ∧ ∃ base, W.heap.size ≤ base ∧ Mine wr base 43 4 (.slice qa y.ps.length qc) (y.ps.map prcC) ∧ KB wr k0 y oa pa oc pc base
set_option maxRecDepth 1000000 in
set_option maxHeartbeats 16000000 in
theorem sround_wp (Q : Exit → Act → World → Prop) (C : Act → World → Prop) (x : Swp) (oa0 pa0 qa0 : Option Addr) (oc0 pc0 qc0 : Nat) (W : World) (k0 : Nat) (hks : KS W k0 x oa0 pa0 qa0 oc0 pc0 qc0) (hfit : Fit x)
    (x0 x2 x4 x5 x6 x7 x8 x9 x10 x11 x12 x13 x14 x15 x16 x17 x18 x19 x20 x21 x22 x23 x24 x25 x26 x27 x28 x29 x30 x31 x32 x33 x34 x35 x36 x37 x38 x39 x40 x41 x42 x43 x44 x45 x46 x47 x48 x49 x50 x51 x52 x53 x54 x55 x56 x57 x58 x59 x60 x61 x62 x63 x64 x65 x66 x67 x68 x69 x70 x71 x72 x73 x74 x75 x76 x77 x78 x79 x80 x81 x82 x83 x84 x85 x86 x87 x88 x89 x90 x91 x92 x93 x94 x95 x96 x97 x98 x99 x100 x101 x102 x103 x104 x105 x106 x107 x108 x109 x110 x111 x112 x113 x114 x115 x116 x117 x118 x119 x120 x121 x122 x123 x124 x125 x126 x127 x128 x129 x130 x131 x132 x133 x134 x135 x136 x137 x138 x139 x140 x141 x142 x143 x144 x145 x146 x147 x148 x149 x150 x151 x152 x153 x154 x155 x156 x157 x158 x159 x160 x161 x162 x163 x164 x165 x166 x167 x168 x169 x170 x171 x172 x173 x174 x175 x176 x177 x178 x179 x180 x181 x182 x183 x184 x185 x186 x187 x188 x189 x190 x191 x192 x193 x194 x195 x196 x197 x198 x199 x200 x201 x202 x203 x204 x205 x206 x207 x208 x209 x210 x211 x212 x213 x214 x215 x216 x217 x218 x219 x220 x221 x222 x223 x224 x225 x226 x227 x228 x229 x230 x231 x232 x233 x234 x235 x236 x237 x238 x239 x240 x241 x242 x243 x244 x245 x246 x247 x248 x249 x250 x251 x252 x253 x254 x255 x256 x257 x258 x259 x260 x261 x262 x263 x264 x265 x266 x267 x268 x269 x270 x271 x272 x273 x274 x275 x276 x277 x278 x279 x280 x281 x282 x283 : Value)
    (h : ∀ (y4 y5 y6 y8 y10 y11 y13 y14 y15 y16 y17 y18 y19 y20 y28 y29 y30 y31 y32 y33 y34 y35 y36 y37 y38 y39 y40 y41 y42 y43 y44 y45 y46 y47 y48 y49 y50 y51 y52 y53 y54 y55 y56 y57 y58 y59 y60 y61 y62 y63 y64 y65 y66 y67 y68 y69 y70 y71 y72 y73 y74 y75 y76 y77 y78 y79 y80 y81 y82 y83 y84 y85 y86 y87 y88 y89 y90 y91 y92 y93 y94 y95 y96 y97 y98 y99 y100 y101 y102 y103 y104 y105 y106 y107 y108 y109 y110 y111 y112 y113 y114 y115 y116 y117 y118 y119 y120 y121 y122 y123 y124 y125 y126 y127 y128 y129 y130 y131 y132 y133 y134 y135 y136 y137 y138 y139 y140 y141 y142 y143 y144 y145 y146 y147 y148 y149 y150 y151 y152 y153 y154 y155 y156 y157 y158 y159 y160 y161 y162 y163 y164 y165 y166 y167 y168 y169 y170 : Value) (W' : World) (oa pa qa : Option Addr) (oc pc qc : Nat), SL x W W' k0 x.all oa pa qa oc pc qc false 0 → C ⟨#[x0, .pointer (some ⟨k0, 0, none⟩), x2, .bool false, y4, y5, y6, x7, y8, x9, y10, y11, x12, y13, y14, y15, y16, y17, y18, y19, y20, x21, x22, x23, x24, x25, x26, x27, y28, y29, y30, y31, y32, y33, y34, y35, y36, y37, y38, y39, y40, y41, y42, y43, y44, y45, y46, y47, y48, y49, y50, y51, y52, y53, y54, y55, y56, y57, y58, y59, y60, y61, y62, y63, y64, y65, y66, y67, y68, y69, y70, y71, y72, y73, y74, y75, y76, y77, y78, y79, y80, y81, y82, y83, y84, y85, y86, y87, y88, y89, y90, y91, y92, y93, y94, y95, y96, y97, y98, y99, y100, y101, y102, y103, y104, y105, y106, y107, y108, y109, y110, y111, y112, y113, y114, y115, y116, y117, y118, y119, y120, y121, y122, y123, y124, y125, y126, y127, y128, y129, y130, y131, y132, y133, y134, y135, y136, y137, y138, y139, y140, y141, y142, y143, y144, y145, y146, y147, y148, y149, y150, y151, y152, y153, y154, y155, y156, y157, y158, y159, y160, y161, y162, y163, y164, y165, y166, y167, y168, y169, y170, x171, x172, x173, x174, x175, x176, x177, x178, x179, x180, x181, x182, x183, x184, x185, x186, x187, x188, x189, x190, x191, x192, x193, x194, x195, x196, x197, x198, x199, x200, x201, x202, x203, x204, x205, x206, x207, x208, x209, x210, x211, x212, x213, x214, x215, x216, x217, x218, x219, x220, x221, x222, x223, x224, x225, x226, x227, x228, x229, x230, x231, x232, x233, x234, x235, x236, x237, x238, x239, x240, x241, x242, x243, x244, x245, x246, x247, x248, x249, x250, x251, x252, x253, x254, x255, x256, x257, x258, x259, x260, x261, x262, x263, x264, x265, x266, x267, x268, x269, x270, x271, x272, x273, x274, x275, x276, x277, x278, x279, x280, x281, x282, x283], []⟩ W') :
    Code.wp Try.prog ((Try.f15.body.bind (findBlock 0)).getD .skip) (Exit.then C Q) ⟨#[x0, .pointer (some ⟨k0, 0, none⟩), x2, .bool true, x4, x5, x6, x7, x8, x9, x10, x11, x12, x13, x14, x15, x16, x17, x18, x19, x20, x21, x22, x23, x24, x25, x26, x27, x28, x29, x30, x31, x32, x33, x34, x35, x36, x37, x38, x39, x40, x41, x42, x43, x44, x45, x46, x47, x48, x49, x50, x51, x52, x53, x54, x55, x56, x57, x58, x59, x60, x61, x62, x63, x64, x65, x66, x67, x68, x69, x70, x71, x72, x73, x74, x75, x76, x77, x78, x79, x80, x81, x82, x83, x84, x85, x86, x87, x88, x89, x90, x91, x92, x93, x94, x95, x96, x97, x98, x99, x100, x101, x102, x103, x104, x105, x106, x107, x108, x109, x110, x111, x112, x113, x114, x115, x116, x117, x118, x119, x120, x121, x122, x123, x124, x125, x126, x127, x128, x129, x130, x131, x132, x133, x134, x135, x136, x137, x138, x139, x140, x141, x142, x143, x144, x145, x146, x147, x148, x149, x150, x151, x152, x153, x154, x155, x156, x157, x158, x159, x160, x161, x162, x163, x164, x165, x166, x167, x168, x169, x170, x171, x172, x173, x174, x175, x176, x177, x178, x179, x180, x181, x182, x183, x184, x185, x186, x187, x188, x189, x190, x191, x192, x193, x194, x195, x196, x197, x198, x199, x200, x201, x202, x203, x204, x205, x206, x207, x208, x209, x210, x211, x212, x213, x214, x215, x216, x217, x218, x219, x220, x221, x222, x223, x224, x225, x226, x227, x228, x229, x230, x231, x232, x233, x234, x235, x236, x237, x238, x239, x240, x241, x242, x243, x244, x245, x246, x247, x248, x249, x250, x251, x252, x253, x254, x255, x256, x257, x258, x259, x260, x261, x262, x263, x264, x265, x266, x267, x268, x269, x270, x271, x272, x273, x274, x275, x276, x277, x278, x279, x280, x281, x282, x283], []⟩ W := by
  have HH : Hid _ := h
  have H0 : Hid (SL x W W k0 x oa0 pa0 qa0 oc0 pc0 qc0 true (x.live + 2)) := ⟨hks, fun _ _ => rfl, Nat.le_refl _, fun B _ => Below.refl B W, hfit, ⟨rfl, rfl, rfl⟩, fun _ => ⟨rfl, Nat.le_refl _⟩, fun e => by cases e⟩
  have hmk := fun (fn : Fn) (first cap : Array Value) (w : World) => (rfl : (Instr.makeFunc fn first cap).run Try.prog w = .ok (.func fn first cap) w)
  have hmm := @run_makeMap Try.prog
  have eg : Enters Try.prog 47 := by unfold Enters; intro args w; rfl
  have HEG : Hid (Enters Try.prog 47) := eg
  have hk0W := hks.kern.lt
  clear h hks hfit eg
  conv => arg 2; whnf
  go_wp2_with fail
  go_loopg [3] (x.live + 2) (fun gk s3 wr => ∃ (b : Bool) (y : Swp) (oa pa qa : Option Addr) (oc pc qc : Nat), s3 = .bool b ∧ SL x W wr k0 y oa pa qa oc pc qc b gk)
  case atStart => exact ⟨true, x, oa0, pa0, qa0, oc0, pc0, qc0, rfl, H0.out⟩
  case round =>
    obtain ⟨b, y, oa, pa, qa, oc, pc, qc, rfl, hI⟩ := hrel
    cases b with
    | false =>
      have e := (hI.fin rfl).1
      subst e
      have HI : Hid (SL x W wr k0 x.all oa pa qa oc pc qc false 0) := ⟨hI.ks, hI.on, hI.size, hI.below, hI.fit, hI.lens, (fun e => by cases e), hI.fin⟩
      clear hI
      go_wp2
      exact HH.out _ _ _ _ _ _ _ _ _ _ _ _ _ _ _ _ _ _ _ _ _ _ _ _ _ _ _ _ _ _ _ _ _ _ _ _ _ _ _ _ _ _ _ _ _ _ _ _ _ _ _ _ _ _ _ _ _ _ _ _ _ _ _ _ _ _ _ _ _ _ _ _ _ _ _ _ _ _ _ _ _ _ _ _ _ _ _ _ _ _ _ _ _ _ _ _ _ _ _ _ _ _ _ _ _ _ _ _ _ _ _ _ _ _ _ _ _ _ _ _ _ _ _ _ _ _ _ _ _ _ _ _ _ _ _ _ _ _ _ _ _ _ _ _ _ _ _ _ _ _ _ _ _ _ _ _ _ _ _ _ _ _ _ _ HI.out
    | true =>
      have HI : Hid (SL x W wr k0 y oa pa qa oc pc qc true gk) := hI
      have hks := hI.ks
      have hfit := hI.fit
      have HKS : Hid (KS wr k0 y oa pa qa oc pc qc) := hks
      have HFIT : Hid (Fit y) := hfit
      have k0c := hks.kern.cell
      have k0l := hks.kern.lt
      have HRE : Hid (Calls Try.prog 10 #[.agg #[.slice oa y.ts.length oc, .slice pa y.O.length pc, .slice qa y.ps.length qc]] wr (ReachW y.kn wr)) := rreach_any y.kn _ _ _ (fun b => b < wr.heap.size ∧ b ≠ k0 ∧ b ≠ k0 + 1) wr ⟨y.ts, rfl, hks.ob, hks.lists⟩ hks.opn ⟨y.ps, rfl, hks.pr, hks.slots⟩ (fun b hb => hb.1) (by show (y.ts.map Prod.snd).length ≤ 1000; rw [List.length_map]; have := hfit.ts; omega)
      clear hI hks hfit
      go_wp2_with fail
      refine Calls.mono HRE.out ?_
      rintro e w1 ⟨gh, rfl, hgh, hmp, hb1⟩
      have HG1 : Hid (Gw wr w1) := Gw.below hb1
      have HMP1 : Hid (MapB w1 gh (cnt (reachB y.kn)) (reachB y.kn)) := hmp
      have hk1 := HKS.out.kern.on HG1.out.1 k0l
      have k1c := hk1.cell
      have k1l := hk1.lt
      clear hb1 hmp hk1 k0c HRE
      go_upto_block 2 with fail
      have hg2 : Gw wr ((w1.alloc (.map #[] 0)).alloc (.cells #[.map (some w1.heap.size)] 29)) := (HG1.out.trans (Gw.new w1 _)).trans (Gw.new _ _)
      have hbo : Blk ((w1.alloc (.map #[] 0)).alloc (.cells #[.map (some w1.heap.size)] 29)) (w1.heap.size + 1) #[.map (some w1.heap.size)] 29 := blk_new1w w1 _ _ _
      have hmn : MapN ((w1.alloc (.map #[] 0)).alloc (.cells #[.map (some w1.heap.size)] 29)) w1.heap.size 0 (List.replicate y.O.length false) := (MapN.made w1 y.O.length).by (On.alloc _ _) (by simp)
      have hmp2 : MapB ((w1.alloc (.map #[] 0)).alloc (.cells #[.map (some w1.heap.size)] 29)) gh (cnt (reachB y.kn)) (reachB y.kn) := (HMP1.out.by (On.alloc w1 _) HMP1.out.lt).by (On.alloc _ _) (by have := HMP1.out.lt; simp; omega)
      have hz2 : ((w1.alloc (.map #[] 0)).alloc (.cells #[.map (some w1.heap.size)] 29)).heap.size = w1.heap.size + 2 := by simp
      generalize (w1.alloc (.map #[] 0)).alloc (.cells #[.map (some w1.heap.size)] 29) = w2 at *
      have hwr1 : wr.heap.size ≤ w1.heap.size := HG1.out.2.1
      have HG2 : Hid (Gw wr w2) := hg2
      have HBO : Hid (Blk w2 (w1.heap.size + 1) #[.map (some w1.heap.size)] 29) := hbo
      have HMP2 : Hid (MapB w2 gh (cnt (reachB y.kn)) (reachB y.kn)) := hmp2
      have hghl := HMP1.out.lt
      have HOS : Hid (OS w2 w2 w1.heap.size 0 (List.replicate y.O.length false)) := ⟨hmn, fun _ _ => rfl, Nat.le_refl _, fun B _ => Below.refl B w2, by omega⟩
      have HT : Hid (∀ b, (b < wr.heap.size ∧ b ≠ k0 ∧ b ≠ k0 + 1) → b < w2.heap.size ∧ b ≠ w1.heap.size) := fun b hb => ⟨by omega, by omega⟩
      have HTW : Hid (∀ w', Gw wr w' → On (fun b => b < wr.heap.size ∧ b ≠ k0 ∧ b ≠ k0 + 1) wr w') := fun w' hg => hg.1.less fun b hb => hb.1
      have HH2 : Hid (Hands (fun b => b < wr.heap.size ∧ b ≠ k0 ∧ b ≠ k0 + 1) w2 fun (xs : List Sp.Slt) w' => OS w2 w' w1.heap.size xs.length (xs.foldl hadS (List.replicate y.O.length false))) :=
        ⟨fun xs w' g => ⟨g.on.less fun b hb => HT.out b hb, g.size⟩, fun xs w' ob g => g.alloc ob⟩
      clear hg2 hbo hmn hmp2 k1c
      refine sheld_wp _ _ 47 #[.pointer (some ⟨w1.heap.size + 1, 0, none⟩)] (y.ps.map Prod.snd) y.ps qa qc (fun b => b < wr.heap.size ∧ b ≠ k0 ∧ b ≠ k0 + 1) w2 rfl (Row.on HKS.out.pr (HTW.out _ HG2.out)) (fun t ht => Row.on (HKS.out.slots t ht) (HTW.out _ HG2.out)) HEG.out _ HOS.out HH2.out (fun xs s p w3 g hp _ hs _ hpre => ?_) _ _ _ _ _ _ _ _ _ _ _ _ _ _ _ _ _ _ _ _ _ _ _ _ _ _ _ _ _ _ _ _ _ _ _ _ _ _ _ _ _ _ _ _ _ _ _ _ _ _ _ _ _ _ _ _ _ _ _ _ _ _ _ _ _ _ _ _ _ _ _ _ _ _ _ _ _ _ _ _ _ _ _ _ _ _ _ _ _ _ _ _ _ _ _ _ _ _ _ _ _ _ _ _ _ _ _ _ _ _ _ _ _ _ _ _ _ _ _ _ _ _ _ _ _ _ _ _ _ _ _ _ _ _ _ _ _ _ _ _ _ _ _ _ _ _ _ _ _ _ _ _ _ _ _ _ _ _ _ _ _ _ _ _ _ _ _ _ _ _ _ _ _ _ _ _ _ _ _ _ _ _ _ _ _ _ _ _ _ _ _ _ _ _ _ _ _ _ _ _ _ _ _ _ _ _ _ _ _ _ _ _ _ _ _ _ _ _ _ _ _ _ _ _ _ _ _ _ _ _ _ _ _ _ _ _ _ _ _ _ _ _ _ _ _ _ _ _ _ _ _ _ _ _ _ _ _ _ _ _ _ _ _ _ _ _ _ _ _ _ _ _ _ _ _ _ _ _ _ _ ?_
      · obtain ⟨ys, hys⟩ := hpre
        have hlen : xs.length ≤ 100 := by
          have h1 := heldL_len (P := y.ps.map Prod.snd) (fun q hq => by obtain ⟨t, ht, rfl⟩ := List.mem_map.1 hq; exact HFIT.out.slots t ht)
          rw [hys, List.length_append, List.length_map] at h1
          have := HFIT.out.ps.2
          omega
        obtain ⟨t, ht, rfl⟩ := List.mem_map.1 hp
        refine (radd_any s.op s.rt w2 w3 (w1.heap.size + 1) w1.heap.size xs.length _ g HBO.out (by omega) (by omega) (HFIT.out.sop t ht s hs)).mono ?_
        rintro e w4 ⟨rfl, g1, g2, g3⟩
        refine ⟨rfl, ?_, g2.less fun b hb => ⟨hb.2, by omega⟩, g3⟩
        rw [List.foldl_append, List.length_append]
        exact g1
      intro y8 y10 y37 y38 y39 y40 y41 y42 y43 y44 y45 y46 y47 y48 y49 y50 y51 y52 y53 y54 y55 y56 y57 y58 w3 hI3
      dsimp only
      have hlen : (heldL (y.ps.map Prod.snd)).length ≤ 80 := by
        have h1 := heldL_len (P := y.ps.map Prod.snd) (fun q hq => by obtain ⟨t, ht, rfl⟩ := List.mem_map.1 hq; exact HFIT.out.slots t ht)
        rw [List.length_map] at h1
        have := HFIT.out.ps.2
        omega
      have HOS3 : Hid _ := hI3
      have HG3 : Hid (Gw wr w3) := hI3.gw HG2.out hwr1
      have hk3 := HKS.out.kern.on HG3.out.1 k0l
      have k3c := hk3.cell
      have k3l := hk3.lt
      clear hI3 hk3 HH2
      go_upto_block 6 with fail
      refine squ_ts _ _ _ rfl y.ts (reachB y.kn) _ oa oc _ _ (fun b => b < wr.heap.size ∧ b ≠ k0 ∧ b ≠ k0 + 1) w2 w3 k0 (w1.heap.size + 1) w1.heap.size gh (cnt (reachB y.kn)) _ HOS3.out (Row.on HKS.out.ob (HTW.out _ HG2.out)) (fun t ht => (HKS.out.lists t ht).on (HTW.out _ HG2.out)) HT.out (HKS.out.kern.on HG2.out.1 k0l) (by omega) HMP2.out (by omega) HBO.out (by omega) HFIT.out.ts.2 (by omega) HFIT.out.queue HFIT.out.qop _ _ _ _ _ _ _ _ _ _ _ _ _ _ _ _ _ _ _ _ _ _ _ _ _ _ _ _ _ _ _ _ _ _ _ _ _ _ _ _ _ _ _ _ _ _ _ _ _ _ _ _ _ _ _ _ _ _ _ _ _ _ _ _ _ _ _ _ _ _ _ _ _ _ _ _ _ _ _ _ _ _ _ _ _ _ _ _ _ _ _ _ _ _ _ _ _ _ _ _ _ _ _ _ _ _ _ _ _ _ _ _ _ _ _ _ _ _ _ _ _ _ _ _ _ _ _ _ _ _ _ _ _ _ _ _ _ _ _ _ _ _ _ _ _ _ _ _ _ _ _ _ _ _ _ _ _ _ _ _ _ _ _ _ _ _ _ _ _ _ _ _ _ _ _ _ _ _ _ _ _ _ _ _ _ _ _ _ _ _ _ _ _ _ _ _ _ _ _ _ _ _ _ _ _ _ _ _ _ _ _ _ _ _ _ _ _ _ _ _ _ _ _ _ _ _ _ _ _ _ _ _ _ _ _ _ _ _ _ _ _ _ _ _ _ _ _ _ _ _ _ _ _ _ _ _ _ _ _ _ _ _ _ _ _ _ _ _ _ _ _ _ _ _ _ _ _ _ _ ?_
      intro y11 y13 y63 y64 y65 y66 y67 y68 y69 y70 y71 y72 y73 y74 y75 y76 y77 y78 y79 y80 y81 y82 y83 y84 y85 y86 y87 y88 w4 hI4
      dsimp only
      rw [had_doc y] at hI4
      have HOS4 : Hid _ := hI4
      have HG4 : Hid (Gw wr w4) := hI4.gw HG2.out hwr1
      have hk4 := HKS.out.kern.on HG4.out.1 k0l
      have k4c := hk4.cell
      have k4l := hk4.lt
      clear hI4 hk4 k3c
      go_upto_block 10 with fail
      have hb5 := Blk.new w4 #[.slice none 0 0, .slice none 0 0, .slice none 0 0] 27
      have hg5 : Gw wr (w4.alloc (.cells #[.slice none 0 0, .slice none 0 0, .slice none 0 0] 27)) := HG4.out.trans (Gw.new w4 _)
      have ho5 := On.alloc w4 (.cells #[.slice none 0 0, .slice none 0 0, .slice none 0 0] 27)
      have hz5 : (w4.alloc (.cells #[.slice none 0 0, .slice none 0 0, .slice none 0 0] 27)).heap.size = w4.heap.size + 1 := by simp
      generalize w4.alloc (.cells #[.slice none 0 0, .slice none 0 0, .slice none 0 0] 27) = w5 at *
      have hz24 := HOS4.out.size
      have hz44 := HG4.out.2.1
      have HG5 : Hid (Gw wr w5) := hg5
      have HB5 : Hid (Blk w5 w4.heap.size #[.slice none 0 0, .slice none 0 0, .slice none 0 0] 27) := hb5
      have HMP5 : Hid (MapB w5 gh (cnt (reachB y.kn)) (reachB y.kn)) := (HMP2.out.by HOS4.out.on ⟨by omega, by omega⟩).by ho5 (by omega)
      have HMN5 : Hid (MapN w5 w1.heap.size _ (hadB (y.ts1.map Prod.snd) (y.ps.map Prod.snd) y.O.length)) := HOS4.out.map.by ho5 (by omega)
      have HBO5 : Hid (Blk w5 (w1.heap.size + 1) #[.map (some w1.heap.size)] 29) := (HBO.out.on HOS4.out.on ⟨by omega, by omega⟩).on ho5 (by omega)
      have hT5 : ∀ b, (b < wr.heap.size ∧ b ≠ k0 ∧ b ≠ k0 + 1) → b < w5.heap.size ∧ b ≠ w4.heap.size := fun b hb => ⟨by omega, by omega⟩
      clear hb5 hg5 ho5 k4c
      refine sobj_wp _ _ y.ts (reachB y.kn) oa oc (fun b => b < wr.heap.size ∧ b ≠ k0 ∧ b ≠ k0 + 1) w5 w4.heap.size gh (cnt (reachB y.kn)) HB5.out (Row.on HKS.out.ob (HTW.out _ HG5.out)) hT5 HMP5.out (by omega) HFIT.out.ts.2 HFIT.out.peer _ _ _ _ _ _ _ _ _ _ _ _ _ _ _ _ _ _ _ _ _ _ _ _ _ _ _ _ _ _ _ _ _ _ _ _ _ _ _ _ _ _ _ _ _ _ _ _ _ _ _ _ _ _ _ _ _ _ _ _ _ _ _ _ _ _ _ _ _ _ _ _ _ _ _ _ _ _ _ _ _ _ _ _ _ _ _ _ _ _ _ _ _ _ _ _ _ _ _ _ _ _ _ _ _ _ _ _ _ _ _ _ _ _ _ _ _ _ _ _ _ _ _ _ _ _ _ _ _ _ _ _ _ _ _ _ _ _ _ _ _ _ _ _ _ _ _ _ _ _ _ _ _ _ _ _ _ _ _ _ _ _ _ _ _ _ _ _ _ _ _ _ _ _ _ _ _ _ _ _ _ _ _ _ _ _ _ _ _ _ _ _ _ _ _ _ _ _ _ _ _ _ _ _ _ _ _ _ _ _ _ _ _ _ _ _ _ _ _ _ _ _ _ _ _ _ _ _ _ _ _ _ _ _ _ _ _ _ _ _ _ _ _ _ _ _ _ _ _ _ _ _ _ _ _ _ _ _ _ _ _ _ _ _ _ _ _ _ _ _ _ _ _ _ _ _ _ _ _ ?_
      intro y15 y16 y94 y95 y96 y97 y98 y99 y100 y101 y102 y103 y104 y105 y106 y107 y108 y109 y110 y111 y112 y113 y114 y115 y116 y117 y118 y119 y120 w6 r6 hN6
      dsimp only
      have HN6 : Hid _ := hN6
      have HG6 : Hid (Gw wr w6) := hN6.gw HG5.out (by omega)
      have hk6 := HKS.out.kern.on HG6.out.1 k0l
      have k6c := hk6.cell
      have k6l := hk6.lt
      have hz6 := hN6.size
      have HMN6 : Hid (MapN w6 w1.heap.size _ (hadB (y.ts1.map Prod.snd) (y.ps.map Prod.snd) y.O.length)) := HMN5.out.by hN6.on ⟨by omega, by omega⟩
      have HBO6 : Hid (Blk w6 (w1.heap.size + 1) #[.map (some w1.heap.size)] 29) := HBO5.out.on hN6.on ⟨by omega, by omega⟩
      have hT6 : ∀ b, (b < wr.heap.size ∧ b ≠ k0 ∧ b ≠ k0 + 1) → b < w6.heap.size ∧ b ≠ w4.heap.size := fun b hb => ⟨by omega, by omega⟩
      have HHL : Hid ((hadB (y.ts1.map Prod.snd) (y.ps.map Prod.snd) y.O.length).length = y.O.length) := by
        unfold Hid
        rw [← had_doc y, quTo_len, hadS_len, List.length_replicate]
      clear hN6 hk6 hT5
      go_upto_block 12 with fail
      refine sopn_wp _ _ y.O (hadB (y.ts1.map Prod.snd) (y.ps.map Prod.snd) y.O.length) (.slice r6.a r6.n r6.c) pa pc (fun b => b < wr.heap.size ∧ b ≠ k0 ∧ b ≠ k0 + 1) w6 w4.heap.size (w1.heap.size + 1) w1.heap.size _ HN6.out.bx (Row.on HKS.out.opn (HTW.out _ HG6.out)) hT6 HMN6.out (by omega) HBO6.out (by omega) HHL.out (by have := HFIT.out.os; omega) _ _ _ _ _ _ _ _ _ _ _ _ _ _ _ _ _ _ _ _ _ _ _ _ _ _ _ _ _ _ _ _ _ _ _ _ _ _ _ _ _ _ _ _ _ _ _ _ _ _ _ _ _ _ _ _ _ _ _ _ _ _ _ _ _ _ _ _ _ _ _ _ _ _ _ _ _ _ _ _ _ _ _ _ _ _ _ _ _ _ _ _ _ _ _ _ _ _ _ _ _ _ _ _ _ _ _ _ _ _ _ _ _ _ _ _ _ _ _ _ _ _ _ _ _ _ _ _ _ _ _ _ _ _ _ _ _ _ _ _ _ _ _ _ _ _ _ _ _ _ _ _ _ _ _ _ _ _ _ _ _ _ _ _ _ _ _ _ _ _ _ _ _ _ _ _ _ _ _ _ _ _ _ _ _ _ _ _ _ _ _ _ _ _ _ _ _ _ _ _ _ _ _ _ _ _ _ _ _ _ _ _ _ _ _ _ _ _ _ _ _ _ _ _ _ _ _ _ _ _ _ _ _ _ _ _ _ _ _ _ _ _ _ _ _ _ _ _ _ _ _ _ _ _ _ _ _ _ _ _ _ _ _ _ _ _ _ _ _ _ _ _ _ _ _ _ _ _ _ ?_
      intro y17 y18 y125 y126 y127 y128 y129 y130 y131 y132 y133 y134 y135 y136 y137 y138 y139 y140 w7 r7 hN7
      dsimp only
      have HN7 : Hid _ := hN7
      have HG7 : Hid (Gw wr w7) := hN7.gw HG6.out (by omega)
      have hk7 := HKS.out.kern.on HG7.out.1 k0l
      have k7c := hk7.cell
      have k7l := hk7.lt
      have hz7 := hN7.size
      have hrow7 : Mine w7 w5.heap.size 40 9 (.slice r6.a r6.n r6.c) (y.ts1.map objC) := HN6.out.row.on hN7.on fun g hg => ⟨(HN6.out.row.lt g hg).2, by have := (HN6.out.row.lt g hg).1; omega⟩
      have HV7 : Hid (Objs w7 (fun b => b < w7.heap.size ∧ b ≠ w4.heap.size) (.slice r6.a r6.n r6.c) (y.ts1.map Prod.snd)) := by
        refine ⟨y.ts1, rfl, (hrow7.row (even_obj _)).more fun b hb => ⟨hb.2, by omega⟩, fun t ht => ?_⟩
        obtain ⟨i, hi, rfl⟩ := List.mem_mapIdx.1 (show t ∈ y.ts.mapIdx (fo (reachB y.kn) y.ts.length) from ht)
        have h0 := ((HKS.out.lists y.ts[i] (List.getElem_mem hi)).on (HTW.out _ HG7.out)).more (T := fun b => b < w7.heap.size ∧ b ≠ w4.heap.size) fun b hb => ⟨by omega, by omega⟩
        rcases fo_cases (reachB y.kn) y.ts.length i y.ts[i] with e | e | e
        · rw [e]
          exact ⟨Row.nil _ _ _ _ _, Row.nil _ _ _ _ _, ⟨[], rfl, Row.nil _ _ _ _ _, fun t ht => by cases ht⟩⟩
        · rw [e]; exact h0
        · rw [e]; exact h0
      have HR7 : Hid (Mine w7 w5.heap.size 40 9 (.slice r6.a r6.n r6.c) (y.ts1.map objC)) := hrow7
      have hT7 : ∀ b, (b < wr.heap.size ∧ b ≠ k0 ∧ b ≠ k0 + 1) → b < w7.heap.size ∧ b ≠ w4.heap.size := fun b hb => ⟨by omega, by omega⟩
      clear hN7 hk7 hT6 hrow7 k6c
      go_upto_block 14 with fail
      refine sprc_wp _ _ (y.ts1.map Prod.snd) y.ps (.slice r6.a r6.n r6.c) (.slice r7.a r7.n r7.c) qa qc (fun b => b < wr.heap.size ∧ b ≠ k0 ∧ b ≠ k0 + 1) (fun b => b < w7.heap.size ∧ b ≠ w4.heap.size) w7 w4.heap.size HN7.out.bx (Row.on HKS.out.pr (HTW.out _ HG7.out)) hT7 HV7.out (fun b hb => hb) (by have := HFIT.out.ps.2; omega) _ _ _ _ _ _ _ _ _ _ _ _ _ _ _ _ _ _ _ _ _ _ _ _ _ _ _ _ _ _ _ _ _ _ _ _ _ _ _ _ _ _ _ _ _ _ _ _ _ _ _ _ _ _ _ _ _ _ _ _ _ _ _ _ _ _ _ _ _ _ _ _ _ _ _ _ _ _ _ _ _ _ _ _ _ _ _ _ _ _ _ _ _ _ _ _ _ _ _ _ _ _ _ _ _ _ _ _ _ _ _ _ _ _ _ _ _ _ _ _ _ _ _ _ _ _ _ _ _ _ _ _ _ _ _ _ _ _ _ _ _ _ _ _ _ _ _ _ _ _ _ _ _ _ _ _ _ _ _ _ _ _ _ _ _ _ _ _ _ _ _ _ _ _ _ _ _ _ _ _ _ _ _ _ _ _ _ _ _ _ _ _ _ _ _ _ _ _ _ _ _ _ _ _ _ _ _ _ _ _ _ _ _ _ _ _ _ _ _ _ _ _ _ _ _ _ _ _ _ _ _ _ _ _ _ _ _ _ _ _ _ _ _ _ _ _ _ _ _ _ _ _ _ _ _ _ _ _ _ _ _ _ _ _ _ _ _ _ _ _ _ _ _ _ _ _ _ _ _ ?_
      intro y19 y20 y145 y146 y147 y148 y149 y150 y151 y152 y153 y154 y155 y156 y157 y158 y159 y160 y161 y162 y163 y164 y165 y166 y167 y168 y169 w8 r8 hN8
      dsimp only
      have HN8 : Hid _ := hN8
      have HG8 : Hid (Gw wr w8) := hN8.gw HG7.out (by omega)
      have hk8 := HKS.out.kern.on HG8.out.1 k0l
      have k8c := hk8.cell
      have k8f := hk8.free
      have k8l := hk8.lt
      have b8c := hN8.bx.cell
      have b8l := hN8.bx.lt
      have hmo : y.more = anyTo (epB (knownB (y.ts1.map Prod.snd) y.ps.length)) y.ps y.ps.length := rfl
      rw [← hmo]
      have HNX : Hid (∀ W', W' = ((w8.setCell ⟨k0, 0, none⟩ (.slice r6.a r6.n r6.c)).setCell ⟨k0, 1, none⟩ (.slice r7.a r7.n r7.c)).setCell ⟨k0, 2, none⟩ (.slice r8.a r8.n r8.c) → SL x W W' k0 y.rnd r6.a r7.a r8.a r6.c r7.c r8.c y.more (gk - 1)) := fun W' hW' => by
        have hz8 := HN8.out.size
        have m6 : Mine w8 w5.heap.size 40 9 (.slice r6.a r6.n r6.c) (y.rnd.ts.map objC) := HR7.out.on HN8.out.on fun g hg => ⟨(HR7.out.lt g hg).2, by have := (HR7.out.lt g hg).1; omega⟩
        have m7 : Mine w8 w5.heap.size 54 2 (.slice r7.a r7.n r7.c) (y.rnd.O.map opnC) := (HN7.out.row.on HN8.out.on fun g hg => ⟨(HN7.out.row.lt g hg).2, by have := (HN7.out.row.lt g hg).1; omega⟩).base fun g hg => by have := (HN7.out.row.lt g hg).1; omega
        have m8 : Mine w8 w5.heap.size 43 4 (.slice r8.a r8.n r8.c) (y.rnd.ps.map prcC) := HN8.out.row.base fun g hg => by have := (HN8.out.row.lt g hg).1; omega
        obtain ⟨q1, q2, q3, q4, q5⟩ := HKS.out.next HG8.out w5.heap.size (by omega) m6 m7 m8 hW'
        have oW : On (fun b => b ≠ k0) w8 W' := by
          subst hW'
          exact ((On.set w8 ⟨k0, 0, none⟩ _).trans (On.set _ ⟨k0, 1, none⟩ _)).trans (On.set _ ⟨k0, 2, none⟩ _)
        have qb := HKS.out.next2 (W := W') HG8.out w5.heap.size w7.heap.size (by omega) (by omega) m6 m7 (fun g hg => (HR7.out.lt g hg).2) (fun g hg => (HN7.out.row.lt g hg).2) oW
        have q2' : Mine W' w7.heap.size 43 4 (.slice r8.a y.rnd.ps.length r8.c) (y.rnd.ps.map prcC) := by
          have e8 : r8.n = y.rnd.ps.length := by obtain ⟨a, c, e, -, -⟩ := m8.form; rw [List.length_map] at e; exact (Value.slice.inj e).2.1
          have h8 := HN8.out.row.on oW fun g hg => by have := (HN8.out.row.lt g hg).1; show g ≠ k0; omega
          rw [e8] at h8
          exact h8
        have hsl := HI.out
        obtain ⟨l1, l2, l3⟩ := y.rnd_lens
        refine ⟨q1, hsl.on.trans (q3.less fun b hb => ⟨by have := hsl.size; omega, hb.2⟩), by have := hsl.size; omega, fun B hB => (hsl.below B hB).trans (q5 B hB), HFIT.out.rnd, ⟨l1.trans hsl.lens.1, l2.trans hsl.lens.2.1, l3.trans hsl.lens.2.2⟩, fun e => ?_, fun e => ?_⟩
        · have h1 := hsl.more rfl
          have h2 := Swp.rnd_live e
          exact ⟨by rw [← Swp.all_more e]; exact h1.1, by omega⟩
        · have h1 := hsl.more rfl
          exact ⟨by rw [← Swp.all_end e]; exact h1.1, w7.heap.size, by have := hsl.size; omega, q2', qb⟩
      have HGK : Hid (1 ≤ gk) := by have := (HI.out.more rfl).2; unfold Hid; omega
      clear hN8 hk8 hT7 k7c hmo
      generalize y.more = ym at *
      go_wp2
      go_roundg (gk - 1)
      case measure => have := HGK.out; omega
      case rel => exact ⟨ym, y.rnd, _, _, _, _, _, _, rfl, HNX.out _ rfl⟩
end Go.Proofs.Ytdciohinlhbliaa


/-
  rgref5.Sweep: processes that are forgotten.
-/
namespace Go.Proofs.Ytdciohinlhbliaa
open Go.RowKit
open Wp
set_option maxRecDepth 1000000 in
set_option maxHeartbeats 16000000 in
theorem sfor_wp (Q : Exit → Act → World → Prop) (K : Act → World → Prop) (L : List Sp.Ob) (ps : List (Sl × Sp.Prc)) (ov pv : Value) (T : Nat → Prop) (W : World) (k0 g3 qc base : Nat) (hM : Mine W base 43 4 (.slice (some ⟨g3, 0, none⟩) ps.length qc) (ps.map prcC)) (hkern : Blk W k0 #[ov, pv, .slice (some ⟨g3, 0, none⟩) ps.length qc] 27) (hne : k0 ≠ g3) (hv : Objs W T ov L) (hT : ∀ b, T b → b < W.heap.size ∧ b ≠ g3) (hL : ps.length ≤ 1000)
    (x0 x2 x3 x4 x5 x6 x7 x8 x9 x10 x11 x12 x13 x14 x15 x16 x17 x18 x19 x20 x21 x22 x23 x24 x25 x26 x27 x28 x29 x30 x31 x32 x33 x34 x35 x36 x37 x38 x39 x40 x41 x42 x43 x44 x45 x46 x47 x48 x49 x50 x51 x52 x53 x54 x55 x56 x57 x58 x59 x60 x61 x62 x63 x64 x65 x66 x67 x68 x69 x70 x71 x72 x73 x74 x75 x76 x77 x78 x79 x80 x81 x82 x83 x84 x85 x86 x87 x88 x89 x90 x91 x92 x93 x94 x95 x96 x97 x98 x99 x100 x101 x102 x103 x104 x105 x106 x107 x108 x109 x110 x111 x112 x113 x114 x115 x116 x117 x118 x119 x120 x121 x122 x123 x124 x125 x126 x127 x128 x129 x130 x131 x132 x133 x134 x135 x136 x137 x138 x139 x140 x141 x142 x143 x144 x145 x146 x147 x148 x149 x150 x151 x152 x153 x154 x155 x156 x157 x158 x159 x160 x161 x162 x163 x164 x165 x166 x167 x168 x169 x170 x171 x172 x175 x176 x177 x178 x179 x180 x181 x182 x183 x184 x185 x186 x187 x188 x189 x190 x191 x192 x193 x194 x195 x196 x197 x198 x199 x200 x201 x202 x203 x204 x205 x206 x207 x208 x209 x210 x211 x212 x213 x214 x215 x216 x217 x218 x219 x220 x221 x222 x223 x224 x225 x226 x227 x228 x229 x230 x231 x232 x233 x234 x235 x236 x237 x238 x239 x240 x241 x242 x243 x244 x245 x246 x247 x248 x249 x250 x251 x252 x253 x254 x255 x256 x257 x258 x259 x260 x261 x262 x263 x264 x265 x266 x267 x268 x269 x270 x271 x272 x273 x274 x275 x276 x277 x278 x279 x280 x281 x282 x283 : Value)
    (h : ∀ (y21 y175 y176 y177 y178 y179 y180 y181 y182 y183 y184 y185 y186 y187 y188 y189 y190 y191 y192 y193 y194 y195 y196 y197 y198 y199 y200 : Value) (W' : World), Mine W' base 43 4 (.slice (some ⟨g3, 0, none⟩) ps.length qc) ((ps.mapIdx (fp (knownB L ps.length))).map prcC) → On (fun b => b < W.heap.size ∧ b ≠ g3) W W' → W.heap.size ≤ W'.heap.size → (∀ B, B ≤ g3 → Below B W W') → K ⟨#[x0, .pointer (some ⟨k0, 0, none⟩), x2, x3, x4, x5, x6, x7, x8, x9, x10, x11, x12, x13, x14, x15, x16, x17, x18, x19, x20, y21, x22, x23, x24, x25, x26, x27, x28, x29, x30, x31, x32, x33, x34, x35, x36, x37, x38, x39, x40, x41, x42, x43, x44, x45, x46, x47, x48, x49, x50, x51, x52, x53, x54, x55, x56, x57, x58, x59, x60, x61, x62, x63, x64, x65, x66, x67, x68, x69, x70, x71, x72, x73, x74, x75, x76, x77, x78, x79, x80, x81, x82, x83, x84, x85, x86, x87, x88, x89, x90, x91, x92, x93, x94, x95, x96, x97, x98, x99, x100, x101, x102, x103, x104, x105, x106, x107, x108, x109, x110, x111, x112, x113, x114, x115, x116, x117, x118, x119, x120, x121, x122, x123, x124, x125, x126, x127, x128, x129, x130, x131, x132, x133, x134, x135, x136, x137, x138, x139, x140, x141, x142, x143, x144, x145, x146, x147, x148, x149, x150, x151, x152, x153, x154, x155, x156, x157, x158, x159, x160, x161, x162, x163, x164, x165, x166, x167, x168, x169, x170, x171, x172, .int .i64 ps.length, .int .i64 ps.length, y175, y176, y177, y178, y179, y180, y181, y182, y183, y184, y185, y186, y187, y188, y189, y190, y191, y192, y193, y194, y195, y196, y197, y198, y199, y200, x201, x202, x203, x204, x205, x206, x207, x208, x209, x210, x211, x212, x213, x214, x215, x216, x217, x218, x219, x220, x221, x222, x223, x224, x225, x226, x227, x228, x229, x230, x231, x232, x233, x234, x235, x236, x237, x238, x239, x240, x241, x242, x243, x244, x245, x246, x247, x248, x249, x250, x251, x252, x253, x254, x255, x256, x257, x258, x259, x260, x261, x262, x263, x264, x265, x266, x267, x268, x269, x270, x271, x272, x273, x274, x275, x276, x277, x278, x279, x280, x281, x282, x283], []⟩ W') :
    Code.wp Try.prog ((Try.f15.body.bind (findBlock 16)).getD .skip) (Exit.then K Q) ⟨#[x0, .pointer (some ⟨k0, 0, none⟩), x2, x3, x4, x5, x6, x7, x8, x9, x10, x11, x12, x13, x14, x15, x16, x17, x18, x19, x20, x21, x22, x23, x24, x25, x26, x27, x28, x29, x30, x31, x32, x33, x34, x35, x36, x37, x38, x39, x40, x41, x42, x43, x44, x45, x46, x47, x48, x49, x50, x51, x52, x53, x54, x55, x56, x57, x58, x59, x60, x61, x62, x63, x64, x65, x66, x67, x68, x69, x70, x71, x72, x73, x74, x75, x76, x77, x78, x79, x80, x81, x82, x83, x84, x85, x86, x87, x88, x89, x90, x91, x92, x93, x94, x95, x96, x97, x98, x99, x100, x101, x102, x103, x104, x105, x106, x107, x108, x109, x110, x111, x112, x113, x114, x115, x116, x117, x118, x119, x120, x121, x122, x123, x124, x125, x126, x127, x128, x129, x130, x131, x132, x133, x134, x135, x136, x137, x138, x139, x140, x141, x142, x143, x144, x145, x146, x147, x148, x149, x150, x151, x152, x153, x154, x155, x156, x157, x158, x159, x160, x161, x162, x163, x164, x165, x166, x167, x168, x169, x170, x171, x172, .int .i64 ps.length, .int .i64 0, x175, x176, x177, x178, x179, x180, x181, x182, x183, x184, x185, x186, x187, x188, x189, x190, x191, x192, x193, x194, x195, x196, x197, x198, x199, x200, x201, x202, x203, x204, x205, x206, x207, x208, x209, x210, x211, x212, x213, x214, x215, x216, x217, x218, x219, x220, x221, x222, x223, x224, x225, x226, x227, x228, x229, x230, x231, x232, x233, x234, x235, x236, x237, x238, x239, x240, x241, x242, x243, x244, x245, x246, x247, x248, x249, x250, x251, x252, x253, x254, x255, x256, x257, x258, x259, x260, x261, x262, x263, x264, x265, x266, x267, x268, x269, x270, x271, x272, x273, x274, x275, x276, x277, x278, x279, x280, x281, x282, x283], []⟩ W := by
  have HH : Hid _ := h
  have HM : Hid (Mine W base 43 4 (.slice (some ⟨g3, 0, none⟩) ps.length qc) (ps.map prcC)) := hM
  have HK : Hid (Blk W k0 #[ov, pv, .slice (some ⟨g3, 0, none⟩) ps.length qc] 27) := hkern
  have HV : Hid (Objs W T ov L) := hv
  have HT : Hid (∀ b, T b → b < W.heap.size ∧ b ≠ g3) := hT
  obtain ⟨-, -, -, hcc, hcm, -, -⟩ := hM.blk
  have hg3 := (hM.lt g3 rfl).2
  have hkl := hkern.lt
  unfold maxLen at hcm
  clear h hM hkern hv hT
  conv => arg 2; whnf
  go_wp2_with fail
  go_loopw [174] (fun v wr => ∃ i : Nat, i ≤ ps.length ∧ v = .int .i64 i ∧ Mine wr base 43 4 (.slice (some ⟨g3, 0, none⟩) ps.length qc) ((rowTo (fp (knownB L ps.length)) ps i).map prcC) ∧ On (fun b => b < W.heap.size ∧ b ≠ g3) W wr ∧ W.heap.size ≤ wr.heap.size ∧ ∀ B, B ≤ g3 → Below B W wr) (fun v _ => ps.length - (intOf v).toNat)
  case atStart => exact ⟨0, Nat.zero_le _, rfl, by rw [rowTo_zero]; exact HM.out, fun _ _ => rfl, Nat.le_refl _, fun B _ => Below.refl B W⟩
  case round =>
    obtain ⟨i, hi, rfl, hm, hon, hz, hbe⟩ := hrel
    have HMR : Hid _ := hm
    have HON : Hid (On (fun b => b < W.heap.size ∧ b ≠ g3) W wr) := hon
    have HBE : Hid (∀ B, B ≤ g3 → Below B W wr) := hbe
    by_cases hlt : i < ps.length
    · obtain ⟨⟨sl, p⟩, hx⟩ : ∃ x, ps[i]? = some x := ⟨_, List.getElem?_eq_getElem hlt⟩
      have HNX : Hid (rowTo (fp (knownB L ps.length)) ps (i + 1) = (rowTo (fp (knownB L ps.length)) ps i).set i (fp (knownB L ps.length) i (sl, p))) := rowTo_next hx
      have hat : (rowTo (fp (knownB L ps.length)) ps i)[i]? = some (sl, p) := rowTo_at hx
      have HAT : Hid _ := hat
      obtain ⟨cur, hblk, -, -, -, -, hcur⟩ := hm.blk
      have hcell : ∀ j u, (prcC (sl, p))[j]? = some u → wr.cell? ⟨g3, i * 4 + j, none⟩ = some u := fun j u hj => by
        rw [hblk.cell]
        exact hcur _ u (flatten_at (even_prc _) i (prcC (sl, p)) (by rw [List.getElem?_map, hat]; rfl) j u hj)
      have k0' := hcell 0 _ rfl
      rw [Nat.add_zero] at k0'
      have HKN : Hid ((knownB L ps.length).getD i false = heldB L (i : Int)) := known_get L hlt
      have hk1 := HK.out.on hon ⟨hkl, hne⟩
      have k1c := hk1.cell
      have k1l := hk1.lt
      have hgl := hblk.lt
      clear hm hbe hat hblk hcur hcell hk1 hx
      by_cases hi0 : i = 0
      · have HE : Hid (rowTo (fp (knownB L ps.length)) ps (i + 1) = rowTo (fp (knownB L ps.length)) ps i) := by
          unfold Hid
          rw [HNX.out, show fp (knownB L ps.length) i (sl, p) = (sl, p) by unfold fp fpB; rw [if_neg (by rw [hi0]; simp)], set_same HAT.out]
        have hzi : ¬ (0 : Int) < (i : Int) := by omega
        clear hi0 hon
        go_wp2
        go_roundw
        case rel => exact ⟨i + 1, by omega, by go_num, by rw [HE.out]; exact HMR.out, HON.out, hz, HBE.out⟩
        case measure => simp [intOf]; omega
      · have hzi : (0 : Int) < (i : Int) := by omega
        have HI1 : Hid (1 ≤ i) := by unfold Hid; omega
        clear hi0
        rcases Bool.eq_false_or_eq_true p.live with hlv | hlv
        focus
          have HE : Hid (rowTo (fp (knownB L ps.length)) ps (i + 1) = rowTo (fp (knownB L ps.length)) ps i) := by
            unfold Hid
            rw [HNX.out, show fp (knownB L ps.length) i (sl, p) = (sl, p) by unfold fp fpB; rw [if_neg (by simp [hlv])], set_same HAT.out]
          rw [hlv] at k0'
          clear hlv hon
          go_wp2
          go_roundw
          case rel => exact ⟨i + 1, by omega, by go_num, by rw [HE.out]; exact HMR.out, HON.out, hz, HBE.out⟩
          case measure => simp [intOf]; omega
        focus
          have HLV : Hid (p.live = false) := hlv
          have HHE : Hid (Calls Try.prog 48 #[ov, .int .i64 (i : Int)] wr fun e w' => e = .returned (.bool (heldB L (i : Int))) ∧ Gw wr w') := rheldP_any L (i : Int) ov T wr (HV.out.on (hon.less HT.out)) (fun b hb => by have := HT.out b hb; omega)
          rw [hlv] at k0'
          clear hlv hon
          go_wp2_with fail
          refine Calls.mono HHE.out ?_
          rintro e w1 ⟨rfl, hg1⟩
          have HG1 : Hid (Gw wr w1) := hg1
          have hk1 := (HK.out.on HON.out ⟨hkl, hne⟩).on hg1.1 k1l
          have bc1 := hk1.cell
          have bl1 := hk1.lt
          have hm1 : Mine w1 base 43 4 (.slice (some ⟨g3, 0, none⟩) ps.length qc) ((rowTo (fp (knownB L ps.length)) ps i).map prcC) := Mine.on HMR.out hg1.1 fun g hg => (Mine.lt HMR.out g hg).2
          have HM1 : Hid _ := hm1
          obtain ⟨cur, hblk, -, -, -, -, hcur⟩ := hm1.blk
          have hcell : ∀ j u, (prcC (sl, p))[j]? = some u → w1.cell? ⟨g3, i * 4 + j, none⟩ = some u := fun j u hj => by
            rw [hblk.cell]
            exact hcur _ u (flatten_at (even_prc _) i (prcC (sl, p)) (by rw [List.getElem?_map, HAT.out]; rfl) j u hj)
          have d0 := hcell 0 _ rfl
          have d1 := hcell 1 _ rfl
          have d2 := hcell 2 _ rfl
          have d3 := hcell 3 _ rfl
          rw [Nat.add_zero] at d0
          have df := hblk.free
          have dl := hblk.lt
          clear hg1 hk1 hm1 hcur hcell k0' k1c HHE hblk
          cases hh : heldB L (i : Int) with
          | true =>
            have HE : Hid (rowTo (fp (knownB L ps.length)) ps (i + 1) = rowTo (fp (knownB L ps.length)) ps i) := by
              unfold Hid
              rw [HNX.out, show fp (knownB L ps.length) i (sl, p) = (sl, p) by unfold fp fpB; rw [if_neg (by rw [HKN.out, hh]; simp)], set_same HAT.out]
            clear hh
            go_wp2
            go_roundw
            case rel => exact ⟨i + 1, by omega, by go_num, by rw [HE.out]; exact HM1.out, HON.out.trans (HG1.out.1.less fun b hb => by omega), Nat.le_trans hz HG1.out.2.1, fun B hB => (HBE.out B hB).trans (HG1.out.2.2 B (by omega))⟩
            case measure => simp [intOf]; omega
          | false =>
            have HE : Hid (rowTo (fp (knownB L ps.length)) ps (i + 1) = (rowTo (fp (knownB L ps.length)) ps i).set i prcZ0) := by
              unfold Hid
              rw [HNX.out, show fp (knownB L ps.length) i (sl, p) = prcZ0 by unfold fp fpB; rw [if_pos (by rw [HKN.out, hh]; simp [HLV.out, HI1.out])]]
            have HREL : Hid (∀ w2, w2 = ((((w1.setCell ⟨g3, i * 4, none⟩ (.bool false)).setCell ⟨g3, i * 4 + 1, none⟩ (.bool false)).setCell ⟨g3, i * 4 + 2, none⟩ (.int .i64 0)).setCell ⟨g3, i * 4 + 3, none⟩ (.slice none 0 0)) → Mine w2 base 43 4 (.slice (some ⟨g3, 0, none⟩) ps.length qc) ((rowTo (fp (knownB L ps.length)) ps (i + 1)).map prcC) ∧ On (fun b => b < W.heap.size ∧ b ≠ g3) W w2 ∧ W.heap.size ≤ w2.heap.size ∧ ∀ B, B ≤ g3 → Below B W w2) := fun w2 hw2 => by
              obtain ⟨q1, q2, q3, q4⟩ := Mine.four HM1.out (even_prc _) i (by rw [List.length_map, rowTo_len]; exact hlt) _ _ _ _ w2 hw2
              refine ⟨?_, (HON.out.trans (HG1.out.1.less fun b hb => by omega)).trans (q2.less fun b hb => hb.2), by have := HG1.out.2.1; omega, fun B hB => ((HBE.out B hB).trans (HG1.out.2.2 B (by omega))).trans (q4 B hB)⟩
              rw [HE.out, List.map_set]
              exact q1
            clear hh
            go_wp2
            go_roundw
            case rel => exact ⟨i + 1, by omega, by go_num, HREL.out _ rfl⟩
            case measure => simp [intOf]; omega
    · obtain rfl : i = ps.length := by omega
      rw [rowTo_end _ _ (Nat.le_refl _)] at hm
      have HF : Hid _ := hm
      clear hm hon hbe HMR
      go_wp2
      exact HH.out _ _ _ _ _ _ _ _ _ _ _ _ _ _ _ _ _ _ _ _ _ _ _ _ _ _ _ _ HF.out HON.out hz HBE.out
end Go.Proofs.Ytdciohinlhbliaa


/-
  rgref5.Sweep: how many are left.
-/
namespace Go.Proofs.Ytdciohinlhbliaa
open Go.RowKit
open Wp
set_option maxRecDepth 1000000 in
set_option maxHeartbeats 16000000 in
theorem sco_wp (Q : Exit → Act → World → Prop) (K : Act → World → Prop) (ts : List (Sls × Sp.Ob)) (oa : Option Addr) (oc : Nat) (pv qv : Value) (R : Nat → Prop) (W : World) (k0 : Nat) (hkern : Blk W k0 #[.slice oa ts.length oc, pv, qv] 27) (hrow : Row W R 9 (.slice oa ts.length oc) (ts.map objC)) (hL : ts.length ≤ 1000)
    (x0 x2 x3 x4 x5 x6 x7 x8 x9 x10 x11 x12 x13 x14 x15 x16 x17 x18 x19 x20 x21 x23 x24 x25 x26 x27 x28 x29 x30 x31 x32 x33 x34 x35 x36 x37 x38 x39 x40 x41 x42 x43 x44 x45 x46 x47 x48 x49 x50 x51 x52 x53 x54 x55 x56 x57 x58 x59 x60 x61 x62 x63 x64 x65 x66 x67 x68 x69 x70 x71 x72 x73 x74 x75 x76 x77 x78 x79 x80 x81 x82 x83 x84 x85 x86 x87 x88 x89 x90 x91 x92 x93 x94 x95 x96 x97 x98 x99 x100 x101 x102 x103 x104 x105 x106 x107 x108 x109 x110 x111 x112 x113 x114 x115 x116 x117 x118 x119 x120 x121 x122 x123 x124 x125 x126 x127 x128 x129 x130 x131 x132 x133 x134 x135 x136 x137 x138 x139 x140 x141 x142 x143 x144 x145 x146 x147 x148 x149 x150 x151 x152 x153 x154 x155 x156 x157 x158 x159 x160 x161 x162 x163 x164 x165 x166 x167 x168 x169 x170 x171 x172 x173 x174 x175 x176 x177 x178 x179 x180 x181 x182 x183 x184 x185 x186 x187 x188 x189 x190 x191 x192 x193 x194 x195 x196 x197 x198 x199 x200 x201 x202 x205 x206 x207 x208 x209 x210 x211 x212 x213 x214 x215 x216 x217 x218 x219 x220 x221 x222 x223 x224 x225 x226 x227 x228 x229 x230 x231 x232 x233 x234 x235 x236 x237 x238 x239 x240 x241 x242 x243 x244 x245 x246 x247 x248 x249 x250 x251 x252 x253 x254 x255 x256 x257 x258 x259 x260 x261 x262 x263 x264 x265 x266 x267 x268 x269 x270 x271 x272 x273 x274 x275 x276 x277 x278 x279 x280 x281 x282 x283 : Value)
    (h : ∀ (y25 y205 y206 y207 y208 y209 y210 y211 y212 y213 y214 y215 y216 y217 y218 y219 y220 y221 : Value), K ⟨#[x0, .pointer (some ⟨k0, 0, none⟩), x2, x3, x4, x5, x6, x7, x8, x9, x10, x11, x12, x13, x14, x15, x16, x17, x18, x19, x20, x21, .int .i64 (docN (obG ts) 1 ts.length), x23, x24, y25, x26, x27, x28, x29, x30, x31, x32, x33, x34, x35, x36, x37, x38, x39, x40, x41, x42, x43, x44, x45, x46, x47, x48, x49, x50, x51, x52, x53, x54, x55, x56, x57, x58, x59, x60, x61, x62, x63, x64, x65, x66, x67, x68, x69, x70, x71, x72, x73, x74, x75, x76, x77, x78, x79, x80, x81, x82, x83, x84, x85, x86, x87, x88, x89, x90, x91, x92, x93, x94, x95, x96, x97, x98, x99, x100, x101, x102, x103, x104, x105, x106, x107, x108, x109, x110, x111, x112, x113, x114, x115, x116, x117, x118, x119, x120, x121, x122, x123, x124, x125, x126, x127, x128, x129, x130, x131, x132, x133, x134, x135, x136, x137, x138, x139, x140, x141, x142, x143, x144, x145, x146, x147, x148, x149, x150, x151, x152, x153, x154, x155, x156, x157, x158, x159, x160, x161, x162, x163, x164, x165, x166, x167, x168, x169, x170, x171, x172, x173, x174, x175, x176, x177, x178, x179, x180, x181, x182, x183, x184, x185, x186, x187, x188, x189, x190, x191, x192, x193, x194, x195, x196, x197, x198, x199, x200, x201, x202, .int .i64 ts.length, .int .i64 ts.length, y205, y206, y207, y208, y209, y210, y211, y212, y213, y214, y215, y216, y217, y218, y219, y220, y221, x222, x223, x224, x225, x226, x227, x228, x229, x230, x231, x232, x233, x234, x235, x236, x237, x238, x239, x240, x241, x242, x243, x244, x245, x246, x247, x248, x249, x250, x251, x252, x253, x254, x255, x256, x257, x258, x259, x260, x261, x262, x263, x264, x265, x266, x267, x268, x269, x270, x271, x272, x273, x274, x275, x276, x277, x278, x279, x280, x281, x282, x283], []⟩ W) :
    Code.wp Try.prog ((Try.f15.body.bind (findBlock 18)).getD .skip) (Exit.then K Q) ⟨#[x0, .pointer (some ⟨k0, 0, none⟩), x2, x3, x4, x5, x6, x7, x8, x9, x10, x11, x12, x13, x14, x15, x16, x17, x18, x19, x20, x21, .int .i64 1, x23, x24, x25, x26, x27, x28, x29, x30, x31, x32, x33, x34, x35, x36, x37, x38, x39, x40, x41, x42, x43, x44, x45, x46, x47, x48, x49, x50, x51, x52, x53, x54, x55, x56, x57, x58, x59, x60, x61, x62, x63, x64, x65, x66, x67, x68, x69, x70, x71, x72, x73, x74, x75, x76, x77, x78, x79, x80, x81, x82, x83, x84, x85, x86, x87, x88, x89, x90, x91, x92, x93, x94, x95, x96, x97, x98, x99, x100, x101, x102, x103, x104, x105, x106, x107, x108, x109, x110, x111, x112, x113, x114, x115, x116, x117, x118, x119, x120, x121, x122, x123, x124, x125, x126, x127, x128, x129, x130, x131, x132, x133, x134, x135, x136, x137, x138, x139, x140, x141, x142, x143, x144, x145, x146, x147, x148, x149, x150, x151, x152, x153, x154, x155, x156, x157, x158, x159, x160, x161, x162, x163, x164, x165, x166, x167, x168, x169, x170, x171, x172, x173, x174, x175, x176, x177, x178, x179, x180, x181, x182, x183, x184, x185, x186, x187, x188, x189, x190, x191, x192, x193, x194, x195, x196, x197, x198, x199, x200, x201, x202, .int .i64 ts.length, .int .i64 0, x205, x206, x207, x208, x209, x210, x211, x212, x213, x214, x215, x216, x217, x218, x219, x220, x221, x222, x223, x224, x225, x226, x227, x228, x229, x230, x231, x232, x233, x234, x235, x236, x237, x238, x239, x240, x241, x242, x243, x244, x245, x246, x247, x248, x249, x250, x251, x252, x253, x254, x255, x256, x257, x258, x259, x260, x261, x262, x263, x264, x265, x266, x267, x268, x269, x270, x271, x272, x273, x274, x275, x276, x277, x278, x279, x280, x281, x282, x283], []⟩ W := by
  have HH : Hid _ := h
  have HR : Hid (Row W R 9 (.slice oa ts.length oc) (ts.map objC)) := hrow
  have hm : ts.length ≤ maxLen := by obtain ⟨_, _, _, h2⟩ := Row.form hrow; rw [List.length_map] at h2; exact h2
  have k0c := hkern.cell
  have k0l := hkern.lt
  unfold maxLen at hm
  clear h hrow hkern
  conv => arg 2; whnf
  go_wp2_with fail
  go_loopw [22, 204] (fun g v wr => ∃ i : Nat, i ≤ ts.length ∧ v = .int .i64 i ∧ g = .int .i64 (docN (obG ts) 1 i) ∧ wr = W) (fun _ v _ => ts.length - (intOf v).toNat)
  case atStart => exact ⟨0, Nat.zero_le _, rfl, rfl, rfl⟩
  case round =>
    obtain ⟨i, hi, rfl, rfl, hwr⟩ := hrel
    rw [hwr]
    clear hwr
    by_cases hlt : i < ts.length
    · obtain ⟨⟨s, x⟩, hx⟩ : ∃ x, ts[i]? = some x := ⟨_, List.getElem?_eq_getElem hlt⟩
      obtain ⟨b, of, c', he, hSb, hc, hcm, h5⟩ := (HR.out).some (by rw [List.length_map]; omega)
      obtain ⟨rfl, -, rfl⟩ := Value.slice.inj he
      have c0 := h5 i (objC (s, x)) (by rw [List.getElem?_map, hx]; rfl) 0 _ rfl
      rw [Nat.add_zero] at c0
      rw [List.length_map] at hc
      unfold maxLen at hcm
      have hG : obG ts i = (x.kind == 0) := by unfold obG; rw [hx]
      have hD : docN (obG ts) 1 (i + 1) = if obG ts i = false ∧ docN (obG ts) 1 i ≤ i then i + 1 else docN (obG ts) 1 i := rfl
      have hDl := docN_le (obG ts) 1 i
      generalize hd : docN (obG ts) 1 i = d at *
      clear hx h5 he hSb
      by_cases hk : x.kind = 0
      · have hk' : (x.kind != 0) = false := by simp [hk]
        have HE : Hid (docN (obG ts) 1 (i + 1) = d) := by unfold Hid; rw [hD, hG, if_neg (by simp [hk])]
        clear hk hG hD hd
        go_wp2
        go_roundw
        case rel => exact ⟨i + 1, by omega, by go_num, by rw [HE.out], trivial⟩
        case measure => simp [intOf]; omega
      · have hk' : (x.kind != 0) = true := by simp [hk]
        by_cases hdi : d ≤ i
        · have HE : Hid (docN (obG ts) 1 (i + 1) = i + 1) := by unfold Hid; rw [hD, hG, if_pos ⟨by simp [hk], hdi⟩]
          have hge : (d : Int) ≤ (i : Int) := by omega
          clear hk hG hD hd hdi
          go_wp2
          go_roundw
          case rel => exact ⟨i + 1, by omega, by go_num, by rw [HE.out]; go_num, trivial⟩
          case measure => simp [intOf]; omega
        · have HE : Hid (docN (obG ts) 1 (i + 1) = d) := by unfold Hid; rw [hD, if_neg (fun e => hdi e.2)]
          have hge : ¬ (d : Int) ≤ (i : Int) := by omega
          clear hk hG hD hd hdi
          go_wp2
          go_roundw
          case rel => exact ⟨i + 1, by omega, by go_num, by rw [HE.out], trivial⟩
          case measure => simp [intOf]; omega
    · obtain rfl : i = ts.length := by omega
      go_wp2
      exact HH.out _ _ _ _ _ _ _ _ _ _ _ _ _ _ _ _ _ _
set_option maxRecDepth 1000000 in
set_option maxHeartbeats 16000000 in
theorem scp_wp (Q : Exit → Act → World → Prop) (K : Act → World → Prop) (O : List Sp.Opn) (oa : Option Addr) (oc : Nat) (pv qv : Value) (R : Nat → Prop) (W : World) (k0 : Nat) (hkern : Blk W k0 #[pv, .slice oa O.length oc, qv] 27) (hrow : Row W R 2 (.slice oa O.length oc) (O.map opnC)) (hL : O.length ≤ 1000) (hO : ∀ x ∈ O, -1 ≤ x.obj)
    (x0 x2 x3 x4 x5 x6 x7 x8 x9 x10 x11 x12 x13 x14 x15 x16 x17 x18 x19 x20 x21 x22 x24 x25 x26 x27 x28 x29 x30 x31 x32 x33 x34 x35 x36 x37 x38 x39 x40 x41 x42 x43 x44 x45 x46 x47 x48 x49 x50 x51 x52 x53 x54 x55 x56 x57 x58 x59 x60 x61 x62 x63 x64 x65 x66 x67 x68 x69 x70 x71 x72 x73 x74 x75 x76 x77 x78 x79 x80 x81 x82 x83 x84 x85 x86 x87 x88 x89 x90 x91 x92 x93 x94 x95 x96 x97 x98 x99 x100 x101 x102 x103 x104 x105 x106 x107 x108 x109 x110 x111 x112 x113 x114 x115 x116 x117 x118 x119 x120 x121 x122 x123 x124 x125 x126 x127 x128 x129 x130 x131 x132 x133 x134 x135 x136 x137 x138 x139 x140 x141 x142 x143 x144 x145 x146 x147 x148 x149 x150 x151 x152 x153 x154 x155 x156 x157 x158 x159 x160 x161 x162 x163 x164 x165 x166 x167 x168 x169 x170 x171 x172 x173 x174 x175 x176 x177 x178 x179 x180 x181 x182 x183 x184 x185 x186 x187 x188 x189 x190 x191 x192 x193 x194 x195 x196 x197 x198 x199 x200 x201 x202 x203 x204 x205 x206 x207 x208 x209 x210 x211 x212 x213 x214 x215 x216 x217 x218 x219 x220 x221 x222 x223 x226 x227 x228 x229 x230 x231 x232 x233 x234 x235 x236 x237 x238 x239 x240 x241 x242 x243 x244 x245 x246 x247 x248 x249 x250 x251 x252 x253 x254 x255 x256 x257 x258 x259 x260 x261 x262 x263 x264 x265 x266 x267 x268 x269 x270 x271 x272 x273 x274 x275 x276 x277 x278 x279 x280 x281 x282 x283 : Value)
    (h : ∀ (y26 y226 y227 y228 y229 y230 y231 y232 y233 y234 y235 y236 y237 : Value), K ⟨#[x0, .pointer (some ⟨k0, 0, none⟩), x2, x3, x4, x5, x6, x7, x8, x9, x10, x11, x12, x13, x14, x15, x16, x17, x18, x19, x20, x21, x22, .int .i64 (docN (opG O) 0 O.length), x24, x25, y26, x27, x28, x29, x30, x31, x32, x33, x34, x35, x36, x37, x38, x39, x40, x41, x42, x43, x44, x45, x46, x47, x48, x49, x50, x51, x52, x53, x54, x55, x56, x57, x58, x59, x60, x61, x62, x63, x64, x65, x66, x67, x68, x69, x70, x71, x72, x73, x74, x75, x76, x77, x78, x79, x80, x81, x82, x83, x84, x85, x86, x87, x88, x89, x90, x91, x92, x93, x94, x95, x96, x97, x98, x99, x100, x101, x102, x103, x104, x105, x106, x107, x108, x109, x110, x111, x112, x113, x114, x115, x116, x117, x118, x119, x120, x121, x122, x123, x124, x125, x126, x127, x128, x129, x130, x131, x132, x133, x134, x135, x136, x137, x138, x139, x140, x141, x142, x143, x144, x145, x146, x147, x148, x149, x150, x151, x152, x153, x154, x155, x156, x157, x158, x159, x160, x161, x162, x163, x164, x165, x166, x167, x168, x169, x170, x171, x172, x173, x174, x175, x176, x177, x178, x179, x180, x181, x182, x183, x184, x185, x186, x187, x188, x189, x190, x191, x192, x193, x194, x195, x196, x197, x198, x199, x200, x201, x202, x203, x204, x205, x206, x207, x208, x209, x210, x211, x212, x213, x214, x215, x216, x217, x218, x219, x220, x221, x222, x223, .int .i64 O.length, .int .i64 O.length, y226, y227, y228, y229, y230, y231, y232, y233, y234, y235, y236, y237, x238, x239, x240, x241, x242, x243, x244, x245, x246, x247, x248, x249, x250, x251, x252, x253, x254, x255, x256, x257, x258, x259, x260, x261, x262, x263, x264, x265, x266, x267, x268, x269, x270, x271, x272, x273, x274, x275, x276, x277, x278, x279, x280, x281, x282, x283], []⟩ W) :
    Code.wp Try.prog ((Try.f15.body.bind (findBlock 20)).getD .skip) (Exit.then K Q) ⟨#[x0, .pointer (some ⟨k0, 0, none⟩), x2, x3, x4, x5, x6, x7, x8, x9, x10, x11, x12, x13, x14, x15, x16, x17, x18, x19, x20, x21, x22, .int .i64 0, x24, x25, x26, x27, x28, x29, x30, x31, x32, x33, x34, x35, x36, x37, x38, x39, x40, x41, x42, x43, x44, x45, x46, x47, x48, x49, x50, x51, x52, x53, x54, x55, x56, x57, x58, x59, x60, x61, x62, x63, x64, x65, x66, x67, x68, x69, x70, x71, x72, x73, x74, x75, x76, x77, x78, x79, x80, x81, x82, x83, x84, x85, x86, x87, x88, x89, x90, x91, x92, x93, x94, x95, x96, x97, x98, x99, x100, x101, x102, x103, x104, x105, x106, x107, x108, x109, x110, x111, x112, x113, x114, x115, x116, x117, x118, x119, x120, x121, x122, x123, x124, x125, x126, x127, x128, x129, x130, x131, x132, x133, x134, x135, x136, x137, x138, x139, x140, x141, x142, x143, x144, x145, x146, x147, x148, x149, x150, x151, x152, x153, x154, x155, x156, x157, x158, x159, x160, x161, x162, x163, x164, x165, x166, x167, x168, x169, x170, x171, x172, x173, x174, x175, x176, x177, x178, x179, x180, x181, x182, x183, x184, x185, x186, x187, x188, x189, x190, x191, x192, x193, x194, x195, x196, x197, x198, x199, x200, x201, x202, x203, x204, x205, x206, x207, x208, x209, x210, x211, x212, x213, x214, x215, x216, x217, x218, x219, x220, x221, x222, x223, .int .i64 O.length, .int .i64 0, x226, x227, x228, x229, x230, x231, x232, x233, x234, x235, x236, x237, x238, x239, x240, x241, x242, x243, x244, x245, x246, x247, x248, x249, x250, x251, x252, x253, x254, x255, x256, x257, x258, x259, x260, x261, x262, x263, x264, x265, x266, x267, x268, x269, x270, x271, x272, x273, x274, x275, x276, x277, x278, x279, x280, x281, x282, x283], []⟩ W := by
  have HH : Hid _ := h
  have HR : Hid (Row W R 2 (.slice oa O.length oc) (O.map opnC)) := hrow
  have HO : Hid (∀ x ∈ O, -1 ≤ x.obj) := hO
  have hm : O.length ≤ maxLen := by obtain ⟨_, _, _, h2⟩ := Row.form hrow; rw [List.length_map] at h2; exact h2
  have k0c := hkern.cell
  have k0l := hkern.lt
  unfold maxLen at hm
  clear h hrow hkern hO
  conv => arg 2; whnf
  go_wp2_with fail
  go_loopw [23, 225] (fun g v wr => ∃ i : Nat, i ≤ O.length ∧ v = .int .i64 i ∧ g = .int .i64 (docN (opG O) 0 i) ∧ wr = W) (fun _ v _ => O.length - (intOf v).toNat)
  case atStart => exact ⟨0, Nat.zero_le _, rfl, rfl, rfl⟩
  case round =>
    obtain ⟨i, hi, rfl, rfl, hwr⟩ := hrel
    rw [hwr]
    clear hwr
    by_cases hlt : i < O.length
    · obtain ⟨x, hx⟩ : ∃ x, O[i]? = some x := ⟨_, List.getElem?_eq_getElem hlt⟩
      obtain ⟨b, of, c', he, hSb, hc, hcm, h5⟩ := (HR.out).some (by rw [List.length_map]; omega)
      obtain ⟨rfl, -, rfl⟩ := Value.slice.inj he
      have c0 := h5 i (opnC x) (by rw [List.getElem?_map, hx]; rfl) 0 _ rfl
      rw [Nat.add_zero] at c0
      rw [List.length_map] at hc
      unfold maxLen at hcm
      have hG : opG O i = (x.obj == -1) := by unfold opG; rw [hx]
      have hx1 := HO.out x (List.mem_of_getElem? hx)
      have hD : docN (opG O) 0 (i + 1) = if opG O i = false ∧ docN (opG O) 0 i ≤ i then i + 1 else docN (opG O) 0 i := rfl
      have hDl := docN_le (opG O) 0 i
      generalize hd : docN (opG O) 0 i = d at *
      clear hx h5 he hSb
      by_cases hk : 0 ≤ x.obj
      · have HE : Hid (docN (opG O) 0 (i + 1) = i + 1) := by unfold Hid; rw [hD, hG, if_pos ⟨by simp; omega, by omega⟩]
        clear hG hD hd hx1
        go_wp2
        go_roundw
        case rel => exact ⟨i + 1, by omega, by go_num, by rw [HE.out]; go_num, trivial⟩
        case measure => simp [intOf]; omega
      · have HE : Hid (docN (opG O) 0 (i + 1) = d) := by unfold Hid; rw [hD, hG, if_neg (fun e => by have := e.1; simp at this; omega)]
        clear hG hD hd hx1
        go_wp2
        go_roundw
        case rel => exact ⟨i + 1, by omega, by go_num, by rw [HE.out], trivial⟩
        case measure => simp [intOf]; omega
    · obtain rfl : i = O.length := by omega
      go_wp2
      exact HH.out _ _ _ _ _ _ _ _ _ _ _ _ _
/-- Does a process stay? -/
def prS (L : List Sp.Ob) (ps : List (Sl × Sp.Prc)) (k : Nat) : Bool := match ps[k]? with | some t => !t.2.live && !heldB L (k : Int) | none => true
set_option maxRecDepth 1000000 in
set_option maxHeartbeats 16000000 in
theorem scq_wp (Q : Exit → Act → World → Prop) (K : Act → World → Prop) (L : List Sp.Ob) (ps : List (Sl × Sp.Prc)) (np : Nat) (hnp : np = ps.length) (oa : Option Addr) (oc : Nat) (ov pv : Value) (R : Nat → Prop) (W : World) (k0 : Nat) (hkern : Blk W k0 #[ov, pv, .slice oa np oc] 27) (hrow : Row W R 4 (.slice oa np oc) (ps.map prcC)) (hv : Objs W R ov L) (hR : ∀ b, R b → b < W.heap.size) (hL : ps.length ≤ 1000)
    (x0 x2 x3 x4 x5 x6 x7 x8 x9 x10 x11 x12 x13 x14 x15 x16 x17 x18 x19 x20 x21 x22 x23 x25 x26 x27 x28 x29 x30 x31 x32 x33 x34 x35 x36 x37 x38 x39 x40 x41 x42 x43 x44 x45 x46 x47 x48 x49 x50 x51 x52 x53 x54 x55 x56 x57 x58 x59 x60 x61 x62 x63 x64 x65 x66 x67 x68 x69 x70 x71 x72 x73 x74 x75 x76 x77 x78 x79 x80 x81 x82 x83 x84 x85 x86 x87 x88 x89 x90 x91 x92 x93 x94 x95 x96 x97 x98 x99 x100 x101 x102 x103 x104 x105 x106 x107 x108 x109 x110 x111 x112 x113 x114 x115 x116 x117 x118 x119 x120 x121 x122 x123 x124 x125 x126 x127 x128 x129 x130 x131 x132 x133 x134 x135 x136 x137 x138 x139 x140 x141 x142 x143 x144 x145 x146 x147 x148 x149 x150 x151 x152 x153 x154 x155 x156 x157 x158 x159 x160 x161 x162 x163 x164 x165 x166 x167 x168 x169 x170 x171 x172 x173 x174 x175 x176 x177 x178 x179 x180 x181 x182 x183 x184 x185 x186 x187 x188 x189 x190 x191 x192 x193 x194 x195 x196 x197 x198 x199 x200 x201 x202 x203 x204 x205 x206 x207 x208 x209 x210 x211 x212 x213 x214 x215 x216 x217 x218 x219 x220 x221 x222 x223 x224 x225 x226 x227 x228 x229 x230 x231 x232 x233 x234 x235 x236 x237 x238 x239 x242 x243 x244 x245 x246 x247 x248 x249 x250 x251 x252 x253 x254 x255 x256 x257 x258 x259 x260 x261 x262 x263 x264 x265 x266 x267 x268 x269 x270 x271 x272 x273 x274 x275 x276 x277 x278 x279 x280 x281 x282 x283 : Value)
    (h : ∀ (y27 y242 y243 y244 y245 y246 y247 y248 y249 y250 y251 y252 y253 y254 y255 y256 y257 y258 y259 y260 y261 y262 : Value) (W' : World), Gw W W' → K ⟨#[x0, .pointer (some ⟨k0, 0, none⟩), x2, x3, x4, x5, x6, x7, x8, x9, x10, x11, x12, x13, x14, x15, x16, x17, x18, x19, x20, x21, x22, x23, .int .i64 (docN (prS L ps) 1 np), x25, x26, y27, x28, x29, x30, x31, x32, x33, x34, x35, x36, x37, x38, x39, x40, x41, x42, x43, x44, x45, x46, x47, x48, x49, x50, x51, x52, x53, x54, x55, x56, x57, x58, x59, x60, x61, x62, x63, x64, x65, x66, x67, x68, x69, x70, x71, x72, x73, x74, x75, x76, x77, x78, x79, x80, x81, x82, x83, x84, x85, x86, x87, x88, x89, x90, x91, x92, x93, x94, x95, x96, x97, x98, x99, x100, x101, x102, x103, x104, x105, x106, x107, x108, x109, x110, x111, x112, x113, x114, x115, x116, x117, x118, x119, x120, x121, x122, x123, x124, x125, x126, x127, x128, x129, x130, x131, x132, x133, x134, x135, x136, x137, x138, x139, x140, x141, x142, x143, x144, x145, x146, x147, x148, x149, x150, x151, x152, x153, x154, x155, x156, x157, x158, x159, x160, x161, x162, x163, x164, x165, x166, x167, x168, x169, x170, x171, x172, x173, x174, x175, x176, x177, x178, x179, x180, x181, x182, x183, x184, x185, x186, x187, x188, x189, x190, x191, x192, x193, x194, x195, x196, x197, x198, x199, x200, x201, x202, x203, x204, x205, x206, x207, x208, x209, x210, x211, x212, x213, x214, x215, x216, x217, x218, x219, x220, x221, x222, x223, x224, x225, x226, x227, x228, x229, x230, x231, x232, x233, x234, x235, x236, x237, x238, x239, .int .i64 np, .int .i64 np, y242, y243, y244, y245, y246, y247, y248, y249, y250, y251, y252, y253, y254, y255, y256, y257, y258, y259, y260, y261, y262, x263, x264, x265, x266, x267, x268, x269, x270, x271, x272, x273, x274, x275, x276, x277, x278, x279, x280, x281, x282, x283], []⟩ W') :
    Code.wp Try.prog ((Try.f15.body.bind (findBlock 22)).getD .skip) (Exit.then K Q) ⟨#[x0, .pointer (some ⟨k0, 0, none⟩), x2, x3, x4, x5, x6, x7, x8, x9, x10, x11, x12, x13, x14, x15, x16, x17, x18, x19, x20, x21, x22, x23, .int .i64 1, x25, x26, x27, x28, x29, x30, x31, x32, x33, x34, x35, x36, x37, x38, x39, x40, x41, x42, x43, x44, x45, x46, x47, x48, x49, x50, x51, x52, x53, x54, x55, x56, x57, x58, x59, x60, x61, x62, x63, x64, x65, x66, x67, x68, x69, x70, x71, x72, x73, x74, x75, x76, x77, x78, x79, x80, x81, x82, x83, x84, x85, x86, x87, x88, x89, x90, x91, x92, x93, x94, x95, x96, x97, x98, x99, x100, x101, x102, x103, x104, x105, x106, x107, x108, x109, x110, x111, x112, x113, x114, x115, x116, x117, x118, x119, x120, x121, x122, x123, x124, x125, x126, x127, x128, x129, x130, x131, x132, x133, x134, x135, x136, x137, x138, x139, x140, x141, x142, x143, x144, x145, x146, x147, x148, x149, x150, x151, x152, x153, x154, x155, x156, x157, x158, x159, x160, x161, x162, x163, x164, x165, x166, x167, x168, x169, x170, x171, x172, x173, x174, x175, x176, x177, x178, x179, x180, x181, x182, x183, x184, x185, x186, x187, x188, x189, x190, x191, x192, x193, x194, x195, x196, x197, x198, x199, x200, x201, x202, x203, x204, x205, x206, x207, x208, x209, x210, x211, x212, x213, x214, x215, x216, x217, x218, x219, x220, x221, x222, x223, x224, x225, x226, x227, x228, x229, x230, x231, x232, x233, x234, x235, x236, x237, x238, x239, .int .i64 np, .int .i64 0, x242, x243, x244, x245, x246, x247, x248, x249, x250, x251, x252, x253, x254, x255, x256, x257, x258, x259, x260, x261, x262, x263, x264, x265, x266, x267, x268, x269, x270, x271, x272, x273, x274, x275, x276, x277, x278, x279, x280, x281, x282, x283], []⟩ W := by
  subst hnp
  have HH : Hid _ := h
  have HRO : Hid (Row W R 4 (.slice oa ps.length oc) (ps.map prcC)) := hrow
  have HV : Hid (Objs W R ov L) := hv
  have HR : Hid (∀ b, R b → b < W.heap.size) := hR
  have HK : Hid (Blk W k0 #[ov, pv, .slice oa ps.length oc] 27) := hkern
  have hm : ps.length ≤ maxLen := by obtain ⟨_, _, _, h2⟩ := Row.form hrow; rw [List.length_map] at h2; exact h2
  have hkl := hkern.lt
  unfold maxLen at hm
  clear h hrow hkern hv hR
  conv => arg 2; whnf
  go_wp2_with fail
  go_loopw [24, 241] (fun g v wr => ∃ i : Nat, i ≤ ps.length ∧ v = .int .i64 i ∧ g = .int .i64 (docN (prS L ps) 1 i) ∧ Gw W wr) (fun _ v _ => ps.length - (intOf v).toNat)
  case atStart => exact ⟨0, Nat.zero_le _, rfl, rfl, Gw.refl W⟩
  case round =>
    obtain ⟨i, hi, rfl, rfl, hg⟩ := hrel
    have HG : Hid (Gw W wr) := hg
    by_cases hlt : i < ps.length
    · obtain ⟨⟨s, p⟩, hx⟩ : ∃ x, ps[i]? = some x := ⟨_, List.getElem?_eq_getElem hlt⟩
      obtain ⟨b, of, c', he, hSb, hc, hcm, h5⟩ := (HRO.out.on (hg.1.less HR.out)).some (by rw [List.length_map]; omega)
      obtain ⟨rfl, -, rfl⟩ := Value.slice.inj he
      have c0 := h5 i (prcC (s, p)) (by rw [List.getElem?_map, hx]; rfl) 0 _ rfl
      rw [Nat.add_zero] at c0
      rw [List.length_map] at hc
      unfold maxLen at hcm
      have hkk := HK.out.on hg.1 hkl
      have k1c := hkk.cell
      have k1l := hkk.lt
      have HHE : Hid (Calls Try.prog 48 #[ov, .int .i64 (i : Int)] wr fun e w' => e = .returned (.bool (heldB L (i : Int))) ∧ Gw wr w') := rheldP_any L (i : Int) ov R wr (HV.out.on (hg.1.less HR.out)) (fun b hb => by have := HR.out b hb; have := hg.2.1; omega)
      have hG : prS L ps i = (!p.live && !heldB L (i : Int)) := by unfold prS; rw [hx]
      have hD : docN (prS L ps) 1 (i + 1) = if prS L ps i = false ∧ docN (prS L ps) 1 i ≤ i then i + 1 else docN (prS L ps) 1 i := rfl
      have hDl := docN_le (prS L ps) 1 i
      have hDg := docN_ge (prS L ps) 1 i
      generalize hd : docN (prS L ps) 1 i = d at *
      clear hx h5 he hSb hg hkk
      by_cases hi0 : i = 0
      · have HE : Hid (docN (prS L ps) 1 (i + 1) = d) := by unfold Hid; rw [hD, if_neg (fun e => by omega)]
        have hzi : ¬ (0 : Int) < (i : Int) := by omega
        clear hi0 hG hD hd HHE
        go_wp2
        go_roundw
        case rel => exact ⟨i + 1, by omega, by go_num, by rw [HE.out], HG.out⟩
        case measure => simp [intOf]; omega
      · have hzi : (0 : Int) < (i : Int) := by omega
        have hdi : d ≤ i := by omega
        clear hi0
        rcases Bool.eq_false_or_eq_true p.live with hlv | hlv
        focus
          have HE : Hid (docN (prS L ps) 1 (i + 1) = i + 1) := by unfold Hid; rw [hD, hG, if_pos ⟨by simp [hlv], hdi⟩]
          rw [hlv] at c0
          clear hlv hG hD hd HHE
          go_wp2
          go_roundw
          case rel => exact ⟨i + 1, by omega, by go_num, by rw [HE.out]; go_num, HG.out⟩
          case measure => simp [intOf]; omega
        focus
          have HLV : Hid (p.live = false) := hlv
          have HD : Hid (docN (prS L ps) 1 (i + 1) = if (!p.live && !heldB L (i : Int)) = false ∧ d ≤ i then i + 1 else d) := by unfold Hid; rw [hD, hG]
          rw [hlv] at c0
          clear hlv hG hD hd
          go_wp2_with fail
          refine Calls.mono HHE.out ?_
          rintro e w1 ⟨rfl, hg1⟩
          have HG1 : Hid (Gw W w1) := HG.out.trans hg1
          clear hg1 HHE c0 k1c
          cases hh : heldB L (i : Int) with
          | true =>
            have HE : Hid (docN (prS L ps) 1 (i + 1) = i + 1) := by unfold Hid; rw [HD.out, if_pos ⟨by rw [hh]; simp, hdi⟩]
            clear hh
            go_wp2
            go_roundw
            case rel => exact ⟨i + 1, by omega, by go_num, by rw [HE.out]; go_num, HG1.out⟩
            case measure => simp [intOf]; omega
          | false =>
            have HE : Hid (docN (prS L ps) 1 (i + 1) = d) := by unfold Hid; rw [HD.out, if_neg (fun e => by have := e.1; rw [HLV.out, hh] at this; cases this)]
            clear hh
            go_wp2
            go_roundw
            case rel => exact ⟨i + 1, by omega, by go_num, by rw [HE.out], HG1.out⟩
            case measure => simp [intOf]; omega
    · obtain rfl : i = ps.length := by omega
      clear hg
      go_wp2
      exact HH.out _ _ _ _ _ _ _ _ _ _ _ _ _ _ _ _ _ _ _ _ _ _ _ HG.out
theorem docN_congr {G G' : Nat → Bool} {s : Nat} : ∀ {n : Nat}, (∀ k, k < n → G k = G' k) → docN G s n = docN G' s n
  | 0, _ => rfl
  | n + 1, h => by
    unfold docN
    rw [docN_congr fun k hk => h k (by omega), h n (by omega)]
theorem prS_eq (y : Swp) (k : Nat) (hk : k < y.ps.length) : prS (y.ts.map Prod.snd) (y.ps.mapIdx (fp y.knE)) k = prG y.knE y.ps k := by
  obtain ⟨t, ht⟩ : ∃ t, y.ps[k]? = some t := ⟨_, List.getElem?_eq_getElem hk⟩
  have e : y.knE.getD k false = heldB (y.ts.map Prod.snd) (k : Int) := known_get _ hk
  unfold prS prG
  rw [List.getElem?_mapIdx, ht, e]
  show (!(fp y.knE k t).2.live && !heldB (y.ts.map Prod.snd) (k : Int)) = _
  have : (fp y.knE k t).2.live = t.2.live := by
    unfold fp fpB
    split
    · rename_i h
      have : t.2.live = false := by
        cases hl : t.2.live with
        | false => rfl
        | true => rw [hl] at h; simp at h
      rw [this]; rfl
    · rfl
  rw [this]
end Go.Proofs.Ytdciohinlhbliaa
