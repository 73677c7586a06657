
/-
  rgref5.Build, piece by piece: channels; descriptors of processes.
-/
import Derived.Test.YthoacakdmnijcaaBPlain
import Derived.Test.YthoacakdmnijcaaRObjsP
import Derived.Test.YthoacakdmnijcaaBW2
import Derived.Test.YthoacakdmnijcaaRPut
namespace Go.Proofs.Ythoacakdmnijcaa
open Go.RowKit
theorem kind_pos {L : List Sp.Ob} (h : Sp.TOk L) : ∀ o ∈ L, o.kind ≠ 0 := fun o ho => by
  obtain ⟨i, hi, rfl⟩ := List.getElem_of_mem ho
  have := (h.all i _ (List.getElem?_eq_getElem hi)).kind
  omega
/-- An end of a channel, where nothing waits: its queue is none. -/
def QN (t : Sls × Sp.Ob) : Prop := t.2.kind = 4 → t.1.q = nilSl ∧ t.2.queue = []
/-- The channels' loop. -/
def CI (W : World) (g : Nat) (L : List Sp.Ob) (n : Nat) (s4 s128 : Value) (wr : World) : Prop :=
  ∃ (k : Nat) (a : Option Addr) (c : Nat) (L' : List Sp.Ob), k ≤ n ∧ s128 = .int .i64 k ∧ s4 = .slice a L'.length c ∧ Sp.TOk L' ∧ (∀ o ∈ L', o.kind ≤ 4) ∧ L'.length ≤ L.length + 2 * k ∧ ObjsP QN wr (fun b => g < b ∧ b < wr.heap.size) (.slice a L'.length c) L' ∧ Below W.heap.size W wr
set_option maxRecDepth 1000000 in
set_option maxHeartbeats 8000000 in
theorem blk5_wp (Q : Exit → Act → World → Prop) (K : Act → World → Prop) (W : World) (g : Nat) (a : Option Addr) (c : Nat) (L : List Sp.Ob) (n : Nat) (hn : n ≤ 2) (hT : Sp.TOk L) (hK4 : ∀ o ∈ L, o.kind ≤ 4) (hL : L.length ≤ 8) (hg : g < W.heap.size) (hv : ObjsP QN W (fun b => g < b ∧ b < W.heap.size) (.slice a L.length c) L)
    (x0 x1 x2 x3 x5 x6 x7 x8 x9 x10 x11 x12 x13 x14 x15 x16 x17 x18 x19 x20 x21 x22 x23 x24 x25 x26 x27 x28 x29 x30 x31 x32 x33 x34 x35 x36 x37 x38 x39 x40 x41 x42 x43 x44 x45 x46 x47 x48 x49 x50 x51 x52 x53 x54 x55 x56 x57 x58 x59 x60 x61 x62 x63 x64 x65 x66 x67 x68 x69 x70 x71 x72 x73 x74 x75 x76 x77 x78 x79 x80 x81 x82 x83 x84 x85 x86 x87 x88 x89 x90 x91 x92 x93 x94 x95 x96 x97 x98 x99 x100 x101 x102 x103 x104 x105 x106 x107 x108 x109 x110 x111 x112 x113 x114 x115 x116 x117 x118 x119 x120 x121 x122 x123 x124 x125 x126 x129 x130 x131 x132 x133 x134 x135 x136 x137 x138 x139 x140 x141 x142 x143 x144 x145 x146 x147 x148 x149 x150 x151 x152 x153 x154 x155 x156 x157 x158 x159 x160 x161 x162 x163 x164 x165 x166 x167 x168 x169 x170 x171 x172 x173 x174 x175 x176 x177 x178 x179 x180 x181 x182 x183 x184 x185 x186 x187 x188 x189 x190 x191 x192 x193 x194 x195 x196 x197 x198 x199 x200 x201 x202 x203 x204 x205 x206 x207 x208 x209 x210 x211 x212 x213 x214 x215 x216 x217 x218 x219 x220 x221 x222 x223 x224 x225 x226 x227 x228 x229 x230 x231 x232 x233 x234 x235 x236 x237 x238 x239 x240 x241 x242 x243 x244 x245 x246 x247 x248 x249 x250 x251 x252 x253 x254 x255 x256 x257 x258 x259 x260 x261 x262 x263 x264 x265 x266 x267 x268 x269 x270 x271 x272 x273 x274 x275 x276 x277 x278 x279 x280 x281 x282 x283 x284 x285 x286 x287 x288 x289 x290 x291 x292 x293 x294 x295 x296 x297 x298 : Value)
    (h : ∀ (y16 y17 y18 y128 y129 y130 y131 y132 y133 y134 y135 y136 y137 y138 y139 : Value) (W' : World) (a' : Option Addr) (c' : Nat) (L' : List Sp.Ob), Sp.TOk L' → (∀ o ∈ L', o.kind ≤ 4) → L'.length ≤ 12 → ObjsP QN W' (fun b => g < b ∧ b < W'.heap.size) (.slice a' L'.length c') L' → Below W.heap.size W W' → K ⟨#[x0, x1, x2, x3, .slice a' L'.length c', x5, x6, x7, x8, x9, x10, x11, x12, x13, x14, x15, y16, y17, y18, x19, x20, x21, x22, x23, x24, x25, x26, x27, x28, x29, x30, x31, x32, x33, x34, x35, x36, x37, x38, x39, x40, x41, x42, x43, x44, x45, x46, x47, x48, x49, x50, x51, x52, x53, x54, x55, x56, x57, x58, x59, x60, x61, x62, x63, x64, x65, x66, x67, x68, x69, x70, x71, x72, x73, x74, x75, x76, x77, x78, x79, x80, x81, x82, x83, x84, x85, x86, x87, x88, x89, x90, x91, x92, x93, x94, x95, x96, x97, x98, x99, x100, x101, x102, x103, x104, x105, x106, x107, x108, x109, x110, x111, x112, x113, x114, x115, x116, x117, x118, x119, x120, x121, x122, x123, x124, x125, x126, .int .i64 n, y128, y129, y130, y131, y132, y133, y134, y135, y136, y137, y138, y139, x140, x141, x142, x143, x144, x145, x146, x147, x148, x149, x150, x151, x152, x153, x154, x155, x156, x157, x158, x159, x160, x161, x162, x163, x164, x165, x166, x167, x168, x169, x170, x171, x172, x173, x174, x175, x176, x177, x178, x179, x180, x181, x182, x183, x184, x185, x186, x187, x188, x189, x190, x191, x192, x193, x194, x195, x196, x197, x198, x199, x200, x201, x202, x203, x204, x205, x206, x207, x208, x209, x210, x211, x212, x213, x214, x215, x216, x217, x218, x219, x220, x221, x222, x223, x224, x225, x226, x227, x228, x229, x230, x231, x232, x233, x234, x235, x236, x237, x238, x239, x240, x241, x242, x243, x244, x245, x246, x247, x248, x249, x250, x251, x252, x253, x254, x255, x256, x257, x258, x259, x260, x261, x262, x263, x264, x265, x266, x267, x268, x269, x270, x271, x272, x273, x274, x275, x276, x277, x278, x279, x280, x281, x282, x283, x284, x285, x286, x287, x288, x289, x290, x291, x292, x293, x294, x295, x296, x297, x298], []⟩ W') :
    Code.wp Try.prog ((Try.f9.body.bind (findBlock 5)).getD .skip) (Exit.then K Q) ⟨#[x0, x1, x2, x3, .slice a L.length c, x5, x6, x7, x8, x9, x10, x11, x12, x13, x14, x15, x16, x17, x18, x19, x20, x21, x22, x23, x24, x25, x26, x27, x28, x29, x30, x31, x32, x33, x34, x35, x36, x37, x38, x39, x40, x41, x42, x43, x44, x45, x46, x47, x48, x49, x50, x51, x52, x53, x54, x55, x56, x57, x58, x59, x60, x61, x62, x63, x64, x65, x66, x67, x68, x69, x70, x71, x72, x73, x74, x75, x76, x77, x78, x79, x80, x81, x82, x83, x84, x85, x86, x87, x88, x89, x90, x91, x92, x93, x94, x95, x96, x97, x98, x99, x100, x101, x102, x103, x104, x105, x106, x107, x108, x109, x110, x111, x112, x113, x114, x115, x116, x117, x118, x119, x120, x121, x122, x123, x124, x125, x126, .int .i64 n, .int .i64 0, x129, x130, x131, x132, x133, x134, x135, x136, x137, x138, x139, x140, x141, x142, x143, x144, x145, x146, x147, x148, x149, x150, x151, x152, x153, x154, x155, x156, x157, x158, x159, x160, x161, x162, x163, x164, x165, x166, x167, x168, x169, x170, x171, x172, x173, x174, x175, x176, x177, x178, x179, x180, x181, x182, x183, x184, x185, x186, x187, x188, x189, x190, x191, x192, x193, x194, x195, x196, x197, x198, x199, x200, x201, x202, x203, x204, x205, x206, x207, x208, x209, x210, x211, x212, x213, x214, x215, x216, x217, x218, x219, x220, x221, x222, x223, x224, x225, x226, x227, x228, x229, x230, x231, x232, x233, x234, x235, x236, x237, x238, x239, x240, x241, x242, x243, x244, x245, x246, x247, x248, x249, x250, x251, x252, x253, x254, x255, x256, x257, x258, x259, x260, x261, x262, x263, x264, x265, x266, x267, x268, x269, x270, x271, x272, x273, x274, x275, x276, x277, x278, x279, x280, x281, x282, x283, x284, x285, x286, x287, x288, x289, x290, x291, x292, x293, x294, x295, x296, x297, x298], []⟩ W := by
  have HH : Hid (∀ (y16 y17 y18 y128 y129 y130 y131 y132 y133 y134 y135 y136 y137 y138 y139 : Value) (W' : World) (a' : Option Addr) (c' : Nat) (L' : List Sp.Ob), Sp.TOk L' → (∀ o ∈ L', o.kind ≤ 4) → L'.length ≤ 12 → ObjsP QN W' (fun b => g < b ∧ b < W'.heap.size) (.slice a' L'.length c') L' → Below W.heap.size W W' → K ⟨#[x0, x1, x2, x3, .slice a' L'.length c', x5, x6, x7, x8, x9, x10, x11, x12, x13, x14, x15, y16, y17, y18, x19, x20, x21, x22, x23, x24, x25, x26, x27, x28, x29, x30, x31, x32, x33, x34, x35, x36, x37, x38, x39, x40, x41, x42, x43, x44, x45, x46, x47, x48, x49, x50, x51, x52, x53, x54, x55, x56, x57, x58, x59, x60, x61, x62, x63, x64, x65, x66, x67, x68, x69, x70, x71, x72, x73, x74, x75, x76, x77, x78, x79, x80, x81, x82, x83, x84, x85, x86, x87, x88, x89, x90, x91, x92, x93, x94, x95, x96, x97, x98, x99, x100, x101, x102, x103, x104, x105, x106, x107, x108, x109, x110, x111, x112, x113, x114, x115, x116, x117, x118, x119, x120, x121, x122, x123, x124, x125, x126, .int .i64 n, y128, y129, y130, y131, y132, y133, y134, y135, y136, y137, y138, y139, x140, x141, x142, x143, x144, x145, x146, x147, x148, x149, x150, x151, x152, x153, x154, x155, x156, x157, x158, x159, x160, x161, x162, x163, x164, x165, x166, x167, x168, x169, x170, x171, x172, x173, x174, x175, x176, x177, x178, x179, x180, x181, x182, x183, x184, x185, x186, x187, x188, x189, x190, x191, x192, x193, x194, x195, x196, x197, x198, x199, x200, x201, x202, x203, x204, x205, x206, x207, x208, x209, x210, x211, x212, x213, x214, x215, x216, x217, x218, x219, x220, x221, x222, x223, x224, x225, x226, x227, x228, x229, x230, x231, x232, x233, x234, x235, x236, x237, x238, x239, x240, x241, x242, x243, x244, x245, x246, x247, x248, x249, x250, x251, x252, x253, x254, x255, x256, x257, x258, x259, x260, x261, x262, x263, x264, x265, x266, x267, x268, x269, x270, x271, x272, x273, x274, x275, x276, x277, x278, x279, x280, x281, x282, x283, x284, x285, x286, x287, x288, x289, x290, x291, x292, x293, x294, x295, x296, x297, x298], []⟩ W') := h
  have HS0 : Hid (CI W g L n (.slice a L.length c) (.int .i64 0) W) := ⟨0, a, c, L, Nat.zero_le _, rfl, rfl, hT, hK4, by omega, hv, Below.refl _ _⟩
  have HLL : Hid (L.length ≤ 8) := hL
  have hnz : (n : Int) ≤ 2 := by omega
  clear h hT hK4 hL hv
  conv => arg 2; whnf
  go_wp2_with fail
  go_loopw [4, 128] (fun s4 s128 wr => CI W g L n s4 s128 wr) (fun _ s128 _ => n - (intOf s128).toNat)
  case atStart => exact HS0.out
  case round =>
    obtain ⟨k, a, c, L', hk, rfl, rfl, hT, hK4, hL, hv, hB⟩ := hrel
    clear HS0
    have HT : Hid (Sp.TOk L') := hT
    have HK4 : Hid (∀ o ∈ L', o.kind ≤ 4) := hK4
    have HL : Hid (L'.length ≤ L.length + 2 * k) := hL
    have HV : Hid (ObjsP QN wr (fun b => g < b ∧ b < wr.heap.size) (.slice a L'.length c) L') := hv
    have HB : Hid (Below W.heap.size W wr) := hB
    clear hT hK4 hL hv hB
    by_cases hlt : k < n
    · go_wp2_with fail
      refine (pair_P QN (fun e _ => ⟨rfl, rfl⟩) (fun s e e2 h _ => h rfl) L' (.slice a L'.length c) (fun b => g < b ∧ b < wr.heap.size) wr HV.out (fun b hb => hb.2) (by have := HL.out; have := HLL.out; omega) (kind_pos HT.out)).mono ?_
      rintro e W1 ⟨a1, c1, rfl, ho1, hb1⟩
      have hz1 := hb1.size
      have hzB := HB.out.size
      have HO1 : Hid (ObjsP QN W1 (fun b => g < b ∧ b < W1.heap.size) (.slice a1 (L'.length + 2) c1) (L' ++ [obE ((L'.length : Int) + 1), obE (L'.length : Int)])) := ho1.more fun b hb => by
        rcases hb with hb | hb
        · exact ⟨hb.1, by omega⟩
        · exact ⟨by omega, hb.2⟩
      have HB1 : Hid (Below W.heap.size W W1) := HB.out.trans (hb1.mono hzB)
      clear ho1 hb1
      go_wp2
      refine ⟨⟨k + 1, a1, c1, L' ++ [obE ((L'.length : Int) + 1), obE (L'.length : Int)], by omega, by go_num, by simp, HT.out.pair, fun o ho => ?_, by have := HL.out; simp; omega, ?_, HB1.out.alloc HB1.out.size _⟩, by simp [intOf]; omega⟩
      · rcases List.mem_append.1 ho with h1 | h1
        · exact HK4.out o h1
        · simp at h1
          rcases h1 with rfl | rfl <;> simp [obE]
      · rw [show (L' ++ [obE ((L'.length : Int) + 1), obE (L'.length : Int)]).length = L'.length + 2 by simp]
        exact (HO1.out.on ((On.alloc W1 _).less fun b hb => hb.2)).more fun b hb => ⟨hb.1, by simp; omega⟩
    · go_wp2
      obtain rfl : k = n := by omega
      exact HH.out _ _ _ _ _ _ _ _ _ _ _ _ _ _ _ _ a c L' HT.out HK4.out (by have := HL.out; have := HLL.out; omega) HV.out HB.out
/-- Descriptors of the processes from 1 on, below n. -/
def procsL (n : Nat) : List Sp.Ob := (List.range (n - 1)).map fun (p : Nat) => Sp.obP ((p : Int) + 1)
theorem procsL_succ (k : Nat) (h : 1 ≤ k) : procsL (k + 1) = procsL k ++ [Sp.obP (k : Int)] := by
  unfold procsL
  rw [show k + 1 - 1 = (k - 1) + 1 by omega, List.range_succ, List.map_append]
  congr 1
  simp
  congr 1
  omega
theorem procsL_ok {L : List Sp.Ob} (h : Sp.TOk L) : ∀ k, k ≤ 3 → Sp.TOk (L ++ procsL k)
  | 0, _ => by simpa [procsL] using h
  | 1, _ => by simpa [procsL] using h
  | k + 2, hk => by
    rw [procsL_succ (k + 1) (by omega), ← List.append_assoc]
    exact (procsL_ok h (k + 1) (by omega)).proc (by omega) (by omega)
theorem procsL_len (k : Nat) : (procsL k).length = k - 1 := by simp [procsL]
/-- The box of the kernel, with its three lists. -/
def kC (a : Option Addr) (n c : Nat) (v1 v2 : Value) : Array Value := #[.slice a n c, v1, v2]
/-- The descriptors' loop. -/
def RI7 (W : World) (g gk : Nat) (L : List Sp.Ob) (n : Nat) (s146 : Value) (wr : World) : Prop :=
  ∃ (k : Nat) (a : Option Addr) (c : Nat), k ≤ n ∧ s146 = .int .i64 k ∧ Blk wr gk (kC a (L ++ procsL k).length c (.slice none 0 0) (.slice none 0 0)) 27 ∧ ObjsP QN wr (fun b => g < b ∧ b < wr.heap.size ∧ b ≠ gk) (.slice a (L ++ procsL k).length c) (L ++ procsL k) ∧ On (fun b => b < W.heap.size ∧ b ≠ gk) W wr ∧ (∀ C, C ≤ gk → Below C W wr)
set_option maxRecDepth 1000000 in
set_option maxHeartbeats 8000000 in
theorem blk7_wp (Q : Exit → Act → World → Prop) (K : Act → World → Prop) (W : World) (g gk : Nat) (a : Option Addr) (c : Nat) (L : List Sp.Ob) (n : Nat) (hn : n ≤ 3) (hT : Sp.TOk L) (hL : L.length ≤ 12) (hg : g < gk) (hbk : Blk W gk (kC a L.length c (.slice none 0 0) (.slice none 0 0)) 27) (hv : ObjsP QN W (fun b => g < b ∧ b < W.heap.size ∧ b ≠ gk) (.slice a L.length c) L)
    (x0 x1 x2 x3 x4 x5 x6 x7 x8 x9 x10 x11 x12 x13 x14 x15 x16 x17 x18 x20 x21 x22 x23 x24 x25 x26 x27 x28 x29 x30 x31 x32 x33 x34 x35 x36 x37 x38 x39 x40 x41 x42 x43 x44 x45 x46 x47 x48 x49 x50 x51 x52 x53 x54 x55 x56 x57 x58 x59 x60 x61 x62 x63 x64 x65 x66 x67 x68 x69 x70 x71 x72 x73 x74 x75 x76 x77 x78 x79 x80 x81 x82 x83 x84 x85 x86 x87 x88 x89 x90 x91 x92 x93 x94 x95 x96 x97 x98 x99 x100 x101 x102 x103 x104 x105 x106 x107 x108 x109 x110 x111 x112 x113 x114 x115 x116 x117 x118 x119 x120 x121 x122 x123 x124 x125 x126 x127 x128 x129 x130 x131 x132 x133 x134 x135 x136 x137 x138 x139 x140 x141 x142 x143 x144 x147 x148 x149 x150 x151 x152 x153 x154 x155 x156 x157 x158 x159 x160 x161 x162 x163 x164 x165 x166 x167 x168 x169 x170 x171 x172 x173 x174 x175 x176 x177 x178 x179 x180 x181 x182 x183 x184 x185 x186 x187 x188 x189 x190 x191 x192 x193 x194 x195 x196 x197 x198 x199 x200 x201 x202 x203 x204 x205 x206 x207 x208 x209 x210 x211 x212 x213 x214 x215 x216 x217 x218 x219 x220 x221 x222 x223 x224 x225 x226 x227 x228 x229 x230 x231 x232 x233 x234 x235 x236 x237 x238 x239 x240 x241 x242 x243 x244 x245 x246 x247 x248 x249 x250 x251 x252 x253 x254 x255 x256 x257 x258 x259 x260 x261 x262 x263 x264 x265 x266 x267 x268 x269 x270 x271 x272 x273 x274 x275 x276 x277 x278 x279 x280 x281 x282 x283 x284 x285 x286 x287 x288 x289 x290 x291 x292 x293 x294 x295 x296 x297 x298 : Value)
    (h : ∀ (y21 y22 y23 y24 y146 y147 y148 y149 y150 y151 y152 y153 y154 y155 y156 y157 y158 y159 y160 y161 y162 : Value) (W' : World) (a' : Option Addr) (c' : Nat), Blk W' gk (kC a' (L ++ procsL n).length c' (.slice none 0 0) (.slice none 0 0)) 27 → ObjsP QN W' (fun b => g < b ∧ b < W'.heap.size ∧ b ≠ gk) (.slice a' (L ++ procsL n).length c') (L ++ procsL n) → On (fun b => b < W.heap.size ∧ b ≠ gk) W W' → (∀ C, C ≤ gk → Below C W W') → K ⟨#[x0, x1, x2, x3, x4, x5, x6, x7, x8, x9, x10, x11, x12, x13, x14, x15, x16, x17, x18, .pointer (some ⟨gk, 0, none⟩), x20, y21, y22, y23, y24, x25, x26, x27, x28, x29, x30, x31, x32, x33, x34, x35, x36, x37, x38, x39, x40, x41, x42, x43, x44, x45, x46, x47, x48, x49, x50, x51, x52, x53, x54, x55, x56, x57, x58, x59, x60, x61, x62, x63, x64, x65, x66, x67, x68, x69, x70, x71, x72, x73, x74, x75, x76, x77, x78, x79, x80, x81, x82, x83, x84, x85, x86, x87, x88, x89, x90, x91, x92, x93, x94, x95, x96, x97, x98, x99, x100, x101, x102, x103, x104, x105, x106, x107, x108, x109, x110, x111, x112, x113, x114, x115, x116, x117, x118, x119, x120, x121, x122, x123, x124, x125, x126, x127, x128, x129, x130, x131, x132, x133, x134, x135, x136, x137, x138, x139, x140, x141, x142, x143, x144, .int .i64 n, y146, y147, y148, y149, y150, y151, y152, y153, y154, y155, y156, y157, y158, y159, y160, y161, y162, x163, x164, x165, x166, x167, x168, x169, x170, x171, x172, x173, x174, x175, x176, x177, x178, x179, x180, x181, x182, x183, x184, x185, x186, x187, x188, x189, x190, x191, x192, x193, x194, x195, x196, x197, x198, x199, x200, x201, x202, x203, x204, x205, x206, x207, x208, x209, x210, x211, x212, x213, x214, x215, x216, x217, x218, x219, x220, x221, x222, x223, x224, x225, x226, x227, x228, x229, x230, x231, x232, x233, x234, x235, x236, x237, x238, x239, x240, x241, x242, x243, x244, x245, x246, x247, x248, x249, x250, x251, x252, x253, x254, x255, x256, x257, x258, x259, x260, x261, x262, x263, x264, x265, x266, x267, x268, x269, x270, x271, x272, x273, x274, x275, x276, x277, x278, x279, x280, x281, x282, x283, x284, x285, x286, x287, x288, x289, x290, x291, x292, x293, x294, x295, x296, x297, x298], []⟩ W') :
    Code.wp Try.prog ((Try.f9.body.bind (findBlock 7)).getD .skip) (Exit.then K Q) ⟨#[x0, x1, x2, x3, x4, x5, x6, x7, x8, x9, x10, x11, x12, x13, x14, x15, x16, x17, x18, .pointer (some ⟨gk, 0, none⟩), x20, x21, x22, x23, x24, x25, x26, x27, x28, x29, x30, x31, x32, x33, x34, x35, x36, x37, x38, x39, x40, x41, x42, x43, x44, x45, x46, x47, x48, x49, x50, x51, x52, x53, x54, x55, x56, x57, x58, x59, x60, x61, x62, x63, x64, x65, x66, x67, x68, x69, x70, x71, x72, x73, x74, x75, x76, x77, x78, x79, x80, x81, x82, x83, x84, x85, x86, x87, x88, x89, x90, x91, x92, x93, x94, x95, x96, x97, x98, x99, x100, x101, x102, x103, x104, x105, x106, x107, x108, x109, x110, x111, x112, x113, x114, x115, x116, x117, x118, x119, x120, x121, x122, x123, x124, x125, x126, x127, x128, x129, x130, x131, x132, x133, x134, x135, x136, x137, x138, x139, x140, x141, x142, x143, x144, .int .i64 n, .int .i64 0, x147, x148, x149, x150, x151, x152, x153, x154, x155, x156, x157, x158, x159, x160, x161, x162, x163, x164, x165, x166, x167, x168, x169, x170, x171, x172, x173, x174, x175, x176, x177, x178, x179, x180, x181, x182, x183, x184, x185, x186, x187, x188, x189, x190, x191, x192, x193, x194, x195, x196, x197, x198, x199, x200, x201, x202, x203, x204, x205, x206, x207, x208, x209, x210, x211, x212, x213, x214, x215, x216, x217, x218, x219, x220, x221, x222, x223, x224, x225, x226, x227, x228, x229, x230, x231, x232, x233, x234, x235, x236, x237, x238, x239, x240, x241, x242, x243, x244, x245, x246, x247, x248, x249, x250, x251, x252, x253, x254, x255, x256, x257, x258, x259, x260, x261, x262, x263, x264, x265, x266, x267, x268, x269, x270, x271, x272, x273, x274, x275, x276, x277, x278, x279, x280, x281, x282, x283, x284, x285, x286, x287, x288, x289, x290, x291, x292, x293, x294, x295, x296, x297, x298], []⟩ W := by
  have HH : Hid (∀ (y21 y22 y23 y24 y146 y147 y148 y149 y150 y151 y152 y153 y154 y155 y156 y157 y158 y159 y160 y161 y162 : Value) (W' : World) (a' : Option Addr) (c' : Nat), Blk W' gk (kC a' (L ++ procsL n).length c' (.slice none 0 0) (.slice none 0 0)) 27 → ObjsP QN W' (fun b => g < b ∧ b < W'.heap.size ∧ b ≠ gk) (.slice a' (L ++ procsL n).length c') (L ++ procsL n) → On (fun b => b < W.heap.size ∧ b ≠ gk) W W' → (∀ C, C ≤ gk → Below C W W') → K ⟨#[x0, x1, x2, x3, x4, x5, x6, x7, x8, x9, x10, x11, x12, x13, x14, x15, x16, x17, x18, .pointer (some ⟨gk, 0, none⟩), x20, y21, y22, y23, y24, x25, x26, x27, x28, x29, x30, x31, x32, x33, x34, x35, x36, x37, x38, x39, x40, x41, x42, x43, x44, x45, x46, x47, x48, x49, x50, x51, x52, x53, x54, x55, x56, x57, x58, x59, x60, x61, x62, x63, x64, x65, x66, x67, x68, x69, x70, x71, x72, x73, x74, x75, x76, x77, x78, x79, x80, x81, x82, x83, x84, x85, x86, x87, x88, x89, x90, x91, x92, x93, x94, x95, x96, x97, x98, x99, x100, x101, x102, x103, x104, x105, x106, x107, x108, x109, x110, x111, x112, x113, x114, x115, x116, x117, x118, x119, x120, x121, x122, x123, x124, x125, x126, x127, x128, x129, x130, x131, x132, x133, x134, x135, x136, x137, x138, x139, x140, x141, x142, x143, x144, .int .i64 n, y146, y147, y148, y149, y150, y151, y152, y153, y154, y155, y156, y157, y158, y159, y160, y161, y162, x163, x164, x165, x166, x167, x168, x169, x170, x171, x172, x173, x174, x175, x176, x177, x178, x179, x180, x181, x182, x183, x184, x185, x186, x187, x188, x189, x190, x191, x192, x193, x194, x195, x196, x197, x198, x199, x200, x201, x202, x203, x204, x205, x206, x207, x208, x209, x210, x211, x212, x213, x214, x215, x216, x217, x218, x219, x220, x221, x222, x223, x224, x225, x226, x227, x228, x229, x230, x231, x232, x233, x234, x235, x236, x237, x238, x239, x240, x241, x242, x243, x244, x245, x246, x247, x248, x249, x250, x251, x252, x253, x254, x255, x256, x257, x258, x259, x260, x261, x262, x263, x264, x265, x266, x267, x268, x269, x270, x271, x272, x273, x274, x275, x276, x277, x278, x279, x280, x281, x282, x283, x284, x285, x286, x287, x288, x289, x290, x291, x292, x293, x294, x295, x296, x297, x298], []⟩ W') := h
  have HS0 : Hid (RI7 W g gk L n (.int .i64 0) W) := by
    have e : L ++ procsL 0 = L := by simp [procsL]
    refine ⟨0, a, c, Nat.zero_le _, rfl, ?_, ?_, fun _ _ => rfl, fun C _ => Below.refl C W⟩ <;> rw [e]
    · exact hbk
    · exact hv
  have HLL : Hid (L.length ≤ 12) := hL
  have HT : Hid (Sp.TOk L) := hT
  have hnz : (n : Int) ≤ 3 := by omega
  clear h hT hL hv hbk
  conv => arg 2; whnf
  go_wp2_with fail
  go_loopw [146] (fun s146 wr => RI7 W g gk L n s146 wr) (fun s146 _ => n - (intOf s146).toNat)
  case atStart => exact HS0.out
  case round =>
    obtain ⟨k, a, c, hk, rfl, hbk, hv, hon, hB⟩ := hrel
    clear HS0
    have HBK : Hid (Blk wr gk (kC a (L ++ procsL k).length c (.slice none 0 0) (.slice none 0 0)) 27) := hbk
    have HV : Hid (ObjsP QN wr (fun b => g < b ∧ b < wr.heap.size ∧ b ≠ gk) (.slice a (L ++ procsL k).length c) (L ++ procsL k)) := hv
    have HO : Hid (On (fun b => b < W.heap.size ∧ b ≠ gk) W wr) := hon
    have HB : Hid (∀ C, C ≤ gk → Below C W wr) := hB
    have hgl := hbk.lt
    have hc := hbk.cell
    have hf := hbk.free
    unfold kC at hc
    clear hbk hv hon hB
    by_cases hlt : k < n
    · by_cases hk0 : k = 0
      · subst hk0
        go_wp2
        refine ⟨⟨1, a, c, by omega, rfl, HBK.out, HV.out, HO.out, HB.out⟩, by simp [intOf]; omega⟩
      · have hkp : (0 : Int) < (k : Int) := by omega
        have hR := rmake_P QN (L ++ procsL k) ⟨nilSl, nilSl, nilSl⟩ (Sp.obP (k : Int)) (.slice a (L ++ procsL k).length c) (fun b => g < b ∧ b < wr.heap.size ∧ b ≠ gk) wr HV.out (fun b hb => hb.2.1) (by have := HLL.out; simp [procsL_len]; omega) (kind_pos (procsL_ok HT.out k (by omega))) ⟨Row.nil _ _ _ _ _, Row.nil _ _ _ _ _, [], rfl, Row.nil _ _ _ _ _, fun t ht => by simp at ht⟩ (fun h => absurd h (by show ¬ (5 : Int) = 4; decide))
        have eP : (objC (⟨nilSl, nilSl, nilSl⟩, Sp.obP (k : Int))).toArray = #[.int .i64 5, .slice none 0 0, .slice none 0 0, .string ⟨#[]⟩, .int .i64 (-1), .slice none 0 0, .int .i64 (k : Int), .int .i64 0, .int .i64 0] := rfl
        rw [eP, List.append_assoc, ← procsL_succ k (by omega)] at hR
        have HR : Hid _ := hR
        have hnl : ((L ++ procsL k).length : Int) ≤ 100 := by have := HLL.out; simp [procsL_len]; omega
        have HLN : Hid ((L ++ procsL (k + 1)).length = (L ++ procsL k).length + 1) := by
          unfold Hid
          simp [procsL_len]
          omega
        generalize (L ++ procsL k).length = M at *
        clear hR eP
        go_wp2_with fail
        refine Calls.mono HR.out ?_
        rintro e W1 ⟨a1, c1, rfl, ho1, hb1⟩
        have hz1 := hb1.size
        have HO1 : Hid (ObjsP QN W1 (fun b => g < b ∧ b < W1.heap.size ∧ b ≠ gk) (.slice a1 (M + 1) c1) (L ++ procsL (k + 1))) := ho1.more fun b hb => by
          rcases hb with hb | hb
          · exact ⟨hb.1, by omega, hb.2.2⟩
          · exact ⟨by omega, hb.2, by omega⟩
        have HBK1 : Hid (Blk W1 gk (kC a M c (.slice none 0 0) (.slice none 0 0)) 27) := Blk.below HBK.out hb1 hgl
        have HQ1 : Hid (On (fun b => b < W.heap.size ∧ b ≠ gk) W W1) := HO.out.trans ((On.of hb1).less fun b hb => by have := (HB.out 0 (Nat.zero_le _)).size; omega)
        have HB1 : Hid (∀ C, C ≤ gk → Below C W W1) := fun C hC => (HB.out C hC).trans (hb1.mono (by omega))
        have hc1 := Blk.cell HBK1.out
        have hf1 := Blk.free HBK1.out
        unfold kC at hc1
        clear ho1 hb1 hc hf
        go_wp2
        have hset := On.set W1 ⟨gk, 0, none⟩ (.slice a1 (M + 1) c1)
        refine ⟨⟨k + 1, a1, c1, by omega, by go_num, ?_, ?_, HQ1.out.trans (hset.less fun b hb => hb.2), fun C hC => (HB1.out C hC).setCell (by show C ≤ gk; omega) _⟩, by simp [intOf]; omega⟩
        · rw [HLN.out]
          exact Blk.set HBK1.out 0 _
        · rw [HLN.out]
          exact (HO1.out.on (hset.less fun b hb => hb.2.2)).more fun b hb => ⟨hb.1, by simp; exact hb.2.1, hb.2.2⟩
    · go_wp2
      obtain rfl : k = n := by omega
      exact HH.out _ _ _ _ _ _ _ _ _ _ _ _ _ _ _ _ _ _ _ _ _ _ a c HBK.out HV.out HO.out HB.out
end Go.Proofs.Ythoacakdmnijcaa
