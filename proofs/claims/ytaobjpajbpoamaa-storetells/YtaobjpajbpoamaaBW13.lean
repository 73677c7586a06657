/-
  rgref5.Build, piece by piece: processes.
-/
import Derived.Test.YtaobjpajbpoamaaBW56
namespace Go.Proofs.Ytaobjpajbpoamaa
open Go.RowKit
/-- A process's table, as it grows. -/
def XI (W0 : World) (g B : Nat) (Sb : Nat → Prop) (lv fe : Bool) (nO : Nat) (s : Sl) (ss : List Sp.Slt) (wr : World) : Prop :=
  MK wr g Sb ∧ Blk wr B #[.bool lv, .bool fe, .int .i64 0, .slice s.a s.n s.c] 87 ∧ Row wr (fun b => B < b ∧ b < wr.heap.size) 3 (.slice s.a s.n s.c) (ss.map sltC) ∧ (∀ x ∈ ss, Sp.SltOk nO x) ∧ (lv = false → ss = []) ∧ On (fun b => b < B ∧ b ≠ g) W0 wr ∧ W0.heap.size ≤ wr.heap.size ∧ (∀ C, C ≤ g → Below C W0 wr)
def XJ (W0 : World) (g B : Nat) (Sb : Nat → Prop) (lv fe : Bool) (nO n : Nat) (v : Value) (wr : World) : Prop :=
  ∃ (j : Nat) (s : Sl) (ss : List Sp.Slt), j ≤ n ∧ v = .int .i64 j ∧ ss.length ≤ j ∧ XI W0 g B Sb lv fe nO s ss wr
theorem XI.put {W0 W' : World} {g B nO : Nat} {Sb : Nat → Prop} {lv fe : Bool} {s : Sl} {ss : List Sp.Slt} {wr : World} (h : XI W0 g B Sb lv fe nO s ss wr) (hl : lv = true) (hSb : ∀ b, Sb b → b < g) (hgB : g < B) (hB0 : B < W0.heap.size) {a' : Option Addr} {c' : Nat} {op rt : Int} (hok : Sp.SltOk nO ⟨true, op, rt⟩) (hp : Pn g Sb wr W') (hr : Row W' (fun b => wr.heap.size ≤ b ∧ b < W'.heap.size) 3 (.slice a' (ss.length + 1) c') ((ss ++ [(⟨true, op, rt⟩ : Sp.Slt)]).map sltC)) :
    Blk W' B #[.bool lv, .bool fe, .int .i64 0, .slice s.a s.n s.c] 87 ∧ XI W0 g B Sb lv fe nO ⟨a', ss.length + 1, c'⟩ (ss ++ [⟨true, op, rt⟩]) (W'.setCell ⟨B, 3, none⟩ (.slice a' (ss.length + 1) c')) := by
  obtain ⟨h1, h2, h3, h4, h5, h6, h7, h8⟩ := h
  have hset := On.set W' ⟨B, 3, none⟩ (.slice a' (ss.length + 1) c')
  have hb' : Blk W' B #[.bool lv, .bool fe, .int .i64 0, .slice s.a s.n s.c] 87 := h2.on hp.2.1 ⟨by omega, by omega⟩
  have hz := hp.2.2.1
  refine ⟨hb', hp.1.on hset (by show g ≠ B; omega) (fun b hb => by have := hSb b hb; show b ≠ B; omega), hb'.set 3 _, ?_, ?_, fun e => (by rw [hl] at e; cases e), ?_, by simp; omega, fun C hC => ((h8 C hC).trans (hp.2.2.2 C hC)).setCell (by show C ≤ B; omega) _⟩
  · exact (hr.on (hset.less fun b hb => by show b ≠ B; omega)).more fun b hb => ⟨by omega, by simp; exact hb.2⟩
  · intro x hx
    rcases List.mem_append.1 hx with hx | hx
    · exact h4 x hx
    · simp at hx
      subst hx
      exact hok
  · exact (h6.trans (hp.2.1.less fun b hb => ⟨by omega, hb.2⟩)).trans (hset.less fun b hb => by show b ≠ B; omega)
set_option maxRecDepth 1000000 in
set_option maxHeartbeats 8000000 in
theorem blk15_wp (Q : Exit → Act → World → Prop) (K : Act → World → Prop) (W0 : World) (g gk B : Nat) (Sb : Nat → Prop) (nO pc n : Nat) (pa : Option Addr) (vo vq : Value) (lv fe : Bool) (hSb : ∀ b, Sb b → b < g) (hgk : g < gk) (hkB : gk < B) (hn : n ≤ 4) (hnO2 : nO ≤ 1000) (hbk : Blk W0 gk #[vo, .slice pa nO pc, vq] 27) (hmk : MK W0 g Sb) (hbx : Blk W0 B #[.bool lv, .bool fe, .int .i64 0, .slice none 0 0] 87)
    (x0 x1 x2 x4 x5 x6 x7 x8 x9 x10 x11 x12 x13 x14 x15 x16 x17 x18 x20 x21 x22 x23 x24 x25 x26 x28 x29 x30 x31 x32 x33 x34 x35 x36 x37 x38 x39 x40 x41 x42 x43 x44 x45 x46 x47 x48 x49 x50 x51 x52 x53 x54 x55 x56 x57 x58 x59 x60 x61 x62 x63 x64 x65 x66 x67 x68 x69 x70 x71 x72 x73 x74 x75 x76 x77 x78 x79 x80 x81 x82 x83 x84 x85 x86 x87 x88 x89 x90 x91 x92 x93 x94 x95 x96 x97 x98 x99 x100 x101 x102 x103 x104 x105 x106 x107 x108 x109 x110 x111 x112 x113 x114 x115 x116 x117 x118 x119 x120 x121 x122 x123 x124 x125 x126 x127 x128 x129 x130 x131 x132 x133 x134 x135 x136 x137 x138 x139 x140 x141 x142 x143 x144 x145 x146 x147 x148 x149 x150 x151 x152 x153 x154 x155 x156 x157 x158 x159 x160 x161 x162 x163 x164 x165 x166 x167 x168 x169 x170 x171 x172 x173 x174 x175 x176 x177 x178 x179 x180 x181 x182 x183 x184 x185 x186 x187 x188 x189 x190 x191 x192 x193 x194 x195 x196 x197 x198 x199 x202 x203 x204 x205 x206 x207 x208 x209 x210 x211 x212 x213 x214 x215 x216 x217 x218 x219 x220 x221 x222 x223 x224 x225 x226 x227 x228 x229 x230 x231 x232 x233 x234 x235 x236 x237 x238 x239 x240 x241 x242 x243 x244 x245 x246 x247 x248 x249 x250 x251 x252 x253 x254 x255 x256 x257 x258 x259 x260 x261 x262 x263 x264 x265 x266 x267 x268 x269 x270 x271 x272 x273 x274 x275 x276 x277 x278 x279 x280 x281 x282 x283 x284 x285 x286 x287 x288 x289 x290 x291 x292 x293 x294 x295 x296 x297 x298 : Value)
    (h : ∀ (y28 y29 y30 y201 y202 y203 y204 y205 y206 y207 y208 y209 y210 y211 y212 y213 y214 y215 y216 y217 y218 y219 y220 y221 y222 y223 y224 y225 y226 y227 y228 y229 y230 y231 y232 y233 : Value) (W' : World) (s : Sl) (ss : List Sp.Slt), ss.length ≤ 4 → XI W0 g B Sb lv fe nO s ss W' → K ⟨#[x0, x1, x2, .pointer (some ⟨g, 0, none⟩), x4, x5, x6, x7, x8, x9, x10, x11, x12, x13, x14, x15, x16, x17, x18, .pointer (some ⟨gk, 0, none⟩), x20, x21, x22, x23, x24, x25, x26, .pointer (some ⟨B, 0, none⟩), y28, y29, y30, x31, x32, x33, x34, x35, x36, x37, x38, x39, x40, x41, x42, x43, x44, x45, x46, x47, x48, x49, x50, x51, x52, x53, x54, x55, x56, x57, x58, x59, x60, x61, x62, x63, x64, x65, x66, x67, x68, x69, x70, x71, x72, x73, x74, x75, x76, x77, x78, x79, x80, x81, x82, x83, x84, x85, x86, x87, x88, x89, x90, x91, x92, x93, x94, x95, x96, x97, x98, x99, x100, x101, x102, x103, x104, x105, x106, x107, x108, x109, x110, x111, x112, x113, x114, x115, x116, x117, x118, x119, x120, x121, x122, x123, x124, x125, x126, x127, x128, x129, x130, x131, x132, x133, x134, x135, x136, x137, x138, x139, x140, x141, x142, x143, x144, x145, x146, x147, x148, x149, x150, x151, x152, x153, x154, x155, x156, x157, x158, x159, x160, x161, x162, x163, x164, x165, x166, x167, x168, x169, x170, x171, x172, x173, x174, x175, x176, x177, x178, x179, x180, x181, x182, x183, x184, x185, x186, x187, x188, x189, x190, x191, x192, x193, x194, x195, x196, x197, x198, x199, .int .i64 n, y201, y202, y203, y204, y205, y206, y207, y208, y209, y210, y211, y212, y213, y214, y215, y216, y217, y218, y219, y220, y221, y222, y223, y224, y225, y226, y227, y228, y229, y230, y231, y232, y233, x234, x235, x236, x237, x238, x239, x240, x241, x242, x243, x244, x245, x246, x247, x248, x249, x250, x251, x252, x253, x254, x255, x256, x257, x258, x259, x260, x261, x262, x263, x264, x265, x266, x267, x268, x269, x270, x271, x272, x273, x274, x275, x276, x277, x278, x279, x280, x281, x282, x283, x284, x285, x286, x287, x288, x289, x290, x291, x292, x293, x294, x295, x296, x297, x298], []⟩ W') :
    Code.wp Try.prog ((Try.f8.body.bind (findBlock 15)).getD .skip) (Exit.then K Q) ⟨#[x0, x1, x2, .pointer (some ⟨g, 0, none⟩), x4, x5, x6, x7, x8, x9, x10, x11, x12, x13, x14, x15, x16, x17, x18, .pointer (some ⟨gk, 0, none⟩), x20, x21, x22, x23, x24, x25, x26, .pointer (some ⟨B, 0, none⟩), x28, x29, x30, x31, x32, x33, x34, x35, x36, x37, x38, x39, x40, x41, x42, x43, x44, x45, x46, x47, x48, x49, x50, x51, x52, x53, x54, x55, x56, x57, x58, x59, x60, x61, x62, x63, x64, x65, x66, x67, x68, x69, x70, x71, x72, x73, x74, x75, x76, x77, x78, x79, x80, x81, x82, x83, x84, x85, x86, x87, x88, x89, x90, x91, x92, x93, x94, x95, x96, x97, x98, x99, x100, x101, x102, x103, x104, x105, x106, x107, x108, x109, x110, x111, x112, x113, x114, x115, x116, x117, x118, x119, x120, x121, x122, x123, x124, x125, x126, x127, x128, x129, x130, x131, x132, x133, x134, x135, x136, x137, x138, x139, x140, x141, x142, x143, x144, x145, x146, x147, x148, x149, x150, x151, x152, x153, x154, x155, x156, x157, x158, x159, x160, x161, x162, x163, x164, x165, x166, x167, x168, x169, x170, x171, x172, x173, x174, x175, x176, x177, x178, x179, x180, x181, x182, x183, x184, x185, x186, x187, x188, x189, x190, x191, x192, x193, x194, x195, x196, x197, x198, x199, .int .i64 n, .int .i64 0, x202, x203, x204, x205, x206, x207, x208, x209, x210, x211, x212, x213, x214, x215, x216, x217, x218, x219, x220, x221, x222, x223, x224, x225, x226, x227, x228, x229, x230, x231, x232, x233, x234, x235, x236, x237, x238, x239, x240, x241, x242, x243, x244, x245, x246, x247, x248, x249, x250, x251, x252, x253, x254, x255, x256, x257, x258, x259, x260, x261, x262, x263, x264, x265, x266, x267, x268, x269, x270, x271, x272, x273, x274, x275, x276, x277, x278, x279, x280, x281, x282, x283, x284, x285, x286, x287, x288, x289, x290, x291, x292, x293, x294, x295, x296, x297, x298], []⟩ W0 := by
  have HH : Hid (∀ (y28 y29 y30 y201 y202 y203 y204 y205 y206 y207 y208 y209 y210 y211 y212 y213 y214 y215 y216 y217 y218 y219 y220 y221 y222 y223 y224 y225 y226 y227 y228 y229 y230 y231 y232 y233 : Value) (W' : World) (s : Sl) (ss : List Sp.Slt), ss.length ≤ 4 → XI W0 g B Sb lv fe nO s ss W' → K ⟨#[x0, x1, x2, .pointer (some ⟨g, 0, none⟩), x4, x5, x6, x7, x8, x9, x10, x11, x12, x13, x14, x15, x16, x17, x18, .pointer (some ⟨gk, 0, none⟩), x20, x21, x22, x23, x24, x25, x26, .pointer (some ⟨B, 0, none⟩), y28, y29, y30, x31, x32, x33, x34, x35, x36, x37, x38, x39, x40, x41, x42, x43, x44, x45, x46, x47, x48, x49, x50, x51, x52, x53, x54, x55, x56, x57, x58, x59, x60, x61, x62, x63, x64, x65, x66, x67, x68, x69, x70, x71, x72, x73, x74, x75, x76, x77, x78, x79, x80, x81, x82, x83, x84, x85, x86, x87, x88, x89, x90, x91, x92, x93, x94, x95, x96, x97, x98, x99, x100, x101, x102, x103, x104, x105, x106, x107, x108, x109, x110, x111, x112, x113, x114, x115, x116, x117, x118, x119, x120, x121, x122, x123, x124, x125, x126, x127, x128, x129, x130, x131, x132, x133, x134, x135, x136, x137, x138, x139, x140, x141, x142, x143, x144, x145, x146, x147, x148, x149, x150, x151, x152, x153, x154, x155, x156, x157, x158, x159, x160, x161, x162, x163, x164, x165, x166, x167, x168, x169, x170, x171, x172, x173, x174, x175, x176, x177, x178, x179, x180, x181, x182, x183, x184, x185, x186, x187, x188, x189, x190, x191, x192, x193, x194, x195, x196, x197, x198, x199, .int .i64 n, y201, y202, y203, y204, y205, y206, y207, y208, y209, y210, y211, y212, y213, y214, y215, y216, y217, y218, y219, y220, y221, y222, y223, y224, y225, y226, y227, y228, y229, y230, y231, y232, y233, x234, x235, x236, x237, x238, x239, x240, x241, x242, x243, x244, x245, x246, x247, x248, x249, x250, x251, x252, x253, x254, x255, x256, x257, x258, x259, x260, x261, x262, x263, x264, x265, x266, x267, x268, x269, x270, x271, x272, x273, x274, x275, x276, x277, x278, x279, x280, x281, x282, x283, x284, x285, x286, x287, x288, x289, x290, x291, x292, x293, x294, x295, x296, x297, x298], []⟩ W') := h
  have HS0 : Hid (XJ W0 g B Sb lv fe nO n (.int .i64 0) W0) := ⟨0, nilSl, [], Nat.zero_le _, rfl, by simp, hmk, hbx, Row.nil _ _ _ _ _, fun x hx => by simp at hx, fun _ => rfl, fun _ _ => rfl, Nat.le_refl _, fun C _ => Below.refl C W0⟩
  have HSb : Hid (∀ b, Sb b → b < g) := hSb
  have HBK : Hid (Blk W0 gk #[vo, .slice pa nO pc, vq] 27) := hbk
  have hBl := hbx.lt
  have hnz : (n : Int) ≤ 4 := by omega
  clear h hSb hbk hmk hbx
  conv => arg 2; whnf
  go_wp2_with fail
  go_loopw [201] (fun v wz => XJ W0 g B Sb lv fe nO n v wz) (fun v _ => n - (intOf v).toNat)
  case atStart => exact HS0.out
  case round =>
    obtain ⟨j, s, ss, hj, rfl, hss, hX⟩ := hrel
    clear HS0
    have HX : Hid (XI W0 g B Sb lv fe nO s ss wr) := hX
    have HSS : Hid (ss.length ≤ j) := hss
    have hbk := Blk.on HBK.out hX.2.2.2.2.2.1 ⟨hkB, by omega⟩
    have HBKr : Hid (Blk wr gk #[vo, .slice pa nO pc, vq] 27) := hbk
    have hck := hbk.cell
    have hcb := hX.2.1.cell
    have hzr : W0.heap.size ≤ wr.heap.size := hX.2.2.2.2.2.2.1
    clear hX hss hbk
    by_cases hlt : j < n
    · by_cases hnO : nO = 0
      · have hz0 : ¬ (0 : Int) < (nO : Int) := by omega
        go_wp2
        exact ⟨⟨j + 1, s, ss, by omega, by go_num, by have := HSS.out; omega, HX.out⟩, by simp [intOf]; omega⟩
      · have hz0 : (0 : Int) < (nO : Int) := by omega
        cases lv with
        | false =>
          go_wp2
          exact ⟨⟨j + 1, s, ss, by omega, by go_num, by have := HSS.out; omega, HX.out⟩, by simp [intOf]; omega⟩
        | true =>
          go_upto_region 60 with fail
          refine reg60_wp _ _ wr g gk B Sb (fun b => B < b ∧ b < wr.heap.size) nO pc pa vo vq true fe 0 s ss HSb.out hgk (by omega) HX.out.1 HBKr.out HX.out.2.1 HX.out.2.2.1 (fun b hb => ⟨hb.2, by omega⟩) HX.out.2.2.2.1 (by have := HSS.out; omega) (by omega) hnO2 _ _ _ _ _ _ _ _ _ _ _ _ _ _ _ _ _ _ _ _ _ _ _ _ _ _ _ _ _ _ _ _ _ _ _ _ _ _ _ _ _ _ _ _ _ _ _ _ _ _ _ _ _ _ _ _ _ _ _ _ _ _ _ _ _ _ _ _ _ _ _ _ _ _ _ _ _ _ _ _ _ _ _ _ _ _ _ _ _ _ _ _ _ _ _ _ _ _ _ _ _ _ _ _ _ _ _ _ _ _ _ _ _ _ _ _ _ _ _ _ _ _ _ _ _ _ _ _ _ _ _ _ _ _ _ _ _ _ _ _ _ _ _ _ _ _ _ _ _ _ _ _ _ _ _ _ _ _ _ _ _ _ _ _ _ _ _ _ _ _ _ _ _ _ _ _ _ _ _ _ _ _ _ _ _ _ _ _ _ _ _ _ _ _ _ _ _ _ _ _ _ _ _ _ _ _ _ _ _ _ _ _ _ _ _ _ _ _ _ _ _ _ _ _ _ _ _ _ _ _ _ _ _ _ _ _ _ _ _ _ _ _ _ _ _ _ _ _ _ _ _ _ _ _ _ _ _ _ _ _ _ _ _ _ _ _ _ _ _ _ _ _ _ _ _ _ _ _ _ _ _ _ _ _ _ _ _ _ _ _ _ _ _ _ _ _ ?_
          intro y211 y212 y213 y214 y215 y216 y217 y218 y219 y220 y221 y222 y223 y224 y225 y226 y227 y228 W2 a2 c2 op rt hok hp2 hr2
          dsimp only
          obtain ⟨q1, q2⟩ := HX.out.put rfl HSb.out (by omega) hBl hok hp2 hr2
          have hc2 := q1.cell
          have hf2 := q1.free
          have HX2 : Hid (XI W0 g B Sb true fe nO ⟨a2, ss.length + 1, c2⟩ (ss ++ [⟨true, op, rt⟩]) (W2.setCell ⟨B, 3, none⟩ (.slice a2 (ss.length + 1) c2))) := q2
          clear hok hp2 hr2 q1 q2 hck hcb
          go_wp2
          exact ⟨⟨j + 1, ⟨a2, ss.length + 1, c2⟩, ss ++ [⟨true, op, rt⟩], by omega, by go_num, by have := HSS.out; simp; omega, HX2.out⟩, by simp [intOf]; omega⟩
    · go_wp2
      exact HH.out _ _ _ _ _ _ _ _ _ _ _ _ _ _ _ _ _ _ _ _ _ _ _ _ _ _ _ _ _ _ _ _ _ _ _ _ _ s ss (by have := HSS.out; omega) HX.out
end Go.Proofs.Ytaobjpajbpoamaa
