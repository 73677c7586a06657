
/-
  rgref5.Build, piece by piece: it is entered, where it can be.
-/
import Derived.Test.YtdciohinlhbliaaBW3
import Derived.Test.YtdciohinlhbliaaBPlain
import Derived.Test.YtdciohinlhbliaaREntErr
import Derived.Test.YtdciohinlhbliaaREnter
namespace Go.Proofs.Ytdciohinlhbliaa
open Go.RowKit
theorem entered_app (L : List Sp.Ob) (od : Sp.Ob) (r : Sp.Rnd) (hd : L[r.d]? = some od) : Sp.entered (L ++ [Sp.rO r]) r.d L.length od ⟨Sp.rN r, (L.length : Int)⟩ = Sp.EnterTo L od r := by
  have hdl := (List.getElem?_eq_some_iff.1 hd).1
  unfold Sp.entered Sp.withEnts Sp.EnterTo
  rw [List.getElem?_append_left hdl, hd]
  dsimp only
  unfold Sp.relinked
  rw [List.set_append_left _ _ hdl, List.getElem?_append_right (by simp)]
  simp only [List.length_set, Nat.sub_self, List.getElem?_cons_zero]
  rw [List.set_append_right _ _ (by simp)]
  simp only [List.length_set, Nat.sub_self, List.set_cons_zero]
  rfl
theorem not_may {L : List Sp.Ob} {od : Sp.Ob} {r : Sp.Rnd} (hT : Sp.TOk L) (hd : L[r.d]? = some od) (hk : od.kind = 2) (hn : L.length ≤ 8) (h : ¬ Sp.mayE L od r) : od.links = 0 ∨ (Pt.isName (Sp.rN r).data.toList = true ∧ 0 ≤ Sp.find (L ++ [Sp.rO r]) (r.d : Int) (Sp.rN r)) := by
  by_cases hl : od.links = 0
  · exact Or.inl hl
  · refine Or.inr ⟨(Sp.rN_name r).1, ?_⟩
    have hm := (hT.all _ _ hd).many
    have hf : Sp.find (L ++ [Sp.rO r]) (r.d : Int) (Sp.rN r) ≠ -1 := fun e => h ⟨hl, e, by omega⟩
    have ho : Sp.objAt (L ++ [Sp.rO r]) (r.d : Int) = some od := objAt_of (by rw [List.getElem?_append_left (List.getElem?_eq_some_iff.1 hd).1]; exact hd) (by omega)
    unfold Sp.find at hf ⊢
    rw [ho] at hf ⊢
    dsimp only at hf ⊢
    rw [if_pos hk] at hf ⊢
    cases hq : od.ents.find? (fun e => Sp.eqB e.name (Sp.rN r)) with
    | none => rw [hq] at hf; exact absurd rfl hf
    | some e =>
      dsimp only
      obtain ⟨j, _, h1, _⟩ := (hT.all _ _ hd).leads e (List.mem_of_find?_eq_some hq)
      omega
/-- Enter, as one round calls it. -/
theorem enter_round (L : List Sp.Ob) (r : Sp.Rnd) (od : Sp.Ob) (v : Value) (S : Nat → Prop) (w : World) (hT : Sp.TOk L) (hn : L.length ≤ 8) (hd : L[r.d]? = some od) (hk : od.kind = 2) (hv : Objs w S v (L ++ [Sp.rO r])) (hS : ∀ b, S b → b < w.heap.size) :
    Calls Try.prog 30 #[v, .int .i64 r.d, .string (Sp.rN r), .int .i64 L.length] w fun e w' => ∃ (a : Option Addr) (n c : Nat) (err : Int), e = .returned (.tuple #[.slice a n c, .int .i64 err]) ∧ Below w.heap.size w w' ∧ ((err = 0 ∧ Sp.mayE L od r ∧ Objs w' (Or' S w.heap.size w'.heap.size) (.slice a n c) (Sp.EnterTo L od r)) ∨ (err ≠ 0 ∧ ¬ Sp.mayE L od r)) := by
  have hd' : (L ++ [Sp.rO r])[r.d]? = some od := by rw [List.getElem?_append_left (List.getElem?_eq_some_iff.1 hd).1]; exact hd
  have hj : (L ++ [Sp.rO r])[L.length]? = some (Sp.rO r) := by rw [List.getElem?_append_right (Nat.le_refl _), Nat.sub_self]; rfl
  have hs : (Sp.rN r).size ≤ maxLen := by rw [(Sp.rN_name r).2]; decide
  have hkj : (Sp.rO r).kind ≠ 0 := by have := Sp.rK_cases r; show Sp.rK r ≠ 0; omega
  by_cases hm : Sp.mayE L od r
  · have hlk : ∀ o ∈ L ++ [Sp.rO r], -4611686018427387904 ≤ o.links ∧ o.links ≤ 4611686018427387904 := fun o ho => by
      rcases List.mem_append.1 ho with h1 | h1
      · obtain ⟨i, hi, rfl⟩ := List.getElem_of_mem h1
        rcases (hT.all i _ (List.getElem?_eq_getElem hi)).links with h | h <;> omega
      · simp at h1
        subst h1
        exact ⟨by show (_ : Int) ≤ 0; decide, by show (0 : Int) ≤ _; decide⟩
    refine (renter_ok (L ++ [Sp.rO r]) r.d L.length (Sp.rN r) od (Sp.rO r) v S w hv hS hs (by simp; omega) hlk hd' hj hk hkj hm.1 (Sp.rN_name r).1 hm.2.1 hm.2.2).mono ?_
    rintro e w' ⟨a, c, rfl, ho, hb⟩
    rw [entered_app L od r hd] at ho
    exact ⟨a, _, c, 0, rfl, hb, Or.inl ⟨rfl, hm, ho⟩⟩
  · refine (renter_err (L ++ [Sp.rO r]) r.d L.length (Sp.rN r) od (Sp.rO r) v S w hv hS hs hd' hj hk hkj (not_may hT hd hk hn hm)).mono ?_
    rintro e w' ⟨rfl, hb⟩
    exact ⟨none, 0, 0, _, rfl, hb, Or.inr ⟨by split <;> decide, hm⟩⟩
/-- Picks alone: the maker's block has changed. -/
def Pk (g : Nat) (S : Nat → Prop) (W W' : World) : Prop := MK W' g S ∧ On (fun b => b ≠ g) W W' ∧ W'.heap.size = W.heap.size ∧ ∀ B, B ≤ g → Below B W W'
theorem Pk.refl {g : Nat} {S : Nat → Prop} {W : World} (h : MK W g S) : Pk g S W W := ⟨h, fun _ _ => rfl, rfl, fun B _ => Below.refl B W⟩
theorem Pk.drew {g : Nat} {S : Nat → Prop} {W : World} (h : MK W g S) : Pk g S W W.drew := ⟨h.on (T := fun _ => True) (fun _ _ => rfl) trivial (fun _ _ => trivial), fun _ _ => rfl, rfl, fun B _ => (Below.refl B W).drew⟩
theorem Pk.trans {g : Nat} {S : Nat → Prop} {W W1 W2 : World} (h : Pk g S W W1) (h' : Pk g S W1 W2) : Pk g S W W2 := ⟨h'.1, h.2.1.trans h'.2.1, h'.2.2.1.trans h.2.2.1, fun B hB => (h.2.2.2 B hB).trans (h'.2.2.2 B hB)⟩
theorem pick_pk (g : Nat) (S : Nat → Prop) (hS : ∀ b, S b → b < g) (n : Nat) (hn : 1 ≤ n) (hn2 : n ≤ 1000000) (W W' : World) (h : Pk g S W W') :
    Calls Try.prog 28 #[.pointer (some ⟨g, 0, none⟩), .int .i64 n] W' fun e w' => ∃ x : Nat, e = .returned (.int .i64 x) ∧ x < n ∧ Pk g S W w' := by
  refine (pick_any g S n hn hn2 W' h.1 (fun b hb => by have := hS b hb; omega)).mono ?_
  rintro e w' ⟨x, rfl, hx, h1, h2, h3, h4⟩
  exact ⟨x, rfl, hx, h.trans ⟨h1, h2, h3, h4⟩⟩
/-- The four names. -/
def namesC : Array Value := #[.string ⟨#[97]⟩, .string ⟨#[98]⟩, .string ⟨#[99]⟩, .string ⟨#[100]⟩]
set_option maxRecDepth 1000000 in
set_option maxHeartbeats 16000000 in
theorem reg22_wp (Q : Exit → Act → World → Prop) (K : Act → World → Prop) (W : World) (g gn : Nat) (Sb S : Nat → Prop) (L : List Sp.Ob) (r0 : Sp.Rnd) (a4 : Option Addr) (n4 c4 db dof dn dc : Nat) (ds : List Int) (hT : Sp.TOk L) (hn : L.length ≤ 8) (hSb : ∀ b, Sb b → b < g) (hS : ∀ b, S b → b < W.heap.size ∧ b ≠ g) (hmk : MK W g Sb) (hv : Objs W S (.slice a4 n4 c4) (L ++ [Sp.rO r0])) (hgn : gn ≠ g) (hnm : Blk W gn namesC 9) (hdg : db ≠ g) (hdn : dn = ds.length) (hdn1 : 1 ≤ dn) (_hdn2 : dn ≤ dc) (_hdn3 : dc ≤ maxLen) (hdn4 : dn ≤ 100) (hdc : ∀ (i : Nat) (d : Int), ds[i]? = some d → W.cell? ⟨db, dof + i, none⟩ = some (.int .i64 d)) (hds : Dirs L ds)
    (x0 x1 x2 x6 x7 x9 x11 x12 x13 x14 x15 x16 x17 x18 x19 x20 x21 x22 x23 x24 x25 x26 x27 x28 x29 x30 x31 x32 x33 x34 x35 x36 x37 x38 x39 x40 x41 x42 x43 x44 x45 x46 x47 x48 x49 x50 x51 x52 x53 x54 x55 x56 x57 x58 x59 x60 x61 x62 x63 x64 x65 x66 x67 x68 x69 x70 x71 x72 x73 x74 x75 x76 x77 x78 x79 x80 x81 x82 x83 x84 x85 x86 x87 x88 x89 x90 x91 x92 x93 x94 x95 x96 x97 x98 x99 x100 x101 x102 x103 x104 x105 x106 x107 x108 x109 x110 x111 x112 x113 x114 x115 x116 x117 x118 x119 x120 x121 x122 x123 x124 x125 x126 x127 x128 x129 x130 x131 x132 x133 x134 x135 x136 x137 x138 x139 x140 x141 x142 x143 x144 x145 x146 x147 x148 x149 x150 x151 x152 x153 x154 x155 x156 x157 x158 x159 x160 x161 x162 x163 x164 x165 x166 x167 x168 x169 x170 x171 x172 x173 x174 x175 x176 x177 x178 x179 x180 x181 x182 x183 x184 x185 x186 x187 x188 x189 x190 x191 x192 x193 x194 x195 x196 x197 x198 x199 x200 x201 x202 x203 x204 x205 x206 x207 x208 x209 x210 x211 x212 x213 x214 x215 x216 x217 x218 x219 x220 x221 x222 x223 x224 x225 x226 x227 x228 x229 x230 x231 x232 x233 x234 x235 x236 x237 x238 x239 x240 x241 x242 x243 x244 x245 x246 x247 x248 x249 x250 x251 x252 x253 x254 x255 x256 x257 x258 x259 x260 x261 x262 x263 x264 x265 x266 x267 x268 x269 x270 x271 x272 x273 x274 x275 x276 x277 x278 x279 x280 x281 x282 x283 x284 x285 x286 x287 x288 x289 x290 x291 x292 x293 x294 x295 x296 x297 x298 : Value)
    (h : ∀ (y91 y92 y93 y94 y95 y96 y97 y98 y99 y100 y101 y102 y103 y104 y105 y106 y107 y108 : Value) (W' : World) (r : Sp.Rnd) (od : Sp.Ob) (a' : Option Addr) (n' c' : Nat) (err : Int), Sp.rO r = Sp.rO r0 → L[r.d]? = some od → od.kind = 2 → MK W' g Sb → On (fun b => b < W.heap.size ∧ b ≠ g) W W' → (∀ C, C ≤ g → Below C W W') → W.heap.size ≤ W'.heap.size → ((err = 0 ∧ Sp.mayE L od r ∧ Objs W' (Or' S W.heap.size W'.heap.size) (.slice a' n' c') (Sp.EnterTo L od r)) ∨ (err ≠ 0 ∧ ¬ Sp.mayE L od r)) → K ⟨#[x0, x1, x2, .pointer (some ⟨g, 0, none⟩), .slice a4 n4 c4, .slice (some ⟨gn, 0, none⟩) 4 4, x6, x7, .int .i64 L.length, x9, .slice (some ⟨db, dof, none⟩) dn dc, x11, x12, .slice a' n' c', .int .i64 err, x15, x16, x17, x18, x19, x20, x21, x22, x23, x24, x25, x26, x27, x28, x29, x30, x31, x32, x33, x34, x35, x36, x37, x38, x39, x40, x41, x42, x43, x44, x45, x46, x47, x48, x49, x50, x51, x52, x53, x54, x55, x56, x57, x58, x59, x60, x61, x62, x63, x64, x65, x66, x67, x68, x69, x70, x71, x72, x73, x74, x75, x76, x77, x78, x79, x80, x81, x82, x83, x84, x85, x86, x87, x88, x89, x90, y91, y92, y93, y94, y95, y96, y97, y98, y99, y100, y101, y102, y103, y104, y105, y106, y107, y108, x109, x110, x111, x112, x113, x114, x115, x116, x117, x118, x119, x120, x121, x122, x123, x124, x125, x126, x127, x128, x129, x130, x131, x132, x133, x134, x135, x136, x137, x138, x139, x140, x141, x142, x143, x144, x145, x146, x147, x148, x149, x150, x151, x152, x153, x154, x155, x156, x157, x158, x159, x160, x161, x162, x163, x164, x165, x166, x167, x168, x169, x170, x171, x172, x173, x174, x175, x176, x177, x178, x179, x180, x181, x182, x183, x184, x185, x186, x187, x188, x189, x190, x191, x192, x193, x194, x195, x196, x197, x198, x199, x200, x201, x202, x203, x204, x205, x206, x207, x208, x209, x210, x211, x212, x213, x214, x215, x216, x217, x218, x219, x220, x221, x222, x223, x224, x225, x226, x227, x228, x229, x230, x231, x232, x233, x234, x235, x236, x237, x238, x239, x240, x241, x242, x243, x244, x245, x246, x247, x248, x249, x250, x251, x252, x253, x254, x255, x256, x257, x258, x259, x260, x261, x262, x263, x264, x265, x266, x267, x268, x269, x270, x271, x272, x273, x274, x275, x276, x277, x278, x279, x280, x281, x282, x283, x284, x285, x286, x287, x288, x289, x290, x291, x292, x293, x294, x295, x296, x297, x298], []⟩ W') :
    Code.wp Try.prog ((Try.f9.body.bind (findReg 22)).getD .skip) (Exit.then K Q) ⟨#[x0, x1, x2, .pointer (some ⟨g, 0, none⟩), .slice a4 n4 c4, .slice (some ⟨gn, 0, none⟩) 4 4, x6, x7, .int .i64 L.length, x9, .slice (some ⟨db, dof, none⟩) dn dc, x11, x12, x13, x14, x15, x16, x17, x18, x19, x20, x21, x22, x23, x24, x25, x26, x27, x28, x29, x30, x31, x32, x33, x34, x35, x36, x37, x38, x39, x40, x41, x42, x43, x44, x45, x46, x47, x48, x49, x50, x51, x52, x53, x54, x55, x56, x57, x58, x59, x60, x61, x62, x63, x64, x65, x66, x67, x68, x69, x70, x71, x72, x73, x74, x75, x76, x77, x78, x79, x80, x81, x82, x83, x84, x85, x86, x87, x88, x89, x90, x91, x92, x93, x94, x95, x96, x97, x98, x99, x100, x101, x102, x103, x104, x105, x106, x107, x108, x109, x110, x111, x112, x113, x114, x115, x116, x117, x118, x119, x120, x121, x122, x123, x124, x125, x126, x127, x128, x129, x130, x131, x132, x133, x134, x135, x136, x137, x138, x139, x140, x141, x142, x143, x144, x145, x146, x147, x148, x149, x150, x151, x152, x153, x154, x155, x156, x157, x158, x159, x160, x161, x162, x163, x164, x165, x166, x167, x168, x169, x170, x171, x172, x173, x174, x175, x176, x177, x178, x179, x180, x181, x182, x183, x184, x185, x186, x187, x188, x189, x190, x191, x192, x193, x194, x195, x196, x197, x198, x199, x200, x201, x202, x203, x204, x205, x206, x207, x208, x209, x210, x211, x212, x213, x214, x215, x216, x217, x218, x219, x220, x221, x222, x223, x224, x225, x226, x227, x228, x229, x230, x231, x232, x233, x234, x235, x236, x237, x238, x239, x240, x241, x242, x243, x244, x245, x246, x247, x248, x249, x250, x251, x252, x253, x254, x255, x256, x257, x258, x259, x260, x261, x262, x263, x264, x265, x266, x267, x268, x269, x270, x271, x272, x273, x274, x275, x276, x277, x278, x279, x280, x281, x282, x283, x284, x285, x286, x287, x288, x289, x290, x291, x292, x293, x294, x295, x296, x297, x298], []⟩ W := by
  have HH : Hid (∀ (y91 y92 y93 y94 y95 y96 y97 y98 y99 y100 y101 y102 y103 y104 y105 y106 y107 y108 : Value) (W' : World) (r : Sp.Rnd) (od : Sp.Ob) (a' : Option Addr) (n' c' : Nat) (err : Int), Sp.rO r = Sp.rO r0 → L[r.d]? = some od → od.kind = 2 → MK W' g Sb → On (fun b => b < W.heap.size ∧ b ≠ g) W W' → (∀ C, C ≤ g → Below C W W') → W.heap.size ≤ W'.heap.size → ((err = 0 ∧ Sp.mayE L od r ∧ Objs W' (Or' S W.heap.size W'.heap.size) (.slice a' n' c') (Sp.EnterTo L od r)) ∨ (err ≠ 0 ∧ ¬ Sp.mayE L od r)) → K ⟨#[x0, x1, x2, .pointer (some ⟨g, 0, none⟩), .slice a4 n4 c4, .slice (some ⟨gn, 0, none⟩) 4 4, x6, x7, .int .i64 L.length, x9, .slice (some ⟨db, dof, none⟩) dn dc, x11, x12, .slice a' n' c', .int .i64 err, x15, x16, x17, x18, x19, x20, x21, x22, x23, x24, x25, x26, x27, x28, x29, x30, x31, x32, x33, x34, x35, x36, x37, x38, x39, x40, x41, x42, x43, x44, x45, x46, x47, x48, x49, x50, x51, x52, x53, x54, x55, x56, x57, x58, x59, x60, x61, x62, x63, x64, x65, x66, x67, x68, x69, x70, x71, x72, x73, x74, x75, x76, x77, x78, x79, x80, x81, x82, x83, x84, x85, x86, x87, x88, x89, x90, y91, y92, y93, y94, y95, y96, y97, y98, y99, y100, y101, y102, y103, y104, y105, y106, y107, y108, x109, x110, x111, x112, x113, x114, x115, x116, x117, x118, x119, x120, x121, x122, x123, x124, x125, x126, x127, x128, x129, x130, x131, x132, x133, x134, x135, x136, x137, x138, x139, x140, x141, x142, x143, x144, x145, x146, x147, x148, x149, x150, x151, x152, x153, x154, x155, x156, x157, x158, x159, x160, x161, x162, x163, x164, x165, x166, x167, x168, x169, x170, x171, x172, x173, x174, x175, x176, x177, x178, x179, x180, x181, x182, x183, x184, x185, x186, x187, x188, x189, x190, x191, x192, x193, x194, x195, x196, x197, x198, x199, x200, x201, x202, x203, x204, x205, x206, x207, x208, x209, x210, x211, x212, x213, x214, x215, x216, x217, x218, x219, x220, x221, x222, x223, x224, x225, x226, x227, x228, x229, x230, x231, x232, x233, x234, x235, x236, x237, x238, x239, x240, x241, x242, x243, x244, x245, x246, x247, x248, x249, x250, x251, x252, x253, x254, x255, x256, x257, x258, x259, x260, x261, x262, x263, x264, x265, x266, x267, x268, x269, x270, x271, x272, x273, x274, x275, x276, x277, x278, x279, x280, x281, x282, x283, x284, x285, x286, x287, x288, x289, x290, x291, x292, x293, x294, x295, x296, x297, x298], []⟩ W') := h
  have HP0 : Hid (Pk g Sb W W.drew) := Pk.drew hmk
  have HP1 : Hid (∀ W', Pk g Sb W W' → Calls Try.prog 28 #[.pointer (some ⟨g, 0, none⟩), .int .i64 dn] W' fun e w' => ∃ (x n : Nat) (od : Sp.Ob), e = .returned (.int .i64 x) ∧ x < dn ∧ L[n]? = some od ∧ od.kind = 2 ∧ Pk g Sb W w' ∧ ∀ W'', Pk g Sb W W'' → W''.cell? ⟨db, dof + x, none⟩ = some (.int .i64 n)) := fun W' hW' => by
    refine (pick_pk g Sb hSb dn hdn1 (by omega) W W' hW').mono ?_
    rintro e w' ⟨x, rfl, hx, hp⟩
    have hi : ds[x]? = some ds[x] := List.getElem?_eq_getElem (by omega)
    obtain ⟨n, od, h1, h2, h3⟩ := hds _ (List.getElem_mem (show x < ds.length by omega))
    exact ⟨x, n, od, rfl, hx, h2, h3, hp, fun W'' hW'' => by rw [hW''.2.1.cell hdg, hdc x _ hi, h1]⟩
  have HP2 : Hid (∀ W', Pk g Sb W W' → Calls Try.prog 28 #[.pointer (some ⟨g, 0, none⟩), .int .i64 4] W' fun e w' => ∃ x : Nat, e = .returned (.int .i64 x) ∧ x < 4 ∧ Pk g Sb W w' ∧ ∀ W'', Pk g Sb W W'' → W''.cell? ⟨gn, x, none⟩ = some (.string (Sp.rN ⟨r0.kind, r0.len, r0.tgt, 0, x⟩))) := fun W' hW' => by
    refine (pick_pk g Sb hSb 4 (by decide) (by decide) W W' hW').mono ?_
    rintro e w' ⟨x, rfl, hx, hp⟩
    refine ⟨x, rfl, hx, hp, fun W'' hW'' => ?_⟩
    rw [hW''.2.1.cell hgn, hnm.cell]
    match x, hx with
    | 0, _ | 1, _ | 2, _ | 3, _ => rfl
  have HE : Hid (∀ W', Pk g Sb W W' → ∀ (n x : Nat) (od : Sp.Ob), L[n]? = some od → od.kind = 2 → Calls Try.prog 30 #[.slice a4 n4 c4, .int .i64 n, .string (Sp.rN ⟨r0.kind, r0.len, r0.tgt, 0, x⟩), .int .i64 L.length] W' fun e w' => ∃ (a : Option Addr) (m c : Nat) (err : Int), e = .returned (.tuple #[.slice a m c, .int .i64 err]) ∧ MK w' g Sb ∧ On (fun b => b < W.heap.size ∧ b ≠ g) W w' ∧ (∀ C, C ≤ g → Below C W w') ∧ W.heap.size ≤ w'.heap.size ∧ ((err = 0 ∧ Sp.mayE L od ⟨r0.kind, r0.len, r0.tgt, n, x⟩ ∧ Objs w' (Or' S W.heap.size w'.heap.size) (.slice a m c) (Sp.EnterTo L od ⟨r0.kind, r0.len, r0.tgt, n, x⟩)) ∨ (err ≠ 0 ∧ ¬ Sp.mayE L od ⟨r0.kind, r0.len, r0.tgt, n, x⟩))) := fun W' hW' n x od hL hk => by
    obtain ⟨p1, p2, p3, p4⟩ := hW'
    refine (enter_round L ⟨r0.kind, r0.len, r0.tgt, n, x⟩ od (.slice a4 n4 c4) S W' hT hn hL hk (hv.on (p2.less fun b hb => (hS b hb).2)) (fun b hb => by rw [p3]; exact (hS b hb).1)).mono ?_
    rintro e w' ⟨a, m, c, err, rfl, hb, hr⟩
    have hgl : g < W'.heap.size := by obtain ⟨_, _, _, _, hq, _⟩ := p1; exact hq.lt
    refine ⟨a, m, c, err, rfl, p1.on (On.of hb) hgl (fun b hb => by have := hSb b hb; show b < W'.heap.size; omega), (p2.less fun b hb => hb.2).trans ((On.of hb).less fun b hb => by rw [p3]; exact hb.1), fun C hC => (p4 C hC).trans (hb.mono (by omega)), by have := hb.size; omega, ?_⟩
    rw [p3] at hr
    exact hr
  unfold maxLen at _hdn3
  have hd1 : (1 : Int) ≤ (dn : Int) := by omega
  clear h hv hnm hdc hds hmk hT hS hdn hSb hn
  refine wp_mono (Q := Exit.then K (fun _ _ _ => False)) ?_ (fun e a w h => by cases e <;> first | exact h | exact h.elim)
  conv => arg 2; whnf
  go_region_with (first
    | (go_at_call 28; with_reducible (refine Calls.mono (HP1.out _ ?_) ?_); (first | exact HP0.out | assumption); rintro e W1 ⟨x1, n1, od1, rfl, hx1, hL1, hk1, hp1, hc1⟩; have hm1 := hc1 W1 hp1)
    | (go_at_call 28; with_reducible (refine Calls.mono (HP2.out _ ?_) ?_); (first | exact HP0.out | assumption); rintro e W2 ⟨x2, rfl, hx2, hp2, hc2⟩; have hn2 := hc2 W2 hp2; have hm2 := hc1 W2 hp2)
    | (go_at_call 30; with_reducible (refine Calls.mono (HE.out _ ?_ n1 x2 od1 hL1 hk1) ?_); assumption; rintro e W3 ⟨a3, m3, c3, err3, rfl, q1, q2, q3, q4, q5⟩))
  all_goals exact HH.out _ _ _ _ _ _ _ _ _ _ _ _ _ _ _ _ _ _ W3 ⟨r0.kind, r0.len, r0.tgt, n1, x2⟩ od1 a3 m3 c3 err3 rfl hL1 hk1 q1 q2 q3 q4 q5
end Go.Proofs.Ytdciohinlhbliaa
