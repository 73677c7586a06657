/-
  The law BpfTurns, walked: programs and bytes, there and back; rgref1.Same.
-/
import Derived.Test.YtkobjcbcmbecfaaEndsW
import Derived.Test.YtkobjcbcmbecfaaSameW
namespace Go.Proofs.Ytkobjcbcmbecfaa
open Go.RowKit
theorem bytes_getD : ∀ (p : List Bp.Ins) (k j : Nat) (x : Bp.Ins), p[k]? = some x → j < 7 → (Bp.bytes p).getD (k * 7 + j) 0 = (Bp.insBytes x).getD j 0
  | [], k, j, x, hx, _ => by simp at hx
  | i :: t, 0, j, x, hx, hj => by
    simp at hx; subst hx
    have hl : (Bp.insBytes i).length = 7 := rfl
    show (Bp.insBytes i ++ Bp.bytes t).getD (0 * 7 + j) 0 = _
    simp only [List.getD_eq_getElem?_getD]
    rw [List.getElem?_append_left (by omega)]
    simp
  | i :: t, k + 1, j, x, hx, hj => by
    have := bytes_getD t k j x (by simpa using hx) hj
    have hl : (Bp.insBytes i).length = 7 := rfl
    show (Bp.insBytes i ++ Bp.bytes t).getD ((k + 1) * 7 + j) 0 = _
    simp only [List.getD_eq_getElem?_getD] at this ⊢
    rw [List.getElem?_append_right (by omega), hl, show (k + 1) * 7 + j - 7 = k * 7 + j by omega]
    exact this
theorem ins_back {x : Bp.Ins} {m : Nat} (hm : m ≤ 400) (h : Bp.wrong x m = 0) : (⟨(Bp.insBytes x).getD 0 0, (Bp.insBytes x).getD 1 0, (Bp.insBytes x).getD 2 0, ((Bp.insBytes x).getD 3 0 + 256 * (Bp.insBytes x).getD 4 0 + 65536 * (Bp.insBytes x).getD 5 0 + 16777216 * (Bp.insBytes x).getD 6 0 : Nat)⟩ : Bp.Ins) = x := by
  have hw := Bp.wrong_zero h
  obtain ⟨op, jt, jf, k⟩ := x
  clear h
  dsimp only at hw
  simp only [Bp.insBytes, Bp.byt, List.getD_cons_zero, List.getD_cons_succ, Bp.Ins.mk.injEq]
  refine ⟨?_, ?_, ?_, ?_⟩ <;> omega
theorem sevens_bytes {p : List Bp.Ins} (h : Bp.Good p) : sevens (Bp.bytes p) = p := by
  unfold sevens
  rw [bytes_length, show 7 * p.length / 7 = p.length by omega]
  apply List.ext_getElem?
  intro k
  rw [List.getElem?_map]
  by_cases hk : k < p.length
  · have hx : p[k]? = some p[k] := List.getElem?_eq_getElem hk
    rw [List.getElem?_range hk, hx]
    simp only [Option.map_some, Option.some.injEq]
    have e0 := bytes_getD p k 0 _ hx (by omega)
    have e1 := bytes_getD p k 1 _ hx (by omega)
    have e2 := bytes_getD p k 2 _ hx (by omega)
    have e3 := bytes_getD p k 3 _ hx (by omega)
    have e4 := bytes_getD p k 4 _ hx (by omega)
    have e5 := bytes_getD p k 5 _ hx (by omega)
    have e6 := bytes_getD p k 6 _ hx (by omega)
    rw [Nat.add_zero] at e0
    unfold insOf
    rw [e0, e1, e2, e3, e4, e5, e6]
    exact ins_back (by have := h.many; omega) (h.each k _ hx)
  · rw [List.getElem?_eq_none (by simp; omega), List.getElem?_eq_none (by omega)]
    rfl
/-- A program comes back from its bytes. -/
theorem prs_bytes {p : List Bp.Ins} (h : Bp.Good p) : prs (Bp.bytes p) = (p, (0, 0)) := by
  unfold prs
  rw [if_neg (by rw [bytes_length]; have := h.many; omega), sevens_bytes h, Bp.chk_good h]
  simp
theorem byts_good {p : List Bp.Ins} (h : Bp.Good p) : byts p = Bp.bytes p := by
  unfold byts; rw [if_pos ((Bp.good_iff p).2 h)]
theorem insBytes_insOf (l : List Nat) (hl : ∀ y ∈ l, y < 256) (k : Nat) (hk : k * 7 + 7 ≤ l.length) : Bp.insBytes (insOf l k) = (l.drop (k * 7)).take 7 := by
  have hb : ∀ j, j < 7 → l.getD (k * 7 + j) 0 < 256 ∧ l[k * 7 + j]? = some (l.getD (k * 7 + j) 0) := by
    intro j hj
    have e : l[k * 7 + j]? = some l[k * 7 + j] := List.getElem?_eq_getElem (by omega)
    rw [List.getD_eq_getElem?_getD, e]
    exact ⟨hl _ (List.getElem_mem _), rfl⟩
  have h0 := hb 0 (by omega)
  have h1 := hb 1 (by omega)
  have h2 := hb 2 (by omega)
  have h3 := hb 3 (by omega)
  have h4 := hb 4 (by omega)
  have h5 := hb 5 (by omega)
  have h6 := hb 6 (by omega)
  apply List.ext_getElem?
  intro j
  by_cases hj : j < 7
  · rw [List.getElem?_take_of_lt hj, List.getElem?_drop, (hb j hj).2]
    have : j = 0 ∨ j = 1 ∨ j = 2 ∨ j = 3 ∨ j = 4 ∨ j = 5 ∨ j = 6 := by omega
    rw [Nat.add_zero] at h0
    unfold Bp.insBytes insOf Bp.byt
    rcases this with rfl | rfl | rfl | rfl | rfl | rfl | rfl <;> simp only [List.getElem?_cons_zero, List.getElem?_cons_succ, Option.some.injEq, Nat.add_zero] <;> omega
  · rw [List.getElem?_eq_none (by show 7 ≤ j; omega), List.getElem?_eq_none (by simp; omega)]
theorem bytes_sevens_aux (l : List Nat) (hl : ∀ y ∈ l, y < 256) : ∀ (n : Nat), n * 7 ≤ l.length → Bp.bytes ((List.range n).map (insOf l)) = l.take (n * 7) := by
  intro n
  induction n with
  | zero => intro _; simp [Bp.bytes]
  | succ n ih =>
    intro hn
    have := ih (by omega)
    rw [List.range_succ, List.map_append]
    show ((List.range n).map (insOf l) ++ [insOf l n]).flatMap Bp.insBytes = _
    rw [List.flatMap_append]
    show Bp.bytes _ ++ _ = _
    rw [this]
    simp only [List.flatMap_cons, List.flatMap_nil, List.append_nil]
    rw [insBytes_insOf l hl n (by omega), show (n + 1) * 7 = n * 7 + 7 by omega, List.take_add]
/-- What is read is the bytes of its program. -/
theorem bytes_prs {l : List Nat} (hl : ∀ y ∈ l, y < 256) (h : (prs l).2.1 = 0) : Bp.Good (prs l).1 ∧ Bp.bytes (prs l).1 = l ∧ prs l = ((prs l).1, (0, 0)) := by
  unfold prs at h ⊢
  split at h
  · simp at h
  · rename_i h1
    split at h
    · rename_i h2; exact absurd h h2
    · rename_i h2
      rw [if_neg h1, if_neg h2]
      refine ⟨(Bp.good_iff _).1 (by simpa using h2), ?_, rfl⟩
      unfold sevens
      rw [bytes_sevens_aux l hl _ (by omega), show l.length / 7 * 7 = l.length by omega, List.take_length]
theorem prs_wrong {l : List Nat} (h : (prs l).2.1 ≠ 0) : (prs l).1 = [] := by
  unfold prs at h ⊢
  split at h
  · rename_i h1; rw [if_pos h1]
  · rename_i h1
    split at h
    · rename_i h2; rw [if_neg h1, if_pos h2]
    · simp at h
theorem HoldsB.small {w : World} {B : Nat} {v : Value} {l : List Nat} (h : HoldsB w B v l) : ∀ y ∈ l, y < 256 := by
  rcases h with ⟨a, cap, rfl, rfl⟩ | ⟨b, o, cap, rfl, hlt, h1, h2, hl⟩
  · intro y hy; cases hy
  · intro y hy
    obtain ⟨i, hi⟩ := List.getElem?_of_mem hy
    exact (hl i y hi).1
theorem HoldsB.form {w : World} {B : Nat} {v : Value} {l : List Nat} (h : HoldsB w B v l) : ∃ a cap, v = .slice a l.length cap := by
  rcases h with ⟨a, cap, rfl, rfl⟩ | ⟨b, o, cap, rfl, _⟩
  · exact ⟨a, cap, rfl⟩
  · exact ⟨_, cap, rfl⟩
theorem HoldsB.setCell {w : World} {B : Nat} {v : Value} {l : List Nat} (h : HoldsB w B v l) (a : Addr) (u : Value) (hB : B ≤ a.block) : HoldsB (w.setCell a u) B v l :=
  h.on (B' := B) ((Below.refl _ _).setCell hB _) (Nat.le_refl _)
theorem cell_same {w : World} {a b : Addr} {u : Value} (h : w.cell? a = some u) : (w.setCell a u).cell? b = w.cell? b := by
  by_cases e : a = b
  · subst e; rw [World.cell?_setCell_same w a u h, h]
  · exact World.cell?_setCell_other w a b u e
theorem HoldsB.same {w : World} {B : Nat} {v : Value} {l : List Nat} (h : HoldsB w B v l) {a : Addr} {u : Value} (ha : w.cell? a = some u) : HoldsB (w.setCell a u) B v l := by
  rcases h with h | ⟨b, o, cap, rfl, hlt, h1, h2, hl⟩
  · exact Or.inl h
  · exact Or.inr ⟨b, o, cap, rfl, hlt, h1, h2, fun i x hx => by rw [cell_same ha]; exact hl i x hx⟩
set_option maxHeartbeats 4000000 in
theorem turns_any (p : List Bp.Ins) (l : List Nat) (v vb : Value) (w : World) (hv : Holds w w.heap.size v p) (hb : HoldsB w w.heap.size vb l) :
    Calls Try.prog 8 #[v, vb] w fun e w' => e = .returned (.bool true) ∧ Below w.heap.size w w' := by
  go_enter Try.func8, Try.ntmps8
  go_wp2_with fail
  refine (alive_any w).mono ?_
  rintro e w1 ⟨rfl, hB⟩
  replace hv := hv.on hB (Nat.le_refl _)
  replace hb := hb.on hB (Nat.le_refl _)
  have hz := hB.size
  go_wp2_with fail
  refine (bytes_any p v w1 (hv.up hz)).mono ?_
  rintro e w2 ⟨x, rfl, hb2, hx⟩
  replace hv := hv.on hb2 hz
  replace hb := hb.on hb2 hz
  replace hB := hB.trans (hb2.mono hz)
  replace hz := hB.size
  clear hb2
  unfold faultV
  generalize hck : Bp.chk p = ck
  obtain ⟨ce, ca⟩ := ck
  have HC : Hid (Bp.chk p = (ce, ca)) := hck
  clear hck
  by_cases h0 : ce = 0
  focus
    subst h0
    have hg : Bp.Good p := (Bp.good_iff p).1 (by rw [HC.out])
    have HP : Hid (prs (byts p) = (p, (0, 0))) := by unfold Hid; rw [byts_good hg, prs_bytes hg]
    clear hg HC
    have hal := (Below.refl w2.heap.size w2).alloc (Nat.le_refl _) (.cells #[.int .i64 0, .int .i64 ca] 47)
    replace hx := (hx.on hal (Nat.le_refl _)).up (B' := w2.heap.size + 1) (by omega)
    replace hv := hv.on hal hz
    replace hb := hb.on hal hz
    replace hB := hB.trans (hal.mono hz)
    replace hz : w.heap.size ≤ w2.heap.size + 1 := by omega
    clear hal
    go_wp2_with fail
    refine (parse_any (byts p) x _ (hx.up (by simp))).mono ?_
    rintro e w3 ⟨q, rfl, hb2, hq⟩
    rw [HP.out] at hq
    rw [HP.out]
    unfold faultV
    replace hv := hv.on hb2 (by simp; omega)
    replace hb := hb.on hb2 (by simp; omega)
    replace hB := hB.trans (hb2.mono (by simp; omega))
    replace hz := hB.size
    clear hb2 HP hx
    have hal := (Below.refl w3.heap.size w3).alloc (Nat.le_refl _) (.cells #[.int .i64 0, .int .i64 0] 47)
    replace hq := hq.on hal (Nat.le_refl _)
    replace hv := hv.on hal hz
    replace hb := hb.on hal hz
    replace hB := hB.trans (hal.mono hz)
    clear hal
    go_wp2_with fail
    refine (same_any p p v q _ _ _ hv hq).mono ?_
    rintro e w4 ⟨rfl, n4, rfl⟩
    have hdec : decide (p = p) = true := by simp
    rw [hdec]
    clear hdec hq
    replace hv := hv.on (below_drewN (Below.refl w.heap.size _) n4) (Nat.le_refl _)
    replace hb := hb.on (below_drewN (Below.refl w.heap.size _) n4) (Nat.le_refl _)
    replace hB := below_drewN hB n4
    replace hz := hB.size
    go_wp2_with fail
  rotate_left
  focus
    have h0' : (ce == 0) = false := by simpa using h0
    have hal := (Below.refl w2.heap.size w2).alloc (Nat.le_refl _) (.cells #[.int .i64 ce, .int .i64 ca] 47)
    replace hv := hv.on hal hz
    replace hb := hb.on hal hz
    replace hB := hB.trans (hal.mono hz)
    replace hz := hB.size
    clear hal h0 HC hx
    go_wp2_with fail
  all_goals
    have HS : Hid (∀ y ∈ l, y < 256) := hb.small
    refine (parse_any l vb _ (hb.up hz)).mono ?_
    rintro e w5 ⟨q5, rfl, hb2, hq5⟩
    replace hb := hb.on hb2 hz
    replace hB := hB.trans (hb2.mono hz)
    replace hz := hB.size
    clear hb2 hv
    have HG : Hid ((prs l).2.1 = 0 → Bp.Good (prs l).1 ∧ Bp.bytes (prs l).1 = l ∧ prs l = ((prs l).1, (0, 0))) := fun h => bytes_prs HS.out h
    have HW : Hid ((prs l).2.1 ≠ 0 → (prs l).1 = []) := fun h => prs_wrong h
    clear HS
    generalize prs l = pl at *
    obtain ⟨q, fe, fa⟩ := pl
    dsimp only at hq5
    have hal := (Below.refl w5.heap.size w5).alloc (Nat.le_refl _) (.cells #[.int .i64 fe, .int .i64 fa] 47)
    replace hq5 := hq5.on hal (Nat.le_refl _)
    replace hb := hb.on hal hz
    replace hB := hB.trans (hal.mono hz)
    replace hz : w.heap.size ≤ w5.heap.size := hz
    clear hal
    unfold faultV
    by_cases h5 : fe = 0
    · subst h5
      obtain ⟨hg, hbl, he⟩ := HG.out rfl
      simp only [Prod.mk.injEq, true_and] at he hg hbl
      subst he
      have HY : Hid (byts q = l) := by unfold Hid; rw [byts_good hg, hbl]
      have hck : Bp.chk q = (0, 0) := Bp.chk_good hg
      clear HG HW hg hbl
      go_wp2_with fail
      refine (bytes_any q q5 _ (hq5.up (by simp))).mono ?_
      rintro e w6 ⟨x6, rfl, hb2, hx6⟩
      rw [HY.out] at hx6
      rw [hck]
      unfold faultV
      have d0 : w6.cell? ⟨w5.heap.size, 0, none⟩ = some (.int .i64 0) := (hb2.cell (p := ⟨w5.heap.size, 0, none⟩) (by simp)).trans (by simp)
      have d1 : w6.cell? ⟨w5.heap.size, 1, none⟩ = some (.int .i64 0) := (hb2.cell (p := ⟨w5.heap.size, 1, none⟩) (by simp)).trans (by simp)
      have f0 : w6.frozen? ⟨w5.heap.size, 0, none⟩ = false := (hb2.frozen (p := ⟨w5.heap.size, 0, none⟩) (by simp)).trans (by simp)
      have f1 : w6.frozen? ⟨w5.heap.size, 1, none⟩ = false := (hb2.frozen (p := ⟨w5.heap.size, 1, none⟩) (by simp)).trans (by simp)
      replace hb := hb.on hb2 (by simp; omega)
      replace hB := hB.trans (hb2.mono (by simp; omega))
      clear hb2 hq5 HY hck
      have hd1 : (w6.setCell ⟨w5.heap.size, 0, none⟩ (.int .i64 0)).cell? ⟨w5.heap.size, 1, none⟩ = some (.int .i64 0) := by rw [cell_same d0]; exact d1
      have hc1 := conv_any l x6 _ _ ((hx6.same d0).same hd1)
      have hc2 := conv_any l vb _ _ ((hb.same d0).same hd1)
      replace hB := (hB.setCell (p := ⟨w5.heap.size, 0, none⟩) hz (.int .i64 0)).setCell (p := ⟨w5.heap.size, 1, none⟩) hz (.int .i64 0)
      clear hd1 hx6 hb
      go_wp2
      go_ret
      exact ⟨by simp, hB⟩
    · have h5' : (fe != 0) = true := by simpa using h5
      have hq := HW.out h5
      dsimp only at hq
      subst hq
      obtain ⟨a5, cap5, rfl⟩ := hq5.form
      clear HG HW h5 hq5 hb
      go_wp2
      go_ret
      exact ⟨rfl, hB⟩
end Go.Proofs.Ytkobjcbcmbecfaa
