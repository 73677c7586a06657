
/-
  store.Own: a copy of objects.
-/
import Derived.Test.YtdciohinlhbliaaSNine
namespace Go.Proofs.Ytdciohinlhbliaa
open Go.RowKit
theorem OwnL.wide {w : World} {lo lo' hi : Nat} {t : Sls × Sp.Ob} (h : OwnL w lo hi t) (hl : lo' ≤ lo) : OwnL w lo' hi t := by
  obtain ⟨m1, m2, h1, h2, h3, h4, h5, h6⟩ := h
  exact ⟨m1, m2, by omega, h2, h3, h4, h5.more fun b hb => ⟨by omega, hb.2⟩, h6⟩
/-- Each object's lists, one's own, one behind the other. -/
def OwnAll (w : World) (lo : Nat) (ts : List (Sls × Sp.Ob)) (m : Nat → Nat) : Prop :=
  lo ≤ m 0 ∧ (∀ i, m i ≤ m (i + 1)) ∧ m ts.length ≤ w.heap.size ∧ ∀ (i : Nat) t, ts[i]? = some t → OwnL w (m i) (m (i + 1)) t
theorem OwnAll.le {w : World} {lo : Nat} {ts : List (Sls × Sp.Ob)} {m : Nat → Nat} (h : OwnAll w lo ts m) {i j : Nat} (hij : i ≤ j) : m i ≤ m j := by
  induction j with
  | zero => rw [Nat.le_zero.1 hij]; exact Nat.le_refl _
  | succ j ih =>
    rcases Nat.lt_or_ge i (j + 1) with hl | hl
    · exact Nat.le_trans (ih (by omega)) (h.2.1 j)
    · rw [show i = j + 1 by omega]; exact Nat.le_refl _
theorem OwnAll.lo {w : World} {lo : Nat} {ts : List (Sls × Sp.Ob)} {m : Nat → Nat} (h : OwnAll w lo ts m) (i : Nat) : lo ≤ m i := Nat.le_trans h.1 (h.le (Nat.zero_le i))
theorem OwnAll.on {w w' : World} {lo : Nat} {ts : List (Sls × Sp.Ob)} {m : Nat → Nat} (h : OwnAll w lo ts m) (ho : On (fun b => lo ≤ b ∧ b < w.heap.size) w w') (hs : w.heap.size ≤ w'.heap.size) : OwnAll w' lo ts m := by
  refine ⟨h.1, h.2.1, Nat.le_trans h.2.2.1 hs, fun i t ht => ?_⟩
  have h1 := h.2.2.2 i t ht
  have hi : i + 1 ≤ ts.length := (List.getElem?_eq_some_iff.1 ht).1
  have hl := h.le hi
  have hh := h.2.2.1
  have h0 := h.lo i
  exact h1.on (ho.less fun b hb => ⟨by omega, by omega⟩) hs
theorem OwnAll.snoc {w : World} {lo a b : Nat} {ts : List (Sls × Sp.Ob)} {m : Nat → Nat} {t : Sls × Sp.Ob} (h : OwnAll w lo ts m) (ht : OwnL w a b t) (ha : m ts.length ≤ a) (hab : a ≤ b) (hb : b ≤ w.heap.size) : OwnAll w lo (ts ++ [t]) (fun i => if i ≤ ts.length then m i else b) := by
  have hle := fun i (hi : i ≤ ts.length) => h.le hi
  refine ⟨by simp only [Nat.zero_le, if_true]; exact h.1, fun i => ?_, by dsimp only; rw [if_neg (by simp)]; exact hb, fun i u hu => ?_⟩
  · dsimp only
    by_cases h1 : i + 1 ≤ ts.length
    · rw [if_pos (by omega), if_pos h1]; exact h.2.1 i
    · by_cases h2 : i ≤ ts.length
      · rw [if_pos h2, if_neg h1]; have := hle i h2; omega
      · rw [if_neg h2, if_neg h1]; exact Nat.le_refl _
  · dsimp only
    by_cases h1 : i < ts.length
    · rw [List.getElem?_append_left h1] at hu
      rw [if_pos (by omega), if_pos (by omega)]
      exact h.2.2.2 i u hu
    · rw [List.getElem?_append_right (by omega)] at hu
      have hi : i = ts.length := by
        have := (List.getElem?_eq_some_iff.1 hu).1
        simp at this
        omega
      subst hi
      simp at hu
      subst hu
      rw [if_pos (Nat.le_refl _), if_neg (by omega)]
      exact ht.wide ha
def nilSl : Sl := ⟨none, 0, 0⟩
def zeroC : List Value := [.int .i64 0, .slice none 0 0, .slice none 0 0, .string ⟨#[]⟩, .int .i64 0, .slice none 0 0, .int .i64 0, .int .i64 0, .int .i64 0]
/-- The copies' loop. -/
def OInv (w : World) (ts : List (Sls × Sp.Ob)) (k : Nat) (wr : World) : Prop :=
  ∃ (ts' : List (Sls × Sp.Ob)) (m : Nat → Nat), ts'.length = k ∧ ts'.map Prod.snd = (ts.map Prod.snd).take k ∧ Mine wr w.heap.size 40 9 (.slice (some ⟨w.heap.size, 0, none⟩) ts.length ts.length) (ts'.map objC ++ List.replicate (ts.length - k) zeroC) ∧ Below w.heap.size w wr ∧ OwnAll wr (w.heap.size + 1) ts' m
theorem even_inv (ts : List (Sls × Sp.Ob)) (n : Nat) : Even 9 (ts.map objC ++ List.replicate n zeroC) := by
  intro cs hcs
  rcases List.mem_append.1 hcs with h | h
  · exact even_obj ts cs h
  · rw [(List.mem_replicate.1 h).2]; rfl
theorem OInv.step {w wr W w2 W9 : World} {ts ts' : List (Sls × Sp.Ob)} {m : Nat → Nat} {k : Nat} {x : Sp.Ob} {s s' : Sls} (hk : k < ts.length) (hlen : ts'.length = k) (hsnd : ts'.map Prod.snd = (ts.map Prod.snd).take k) (hM : Mine wr w.heap.size 40 9 (.slice (some ⟨w.heap.size, 0, none⟩) ts.length ts.length) (ts'.map objC ++ List.replicate (ts.length - k) zeroC)) (hA : OwnAll wr (w.heap.size + 1) ts' m)
    (hx : ts[k]? = some (s, x)) (hon : On (fun b => b < wr.heap.size) wr W) (hWz : wr.heap.size ≤ W.heap.size) (hBW : Below w.heap.size w W) (hwW : w.heap.size < W.heap.size) (hb2 : Below W.heap.size W w2) (hL : OwnL w2 W.heap.size w2.heap.size (s', x))
    (hW9 : W9 = (((((((((w2.setCell ⟨w.heap.size, k * 9, none⟩ (.int .i64 x.kind)).setCell ⟨w.heap.size, k * 9 + 1, none⟩ (.slice s'.d.a s'.d.n s'.d.c)).setCell ⟨w.heap.size, k * 9 + 2, none⟩ (.slice s'.e.a s'.e.n s'.e.c)).setCell ⟨w.heap.size, k * 9 + 3, none⟩ (.string x.target)).setCell ⟨w.heap.size, k * 9 + 4, none⟩ (.int .i64 x.peer)).setCell ⟨w.heap.size, k * 9 + 5, none⟩ (.slice s'.q.a s'.q.n s'.q.c)).setCell ⟨w.heap.size, k * 9 + 6, none⟩ (.int .i64 x.proc)).setCell ⟨w.heap.size, k * 9 + 7, none⟩ (.int .i64 x.links)).setCell ⟨w.heap.size, k * 9 + 8, none⟩ (.int .i64 x.up))) :
    OInv w ts (k + 1) W9 := by
  have hw2 := hb2.size
  have hM2 := (hM.on hon fun g hg => (hM.lt g hg).2).on (On.of hb2) (fun g hg => Nat.lt_of_lt_of_le (hM.lt g hg).2 hWz)
  obtain ⟨h9, hon9, hz9⟩ := hM2.nine (even_inv ts' _) k (by rw [List.length_append, List.length_map, List.length_replicate]; omega) _ _ _ _ _ _ _ _ _ W9 hW9
  have hB9 : Below w.heap.size w W9 := by
    rw [hW9]
    have h0 : Below w.heap.size w w2 := hBW.trans (hb2.mono (by omega))
    exact ((((((((h0.setCell (Nat.le_refl _) _).setCell (Nat.le_refl _) _).setCell (Nat.le_refl _) _).setCell (Nat.le_refl _) _).setCell (Nat.le_refl _) _).setCell (Nat.le_refl _) _).setCell (Nat.le_refl _) _).setCell (Nat.le_refl _) _).setCell (Nat.le_refl _) _
  have hA2 : OwnAll W9 (w.heap.size + 1) ts' m := hA.on (((hon.less fun b hb => hb.2).trans ((On.of hb2).less fun b hb => by omega)).trans (hon9.less fun b hb => by omega)) (by omega)
  have hL9 : OwnL W9 W.heap.size w2.heap.size (s', x) := hL.on (hon9.less fun b hb => by omega) (by omega)
  have hm := hA.2.2.1
  refine ⟨ts' ++ [(s', x)], _, by rw [List.length_append]; simp; omega, ?_, ?_, hB9, hA2.snoc hL9 (by omega) hw2 (by omega)⟩
  · rw [List.map_append, hsnd, List.take_add_one, List.getElem?_map, hx]
    rfl
  · have e : ts.length - k = (ts.length - (k + 1)) + 1 := by omega
    rw [e, List.replicate_succ, List.set_append_right _ _ (by rw [List.length_map]; omega), List.length_map, hlen, Nat.sub_self, List.set_cons_zero] at h9
    rw [List.map_append, List.append_assoc]
    exact h9
end Go.Proofs.Ytdciohinlhbliaa
