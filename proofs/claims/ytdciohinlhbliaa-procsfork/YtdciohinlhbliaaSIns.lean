
/-
  One entry more, in its place: inserted ahead of the first greater name, or appended and sorted: the same.
-/
import Derived.Test.YtdciohinlhbliaaSSortW
namespace Go.Proofs.Ytdciohinlhbliaa
open Go.RowKit
def insE (x : Sp.Ent) : List Sp.Ent → List Sp.Ent
  | [] => [x]
  | e :: t => if 0 < cmpE e x then x :: e :: t else e :: insE x t
/-- Entries rise by names. -/
def Rising (es : List Sp.Ent) : Prop := es.Pairwise fun a b => cmpE a b < 0
theorem insE_perm (x : Sp.Ent) : ∀ es : List Sp.Ent, (insE x es).Perm (es ++ [x])
  | [] => List.Perm.refl _
  | e :: t => by
    unfold insE
    split
    · exact (List.perm_append_comm (l₁ := [x]) (l₂ := e :: t))
    · exact (insE_perm x t).cons e
theorem insE_rising (x : Sp.Ent) : ∀ es : List Sp.Ent, Rising es → (∀ e ∈ es, cmpE e x ≠ 0) → Rising (insE x es)
  | [], _, _ => List.pairwise_singleton _ _
  | e :: t, h, hx => by
    unfold insE
    have hr := List.pairwise_cons.1 h
    have ha := cb_anti e.name.data.toList x.name.data.toList
    split
    · rename_i hg
      refine List.pairwise_cons.2 ⟨fun b hb => ?_, h⟩
      have hxe : cmpE x e < 0 := by unfold cmpE at hg ⊢; omega
      rcases List.mem_cons.1 hb with rfl | hb
      · exact hxe
      · exact cb_trans _ _ _ hxe (hr.1 b hb)
    · rename_i hg
      have hex : cmpE e x < 0 := by have := hx e List.mem_cons_self; omega
      refine List.pairwise_cons.2 ⟨fun b hb => ?_, insE_rising x t hr.2 fun e' he' => hx e' (List.mem_cons_of_mem _ he')⟩
      have hb' := (insE_perm x t).mem_iff.1 hb
      rcases List.mem_append.1 hb' with h1 | h1
      · exact hr.1 b h1
      · have : b = x := by simpa using h1
        rw [this]; exact hex
theorem sorted_ins [Inhabited Sp.Ent] (x : Sp.Ent) (es : List Sp.Ent) (h : Rising es) (hx : ∀ e ∈ es, cmpE e x ≠ 0) : sorted (es ++ [x]) = insE x es := by
  obtain ⟨_, h2, h3⟩ := sorted_perm (es ++ [x])
  have hr := insE_rising x es h hx
  refine List.Perm.eq_of_pairwise (le := fun a b => ¬ cmpE b a < 0) ?_ h3 ?_ (h2.trans (insE_perm x es).symm)
  · intro a b _ _ hab hba
    have hma : a ∈ insE x es := (insE_perm x es).mem_iff.2 (h2.mem_iff.1 (by assumption))
    have hmb : b ∈ insE x es := by assumption
    have ha := cb_anti a.name.data.toList b.name.data.toList
    obtain ⟨i, hi, rfl⟩ := List.getElem_of_mem hma
    obtain ⟨j, hj, rfl⟩ := List.getElem_of_mem hmb
    rcases Nat.lt_trichotomy i j with hij | hij | hij
    · exact absurd (List.pairwise_iff_getElem.1 hr i j hi hj hij) hba
    · subst hij; rfl
    · exact absurd (List.pairwise_iff_getElem.1 hr j i hj hi hij) hab
  · refine List.Pairwise.imp ?_ hr
    intro a b hab hba
    have ha := cb_anti a.name.data.toList b.name.data.toList
    unfold cmpE at hab hba
    omega
/-- What is left to be laid down, of these entries, when x is (not) there yet. -/
def insRest (x : Sp.Ent) (done : Bool) (es : List Sp.Ent) : List Sp.Ent := if done = true then es else insE x es
theorem insRest_done (x : Sp.Ent) (es : List Sp.Ent) (q : Nat) (e : Sp.Ent) (hq : es[q]? = some e) : insRest x true (es.drop q) = e :: insRest x true (es.drop (q + 1)) := by
  obtain ⟨hk, rfl⟩ := List.getElem?_eq_some_iff.1 hq
  unfold insRest
  rw [if_pos rfl, if_pos rfl, List.drop_eq_getElem_cons hk]
theorem insRest_now (x : Sp.Ent) (es : List Sp.Ent) (q : Nat) (e : Sp.Ent) (hq : es[q]? = some e) (hg : 0 < cmpE e x) : insRest x false (es.drop q) = x :: e :: insRest x true (es.drop (q + 1)) := by
  obtain ⟨hk, rfl⟩ := List.getElem?_eq_some_iff.1 hq
  unfold insRest
  rw [if_neg (by simp), if_pos rfl, List.drop_eq_getElem_cons hk, insE, if_pos hg]
theorem insRest_on (x : Sp.Ent) (es : List Sp.Ent) (q : Nat) (e : Sp.Ent) (hq : es[q]? = some e) (hg : ¬ 0 < cmpE e x) : insRest x false (es.drop q) = e :: insRest x false (es.drop (q + 1)) := by
  obtain ⟨hk, rfl⟩ := List.getElem?_eq_some_iff.1 hq
  unfold insRest
  rw [if_neg (by simp), if_neg (by simp), List.drop_eq_getElem_cons hk, insE, if_neg hg]
theorem cmpE_name {a b : Sp.Ent} (h : cmpE a b = 0) : a.name = b.name := by
  have := cb_eq _ _ h
  have h2 : a.name.data = b.name.data := Array.toList_inj.1 this
  cases ha : a.name; cases hb : b.name
  rw [ha, hb] at h2
  exact congrArg ByteArray.mk h2
theorem eqB_iff (a b : ByteArray) : Sp.eqB a b = true ↔ a = b := by
  unfold Sp.eqB
  rw [ByteArray.toList_eq, ByteArray.toList_eq, beq_iff_eq]
  constructor
  · intro h
    have h2 : a.data = b.data := Array.toList_inj.1 h
    cases a; cases b
    exact congrArg ByteArray.mk h2
  · rintro rfl; rfl
/-- Without that name among them none is its like. -/
theorem place_none {es : List Sp.Ent} {name : ByteArray} (h : Sp.place es name = -1) (o : Int) : ∀ e ∈ es, cmpE e ⟨name, o⟩ ≠ 0 := by
  intro e he hc
  have hn := cmpE_name hc
  rcases place_cases name es with ⟨_, h2⟩ | ⟨j, y, h1, _⟩
  · have := List.find?_eq_none.1 h2 e he
    exact this ((eqB_iff _ _).2 hn)
  · rw [h1] at h; omega
end Go.Proofs.Ytdciohinlhbliaa
