
/-
  store.noDir, store.Find, walked.
-/
import Derived.Test.YtfiiandnopifnaaDoorSWalkF
namespace Go.Proofs.YtfiiandnopifnaaDoor
open Go.RowKit
theorem objAt_some {L : List Sp.Ob} {k : Int} {o : Sp.Ob} (h : Sp.objAt L k = some o) : ∃ n : Nat, k = n ∧ L[n]? = some o ∧ o.kind ≠ 0 := by
  by_cases h0 : 0 ≤ k
  · obtain ⟨n, rfl⟩ := Int.eq_ofNat_of_zero_le h0
    rw [objAt_nat] at h
    obtain ⟨h1, h2⟩ := Option.filter_eq_some_iff.1 h
    exact ⟨n, rfl, h1, by simpa using h2⟩
  · rw [objAt_neg h0] at h; cases h
theorem objAt_of {L : List Sp.Ob} {n : Nat} {o : Sp.Ob} (h : L[n]? = some o) (hk : o.kind ≠ 0) : Sp.objAt L (n : Int) = some o := by
  rw [objAt_nat, h]
  exact Option.filter_eq_some_iff.2 ⟨rfl, by simpa using hk⟩
theorem noDir_any (L : List Sp.Ob) (k : Int) (v : Value) (S : Nat → Prop) (w : World) (hv : Objs w S v L) :
    Calls Tryd.prog 40 #[v, .int .i64 k] w fun e w' => e = .returned (.int .i64 (Sp.noDir L k)) ∧ w' = w := by
  have HI : Hid (Calls Tryd.prog 44 #[v, .int .i64 k] w fun e w' => e = .returned (.bool (Sp.objAt L k).isSome) ∧ w' = w) := isObject_any L k v S w hv
  cases ho : Sp.objAt L k with
  | none =>
    rw [ho] at HI
    have HN : Hid (Sp.noDir L k = 6) := by unfold Hid Sp.noDir; rw [ho]
    rw [HN.out]
    obtain ⟨a, c, rfl, -⟩ := hv.form
    clear hv ho HN
    go_enter Tryd.func40, Tryd.ntmps40
    go_wp2_with fail
    refine Calls.mono HI.out ?_
    rintro e w2 ⟨rfl, hw⟩
    rw [hw]
    clear hw
    rw [Option.isSome_none]
    go_wp2
    go_ret
    exact ⟨rfl, rfl⟩
  | some o =>
    rw [ho] at HI
    obtain ⟨n, rfl, hx, hk⟩ := objAt_some ho
    have HN : Hid (Sp.noDir L n = if o.kind = 2 then 0 else 11) := by unfold Hid Sp.noDir; rw [ho]
    have hlt := (List.getElem?_eq_some_iff.1 hx).1
    rw [HN.out]
    obtain ⟨b, of, c, s, rfl, hb, hc, hm, -, c0, -⟩ := hv.open hx
    unfold maxLen at hm
    clear hv ho HN hx
    by_cases h2 : o.kind = 2
    · rw [if_pos h2]
      rw [h2] at c0
      go_enter Tryd.func40, Tryd.ntmps40
      go_wp2_with fail
      refine Calls.mono HI.out ?_
      rintro e w2 ⟨rfl, hw⟩
      rw [hw]
      clear hw
      rw [Option.isSome_some]
      go_wp2
      go_ret
      exact ⟨rfl, rfl⟩
    · rw [if_neg h2]
      have h2' : (o.kind != 2) = true := by simpa using h2
      clear h2
      go_enter Tryd.func40, Tryd.ntmps40
      go_wp2_with fail
      refine Calls.mono HI.out ?_
      rintro e w2 ⟨rfl, hw⟩
      rw [hw]
      clear hw
      rw [Option.isSome_some]
      go_wp2
      go_ret
      exact ⟨rfl, rfl⟩
theorem placeFrom_cases (name : ByteArray) : ∀ (es : List Sp.Ent) (k : Nat), (Sp.placeFrom name es k = -1 ∧ es.find? (fun e => Sp.eqB e.name name) = none) ∨ ∃ (j : Nat) (x : Sp.Ent), Sp.placeFrom name es k = ((k + j : Nat) : Int) ∧ es[j]? = some x ∧ es.find? (fun e => Sp.eqB e.name name) = some x ∧ Sp.eqB x.name name = true ∧ ∀ i, i < j → ∀ y, es[i]? = some y → Sp.eqB y.name name = false
  | [], k => Or.inl ⟨rfl, rfl⟩
  | e :: t, k => by
    unfold Sp.placeFrom
    by_cases h : Sp.eqB e.name name = true
    · rw [if_pos h]
      exact Or.inr ⟨0, e, rfl, rfl, by simp [h], h, fun i hi => by omega⟩
    · rw [if_neg h]
      have h' : Sp.eqB e.name name = false := by simpa using h
      rcases placeFrom_cases name t (k + 1) with ⟨h1, h2⟩ | ⟨j, x, h1, h2, h3, h4, h5⟩
      · exact Or.inl ⟨h1, by simp only [List.find?_cons, h']; exact h2⟩
      · refine Or.inr ⟨j + 1, x, by rw [h1]; congr 1; omega, by simpa using h2, by simp only [List.find?_cons, h']; exact h3, h4, fun i hi y hy => ?_⟩
        match i, hi, hy with
        | 0, _, hy => simp at hy; subst hy; simpa using h
        | i + 1, hi, hy => exact h5 i (by omega) y (by simpa using hy)
theorem place_cases (name : ByteArray) (es : List Sp.Ent) : (Sp.place es name = -1 ∧ es.find? (fun e => Sp.eqB e.name name) = none) ∨ ∃ (j : Nat) (x : Sp.Ent), Sp.place es name = (j : Int) ∧ es[j]? = some x ∧ es.find? (fun e => Sp.eqB e.name name) = some x ∧ Sp.eqB x.name name = true ∧ ∀ i, i < j → ∀ y, es[i]? = some y → Sp.eqB y.name name = false := by
  rcases placeFrom_cases name es 0 with h | ⟨j, x, h1, h2⟩
  · exact Or.inl h
  · exact Or.inr ⟨j, x, by unfold Sp.place; rw [h1]; congr 1; omega, h2⟩
theorem noDir_ne {L : List Sp.Ob} {k : Int} (h : Sp.noDir L k ≠ 0) (name : ByteArray) : Sp.find L k name = -1 := by
  unfold Sp.noDir at h
  unfold Sp.find
  cases ho : Sp.objAt L k with
  | none => rfl
  | some o => rw [ho] at h; dsimp only at h ⊢; split at h <;> simp_all
theorem noDir_zero {L : List Sp.Ob} {k : Int} (h : Sp.noDir L k = 0) : ∃ (n : Nat) (o : Sp.Ob), k = n ∧ L[n]? = some o ∧ o.kind = 2 ∧ Sp.objAt L k = some o := by
  unfold Sp.noDir at h
  cases ho : Sp.objAt L k with
  | none => rw [ho] at h; simp at h
  | some o =>
    rw [ho] at h
    obtain ⟨n, rfl, hx, hk⟩ := objAt_some ho
    refine ⟨n, o, rfl, hx, ?_, rfl⟩
    dsimp only at h
    split at h
    · assumption
    · simp at h
set_option maxHeartbeats 1000000 in
theorem find_any (L : List Sp.Ob) (k : Int) (name : ByteArray) (v : Value) (S : Nat → Prop) (w : World) (hv : Objs w S v L) (hS : ∀ b, S b → b < w.heap.size) :
    Calls Tryd.prog 35 #[v, .int .i64 k, .string name] w fun e w' => e = .returned (.int .i64 (Sp.find L k name)) ∧ Below w.heap.size w w' := by
  have HD : Hid (Calls Tryd.prog 40 #[v, .int .i64 k] w fun e w' => e = .returned (.int .i64 (Sp.noDir L k)) ∧ w' = w) := noDir_any L k v S w hv
  have HS : Hid (∀ b, S b → b < w.heap.size) := hS
  clear hS
  by_cases h : Sp.noDir L k = 0
  · obtain ⟨n, o, rfl, hx, hk, ho⟩ := noDir_zero h
    have hlt := (List.getElem?_eq_some_iff.1 hx).1
    rw [h] at HD
    have HV : Hid _ := hv
    obtain ⟨b, of, c, s, rfl, hb, hc, hm, hl, c0, c1, c2, -⟩ := hv.open hx
    have hbw := HS.out b hb
    unfold maxLen at hm
    have HE : Hid (Ents w S (.slice s.e.a s.e.n s.e.c) o.ents) := hl.2.1
    have HF : Hid (Sp.find L n name = match o.ents.find? (fun e => Sp.eqB e.name name) with | none => -1 | some e => e.obj) := by unfold Hid Sp.find; rw [ho]; dsimp only; rw [if_pos hk]; rfl
    clear hv hl ho h hx
    rcases place_cases name o.ents with ⟨p1, p2⟩ | ⟨j, x, p1, p2, p3, p4, -⟩
    · rw [p2] at HF
      rw [HF.out]
      have HP : Hid _ := p1
      clear p1 p2 HF
      go_enter Tryd.func35, Tryd.ntmps35
      go_wp2_with fail
      refine Calls.mono HD.out ?_
      rintro e w2 ⟨rfl, hw⟩
      rw [hw]
      clear hw
      go_wp2_with fail
      refine (place_any o.ents name _ S _ HE.out HS.out).mono ?_
      rintro e w3 ⟨rfl, hb3⟩
      rw [HP.out]
      go_wp2
      go_ret
      exact ⟨rfl, hb3⟩
    · rw [p3] at HF
      rw [HF.out]
      have HP : Hid _ := p1
      have hj := (List.getElem?_eq_some_iff.1 p2).1
      have HX : Hid _ := p2
      obtain ⟨eb, eo, ec, he, hSb, h3, h4, h5⟩ := Row.some HE.out (by rw [List.length_map]; omega)
      obtain ⟨d0, d1⟩ := ent_cells h5 p2
      rw [List.length_map] at he h3
      have hebw := HS.out eb hSb
      rw [he] at c2 HE
      unfold maxLen at h4
      clear p1 p2 p3 p4 HF h5 he
      go_enter Tryd.func35, Tryd.ntmps35
      go_wp2_with fail
      refine Calls.mono HD.out ?_
      rintro e w2 ⟨rfl, hw⟩
      rw [hw]
      clear hw
      go_wp2_with fail
      refine (place_any o.ents name _ S _ HE.out HS.out).mono ?_
      rintro e w3 ⟨rfl, hb3⟩
      rw [HP.out]
      obtain ⟨hcc, -⟩ := bcell hb3
      go_wp2
      go_ret
      exact ⟨rfl, hb3⟩
  · rw [noDir_ne h]
    have h' : (Sp.noDir L k != 0) = true := by simpa using h
    obtain ⟨a, c, rfl, -⟩ := hv.form
    clear hv h
    generalize Sp.noDir L k = nd at *
    go_enter Tryd.func35, Tryd.ntmps35
    go_wp2_with fail
    refine Calls.mono HD.out ?_
    rintro e w2 ⟨rfl, hw⟩
    rw [hw]
    clear hw
    go_wp2
    go_ret
    exact ⟨rfl, Below.refl _ _⟩
end Go.Proofs.YtfiiandnopifnaaDoor
