/-
  store.noEnter, walked.
-/
import Derived.Test.YtaobjpajbpoamaaSWalkL
namespace Go.Proofs.Ytaobjpajbpoamaa
open Go.RowKit
set_option maxHeartbeats 2000000 in
theorem noEnter_any (L : List Sp.Ob) (dir : Int) (name : ByteArray) (obj : Int) (v : Value) (S : Nat → Prop) (w : World) (hv : Objs w S v L) (hS : ∀ b, S b → b < w.heap.size) (hs : name.size ≤ maxLen) :
    Calls Try.prog 50 #[v, .int .i64 dir, .string name, .int .i64 obj] w fun e w' => e = .returned (.int .i64 (Sp.noEnter L dir name obj)) ∧ Below w.heap.size w w' := by
  have HI : Hid (Calls Try.prog 72 #[v, .int .i64 obj] w fun e w' => e = .returned (.bool (Sp.objAt L obj).isSome) ∧ w' = w) := isObject_any L obj v S w hv
  have HD : Hid (Calls Try.prog 45 #[v, .int .i64 dir] w fun e w' => e = .returned (.int .i64 (Sp.noDir L dir)) ∧ w' = w) := noDir_any L dir v S w hv
  have HN : Hid (∀ W, Calls Try.prog 75 #[.string name] W fun e w' => e = .returned (.bool (Pt.isName name.data.toList)) ∧ w' = W) := fun W => name_any name hs W
  have HS : Hid (∀ b, S b → b < w.heap.size) := hS
  clear hs hS
  unfold Sp.noEnter
  cases hob : (Sp.objAt L obj).isSome with
  | false =>
    rw [hob] at HI
    rw [if_pos rfl]
    obtain ⟨a, c, rfl, -⟩ := hv.form
    clear hv HD hob
    go_enter Try.func50, Try.ntmps50
    go_wp2_with fail
    refine Calls.mono HI.out ?_
    rintro e w2 ⟨rfl, hw⟩
    rw [hw]
    clear hw
    go_wp2
    go_ret
    exact ⟨rfl, Below.refl _ _⟩
  | true =>
    rw [hob] at HI
    rw [if_neg (by simp)]
    clear hob
    by_cases hd : Sp.noDir L dir = 0
    · rw [if_neg (by simpa using hd)]
      obtain ⟨n, o, rfl, hx, hk, ho⟩ := noDir_zero hd
      have hlt := (List.getElem?_eq_some_iff.1 hx).1
      rw [hd] at HD
      rw [ho]
      dsimp only
      obtain ⟨b, of, c, s, rfl, hb, hc, hm, hl, c0, c1, c2, c3, c4, c5, c6, c7, c8⟩ := hv.open hx
      have HE : Hid (Ents w S (.slice s.e.a s.e.n s.e.c) o.ents) := hl.2.1
      have hen := Row.eqNil hl.2.1
      rw [List.length_map] at hen
      have HP : Hid (∀ W, Below w.heap.size w W → Calls Try.prog 46 #[.slice s.e.a s.e.n s.e.c, .string name] W fun e w' => e = .returned (.int .i64 (Sp.place o.ents name)) ∧ Below W.heap.size W w') := fun W hW => place_any o.ents name _ S W (Row.on HE.out ((On.of hW).less HS.out)) (fun b hb => Nat.lt_of_lt_of_le (HS.out b hb) hW.size)
      have hbw := HS.out b hb
      unfold maxLen at hm
      clear hv hl ho hd hx hb HE
      obtain ⟨⟨da, dn, dc⟩, ⟨ea, en, ec⟩, ⟨qa, qn, qc⟩⟩ := s
      dsimp only at hen c1 c2 c5 HP
      subst hen
      by_cases hlk : o.links < 1
      · rw [if_pos hlk]
        go_enter Try.func50, Try.ntmps50
        go_wp2_with fail
        refine Calls.mono HI.out ?_
        rintro e w2 ⟨rfl, hw⟩
        rw [hw]
        clear hw
        go_wp2_with fail
        refine Calls.mono HD.out ?_
        rintro e w2 ⟨rfl, hw⟩
        rw [hw]
        clear hw
        go_wp2
        go_ret
        exact ⟨rfl, (Below.refl _ _).alloc (Nat.le_refl _) _⟩
      · rw [if_neg hlk]
        cases hnm : Pt.isName name.data.toList with
        | false =>
          rw [if_pos rfl]
          rw [hnm] at HN
          clear hnm
          go_enter Try.func50, Try.ntmps50
          go_wp2_with fail
          refine Calls.mono HI.out ?_
          rintro e w2 ⟨rfl, hw⟩
          rw [hw]
          clear hw
          go_wp2_with fail
          refine Calls.mono HD.out ?_
          rintro e w2 ⟨rfl, hw⟩
          rw [hw]
          clear hw
          go_wp2_with fail
          refine Calls.mono (HN.out _) ?_
          rintro e w2 ⟨rfl, hw⟩
          rw [hw]
          clear hw
          go_wp2
          go_ret
          exact ⟨rfl, (Below.refl _ _).alloc (Nat.le_refl _) _⟩
        | true =>
          rw [if_neg (by simp)]
          rw [hnm] at HN
          clear hnm
          generalize Sp.place o.ents name = pl at *
          by_cases hpl : 0 ≤ pl
          · rw [if_pos hpl]
            go_enter Try.func50, Try.ntmps50
            go_wp2_with fail
            refine Calls.mono HI.out ?_
            rintro e w2 ⟨rfl, hw⟩
            rw [hw]
            clear hw
            go_wp2_with fail
            refine Calls.mono HD.out ?_
            rintro e w2 ⟨rfl, hw⟩
            rw [hw]
            clear hw
            go_wp2_with fail
            refine Calls.mono (HN.out _) ?_
            rintro e w2 ⟨rfl, hw⟩
            rw [hw]
            clear hw
            go_wp2_with fail
            refine Calls.mono (HP.out _ ((Below.refl _ _).alloc (Nat.le_refl _) _)) ?_
            rintro e w3 ⟨rfl, hb3⟩
            go_wp2
            go_ret
            exact ⟨rfl, ((Below.refl _ _).alloc (Nat.le_refl _) _).trans (hb3.mono (by simp))⟩
          · rw [if_neg hpl]
            by_cases h8 : 8 ≤ o.ents.length
            · rw [if_pos h8]
              go_enter Try.func50, Try.ntmps50
              go_wp2_with fail
              refine Calls.mono HI.out ?_
              rintro e w2 ⟨rfl, hw⟩
              rw [hw]
              clear hw
              go_wp2_with fail
              refine Calls.mono HD.out ?_
              rintro e w2 ⟨rfl, hw⟩
              rw [hw]
              clear hw
              go_wp2_with fail
              refine Calls.mono (HN.out _) ?_
              rintro e w2 ⟨rfl, hw⟩
              rw [hw]
              clear hw
              go_wp2_with fail
              refine Calls.mono (HP.out _ ((Below.refl _ _).alloc (Nat.le_refl _) _)) ?_
              rintro e w3 ⟨rfl, hb3⟩
              obtain ⟨hcc, -⟩ := bcell hb3
              go_wp2
              go_ret
              exact ⟨rfl, ((Below.refl _ _).alloc (Nat.le_refl _) _).trans (hb3.mono (by simp))⟩
            · rw [if_neg h8]
              go_enter Try.func50, Try.ntmps50
              go_wp2_with fail
              refine Calls.mono HI.out ?_
              rintro e w2 ⟨rfl, hw⟩
              rw [hw]
              clear hw
              go_wp2_with fail
              refine Calls.mono HD.out ?_
              rintro e w2 ⟨rfl, hw⟩
              rw [hw]
              clear hw
              go_wp2_with fail
              refine Calls.mono (HN.out _) ?_
              rintro e w2 ⟨rfl, hw⟩
              rw [hw]
              clear hw
              go_wp2_with fail
              refine Calls.mono (HP.out _ ((Below.refl _ _).alloc (Nat.le_refl _) _)) ?_
              rintro e w3 ⟨rfl, hb3⟩
              obtain ⟨hcc, -⟩ := bcell hb3
              go_wp2
              go_ret
              exact ⟨rfl, ((Below.refl _ _).alloc (Nat.le_refl _) _).trans (hb3.mono (by simp))⟩
    · rw [if_pos hd]
      have hd' : (Sp.noDir L dir != 0) = true := by simpa using hd
      obtain ⟨a, c, rfl, -⟩ := hv.form
      clear hv hd
      generalize Sp.noDir L dir = nd at *
      go_enter Try.func50, Try.ntmps50
      go_wp2_with fail
      refine Calls.mono HI.out ?_
      rintro e w2 ⟨rfl, hw⟩
      rw [hw]
      clear hw
      go_wp2_with fail
      refine Calls.mono HD.out ?_
      rintro e w2 ⟨rfl, hw⟩
      rw [hw]
      clear hw
      go_wp2
      go_ret
      exact ⟨rfl, Below.refl _ _⟩
end Go.Proofs.Ytaobjpajbpoamaa
