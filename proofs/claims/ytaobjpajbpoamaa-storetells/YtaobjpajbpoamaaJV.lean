import Derived.Test.YtaobjpajbpoamaaREntErr
import Derived.Test.YtaobjpajbpoamaaBPlain
import Derived.Test.YtaobjpajbpoamaaREnter
import Derived.Test.YtaobjpajbpoamaaSWalkH
import Derived.Test.YtaobjpajbpoamaaRPut
import Derived.Test.YtaobjpajbpoamaaSAppend
import Derived.Test.YtaobjpajbpoamaaSWalkJ
import Derived.Test.YtaobjpajbpoamaaJT
import Derived.Test.YtaobjpajbpoamaaSRemove
import Derived.Test.YtaobjpajbpoamaaSNames
import Derived.Test.YtaobjpajbpoamaaSAlive
import Derived.Deep.RegionHeld3
/-
  rgref5.Enter and rgref5.Remove, refused.
-/
namespace Go.Proofs.Ytaobjpajbpoamaa
open Go.RowKit
theorem is_zero (L : List Sp.Ob) (k : Int) : Sp.is L k 0 = (Sp.objAt L k).isSome := by
  unfold Sp.is
  cases Sp.objAt L k <;> rfl
theorem ris_any (L : List Sp.Ob) (k : Int) (v : Value) (S : Nat → Prop) (w : World) (hv : Objs w S v L) :
    Calls Try.prog 47 #[v, .int .i64 k, .int .i64 0] w fun e w' => e = .returned (.bool (Sp.objAt L k).isSome) ∧ w' = w := by
  have := is_any L k 0 v S w hv
  rw [is_zero] at this
  exact this
theorem noEnter_some {L : List Sp.Ob} {dir obj : Int} {name : ByteArray} {od oj : Sp.Ob} (h1 : Sp.objAt L dir = some od) (h2 : Sp.objAt L obj = some oj) : Sp.noEnter L dir name obj = if od.kind ≠ 2 then 11 else if od.links < 1 then 6 else if Pt.isName name.data.toList = false then 7 else if 0 ≤ Sp.place od.ents name then 7 else if 8 ≤ od.ents.length then 15 else 0 := by
  unfold Sp.noEnter
  rw [if_neg (by rw [h2]; simp), h1]
  have e : Sp.noDir L dir = if od.kind = 2 then 0 else 11 := by unfold Sp.noDir; rw [h1]
  rw [e]
  by_cases hk : od.kind = 2
  · rw [if_pos hk, if_neg (by decide), if_neg (by omega)]
  · rw [if_neg hk, if_pos (by decide), if_pos hk]
theorem noEnter_dir {L : List Sp.Ob} {dir obj : Int} {name : ByteArray} (h1 : Sp.objAt L dir = none) : Sp.noEnter L dir name obj = 6 := by
  unfold Sp.noEnter
  have e : Sp.noDir L dir = 6 := by unfold Sp.noDir; rw [h1]
  split
  · rfl
  · rw [e, if_pos (by decide)]
theorem noEnter_obj {L : List Sp.Ob} {dir obj : Int} {name : ByteArray} (h1 : Sp.objAt L obj = none) : Sp.noEnter L dir name obj = 6 := by
  unfold Sp.noEnter
  rw [h1]
  rfl
theorem find_of_place {L : List Sp.Ob} (hT : Sp.TOk L) {d : Nat} {od : Sp.Ob} (hd : L[d]? = some od) (hk : od.kind = 2) (name : ByteArray) : (0 ≤ Sp.place od.ents name ↔ 0 ≤ Sp.find L d name) := by
  have e : Sp.find L d name = match od.ents.find? (fun e => Sp.eqB e.name name) with | none => -1 | some e => e.obj := by
    unfold Sp.find
    rw [objAt_of hd (by omega)]
    dsimp only
    rw [if_pos hk]
    rfl
  rcases place_cases name od.ents with ⟨h1, h2⟩ | ⟨j, x, h1, h2, h3, -, -⟩
  · rw [e, h1, h2]
  · rw [e, h1, h3]
    obtain ⟨k, ok, hk', -⟩ := (hT.all _ _ hd).leads x (List.mem_of_getElem? h2)
    constructor
    · intro _; show 0 ≤ x.obj; omega
    · intro _; omega
set_option maxRecDepth 100000 in
set_option maxHeartbeats 4000000 in
/-- rgref5.Enter: whatever is refused. -/
theorem renter_refused (L : List Sp.Ob) (dir obj : Int) (name : ByteArray) (v : Value) (S : Nat → Prop) (w : World) (hT : Sp.TOk L) (hv : Objs w S v L) (hS : ∀ b, S b → b < w.heap.size) (hs : name.size ≤ maxLen) (h0 : Sp.noEnter L dir name obj ≠ 0) :
    Calls Try.prog 17 #[v, .int .i64 dir, .string name, .int .i64 obj] w fun e w' => e = .returned (.tuple #[.slice none 0 0, .int .i64 (Sp.noEnter L dir name obj)]) ∧ Below w.heap.size w w' := by
  have HI1 : Hid (Calls Try.prog 47 #[v, .int .i64 dir, .int .i64 0] w fun e w' => e = .returned (.bool (Sp.objAt L dir).isSome) ∧ w' = w) := ris_any L dir v S w hv
  have HI2 : Hid (Calls Try.prog 47 #[v, .int .i64 obj, .int .i64 0] w fun e w' => e = .returned (.bool (Sp.objAt L obj).isSome) ∧ w' = w) := ris_any L obj v S w hv
  have HNM : Hid (Calls Try.prog 55 #[.string name] w fun e w' => e = .returned (.bool (Pt.isName name.data.toList)) ∧ w' = w) := rname_any name hs w
  have HFI : Hid (Calls Try.prog 13 #[v, .int .i64 dir, .string name] w fun e w' => e = .returned (.int .i64 (Sp.find L dir name)) ∧ Below w.heap.size w w') := rfind_any L dir name v S w hv hS
  cases h1 : Sp.objAt L dir with
  | none =>
    rw [noEnter_dir h1]
    rw [h1] at HI1
    have HI1' : Hid (Calls Try.prog 47 #[v, .int .i64 dir, .int .i64 0] w fun e w' => e = .returned (.bool false) ∧ w' = w) := HI1.out
    clear HI1 HI2 HNM HFI hT hv hS hs h0 h1
    go_enter Try.func17, Try.ntmps17
    go_wp2_with fail
    refine Calls.mono HI1'.out ?_
    rintro e w1 ⟨rfl, hw⟩
    rw [hw]
    clear hw HI1'
    go_wp2
    go_ret2
    exact ⟨rfl, Below.refl _ _⟩
  | some od =>
    rw [h1] at HI1
    have HI1' : Hid (Calls Try.prog 47 #[v, .int .i64 dir, .int .i64 0] w fun e w' => e = .returned (.bool true) ∧ w' = w) := HI1.out
    clear HI1
    cases h2 : Sp.objAt L obj with
    | none =>
      rw [noEnter_obj h2]
      rw [h2] at HI2
      have HI2' : Hid (Calls Try.prog 47 #[v, .int .i64 obj, .int .i64 0] w fun e w' => e = .returned (.bool false) ∧ w' = w) := HI2.out
      clear HI2 HNM HFI hT hv hS hs h0 h1 h2
      go_enter Try.func17, Try.ntmps17
      go_wp2_with fail
      refine Calls.mono HI1'.out ?_
      rintro e w1 ⟨rfl, hw⟩
      rw [hw]
      clear hw HI1'
      go_wp2_with fail
      refine Calls.mono HI2'.out ?_
      rintro e w1 ⟨rfl, hw⟩
      rw [hw]
      clear hw HI2'
      go_wp2
      go_ret2
      exact ⟨rfl, Below.refl _ _⟩
    | some oj =>
      rw [h2] at HI2
      have HI2' : Hid (Calls Try.prog 47 #[v, .int .i64 obj, .int .i64 0] w fun e w' => e = .returned (.bool true) ∧ w' = w) := HI2.out
      clear HI2
      rw [noEnter_some h1 h2] at h0 ⊢
      obtain ⟨d, rfl, hd, hkd0⟩ := objAt_some h1
      obtain ⟨j, rfl, hj, hkj⟩ := objAt_some h2
      by_cases hk : od.kind ≠ 2
      · rw [if_pos hk]
        have hdl : d < L.length := (List.getElem?_eq_some_iff.1 hd).1
        obtain ⟨b, of, c, s, rfl, hb, hc, hm, -, k0, -⟩ := hv.open hd
        have hk' : (od.kind != 2) = true := by simpa using hk
        unfold maxLen at hm
        clear HNM HFI hT hv hS hs h0 h1 h2 hk hd hj hkd0 hkj
        go_enter Try.func17, Try.ntmps17
        go_wp2_with fail
        refine Calls.mono HI1'.out ?_
        rintro e w1 ⟨rfl, hw⟩
        rw [hw]
        clear hw HI1'
        go_wp2_with fail
        refine Calls.mono HI2'.out ?_
        rintro e w1 ⟨rfl, hw⟩
        rw [hw]
        clear hw HI2'
        go_wp2
        go_ret2
        exact ⟨rfl, Below.refl _ _⟩
      · have hk2 : od.kind = 2 := by omega
        rw [if_neg hk] at h0 ⊢
        have hlinks := (hT.all _ _ hd).links
        by_cases hl : od.links < 1
        · rw [if_pos hl]
          have hl0 : od.links = 0 := by omega
          have := renter_err L d j name od oj v S w hv hS hs hd hj hk2 hkj (Or.inl hl0)
          rw [if_pos hl0] at this
          exact this
        · rw [if_neg hl] at h0 ⊢
          have hl1 : ¬ od.links = 0 := by omega
          cases hnm : Pt.isName name.data.toList with
          | false =>
            rw [if_pos rfl]
            have hdl : d < L.length := (List.getElem?_eq_some_iff.1 hd).1
            obtain ⟨b, of, c, s, rfl, hb, hc, hm, -, k0, -, -, -, -, -, -, k7, -⟩ := hv.open hd
            rw [hk2] at k0
            have hlz : (od.links == 0) = false := by simpa using hl1
            rw [hnm] at HNM
            unfold maxLen at hm
            clear HFI hT hv hS hs h0 h1 h2 hk hd hj hkd0 hkj hk2 hlinks hl hl1 hnm
            go_enter Try.func17, Try.ntmps17
            go_wp2_with fail
            refine Calls.mono HI1'.out ?_
            rintro e w1 ⟨rfl, hw⟩
            rw [hw]
            clear hw HI1'
            go_wp2_with fail
            refine Calls.mono HI2'.out ?_
            rintro e w1 ⟨rfl, hw⟩
            rw [hw]
            clear hw HI2'
            go_wp2_with fail
            refine Calls.mono HNM.out ?_
            rintro e w1 ⟨rfl, hw⟩
            rw [hw]
            clear hw HNM
            go_wp2
            go_ret2
            exact ⟨rfl, Below.refl _ _⟩
          | true =>
            rw [hnm] at h0
            rw [if_neg (by decide)] at h0 ⊢
            by_cases hp : 0 ≤ Sp.place od.ents name
            · rw [if_pos hp]
              have := renter_err L d j name od oj v S w hv hS hs hd hj hk2 hkj (Or.inr ⟨hnm, (find_of_place hT hd hk2 name).1 hp⟩)
              rw [if_neg hl1] at this
              exact this
            · rw [if_neg hp] at h0 ⊢
              by_cases h8 : 8 ≤ od.ents.length
              · rw [if_pos h8]
                have hfi : Sp.find L d name < 0 := by
                  have h : ¬ 0 ≤ Sp.find L d name := fun h => hp ((find_of_place hT hd hk2 name).2 h)
                  omega
                have hdl : d < L.length := (List.getElem?_eq_some_iff.1 hd).1
                obtain ⟨b, of, c, s, rfl, hb, hc, hm, hl', k0, -, k2, -, -, -, -, k7, -⟩ := hv.open hd
                have hen := Row.eqNil hl'.2.1
                rw [List.length_map] at hen
                rw [hk2] at k0
                rw [hen] at k2
                have hlz : (od.links == 0) = false := by simpa using hl1
                have h8z : (8 : Int) ≤ (od.ents.length : Int) := by omega
                have hbw := hS b hb
                rw [hnm] at HNM
                unfold maxLen at hm
                generalize Sp.find L d name = fi at *
                clear hT hv hS hs h0 h1 h2 hk hd hj hkd0 hkj hk2 hlinks hl hl1 hnm hl' hen hp
                go_enter Try.func17, Try.ntmps17
                go_wp2_with fail
                refine Calls.mono HI1'.out ?_
                rintro e w1 ⟨rfl, hw⟩
                rw [hw]
                clear hw HI1'
                go_wp2_with fail
                refine Calls.mono HI2'.out ?_
                rintro e w1 ⟨rfl, hw⟩
                rw [hw]
                clear hw HI2'
                go_wp2_with fail
                refine Calls.mono HNM.out ?_
                rintro e w1 ⟨rfl, hw⟩
                rw [hw]
                clear hw HNM
                go_wp2_with fail
                refine Calls.mono HFI.out ?_
                rintro e w2 ⟨rfl, hb2⟩
                obtain ⟨hcc, -⟩ := bcell hb2
                have m2 := (hcc b (of + d * 9 + 2) hbw).trans k2
                clear hcc k0 k2 k7
                go_wp2
                go_ret2
                exact ⟨rfl, hb2⟩
              · rw [if_neg h8] at h0
                exact absurd rfl h0
set_option maxRecDepth 100000 in
set_option maxHeartbeats 4000000 in
theorem rremove_nodir (L : List Sp.Ob) (dir : Int) (name : ByteArray) (v : Value) (S : Nat → Prop) (w : World) (hv : Objs w S v L) (h0 : Sp.noDir L dir ≠ 0) :
    Calls Try.prog 19 #[v, .int .i64 dir, .string name] w fun e w' => e = .returned (.tuple #[.slice none 0 0, .int .i64 0, .int .i64 (Sp.noDir L dir)]) ∧ Below w.heap.size w w' := by
  have HI1 : Hid (Calls Try.prog 47 #[v, .int .i64 dir, .int .i64 0] w fun e w' => e = .returned (.bool (Sp.objAt L dir).isSome) ∧ w' = w) := ris_any L dir v S w hv
  cases h1 : Sp.objAt L dir with
  | none =>
    have e : Sp.noDir L dir = 6 := by unfold Sp.noDir; rw [h1]
    rw [e]
    rw [h1] at HI1
    have HI1' : Hid (Calls Try.prog 47 #[v, .int .i64 dir, .int .i64 0] w fun e w' => e = .returned (.bool false) ∧ w' = w) := HI1.out
    clear HI1 hv h0 h1 e
    go_enter Try.func19, Try.ntmps19
    go_wp2_with fail
    refine Calls.mono HI1'.out ?_
    rintro e w1 ⟨rfl, hw⟩
    rw [hw]
    clear hw HI1'
    go_wp2
    go_ret3
    exact ⟨rfl, Below.refl _ _⟩
  | some od =>
    have e : Sp.noDir L dir = if od.kind = 2 then 0 else 11 := by unfold Sp.noDir; rw [h1]
    rw [e] at h0 ⊢
    have hk : ¬ od.kind = 2 := fun h => h0 (if_pos h)
    rw [if_neg hk]
    rw [h1] at HI1
    have HI1' : Hid (Calls Try.prog 47 #[v, .int .i64 dir, .int .i64 0] w fun e w' => e = .returned (.bool true) ∧ w' = w) := HI1.out
    obtain ⟨d, rfl, hd, hkd0⟩ := objAt_some h1
    have hdl : d < L.length := (List.getElem?_eq_some_iff.1 hd).1
    obtain ⟨b, of, c, s, rfl, hb, hc, hm, -, k0, -⟩ := hv.open hd
    have hk' : (od.kind != 2) = true := by simpa using hk
    unfold maxLen at hm
    clear HI1 hv h0 h1 e hk hd hkd0
    go_enter Try.func19, Try.ntmps19
    go_wp2_with fail
    refine Calls.mono HI1'.out ?_
    rintro e w1 ⟨rfl, hw⟩
    rw [hw]
    clear hw HI1'
    go_wp2
    go_ret3
    exact ⟨rfl, Below.refl _ _⟩
set_option maxRecDepth 100000 in
set_option maxHeartbeats 4000000 in
theorem rremove_none (L : List Sp.Ob) (d : Nat) (name : ByteArray) (od : Sp.Ob) (v : Value) (S : Nat → Prop) (w : World) (hv : Objs w S v L) (hS : ∀ b, S b → b < w.heap.size) (hd : L[d]? = some od) (hk : od.kind = 2) (hf : Sp.find L d name < 0) :
    Calls Try.prog 19 #[v, .int .i64 d, .string name] w fun e w' => e = .returned (.tuple #[.slice none 0 0, .int .i64 0, .int .i64 6]) ∧ Below w.heap.size w w' := by
  have HI1 : Hid (Calls Try.prog 47 #[v, .int .i64 d, .int .i64 0] w fun e w' => e = .returned (.bool true) ∧ w' = w) := by have := ris_any L d v S w hv; rw [objAt_of hd (by omega)] at this; exact this
  have HFI : Hid (Calls Try.prog 13 #[v, .int .i64 d, .string name] w fun e w' => e = .returned (.int .i64 (Sp.find L d name)) ∧ Below w.heap.size w w') := rfind_any L d name v S w hv hS
  have hdl : d < L.length := (List.getElem?_eq_some_iff.1 hd).1
  obtain ⟨b, of, c, s, rfl, hb, hc, hm, -, k0, -⟩ := hv.open hd
  rw [hk] at k0
  unfold maxLen at hm
  generalize Sp.find L d name = fi at *
  clear hv hS hd hk
  go_enter Try.func19, Try.ntmps19
  go_wp2_with fail
  refine Calls.mono HI1.out ?_
  rintro e w1 ⟨rfl, hw⟩
  rw [hw]
  clear hw HI1
  go_wp2_with fail
  refine Calls.mono HFI.out ?_
  rintro e w2 ⟨rfl, hb2⟩
  go_wp2
  go_ret3
  exact ⟨rfl, hb2⟩
set_option maxRecDepth 100000 in
set_option maxHeartbeats 4000000 in
theorem rremove_full (L : List Sp.Ob) (d j : Nat) (name : ByteArray) (od oj : Sp.Ob) (v : Value) (S : Nat → Prop) (w : World) (hv : Objs w S v L) (hS : ∀ b, S b → b < w.heap.size) (hd : L[d]? = some od) (hk : od.kind = 2) (hf : Sp.find L d name = (j : Int)) (hj : L[j]? = some oj) (hkj : oj.kind = 2) (he : oj.ents ≠ []) :
    Calls Try.prog 19 #[v, .int .i64 d, .string name] w fun e w' => e = .returned (.tuple #[.slice none 0 0, .int .i64 0, .int .i64 18]) ∧ Below w.heap.size w w' := by
  have HI1 : Hid (Calls Try.prog 47 #[v, .int .i64 d, .int .i64 0] w fun e w' => e = .returned (.bool true) ∧ w' = w) := by have := ris_any L d v S w hv; rw [objAt_of hd (by omega)] at this; exact this
  have HFI : Hid (Calls Try.prog 13 #[v, .int .i64 d, .string name] w fun e w' => e = .returned (.int .i64 (j : Int)) ∧ Below w.heap.size w w') := by have := rfind_any L d name v S w hv hS; rw [hf] at this; exact this
  have hdl : d < L.length := (List.getElem?_eq_some_iff.1 hd).1
  have hjl : j < L.length := (List.getElem?_eq_some_iff.1 hj).1
  obtain ⟨b, of, c, s, rfl, hb, hc, hm, -, k0, -⟩ := hv.open hd
  obtain ⟨bj, oj', cj, sj, hvj, -, -, -, hlj, z0, -, z2, -⟩ := hv.open hj
  have ebj := (Value.slice.inj hvj).1
  cases ebj
  have hejn := Row.eqNil hlj.2.1
  rw [List.length_map] at hejn
  rw [hejn] at z2
  rw [hk] at k0
  rw [hkj] at z0
  have hbw := hS b hb
  have hpos : (0 : Int) < (oj.ents.length : Int) := by
    have := List.length_pos_iff.2 he
    omega
  unfold maxLen at hm
  clear hv hS hd hk hf hj hkj he hvj hlj hejn
  go_enter Try.func19, Try.ntmps19
  go_wp2_with fail
  refine Calls.mono HI1.out ?_
  rintro e w1 ⟨rfl, hw⟩
  rw [hw]
  clear hw HI1
  go_wp2_with fail
  refine Calls.mono HFI.out ?_
  rintro e w2 ⟨rfl, hb2⟩
  obtain ⟨hcc, -⟩ := bcell hb2
  have y0 := (hcc b (of + j * 9) hbw).trans z0
  have y2 := (hcc b (of + j * 9 + 2) hbw).trans z2
  clear hcc k0 z0 z2
  go_wp2
  go_ret3
  exact ⟨rfl, hb2⟩
end Go.Proofs.Ytaobjpajbpoamaa
/-
  rgref5.Remove, walked.
-/
namespace Go.Proofs.Ytaobjpajbpoamaa
open Go.RowKit
/-- All that have not that name. -/
def rmE (name : ByteArray) (es : List Sp.Ent) : List Sp.Ent := es.filter fun e => !Sp.eqB e.name name
theorem rmE_drop (name : ByteArray) (es : List Sp.Ent) (q : Nat) (y : Sp.Ent) (hy : es[q]? = some y) : rmE name (es.drop q) = if Sp.eqB y.name name = true then rmE name (es.drop (q + 1)) else y :: rmE name (es.drop (q + 1)) := by
  obtain ⟨hq, rfl⟩ := List.getElem?_eq_some_iff.1 hy
  rw [List.drop_eq_getElem_cons hq]
  unfold rmE
  rw [List.filter_cons]
  cases Sp.eqB es[q].name name <;> rfl
theorem rmE_len (name : ByteArray) (es : List Sp.Ent) : (rmE name es).length ≤ es.length := List.length_filter_le _ _
namespace Sp
def removed (L : List Ob) (d j : Nat) (es : List Ent) : List Ob := relinked (withEnts L d es) j (-1) j
end Sp
def RX (w : World) (g : Nat) (sd sq : Sl) (od : Sp.Ob) (name : ByteArray) (es : List Sp.Ent) (q : Nat) (r : Sl) (acc : List Sp.Ent) (wr : World) : Prop :=
  Blk wr g (boxC sd sq od (.slice r.a r.n r.c)) 35 ∧ Mine wr (g + 1) 51 2 (.slice r.a r.n r.c) (acc.map entC) ∧ acc.length ≤ q ∧ rmE name es = acc ++ rmE name (es.drop q) ∧ Below w.heap.size w wr
set_option maxRecDepth 100000 in
set_option maxHeartbeats 8000000 in
theorem rremove_ok (L : List Sp.Ob) (d j : Nat) (name : ByteArray) (od oj : Sp.Ob) (v : Value) (S : Nat → Prop) (w : World) (hv : Objs w S v L) (hS : ∀ b, S b → b < w.heap.size) (hn : L.length ≤ 100) (hlk : ∀ o ∈ L, -4611686018427387904 ≤ o.links ∧ o.links ≤ 4611686018427387904) (hd : L[d]? = some od) (hj : L[j]? = some oj) (hkd : od.kind = 2) (hkj : oj.kind ≠ 0) (hfi : Sp.find L d name = (j : Int)) (h8 : od.ents.length < 100) (he : oj.kind = 2 → oj.ents = []) :
    Calls Try.prog 19 #[v, .int .i64 d, .string name] w fun e w' => ∃ a c, e = .returned (.tuple #[.slice a L.length c, .int .i64 j, .int .i64 0]) ∧ Objs w' (Or' S w.heap.size w'.heap.size) (.slice a L.length c) (Sp.removed L d j (rmE name od.ents)) ∧ Below w.heap.size w w' := by
  have HI1 : Hid (Calls Try.prog 47 #[v, .int .i64 d, .int .i64 0] w fun e w' => e = .returned (.bool true) ∧ w' = w) := by
    have := is_any L d 0 v S w hv
    have e : Sp.is L d 0 = true := by unfold Sp.is; rw [objAt_of hd (by omega)]; rfl
    rw [e] at this
    exact this
  have HFI : Hid (Calls Try.prog 13 #[v, .int .i64 d, .string name] w fun e w' => e = .returned (.int .i64 (j : Int)) ∧ Below w.heap.size w w') := by
    have := rfind_any L d name v S w hv hS
    rw [hfi] at this
    exact this
  have HV : Hid (Objs w S v L) := hv
  have HS : Hid (∀ b, S b → b < w.heap.size) := hS
  have hdl : d < L.length := (List.getElem?_eq_some_iff.1 hd).1
  have hjl : j < L.length := (List.getElem?_eq_some_iff.1 hj).1
  obtain ⟨b, of, c, s, rfl, hb, hc, hm, hl, k0, k1, k2, k3, k4, k5, k6, k7, k8⟩ := hv.open hd
  obtain ⟨bj, oj', cj, sj, hvj, -, -, -, hlj, z0, -, z2, -, -, -, -, -, -⟩ := hv.open hj
  have ebj := (Value.slice.inj hvj).1
  cases ebj
  obtain ⟨sd, ⟨ea, en, ec⟩, sq⟩ := s
  have hbw := HS.out b hb
  unfold maxLen at hm
  have hen := Row.eqNil hl.2.1
  rw [List.length_map] at hen
  dsimp only at hen k1 k2 k5
  subst hen
  have hejn := Row.eqNil hlj.2.1
  rw [List.length_map] at hejn
  rw [hejn] at z2
  have HE : Hid (Ents w S (.slice ea od.ents.length ec) od.ents) := hl.2.1
  have HLd : Hid (Lists w S (⟨sd, ⟨ea, od.ents.length, ec⟩, sq⟩, od)) := hl
  have HD : Hid (L[d]? = some od) := hd
  have HJ : Hid (L[j]? = some oj) := hj
  have HLK : Hid (∀ o ∈ L, -4611686018427387904 ≤ o.links ∧ o.links ≤ 4611686018427387904) := hlk
  rw [hkd] at k0
  have HKD : Hid (od.kind = 2) := hkd
  have HKJ : Hid (oj.kind ≠ 0) := hkj
  have HEJ : Hid (oj.kind = 2 → oj.ents = []) := he
  have HN : Hid (L.length ≤ 100) := hn
  have hnz : (L.length : Int) ≤ 100 := by omega
  have HELT : Hid (od.ents.length < 100) := h8
  generalize hes : od.ents = es at *
  have HES : Hid (od.ents = es) := hes
  clear hv hS hn hlk hd hj hkd hkj hfi hl hes hvj hlj he hejn h8
  obtain ⟨o1, hL1j, hk1, hlk1⟩ : ∃ o1, (Sp.withEnts L d (rmE name es))[j]? = some o1 ∧ o1.kind ≠ 0 ∧ (-4611686018427387904 ≤ o1.links ∧ o1.links ≤ 4611686018427387904) := by
    unfold Sp.withEnts
    rw [HD.out]
    dsimp only
    by_cases hjd : j = d
    · subst hjd
      have hoo : oj = od := by have := HD.out; rw [HJ.out] at this; exact Option.some.inj this
      exact ⟨{ od with ents := rmE name es }, by rw [List.getElem?_set_self hdl], by show od.kind ≠ 0; rw [← hoo]; exact HKJ.out, HLK.out od (List.mem_of_getElem? HD.out)⟩
    · rw [List.getElem?_set_ne (by omega)]
      exact ⟨oj, HJ.out, HKJ.out, HLK.out oj (List.mem_of_getElem? HJ.out)⟩
  have hL1n : (Sp.withEnts L d (rmE name es)).length = L.length := by unfold Sp.withEnts; rw [HD.out]; simp
  have HW1 : Hid (∀ (r : Sl) (W : World) (g : Nat), w.heap.size ≤ g → Below w.heap.size w W → Mine W g 51 2 (.slice r.a r.n r.c) ((rmE name es).map entC) → Calls Try.prog 42 #[.slice (some ⟨b, of, none⟩) L.length c, .int .i64 d, .agg (boxC sd sq od (.slice r.a r.n r.c))] W fun e w' => ∃ a c, e = .returned (.slice a L.length c) ∧ Objs w' (Or' S w.heap.size w'.heap.size) (.slice a L.length c) (Sp.withEnts L d (rmE name es)) ∧ Below W.heap.size W w') := by
    intro r W g hg hW hm
    have hon : On S w W := (On.of hW).less HS.out
    have hobj : Objs W (Or' S w.heap.size W.heap.size) (.slice (some ⟨b, of, none⟩) L.length c) L := (HV.out.on hon).more fun b hb => Or.inl hb
    have hlist : Lists W (Or' S w.heap.size W.heap.size) (⟨sd, r, sq⟩, { od with ents := rmE name es }) := ⟨(Row.on HLd.out.1 hon).more fun b hb => Or.inl hb, (hm.row (even_ent _)).more fun b hb => Or.inr ⟨by omega, hb.2⟩, (Queue.on HLd.out.2.2 hon).more fun b hb => Or.inl hb⟩
    have := rwith_any L d ⟨sd, r, sq⟩ { od with ents := rmE name es } _ (Or' S w.heap.size W.heap.size) W hobj (fun b hb => hb.elim (fun h => Nat.lt_of_lt_of_le (HS.out b h) hW.size) (fun h => h.2)) (by have := HN.out; omega) (by omega) hlist
    have e1 : Sp.rwith L d { od with ents := rmE name es } = Sp.withEnts L d (rmE name es) := by
      unfold Sp.rwith Sp.withEnts
      rw [if_neg (by omega), HD.out]
    have e2 : (objC (⟨sd, r, sq⟩, { od with ents := rmE name es })).toArray = boxC sd sq od (.slice r.a r.n r.c) := by
      rw [objV_eq]
      dsimp only
      rw [HKD.out]
      rfl
    rw [e1, e2, hL1n] at this
    refine Calls.mono this ?_
    rintro e w' ⟨a, c, rfl, ho, hb⟩
    refine ⟨a, c, rfl, ho.more fun b hb' => ?_, hb⟩
    have := hb.size
    have := hW.size
    rcases hb' with (h | h) | h
    · exact Or.inl h
    · exact Or.inr ⟨h.1, by omega⟩
    · exact Or.inr ⟨by omega, h.2⟩
  generalize hL1g : Sp.withEnts L d (rmE name es) = L1 at *
  have HENT : Hid (Sp.removed L d j (rmE name es) = L1.set j (Sp.linked o1 (-1) j)) := by
    unfold Hid Sp.removed Sp.relinked
    rw [hL1g, hL1j]
  have HW2 : Hid (∀ (a : Option Addr) (c : Nat) (s1 : Sls) (W5 W : World), Below w.heap.size w W5 → Objs W5 (Or' S w.heap.size W5.heap.size) (.slice a L.length c) L1 → Lists W5 (Or' S w.heap.size W5.heap.size) (s1, o1) → Below W5.heap.size W5 W → Calls Try.prog 42 #[.slice a L.length c, .int .i64 j, .agg (objC (s1, Sp.linked o1 (-1) j)).toArray] W fun e w' => ∃ a c, e = .returned (.slice a L.length c) ∧ Objs w' (Or' S w.heap.size w'.heap.size) (.slice a L.length c) (Sp.removed L d j (rmE name es)) ∧ Below w.heap.size w w') := by
    intro a c s1 W5 W hW5 hO hl1 hW
    have hlt5 : ∀ b, Or' S w.heap.size W5.heap.size b → b < W5.heap.size := fun b hb => hb.elim (fun h => Nat.lt_of_lt_of_le (HS.out b h) hW5.size) (fun h => h.2)
    have hon : On (Or' S w.heap.size W5.heap.size) W5 W := (On.of hW).less hlt5
    have := rwith_any L1 j s1 (Sp.linked o1 (-1) j) (.slice a L.length c) (Or' S w.heap.size W5.heap.size) W (hO.on hon) (fun b hb => Nat.lt_of_lt_of_le (hlt5 b hb) hW.size) (by have := HN.out; omega) (by omega) (Lists.on hl1 hon)
    have e1 : Sp.rwith L1 j (Sp.linked o1 (-1) j) = Sp.removed L d j (rmE name es) := by
      rw [HENT.out]
      unfold Sp.rwith
      rw [if_neg (by omega)]
    have e3 : (Sp.removed L d j (rmE name es)).length = L.length := by rw [HENT.out, List.length_set, hL1n]
    rw [e1, e3] at this
    refine Calls.mono this ?_
    rintro e w' ⟨a', c', rfl, ho, hb⟩
    have h1 := hb.size
    have h2 := hW.size
    have h3 := hW5.size
    refine ⟨a', c', rfl, ho.more fun b hb' => ?_, hW5.trans ((hW.mono h3).trans (hb.mono (by omega)))⟩
    rcases hb' with (h | h) | h
    · exact Or.inl h
    · exact Or.inr ⟨h.1, by omega⟩
    · exact Or.inr ⟨by omega, h.2⟩
  have HL1J : Hid (L1[j]? = some o1) := hL1j
  have HK1 : Hid (-4611686018427387904 ≤ o1.links ∧ o1.links ≤ 4611686018427387904) := hlk1
  generalize Sp.removed L d j (rmE name es) = LF at *
  clear hL1j hk1 hlk1 hL1n hL1g HENT
  go_enter Try.func19, Try.ntmps19
  go_wp2_with fail
  refine Calls.mono HI1.out ?_
  rintro e w1 ⟨rfl, hw⟩
  rw [hw]
  clear hw HI1
  go_wp2_with fail
  refine Calls.mono HFI.out ?_
  rintro e w2 ⟨rfl, hb2⟩
  have HB2 : Hid (Below w.heap.size w w2) := hb2
  have hz2 := hb2.size
  obtain ⟨hcc, -⟩ := bcell hb2
  have m0 := (hcc b (of + d * 9) hbw).trans k0
  have m1 := (hcc b (of + d * 9 + 1) hbw).trans k1
  have m2 := (hcc b (of + d * 9 + 2) hbw).trans k2
  have m3 := (hcc b (of + d * 9 + 3) hbw).trans k3
  have m4 := (hcc b (of + d * 9 + 4) hbw).trans k4
  have m5 := (hcc b (of + d * 9 + 5) hbw).trans k5
  have m6 := (hcc b (of + d * 9 + 6) hbw).trans k6
  have m7 := (hcc b (of + d * 9 + 7) hbw).trans k7
  have m8 := (hcc b (of + d * 9 + 8) hbw).trans k8
  have y0 := (hcc b (of + j * 9) hbw).trans z0
  have y2 := (hcc b (of + j * 9 + 2) hbw).trans z2
  have hb2w : b < w2.heap.size := by omega
  have hbne : b ≠ w2.heap.size := by omega
  clear hb2 hcc k0 k1 k2 k3 k4 k5 k6 k7 k8 HFI z0 z2
  have HGO : Hid (∀ K : Prop, (oj.kind = 2 ∧ oj.ents.length = 0 → K) → (oj.kind ≠ 2 → K) → K) := fun K h1 h2 => by
    by_cases h : oj.kind = 2
    · exact h1 ⟨h, by rw [HEJ.out h]; rfl⟩
    · exact h2 h
  refine HGO.out _ (fun hoj => ?_) (fun hoj => ?_)
  · have hoj1 := hoj.1
    have hoj2 := hoj.2
    rw [hoj1] at y0
    rw [hoj2] at y2
    clear hoj hoj1 hoj2
    go_wp2_with (with_reducible refine stop_at (.call { callee := .builtin .len, args := #[.tmp 54], argTypes := #[32] }) rfl ?_)
    unfold Hold
    have hz3 : w2.heap.size < (w2.alloc (.cells #[.int .i64 2, .slice sd.a sd.n sd.c, .slice none 0 0, .string od.target, .int .i64 od.peer, .slice sq.a sq.n sq.c, .int .i64 od.proc, .int .i64 od.links, .int .i64 od.up] 35)).heap.size := by simp
    have HB3 : Hid (Below w.heap.size w (w2.alloc (.cells #[.int .i64 2, .slice sd.a sd.n sd.c, .slice none 0 0, .string od.target, .int .i64 od.peer, .slice sq.a sq.n sq.c, .int .i64 od.proc, .int .i64 od.links, .int .i64 od.up] 35))) := HB2.out.alloc HB2.out.size _
    have HQ3 : Hid (Blk (w2.alloc (.cells #[.int .i64 2, .slice sd.a sd.n sd.c, .slice none 0 0, .string od.target, .int .i64 od.peer, .slice sq.a sq.n sq.c, .int .i64 od.proc, .int .i64 od.links, .int .i64 od.up] 35)) w2.heap.size (boxC sd sq od (.slice none 0 0)) 35) := Blk.new w2 _ _
    clear m0 m1 m2 m3 m4 m5 m6 m7 m8 y0 y2 HGO
    generalize w2.alloc (.cells #[.int .i64 2, .slice sd.a sd.n sd.c, .slice none 0 0, .string od.target, .int .i64 od.peer, .slice sq.a sq.n sq.c, .int .i64 od.proc, .int .i64 od.links, .int .i64 od.up] 35) = w3 at *
    go_wp2
    go_loopw [56] (fun i wr => ∃ (q : Nat) (r : Sl) (acc : List Sp.Ent), q ≤ es.length ∧ i = .int .i64 q ∧ RX w w2.heap.size sd sq od name es q r acc wr) (fun i _ => es.length - (intOf i).toNat)
    case atStart => exact ⟨0, nilSl, [], Nat.zero_le _, rfl, HQ3.out, Mine.nil _ _ _ _, Nat.le_refl _, by simp, HB3.out⟩
    case round =>
      obtain ⟨q, r, acc, hq, rfl, hI⟩ := hrel
      obtain ⟨i1, i2, i3, i4, i5⟩ := hI
      by_cases hlt : q < es.length
      · have hx : es[q]? = some es[q] := List.getElem?_eq_getElem hlt
        obtain ⟨eb, eo, ec', hse, hSe, h3, h4, h5⟩ := (Row.on HE.out ((On.of i5).less HS.out)).some (by rw [List.length_map]; omega)
        rw [List.length_map] at hse h3
        obtain ⟨rfl, -, rfl⟩ := Value.slice.inj hse
        obtain ⟨x0, x1⟩ := ent_cells h5 hx
        have HRD : Hid (rmE name (es.drop q) = _) := rmE_drop name es q _ hx
        generalize es[q] = y at *
        have hebw := HS.out eb hSe
        have hzr := i5.size
        have hgr := i1.lt
        have H1 : Hid (Blk wr w2.heap.size (boxC sd sq od (.slice r.a r.n r.c)) 35) := i1
        have H2 : Hid (Mine wr (w2.heap.size + 1) 51 2 (.slice r.a r.n r.c) (acc.map entC)) := i2
        have H3 : Hid (acc.length ≤ q) := i3
        have H4 : Hid (rmE name es = acc ++ rmE name (es.drop q)) := i4
        have H5 : Hid (Below w.heap.size w wr) := i5
        have cg := i1.cell
        have fg := i1.free
        unfold boxC at cg
        unfold maxLen at h4
        have hgne : w2.heap.size ≠ wr.heap.size := by omega
        clear hx hse h5 i1 i2 i3 i4 i5
        by_cases hq1 : Sp.eqB y.name name = true
        · have HN4 : Hid (rmE name es = acc ++ rmE name (es.drop (q + 1))) := by unfold Hid; rw [H4.out, HRD.out, if_pos hq1]
          have hqq : (y.name.toList == name.toList) = true := hq1
          have A1 : Hid (Blk (wr.alloc (.cells #[.string y.name, .int .i64 y.obj] 51)) w2.heap.size (boxC sd sq od (.slice r.a r.n r.c)) 35) := Blk.alloc H1.out _
          have A2 : Hid (Mine (wr.alloc (.cells #[.string y.name, .int .i64 y.obj] 51)) (w2.heap.size + 1) 51 2 (.slice r.a r.n r.c) (acc.map entC)) := H2.out.on (On.alloc wr _) fun g hg => (H2.out.lt g hg).2
          have A5 : Hid (Below w.heap.size w (wr.alloc (.cells #[.string y.name, .int .i64 y.obj] 51))) := H5.out.alloc H5.out.size _
          clear hq1 H4 HRD
          go_wp2
          exact ⟨⟨q + 1, r, acc, by omega, by go_num, A1.out, A2.out, by have := H3.out; omega, HN4.out, A5.out⟩, by simp [intOf]; omega⟩
        · have HN4 : Hid (rmE name es = (acc ++ [y]) ++ rmE name (es.drop (q + 1))) := by unfold Hid; rw [H4.out, HRD.out, if_neg hq1, List.append_assoc]; rfl
          have hqq : (y.name.toList == name.toList) = false := by
            cases hh : (y.name.toList == name.toList) with
            | false => rfl
            | true => exact absurd hh hq1
          clear hq1 H4 HRD
          go_wp2_with (with_reducible refine stop_at (.call { callee := .builtin .append, args := #[.tmp 65, .tmp 67], argTypes := #[32, 32] }) rfl ?_)
          unfold Hold
          have A1 : Hid (Blk ((wr.alloc (.cells #[.string y.name, .int .i64 y.obj] 51)).alloc (.cells #[.string y.name, .int .i64 y.obj] 51)) w2.heap.size (boxC sd sq od (.slice r.a r.n r.c)) 35) := (Blk.alloc H1.out _).alloc _
          have hsz1 : (wr.alloc (.cells #[.string y.name, .int .i64 y.obj] 51)).heap.size = wr.heap.size + 1 := by simp
          have A2 : Hid (Mine ((wr.alloc (.cells #[.string y.name, .int .i64 y.obj] 51)).alloc (.cells #[.string y.name, .int .i64 y.obj] 51)) (w2.heap.size + 1) 51 2 (.slice r.a r.n r.c) (acc.map entC)) := (H2.out.on (On.alloc wr _) fun g hg => (H2.out.lt g hg).2).on (On.alloc _ _) fun g hg => by have := (H2.out.lt g hg).2; omega
          have A3 : Hid (Blk ((wr.alloc (.cells #[.string y.name, .int .i64 y.obj] 51)).alloc (.cells #[.string y.name, .int .i64 y.obj] 51)) (wr.heap.size + 1) #[.string y.name, .int .i64 y.obj] 51) := by
            have := Blk.new (wr.alloc (.cells #[.string y.name, .int .i64 y.obj] 51)) #[.string y.name, .int .i64 y.obj] 51
            rw [hsz1] at this
            exact this
          have A5 : Hid (Below w.heap.size w ((wr.alloc (.cells #[.string y.name, .int .i64 y.obj] 51)).alloc (.cells #[.string y.name, .int .i64 y.obj] 51))) := (H5.out.alloc H5.out.size _).alloc (by have := H5.out.size; omega) _
          have A6 : wr.heap.size + 1 < ((wr.alloc (.cells #[.string y.name, .int .i64 y.obj] 51)).alloc (.cells #[.string y.name, .int .i64 y.obj] 51)).heap.size := by simp
          clear hsz1 cg fg
          generalize ((wr.alloc (.cells #[.string y.name, .int .i64 y.obj] 51)).alloc (.cells #[.string y.name, .int .i64 y.obj] 51)) = W at *
          refine more_row (e := y) rfl _ _ rfl rfl A2.out (wr.heap.size + 1) rfl A3.out (by have := H3.out; have := HELT.out; omega) (by omega) ?_
          intro r' W' hm' hon hsz hb'
          obtain ⟨n0, n1, n2, n3⟩ := box_next A1.out A2.out A5.out hz2 hm' hon hb'
          have cg' := n0.cell
          have fg' := n0.free
          unfold boxC at cg'
          have HNX : Hid (RX w w2.heap.size sd sq od name es (q + 1) r' (acc ++ [y]) (W'.setCell ⟨w2.heap.size, 2, none⟩ (.slice r'.a r'.n r'.c))) := ⟨n1, n2, by have := H3.out; simp; omega, HN4.out, n3⟩
          clear n0 n1 n2 n3 hm' hon hb' A1 A2 A3 A5 HN4
          go_wp2
          exact ⟨⟨q + 1, r', acc ++ [y], by omega, by go_num, HNX.out⟩, by simp [intOf]; omega⟩
      · obtain rfl : q = es.length := by omega
        have H1 : Hid (Blk wr w2.heap.size (boxC sd sq od (.slice r.a r.n r.c)) 35) := i1
        have HA : Hid (acc = rmE name es) := by unfold Hid; rw [i4, List.drop_length]; simp [rmE]
        have H2 : Hid (Mine wr (w2.heap.size + 1) 51 2 (.slice r.a r.n r.c) ((rmE name es).map entC)) := by unfold Hid; rw [← HA.out]; exact i2
        have H5 : Hid (Below w.heap.size w wr) := i5
        have cg := i1.cell
        have fg := i1.free
        have hgr := i1.lt
        unfold boxC at cg
        clear i1 i2 i3 i4 i5
        go_wp2_with fail
        refine Calls.mono (HW1.out r wr (w2.heap.size + 1) (by omega) H5.out H2.out) ?_
        rintro e w5 ⟨a5, c5, rfl, ho5, hb5⟩
        have HB5 : Hid (Below w.heap.size w w5) := Below.trans H5.out (hb5.mono (Below.size H5.out))
        have HO5 : Hid (Objs w5 (Or' S w.heap.size w5.heap.size) (.slice a5 L.length c5) L1) := ho5
        obtain ⟨b6, of6, c6, s6, e6, hb6, hc6, hm6, hl6, t0, t1, t2, t3, t4, t5, t6, t7, t8⟩ := ho5.open HL1J.out
        obtain ⟨rfl, -, rfl⟩ := Value.slice.inj e6
        have HL6 : Hid (Lists w5 (Or' S w.heap.size w5.heap.size) (s6, o1)) := hl6
        have hlo := HK1.out.1
        have hhi := HK1.out.2
        unfold maxLen at hm6
        clear hb5 ho5 hl6 e6 cg
        have hfin := HW2.out (some ⟨b6, of6, none⟩) c5 s6 w5
        rw [objV_eq] at hfin
        dsimp only [Sp.linked] at hfin
        have HFIN : Hid _ := hfin
        clear hfin
        by_cases hk2 : o1.kind = 2
        · rw [hk2] at t0
          rw [if_pos hk2, hk2] at HFIN
          go_wp2_with fail
          refine Calls.mono (HFIN.out _ HB5.out HO5.out HL6.out ((Below.refl _ _).alloc (Nat.le_refl _) _)) ?_
          rintro e w7 ⟨a7, c7, rfl, ho7, hb7⟩
          have HO7 : Hid _ := ho7
          have HB7 : Hid _ := hb7
          clear ho7 hb7 HFIN
          go_wp2
          go_ret3
          exact ⟨a7, c7, rfl, HO7.out, HB7.out⟩
        · rw [if_neg hk2] at HFIN
          have hk2' : (o1.kind == 2) = false := by simpa using hk2
          clear hk2
          go_wp2_with fail
          refine Calls.mono (HFIN.out _ HB5.out HO5.out HL6.out ((Below.refl _ _).alloc (Nat.le_refl _) _)) ?_
          rintro e w7 ⟨a7, c7, rfl, ho7, hb7⟩
          have HO7 : Hid _ := ho7
          have HB7 : Hid _ := hb7
          clear ho7 hb7 HFIN
          go_wp2
          go_ret3
          exact ⟨a7, c7, rfl, HO7.out, HB7.out⟩
  · have hoj' : (oj.kind == 2) = false := by simpa using hoj
    clear hoj
    go_wp2_with (with_reducible refine stop_at (.call { callee := .builtin .len, args := #[.tmp 54], argTypes := #[32] }) rfl ?_)
    unfold Hold
    have hz3 : w2.heap.size < (w2.alloc (.cells #[.int .i64 2, .slice sd.a sd.n sd.c, .slice none 0 0, .string od.target, .int .i64 od.peer, .slice sq.a sq.n sq.c, .int .i64 od.proc, .int .i64 od.links, .int .i64 od.up] 35)).heap.size := by simp
    have HB3 : Hid (Below w.heap.size w (w2.alloc (.cells #[.int .i64 2, .slice sd.a sd.n sd.c, .slice none 0 0, .string od.target, .int .i64 od.peer, .slice sq.a sq.n sq.c, .int .i64 od.proc, .int .i64 od.links, .int .i64 od.up] 35))) := HB2.out.alloc HB2.out.size _
    have HQ3 : Hid (Blk (w2.alloc (.cells #[.int .i64 2, .slice sd.a sd.n sd.c, .slice none 0 0, .string od.target, .int .i64 od.peer, .slice sq.a sq.n sq.c, .int .i64 od.proc, .int .i64 od.links, .int .i64 od.up] 35)) w2.heap.size (boxC sd sq od (.slice none 0 0)) 35) := Blk.new w2 _ _
    clear m0 m1 m2 m3 m4 m5 m6 m7 m8 y0 y2 HGO
    generalize w2.alloc (.cells #[.int .i64 2, .slice sd.a sd.n sd.c, .slice none 0 0, .string od.target, .int .i64 od.peer, .slice sq.a sq.n sq.c, .int .i64 od.proc, .int .i64 od.links, .int .i64 od.up] 35) = w3 at *
    go_wp2
    go_loopw [56] (fun i wr => ∃ (q : Nat) (r : Sl) (acc : List Sp.Ent), q ≤ es.length ∧ i = .int .i64 q ∧ RX w w2.heap.size sd sq od name es q r acc wr) (fun i _ => es.length - (intOf i).toNat)
    case atStart => exact ⟨0, nilSl, [], Nat.zero_le _, rfl, HQ3.out, Mine.nil _ _ _ _, Nat.le_refl _, by simp, HB3.out⟩
    case round =>
      obtain ⟨q, r, acc, hq, rfl, hI⟩ := hrel
      obtain ⟨i1, i2, i3, i4, i5⟩ := hI
      by_cases hlt : q < es.length
      · have hx : es[q]? = some es[q] := List.getElem?_eq_getElem hlt
        obtain ⟨eb, eo, ec', hse, hSe, h3, h4, h5⟩ := (Row.on HE.out ((On.of i5).less HS.out)).some (by rw [List.length_map]; omega)
        rw [List.length_map] at hse h3
        obtain ⟨rfl, -, rfl⟩ := Value.slice.inj hse
        obtain ⟨x0, x1⟩ := ent_cells h5 hx
        have HRD : Hid (rmE name (es.drop q) = _) := rmE_drop name es q _ hx
        generalize es[q] = y at *
        have hebw := HS.out eb hSe
        have hzr := i5.size
        have hgr := i1.lt
        have H1 : Hid (Blk wr w2.heap.size (boxC sd sq od (.slice r.a r.n r.c)) 35) := i1
        have H2 : Hid (Mine wr (w2.heap.size + 1) 51 2 (.slice r.a r.n r.c) (acc.map entC)) := i2
        have H3 : Hid (acc.length ≤ q) := i3
        have H4 : Hid (rmE name es = acc ++ rmE name (es.drop q)) := i4
        have H5 : Hid (Below w.heap.size w wr) := i5
        have cg := i1.cell
        have fg := i1.free
        unfold boxC at cg
        unfold maxLen at h4
        have hgne : w2.heap.size ≠ wr.heap.size := by omega
        clear hx hse h5 i1 i2 i3 i4 i5
        by_cases hq1 : Sp.eqB y.name name = true
        · have HN4 : Hid (rmE name es = acc ++ rmE name (es.drop (q + 1))) := by unfold Hid; rw [H4.out, HRD.out, if_pos hq1]
          have hqq : (y.name.toList == name.toList) = true := hq1
          have A1 : Hid (Blk (wr.alloc (.cells #[.string y.name, .int .i64 y.obj] 51)) w2.heap.size (boxC sd sq od (.slice r.a r.n r.c)) 35) := Blk.alloc H1.out _
          have A2 : Hid (Mine (wr.alloc (.cells #[.string y.name, .int .i64 y.obj] 51)) (w2.heap.size + 1) 51 2 (.slice r.a r.n r.c) (acc.map entC)) := H2.out.on (On.alloc wr _) fun g hg => (H2.out.lt g hg).2
          have A5 : Hid (Below w.heap.size w (wr.alloc (.cells #[.string y.name, .int .i64 y.obj] 51))) := H5.out.alloc H5.out.size _
          clear hq1 H4 HRD
          go_wp2
          exact ⟨⟨q + 1, r, acc, by omega, by go_num, A1.out, A2.out, by have := H3.out; omega, HN4.out, A5.out⟩, by simp [intOf]; omega⟩
        · have HN4 : Hid (rmE name es = (acc ++ [y]) ++ rmE name (es.drop (q + 1))) := by unfold Hid; rw [H4.out, HRD.out, if_neg hq1, List.append_assoc]; rfl
          have hqq : (y.name.toList == name.toList) = false := by
            cases hh : (y.name.toList == name.toList) with
            | false => rfl
            | true => exact absurd hh hq1
          clear hq1 H4 HRD
          go_wp2_with (with_reducible refine stop_at (.call { callee := .builtin .append, args := #[.tmp 65, .tmp 67], argTypes := #[32, 32] }) rfl ?_)
          unfold Hold
          have A1 : Hid (Blk ((wr.alloc (.cells #[.string y.name, .int .i64 y.obj] 51)).alloc (.cells #[.string y.name, .int .i64 y.obj] 51)) w2.heap.size (boxC sd sq od (.slice r.a r.n r.c)) 35) := (Blk.alloc H1.out _).alloc _
          have hsz1 : (wr.alloc (.cells #[.string y.name, .int .i64 y.obj] 51)).heap.size = wr.heap.size + 1 := by simp
          have A2 : Hid (Mine ((wr.alloc (.cells #[.string y.name, .int .i64 y.obj] 51)).alloc (.cells #[.string y.name, .int .i64 y.obj] 51)) (w2.heap.size + 1) 51 2 (.slice r.a r.n r.c) (acc.map entC)) := (H2.out.on (On.alloc wr _) fun g hg => (H2.out.lt g hg).2).on (On.alloc _ _) fun g hg => by have := (H2.out.lt g hg).2; omega
          have A3 : Hid (Blk ((wr.alloc (.cells #[.string y.name, .int .i64 y.obj] 51)).alloc (.cells #[.string y.name, .int .i64 y.obj] 51)) (wr.heap.size + 1) #[.string y.name, .int .i64 y.obj] 51) := by
            have := Blk.new (wr.alloc (.cells #[.string y.name, .int .i64 y.obj] 51)) #[.string y.name, .int .i64 y.obj] 51
            rw [hsz1] at this
            exact this
          have A5 : Hid (Below w.heap.size w ((wr.alloc (.cells #[.string y.name, .int .i64 y.obj] 51)).alloc (.cells #[.string y.name, .int .i64 y.obj] 51))) := (H5.out.alloc H5.out.size _).alloc (by have := H5.out.size; omega) _
          have A6 : wr.heap.size + 1 < ((wr.alloc (.cells #[.string y.name, .int .i64 y.obj] 51)).alloc (.cells #[.string y.name, .int .i64 y.obj] 51)).heap.size := by simp
          clear hsz1 cg fg
          generalize ((wr.alloc (.cells #[.string y.name, .int .i64 y.obj] 51)).alloc (.cells #[.string y.name, .int .i64 y.obj] 51)) = W at *
          refine more_row (e := y) rfl _ _ rfl rfl A2.out (wr.heap.size + 1) rfl A3.out (by have := H3.out; have := HELT.out; omega) (by omega) ?_
          intro r' W' hm' hon hsz hb'
          obtain ⟨n0, n1, n2, n3⟩ := box_next A1.out A2.out A5.out hz2 hm' hon hb'
          have cg' := n0.cell
          have fg' := n0.free
          unfold boxC at cg'
          have HNX : Hid (RX w w2.heap.size sd sq od name es (q + 1) r' (acc ++ [y]) (W'.setCell ⟨w2.heap.size, 2, none⟩ (.slice r'.a r'.n r'.c))) := ⟨n1, n2, by have := H3.out; simp; omega, HN4.out, n3⟩
          clear n0 n1 n2 n3 hm' hon hb' A1 A2 A3 A5 HN4
          go_wp2
          exact ⟨⟨q + 1, r', acc ++ [y], by omega, by go_num, HNX.out⟩, by simp [intOf]; omega⟩
      · obtain rfl : q = es.length := by omega
        have H1 : Hid (Blk wr w2.heap.size (boxC sd sq od (.slice r.a r.n r.c)) 35) := i1
        have HA : Hid (acc = rmE name es) := by unfold Hid; rw [i4, List.drop_length]; simp [rmE]
        have H2 : Hid (Mine wr (w2.heap.size + 1) 51 2 (.slice r.a r.n r.c) ((rmE name es).map entC)) := by unfold Hid; rw [← HA.out]; exact i2
        have H5 : Hid (Below w.heap.size w wr) := i5
        have cg := i1.cell
        have fg := i1.free
        have hgr := i1.lt
        unfold boxC at cg
        clear i1 i2 i3 i4 i5
        go_wp2_with fail
        refine Calls.mono (HW1.out r wr (w2.heap.size + 1) (by omega) H5.out H2.out) ?_
        rintro e w5 ⟨a5, c5, rfl, ho5, hb5⟩
        have HB5 : Hid (Below w.heap.size w w5) := Below.trans H5.out (hb5.mono (Below.size H5.out))
        have HO5 : Hid (Objs w5 (Or' S w.heap.size w5.heap.size) (.slice a5 L.length c5) L1) := ho5
        obtain ⟨b6, of6, c6, s6, e6, hb6, hc6, hm6, hl6, t0, t1, t2, t3, t4, t5, t6, t7, t8⟩ := ho5.open HL1J.out
        obtain ⟨rfl, -, rfl⟩ := Value.slice.inj e6
        have HL6 : Hid (Lists w5 (Or' S w.heap.size w5.heap.size) (s6, o1)) := hl6
        have hlo := HK1.out.1
        have hhi := HK1.out.2
        unfold maxLen at hm6
        clear hb5 ho5 hl6 e6 cg
        have hfin := HW2.out (some ⟨b6, of6, none⟩) c5 s6 w5
        rw [objV_eq] at hfin
        dsimp only [Sp.linked] at hfin
        have HFIN : Hid _ := hfin
        clear hfin
        by_cases hk2 : o1.kind = 2
        · rw [hk2] at t0
          rw [if_pos hk2, hk2] at HFIN
          go_wp2_with fail
          refine Calls.mono (HFIN.out _ HB5.out HO5.out HL6.out ((Below.refl _ _).alloc (Nat.le_refl _) _)) ?_
          rintro e w7 ⟨a7, c7, rfl, ho7, hb7⟩
          have HO7 : Hid _ := ho7
          have HB7 : Hid _ := hb7
          clear ho7 hb7 HFIN
          go_wp2
          go_ret3
          exact ⟨a7, c7, rfl, HO7.out, HB7.out⟩
        · rw [if_neg hk2] at HFIN
          have hk2' : (o1.kind == 2) = false := by simpa using hk2
          clear hk2
          go_wp2_with fail
          refine Calls.mono (HFIN.out _ HB5.out HO5.out HL6.out ((Below.refl _ _).alloc (Nat.le_refl _) _)) ?_
          rintro e w7 ⟨a7, c7, rfl, ho7, hb7⟩
          have HO7 : Hid _ := ho7
          have HB7 : Hid _ := hb7
          clear ho7 hb7 HFIN
          go_wp2
          go_ret3
          exact ⟨a7, c7, rfl, HO7.out, HB7.out⟩
end Go.Proofs.Ytaobjpajbpoamaa
/-
  rgref5.Read, walked.
-/
namespace Go.Proofs.Ytaobjpajbpoamaa
open Go.RowKit
set_option maxRecDepth 100000 in
theorem rread_err (s : Sls) (o : Sp.Ob) (p n : Int) (w : World) (he : Sp.readErr o p n ≠ 0) :
    Calls Try.prog 21 #[.agg (objC (s, o)).toArray, .int .i64 p, .int .i64 n] w fun e w' => e = .returned (.tuple #[.slice none 0 0, .int .i64 (Sp.readErr o p n)]) ∧ Below w.heap.size w w' := by
  rw [objV_eq]
  unfold Sp.readErr Sp.noFile at he ⊢
  by_cases h1 : o.kind = 1
  · simp only [h1] at he ⊢
    by_cases h2 : p < 0
    · simp only [h2] at he ⊢
      go_enter Try.func21, Try.ntmps21
      go_wp2
      go_ret2
      exact ⟨rfl, (Below.refl _ _).alloc (Nat.le_refl _) _⟩
    · by_cases h3 : n < 0
      · simp only [h2, h3] at he ⊢
        go_enter Try.func21, Try.ntmps21
        go_wp2
        go_ret2
        exact ⟨rfl, (Below.refl _ _).alloc (Nat.le_refl _) _⟩
      · simp [h2, h3] at he
  · by_cases h2 : o.kind = 2
    · simp only [h2] at he ⊢
      clear h1
      go_enter Try.func21, Try.ntmps21
      go_wp2
      go_ret2
      exact ⟨rfl, (Below.refl _ _).alloc (Nat.le_refl _) _⟩
    · have k1 : (o.kind == 2) = false := by simpa using h2
      have k2 : (o.kind != 1) = true := by simpa using h1
      simp only [h1, h2] at he ⊢
      clear h1 h2 he
      go_enter Try.func21, Try.ntmps21
      go_wp2
      go_ret2
      exact ⟨rfl, (Below.refl _ _).alloc (Nat.le_refl _) _⟩
/-- The bytes' loop: so many are read. -/
def RdI (w : World) (s : Sls) (o : Sp.Ob) (p n j : Nat) (r : Sl) (wr : World) : Prop :=
  Mine wr (w.heap.size + 1) 5 1 (.slice r.a r.n r.c) (((o.data.drop p).take j).map byteC) ∧ j ≤ n ∧ (j = 0 ∨ p + j ≤ o.data.length) ∧ Blk wr w.heap.size #[.int .i64 o.kind, .slice s.d.a s.d.n s.d.c, .slice s.e.a s.e.n s.e.c, .string o.target, .int .i64 o.peer, .slice s.q.a s.q.n s.q.c, .int .i64 o.proc, .int .i64 o.links, .int .i64 o.up] 35 ∧ Below w.heap.size w wr
set_option maxRecDepth 100000 in
set_option maxHeartbeats 4000000 in
theorem rread_ok (s : Sls) (o : Sp.Ob) (S : Nat → Prop) (p n : Nat) (w : World) (hd : Bytes w S (.slice s.d.a s.d.n s.d.c) o.data) (hS : ∀ b, S b → b < w.heap.size) (hl : o.data.length ≤ 1000) (hk : o.kind = 1) :
    Calls Try.prog 21 #[.agg (objC (s, o)).toArray, .int .i64 p, .int .i64 n] w fun e w' => ∃ r : Sl, e = .returned (.tuple #[.slice r.a r.n r.c, .int .i64 0]) ∧ Bytes w' (fun b => w.heap.size ≤ b ∧ b < w'.heap.size) (.slice r.a r.n r.c) ((o.data.drop p).take n) ∧ Below w.heap.size w w' := by
  rw [objV_eq]
  have HD : Hid (Bytes w S (.slice s.d.a s.d.n s.d.c) o.data) := hd
  have HS : Hid (∀ b, S b → b < w.heap.size) := hS
  have hdn : s.d.n = o.data.length := by have := Row.eqNil hd; rwa [List.length_map] at this
  have HDN : Hid (s.d.n = o.data.length) := hdn
  have hk2 : (o.kind == 2) = false := by rw [hk]; rfl
  have hk1 : (o.kind != 1) = false := by rw [hk]; rfl
  have hlz : (o.data.length : Int) ≤ 1000 := by omega
  clear hd hS hk hdn
  go_enter Try.func21, Try.ntmps21
  go_wp2_with fail
  have hA : Blk (w.alloc (.cells #[.int .i64 o.kind, .slice s.d.a s.d.n s.d.c, .slice s.e.a s.e.n s.e.c, .string o.target, .int .i64 o.peer, .slice s.q.a s.q.n s.q.c, .int .i64 o.proc, .int .i64 o.links, .int .i64 o.up] 35)) w.heap.size #[.int .i64 o.kind, .slice s.d.a s.d.n s.d.c, .slice s.e.a s.e.n s.e.c, .string o.target, .int .i64 o.peer, .slice s.q.a s.q.n s.q.c, .int .i64 o.proc, .int .i64 o.links, .int .i64 o.up] 35 := Blk.new w _ _
  have hB : Below w.heap.size w (w.alloc (.cells #[.int .i64 o.kind, .slice s.d.a s.d.n s.d.c, .slice s.e.a s.e.n s.e.c, .string o.target, .int .i64 o.peer, .slice s.q.a s.q.n s.q.c, .int .i64 o.proc, .int .i64 o.links, .int .i64 o.up] 35)) := (Below.refl _ _).alloc (Nat.le_refl _) _
  generalize w.alloc (.cells #[.int .i64 o.kind, .slice s.d.a s.d.n s.d.c, .slice s.e.a s.e.n s.e.c, .string o.target, .int .i64 o.peer, .slice s.q.a s.q.n s.q.c, .int .i64 o.proc, .int .i64 o.links, .int .i64 o.up] 35) = w1 at *
  have HA : Hid _ := hA
  have HB : Hid (Below w.heap.size w w1) := hB
  clear hA hB
  go_loopw [8, 9] (fun v8 v9 wr => ∃ (j : Nat) (r : Sl), v9 = .int .i64 ((p + j : Nat) : Int) ∧ v8 = .slice r.a r.n r.c ∧ RdI w s o p n j r wr) (fun _ v9 _ => o.data.length - (intOf v9).toNat)
  case atStart => exact ⟨0, nilSl, rfl, rfl, Mine.nil _ _ _ _, Nat.zero_le _, Or.inl rfl, HA.out, HB.out⟩
  case round =>
    obtain ⟨j, r, rfl, rfl, i1, i2, i3, i4, i5⟩ := hrel
    obtain ⟨ra, rc, hre, -, -⟩ := i1.form
    rw [List.length_map, List.length_take, List.length_drop] at hre
    obtain ⟨hra, hrn, hrc⟩ := Value.slice.inj hre
    have I1 : Hid (Mine wr (w.heap.size + 1) 5 1 (.slice r.a r.n r.c) (((o.data.drop p).take j).map byteC)) := i1
    have I4 : Hid _ := i4
    have I5 : Hid (Below w.heap.size w wr) := i5
    have HRN : Hid (r.n = min j (o.data.length - p)) := hrn
    have cb := i4.cell
    have hdn := HDN.out
    rw [hdn] at cb
    have hzr : w.heap.size < wr.heap.size := i4.lt
    clear i1 i4 i5 hre hra hrc hdn hrn
    by_cases h1 : p + j < o.data.length
    · have h1z : ((p + j : Nat) : Int) < (o.data.length : Int) := by omega
      have hrj : r.n = j := by have := HRN.out; omega
      by_cases h2 : j < n
      · have h2z : (r.n : Int) < (n : Int) := by omega
        obtain ⟨b, of, c, he, hSb, g3, g4, g5⟩ := (Row.on HD.out ((On.of I5.out).less HS.out)).some (by rw [List.length_map]; omega)
        rw [List.length_map] at he g3
        obtain ⟨e1, e2, e3⟩ := Value.slice.inj he
        obtain ⟨y, hy⟩ : ∃ y, o.data[p + j]? = some y := ⟨_, List.getElem?_eq_getElem h1⟩
        have hc := g5 (p + j) (byteC y) (by rw [List.getElem?_map, hy]; rfl) 0 _ rfl
        rw [Nat.mul_one, Nat.add_zero] at hc
        rw [e1, e3] at cb
        have hbl := HS.out b hSb
        have hzz := I5.out.size
        have HY : Hid ((o.data.drop p).take (j + 1) = (o.data.drop p).take j ++ [y]) := by
          unfold Hid
          rw [List.take_add_one, List.getElem?_drop, hy]
          rfl
        unfold maxLen at g4
        clear he e1 e2 e3 g5 hy hSb hrj
        go_wp2_with (with_reducible refine stop_at (.call { callee := .builtin .append, args := #[.tmp 36, .tmp 42], argTypes := #[22, 22] }) rfl ?_)
        unfold Hold
        have hN := Blk.new wr #[.int .u8 (y.toNat : Int)] 5
        have hon2 := On.alloc wr (.cells #[.int .u8 (y.toNat : Int)] 5)
        have hB2 : Below w.heap.size w (wr.alloc (.cells #[.int .u8 (y.toNat : Int)] 5)) := I5.out.alloc hzz _
        have hz2 : (wr.alloc (.cells #[.int .u8 (y.toNat : Int)] 5)).heap.size = wr.heap.size + 1 := by simp
        generalize wr.alloc (.cells #[.int .u8 (y.toNat : Int)] 5) = w2 at *
        have hM2 : Mine w2 (w.heap.size + 1) 5 1 (.slice r.a r.n r.c) (((o.data.drop p).take j).map byteC) := I1.out.on hon2 fun g hg => (I1.out.lt g hg).2
        have hA2 := Blk.on I4.out hon2 hzr
        have HA2 : Hid _ := hA2
        have HB2 : Hid (Below w.heap.size w w2) := hB2
        obtain ⟨i0, hi, hz0, hz1, hzb⟩ := info_parts Try.infoByte
        clear cb hc hA2 hon2 I4 I5
        refine wpList_append_row rfl _ _ _ rfl (w.heap.size + 1) 5 i0 (.int .u8 0) 1 1 Try.underlying22 hi hz0 hz1 hzb rfl (by decide) _ _ rfl hM2 _ _ [byteC y] rfl (one_row (cs := byteC y) hN) (even_byte [y]) (ones_byte [y]) ?_ (by decide) (by omega) ?_
        · rw [List.length_map, List.length_take, List.length_drop]; simp only [List.length_cons, List.length_nil]; omega
        intro v3 w3 hm3 hg3
        clear hi hz0 hz1 hzb
        have hm3' : Mine w3 (w.heap.size + 1) 5 1 v3 (((o.data.drop p).take (j + 1)).map byteC) := by rw [HY.out, List.map_append]; exact hm3
        obtain ⟨r3, rfl⟩ := hm3'.sl
        have HF : Hid (RdI w s o p n (j + 1) r3 w3) := ⟨hm3', by omega, Or.inr (by omega), (hg3.block w.heap.size (by omega) (fun e => by have := (hM2.lt _ e.symm).1; omega)).trans HA2.out, HB2.out.grown hg3 (by omega) (fun k hk => by have := (hM2.lt k hk).1; omega)⟩
        clear hm3 hm3' hg3 hM2 hN HA2 HB2 hB2
        go_wp2
        exact ⟨⟨j + 1, r3, by go_num, rfl, HF.out⟩, by simp [intOf]; omega⟩
      · have h2z : ¬ (r.n : Int) < (n : Int) := by omega
        have HE : Hid (Bytes wr (fun b => w.heap.size ≤ b ∧ b < wr.heap.size) (.slice r.a r.n r.c) ((o.data.drop p).take n)) := by
          obtain rfl : j = n := by omega
          exact (I1.out.row (even_byte _)).more fun b hb => ⟨by omega, hb.2⟩
        clear hrj
        go_wp2
        go_ret2
        exact ⟨r, rfl, HE.out, I5.out⟩
    · have h1z : ¬ ((p + j : Nat) : Int) < (o.data.length : Int) := by omega
      have HE : Hid (Bytes wr (fun b => w.heap.size ≤ b ∧ b < wr.heap.size) (.slice r.a r.n r.c) ((o.data.drop p).take n)) := by
        have e : (o.data.drop p).take n = (o.data.drop p).take j := by
          rw [List.take_of_length_le (by rw [List.length_drop]; omega), List.take_of_length_le (by rw [List.length_drop]; omega)]
        rw [e]
        exact (I1.out.row (even_byte _)).more fun b hb => ⟨by omega, hb.2⟩
      go_wp2
      go_ret2
      exact ⟨r, rfl, HE.out, I5.out⟩
end Go.Proofs.Ytaobjpajbpoamaa
/-
  rgref5.Write refused, walked.
-/
namespace Go.Proofs.Ytaobjpajbpoamaa
open Go.RowKit
set_option maxRecDepth 100000 in
set_option maxHeartbeats 4000000 in
theorem rwrite_err (s : Sls) (o : Sp.Ob) (p : Int) (b : List UInt8) (vb : Value) (S : Nat → Prop) (w : World) (hb : Bytes w S vb b) (he : Sp.writeErr o p b ≠ 0) :
    Calls Try.prog 23 #[.agg (objC (s, o)).toArray, .int .i64 p, vb] w fun e w' => e = .returned (.tuple #[.agg zeroC.toArray, .int .i64 (Sp.writeErr o p b)]) ∧ Below w.heap.size w w' := by
  obtain ⟨va, vc, rfl, hm⟩ := Row.form hb
  rw [List.length_map] at hm ⊢
  rw [objV_eq]
  have HZ : Hid (zeroC.toArray = #[.int .i64 0, .slice none 0 0, .slice none 0 0, .string ⟨#[]⟩, .int .i64 0, .slice none 0 0, .int .i64 0, .int .i64 0, .int .i64 0]) := rfl
  rw [HZ.out]
  unfold maxLen at hm
  unfold Sp.writeErr Sp.noFile at he ⊢
  clear hb
  by_cases h2 : o.kind = 2
  · simp only [h2] at he ⊢
    go_enter Try.func23, Try.ntmps23
    go_wp2
    exact bodyPost_ret (v := .tuple #[.agg #[.int .i64 0, .slice none 0 0, .slice none 0 0, .string ⟨#[]⟩, .int .i64 0, .slice none 0 0, .int .i64 0, .int .i64 0, .int .i64 0], .int .i64 12]) (by simp [results, Try.results23, go_sem]) rfl ⟨rfl, ((Below.refl _ _).alloc (Nat.le_refl _) _).alloc (by simp) _⟩
  · have k2 : (o.kind == 2) = false := by simpa using h2
    by_cases h1 : o.kind = 1
    · have k1 : (o.kind != 1) = false := by rw [h1]; rfl
      simp only [h1] at he ⊢
      by_cases hp : p < 0
      · simp only [hp] at he ⊢
        clear h1 h2
        go_enter Try.func23, Try.ntmps23
        go_wp2
        exact bodyPost_ret (v := .tuple #[.agg #[.int .i64 0, .slice none 0 0, .slice none 0 0, .string ⟨#[]⟩, .int .i64 0, .slice none 0 0, .int .i64 0, .int .i64 0, .int .i64 0], .int .i64 3]) (by simp [results, Try.results23, go_sem]) rfl ⟨rfl, ((Below.refl _ _).alloc (Nat.le_refl _) _).alloc (by simp) _⟩
      · by_cases hq : p > 60 - (b.length : Int)
        · have e15 : (if (1 : Int) = 1 then (0 : Int) else if (1 : Int) = 2 then 12 else 8) = 0 := rfl
          simp only [hp, hq] at he ⊢
          by_cases h60 : 60 < p
          · clear h1 h2 he e15
            go_enter Try.func23, Try.ntmps23
            go_wp2
            exact bodyPost_ret (v := .tuple #[.agg #[.int .i64 0, .slice none 0 0, .slice none 0 0, .string ⟨#[]⟩, .int .i64 0, .slice none 0 0, .int .i64 0, .int .i64 0, .int .i64 0], .int .i64 15]) (by simp [results, Try.results23, go_sem]) rfl ⟨rfl, ((Below.refl _ _).alloc (Nat.le_refl _) _).alloc (by simp) _⟩
          · have hlen : 60 - p < (b.length : Int) := by omega
            have hp0 : 0 ≤ p := by omega
            have hp60 : p ≤ 60 := by omega
            clear h1 h2 he e15
            go_enter Try.func23, Try.ntmps23
            go_wp2
            exact bodyPost_ret (v := .tuple #[.agg #[.int .i64 0, .slice none 0 0, .slice none 0 0, .string ⟨#[]⟩, .int .i64 0, .slice none 0 0, .int .i64 0, .int .i64 0, .int .i64 0], .int .i64 15]) (by simp [results, Try.results23, go_sem]) rfl ⟨rfl, ((Below.refl _ _).alloc (Nat.le_refl _) _).alloc (by simp) _⟩
        · simp [hp, hq] at he
    · have k1 : (o.kind != 1) = true := by simpa using h1
      simp only [h1, h2] at he ⊢
      clear h1 h2 he
      go_enter Try.func23, Try.ntmps23
      go_wp2
      exact bodyPost_ret (v := .tuple #[.agg #[.int .i64 0, .slice none 0 0, .slice none 0 0, .string ⟨#[]⟩, .int .i64 0, .slice none 0 0, .int .i64 0, .int .i64 0, .int .i64 0], .int .i64 8]) (by simp [results, Try.results23, go_sem]) rfl ⟨rfl, ((Below.refl _ _).alloc (Nat.le_refl _) _).alloc (by simp) _⟩
end Go.Proofs.Ytaobjpajbpoamaa
/-
  rgref5.Write, walked.
-/
namespace Go.Proofs.Ytaobjpajbpoamaa
open Go.RowKit
set_option maxRecDepth 100000 in
set_option maxHeartbeats 4000000 in
theorem rwrite_nil (s : Sls) (o : Sp.Ob) (k : Nat) (vb : Value) (S : Nat → Prop) (w : World) (hv : Lists w S (s, o)) (hb : Bytes w S vb []) (hS : ∀ b, S b → b < w.heap.size) (hk : o.kind = 1) (hkb : k ≤ 60) :
    Calls Try.prog 23 #[.agg (objC (s, o)).toArray, .int .i64 k, vb] w fun e w' => ∃ s' : Sls, e = .returned (.tuple #[.agg (objC (s', Sp.write o k [])).toArray, .int .i64 0]) ∧ Lists w' (fun x => x < w'.heap.size) (s', Sp.write o k []) ∧ Below w.heap.size w w' := by
  have e0 : Sp.write o k [] = o := rfl
  rw [e0]
  obtain ⟨va, vc, rfl, -⟩ := Row.form hb
  simp only [List.map_nil, List.length_nil]
  have HV : Hid (Lists w S (s, o)) := hv
  have HS : Hid (∀ b, S b → b < w.heap.size) := hS
  have HE : Hid ((objC (s, o)).toArray = #[.int .i64 1, .slice s.d.a s.d.n s.d.c, .slice s.e.a s.e.n s.e.c, .string o.target, .int .i64 o.peer, .slice s.q.a s.q.n s.q.c, .int .i64 o.proc, .int .i64 o.links, .int .i64 o.up]) := by unfold Hid; rw [objV_eq, hk]
  rw [HE.out]
  have HF : Hid (∀ W, Below w.heap.size w W → Lists W (fun x => x < W.heap.size) (s, o)) := fun W hW => (HV.out.on ((On.of hW).less HS.out)).more fun x hx => Nat.lt_of_lt_of_le (HS.out x hx) hW.size
  clear hv hb hS e0
  go_enter Try.func23, Try.ntmps23
  go_wp2
  refine bodyPost_ret (v := .tuple #[.agg #[.int .i64 1, .slice s.d.a s.d.n s.d.c, .slice s.e.a s.e.n s.e.c, .string o.target, .int .i64 o.peer, .slice s.q.a s.q.n s.q.c, .int .i64 o.proc, .int .i64 o.links, .int .i64 o.up], .int .i64 0]) (by simp [results, Try.results23, go_sem]) rfl ⟨s, by rw [HE.out], HF.out _ ?_, ?_⟩
  · exact ((Below.refl _ _).alloc (Nat.le_refl _) _).alloc (by simp) _
  · exact ((Below.refl _ _).alloc (Nat.le_refl _) _).alloc (by simp) _
set_option maxRecDepth 100000 in
set_option maxHeartbeats 4000000 in
theorem rwrite_some (s : Sls) (o : Sp.Ob) (k : Nat) (b : List UInt8) (vb : Value) (S : Nat → Prop) (w : World) (hv : Lists w S (s, o)) (hb : Bytes w S vb b) (hS : ∀ b, S b → b < w.heap.size) (hk : o.kind = 1) (hb0 : 0 < b.length) (hkb : k + b.length ≤ 60) (hdl : o.data.length ≤ 140737488355328) :
    Calls Try.prog 23 #[.agg (objC (s, o)).toArray, .int .i64 k, vb] w fun e w' => ∃ s' : Sls, e = .returned (.tuple #[.agg (objC (s', Sp.write o k b)).toArray, .int .i64 0]) ∧ Lists w' (fun x => x < w'.heap.size) (s', Sp.write o k b) ∧ Below w.heap.size w w' := by
  obtain ⟨i0, hi, hz0, hz1, hz2⟩ := info_parts Try.infoByte
  have hsz : (Try.prog.info? 5).map (·.size) = some 1 := by rw [hi]; simp [hz1]
  have HSZ : Hid _ := hsz
  clear hsz
  have hwr : Sp.write o k b = { o with data := lay o.data k b } := by unfold Sp.write; rw [if_pos hb0]
  have HE : Hid ((objC (s, o)).toArray = #[.int .i64 1, .slice s.d.a s.d.n s.d.c, .slice s.e.a s.e.n s.e.c, .string o.target, .int .i64 o.peer, .slice s.q.a s.q.n s.q.c, .int .i64 o.proc, .int .i64 o.links, .int .i64 o.up]) := by unfold Hid; rw [objV_eq, hk]
  rw [HE.out]
  obtain ⟨ba, bc, rfl, -⟩ := Row.form hb
  rw [List.length_map] at hb ⊢
  obtain ⟨⟨da, dn, dc⟩, se, sq⟩ := s
  have hdn := Row.eqNil hv.1
  rw [List.length_map] at hdn
  dsimp only at hdn
  subst hdn
  have HVL : Hid (Lists w S (⟨⟨da, o.data.length, dc⟩, se, sq⟩, o)) := hv
  have HD : Hid (Bytes w S (.slice da o.data.length dc) o.data) := hv.1
  have HB : Hid (Bytes w S (.slice ba b.length bc) b) := hb
  have HS : Hid (∀ b, S b → b < w.heap.size) := hS
  have HLL : Hid ((lay o.data k b).length = max o.data.length (k + b.length)) := lay_length o.data k b
  have HLY : Hid (lay o.data k b = splice (splice (List.replicate (max o.data.length (k + b.length)) 0) 0 o.data) k b) := rfl
  have HOUT : Hid (∀ (w0 W : World) (N : Nat), N = (lay o.data k b).length → w0.heap.size = w.heap.size + 2 → On (fun x => x < w.heap.size) w W → Bytes W (fun x => x = w0.heap.size) (.slice (some ⟨w0.heap.size, 0, none⟩) N N) (lay o.data k b) → w0.heap.size < W.heap.size → ∃ s' : Sls, (Value.agg #[.int .i64 1, .slice (some ⟨w0.heap.size, 0, none⟩) N N, .slice se.a se.n se.c, .string o.target, .int .i64 o.peer, .slice sq.a sq.n sq.c, .int .i64 o.proc, .int .i64 o.links, .int .i64 o.up]) = .agg (objC (s', Sp.write o k b)).toArray ∧ Lists W (fun x => x < W.heap.size) (s', Sp.write o k b)) := by
    intro w0 W N hN hw0 hon hby hlt
    refine ⟨⟨⟨some ⟨w0.heap.size, 0, none⟩, N, N⟩, se, sq⟩, ?_, ?_⟩
    · rw [hwr, objV_eq]
      dsimp only
      rw [hk]
    · rw [hwr]
      have h1 := (HVL.out.on (hon.less HS.out)).more (T := fun x => x < W.heap.size) fun x hx => by have := HS.out x hx; omega
      exact h1.bytes ⟨some ⟨w0.heap.size, 0, none⟩, N, N⟩ _ (Row.more hby fun x hx => by omega)
  clear hv hb hS hwr HVL hk
  generalize hdd : o.data = d at *
  generalize lay d k b = R at *
  obtain ⟨N, hN⟩ : ∃ N, N = max d.length (k + b.length) := ⟨_, rfl⟩
  rw [← hN] at HLL HLY
  have hNd : d.length ≤ N := by omega
  have hNk : k + b.length ≤ N := by omega
  have hNm : N ≤ 140737488355328 := by omega
  have HN : Hid (N = max d.length (k + b.length)) := hN
  clear hN
  have HDP : Hid (∀ W : World, Below w.heap.size w W → 0 < (cellsB d).length → ∃ ad, da = some ad ∧ ∀ j v, (cellsB d)[j]? = some v → W.cell? (ad.add j) = some v) := by
    intro W hW h0
    rw [cellsB_length] at h0
    have hr := Row.on HD.out ((On.of hW).less HS.out)
    obtain ⟨x, o, c, he, -⟩ := Row.some hr (by rw [List.length_map]; omega)
    obtain ⟨rfl, -, -⟩ := Value.slice.inj he
    exact ⟨_, rfl, Bytes.cells hr⟩
  have HBP : Hid (∀ W : World, Below w.heap.size w W → 0 < (cellsB b).length → ∃ ad, ba = some ad ∧ ∀ j v, (cellsB b)[j]? = some v → W.cell? (ad.add j) = some v) := by
    intro W hW h0
    rw [cellsB_length] at h0
    have hr := Row.on HB.out ((On.of hW).less HS.out)
    obtain ⟨x, o, c, he, -⟩ := Row.some hr (by rw [List.length_map]; omega)
    obtain ⟨rfl, -, -⟩ := Value.slice.inj he
    exact ⟨_, rfl, Bytes.cells hr⟩
  have HBE : Hid (Below w.heap.size w ((w.alloc (.cells #[.int .i64 1, .slice da d.length dc, .slice se.a se.n se.c, .string o.target, .int .i64 o.peer, .slice sq.a sq.n sq.c, .int .i64 o.proc, .int .i64 o.links, .int .i64 o.up] 35)).alloc (.cells #[.int .i64 0, .slice none 0 0, .slice none 0 0, .string ⟨#[]⟩, .int .i64 0, .slice none 0 0, .int .i64 0, .int .i64 0, .int .i64 0] 35))) := ((Below.refl _ _).alloc (Nat.le_refl _) _).alloc (by simp) _
  have HK0 : Hid (Blk ((w.alloc (.cells #[.int .i64 1, .slice da d.length dc, .slice se.a se.n se.c, .string o.target, .int .i64 o.peer, .slice sq.a sq.n sq.c, .int .i64 o.proc, .int .i64 o.links, .int .i64 o.up] 35)).alloc (.cells #[.int .i64 0, .slice none 0 0, .slice none 0 0, .string ⟨#[]⟩, .int .i64 0, .slice none 0 0, .int .i64 0, .int .i64 0, .int .i64 0] 35)) w.heap.size #[.int .i64 1, .slice da d.length dc, .slice se.a se.n se.c, .string o.target, .int .i64 o.peer, .slice sq.a sq.n sq.c, .int .i64 o.proc, .int .i64 o.links, .int .i64 o.up] 35) := (Blk.new w _ _).alloc _
  have HK1 : Hid (Blk ((w.alloc (.cells #[.int .i64 1, .slice da d.length dc, .slice se.a se.n se.c, .string o.target, .int .i64 o.peer, .slice sq.a sq.n sq.c, .int .i64 o.proc, .int .i64 o.links, .int .i64 o.up] 35)).alloc (.cells #[.int .i64 0, .slice none 0 0, .slice none 0 0, .string ⟨#[]⟩, .int .i64 0, .slice none 0 0, .int .i64 0, .int .i64 0, .int .i64 0] 35)) (w.heap.size + 1) #[.int .i64 0, .slice none 0 0, .slice none 0 0, .string ⟨#[]⟩, .int .i64 0, .slice none 0 0, .int .i64 0, .int .i64 0, .int .i64 0] 35) := by
    have h := Blk.new (w.alloc (.cells #[.int .i64 1, .slice da d.length dc, .slice se.a se.n se.c, .string o.target, .int .i64 o.peer, .slice sq.a sq.n sq.c, .int .i64 o.proc, .int .i64 o.links, .int .i64 o.up] 35)) #[.int .i64 0, .slice none 0 0, .slice none 0 0, .string ⟨#[]⟩, .int .i64 0, .slice none 0 0, .int .i64 0, .int .i64 0, .int .i64 0] 35
    have e : (w.alloc (.cells #[.int .i64 1, .slice da d.length dc, .slice se.a se.n se.c, .string o.target, .int .i64 o.peer, .slice sq.a sq.n sq.c, .int .i64 o.proc, .int .i64 o.links, .int .i64 o.up] 35)).heap.size = w.heap.size + 1 := by simp
    rw [e] at h
    exact h
  have hw0 : ((w.alloc (.cells #[.int .i64 1, .slice da d.length dc, .slice se.a se.n se.c, .string o.target, .int .i64 o.peer, .slice sq.a sq.n sq.c, .int .i64 o.proc, .int .i64 o.links, .int .i64 o.up] 35)).alloc (.cells #[.int .i64 0, .slice none 0 0, .slice none 0 0, .string ⟨#[]⟩, .int .i64 0, .slice none 0 0, .int .i64 0, .int .i64 0, .int .i64 0] 35)).heap.size = w.heap.size + 2 := by simp
  have HW0 : Hid _ := hw0
  clear hw0
  have hbz : ¬ (b.length : Int) = 0 := by omega
  have hbz' : ((b.length : Int) == 0) = false := by simpa using hbz
  have h60 : ¬ (60 : Int) < (k : Int) := by omega
  have h61 : ¬ (60 : Int) - (k : Int) < (b.length : Int) := by omega
  by_cases hc : d.length < k + b.length
  · have hcz : (d.length : Int) < (k : Int) + (b.length : Int) := by omega
    go_enter Try.func23, Try.ntmps23
    go_wp2_with (with_reducible refine stop_at (.makeSlice 22 (.tmp 48) (.tmp 48)) rfl ?_)
    unfold Hold
    generalize ((w.alloc (.cells #[.int .i64 1, .slice da d.length dc, .slice se.a se.n se.c, .string o.target, .int .i64 o.peer, .slice sq.a sq.n sq.c, .int .i64 o.proc, .int .i64 o.links, .int .i64 o.up] 35)).alloc (.cells #[.int .i64 0, .slice none 0 0, .slice none 0 0, .string ⟨#[]⟩, .int .i64 0, .slice none 0 0, .int .i64 0, .int .i64 0, .int .i64 0] 35)) = w0 at *
    refine wpList_make_full _ rfl _ _ _ rfl w0.heap.size 5 i0 (.int .u8 0) 1 Try.underlying22 hi hz0 hz1 .i64 .i64 _ _ N rfl rfl ?a0 ?a0' ?a1 ?a2 (Nat.le_refl _) ?_
    case a0 => have := HN.out; omega
    case a0' => have := HN.out; omega
    case a1 => rw [hz2]; omega
    case a2 => unfold maxLen; omega
    intro w1 ho hg
    rw [Nat.mul_one, show (Value.int IntKind.u8 0).cells = #[Value.int .u8 0] from rfl, made_bytes] at ho
    have HH : Hid (w1.heap[w0.heap.size]? = some (.cells (cellsB (List.replicate N 0)).toArray 5 (0, 0))) := own_block ho
    have HB1 : Hid (Below w0.heap.size w0 w1) := below_none hg
    have hz1 : w0.heap.size < w1.heap.size := lt_of_block HH.out
    have e1 : Hid ((cellsB d).length = Nat.min d.length N) := by unfold Hid; rw [cellsB_length]; show _ = min _ _; omega
    have e2 : Hid (0 + (cellsB d).length ≤ (cellsB (List.replicate N 0)).length) := by unfold Hid; rw [cellsB_length, cellsB_length, List.length_replicate]; omega
    clear ho hg
    generalize hL0 : cellsB (List.replicate N 0) = L0 at HH e2
    generalize hC0 : cellsB d = C0 at e1 e2 HDP
    have HL0 : Hid (cellsB (List.replicate N 0) = L0) := hL0
    have HC0 : Hid (cellsB d = C0) := hC0
    have HC1 : Hid (∀ v ∈ C0, v.oneCell' = true) := by rw [← hC0]; exact cellsB_one d
    clear hL0 hC0
    have hc01 : w1.cell? ⟨w.heap.size, 1, none⟩ = some (.slice da d.length dc) := (HK0.out.below HB1.out HK0.out.lt).cell 1
    have hlk0 : w.heap.size < w1.heap.size := by have := HK0.out.lt; omega
    go_wp2_with (refine wpList_copy_splice rfl _ _ _ _ rfl 5 Try.underlying22 HSZ.out (some ⟨w0.heap.size, 0, none⟩) da N N d.length dc rfl rfl w0.heap.size 0 L0 5 HH.out C0 e1.out (fun h => ⟨rfl, HDP.out w1 (HBE.out.trans (HB1.out.mono HBE.out.size)) h⟩) e2.out HC1.out w0.heap.size w0 HB1.out (Nat.le_refl _) ?_)
    intro w2 HH2 hb2
    generalize hL1 : splice L0 0 C0 = L1 at HH2
    have HL1 : Hid (splice L0 0 C0 = L1) := hL1
    have HB2 : Hid (Below w0.heap.size w0 w2) := hb2
    have hl1 : L1.length = N := by
      rw [← hL1, length_splice _ _ _ e2.out, ← HL0.out, cellsB_length, List.length_replicate]
    have f1 : Hid ((cellsB b).length = Nat.min b.length (N - k)) := by unfold Hid; rw [cellsB_length]; show _ = min _ _; omega
    have f2 : Hid (k + (cellsB b).length ≤ L1.length) := by unfold Hid; rw [cellsB_length]; omega
    generalize hC1 : cellsB b = C1 at f1 f2 HBP
    have HCB : Hid (cellsB b = C1) := hC1
    have HCO : Hid (∀ v ∈ C1, v.oneCell' = true) := by rw [← hC1]; exact cellsB_one b
    clear hL1 hb2 hl1 hC1 HH HDP e1 hc01
    have hkN : k < N := by omega
    go_wp2_with (refine wpList_copy_splice rfl _ _ _ _ rfl 5 Try.underlying22 HSZ.out (some ⟨w0.heap.size, k, none⟩) ba (N - k) (N - k) b.length bc rfl rfl w0.heap.size k L1 5 HH2.out C1 f1.out (fun h => ⟨rfl, HBP.out w2 (HBE.out.trans (HB2.out.mono HBE.out.size)) h⟩) f2.out HCO.out w0.heap.size w0 HB2.out (Nat.le_refl _) ?_)
    intro w3 HH3 hb3
    have HF : Hid (w3.heap[w0.heap.size]? = some (.cells (cellsB R).toArray 5 (0, 0))) := by
      unfold Hid
      rw [HH3.out, HLY.out, ← splice_bytes, ← splice_bytes, HL0.out, HC0.out, HL1.out, HCB.out]
    have HB3 : Hid (Below w0.heap.size w0 w3) := hb3
    have hK0 := HK0.out.below hb3 HK0.out.lt
    have hK1 := HK1.out.below hb3 HK1.out.lt
    have HK03 : Hid _ := hK0
    have HK13 : Hid _ := hK1
    have c0 := hK0.cell
    have g0 := hK0.free
    have c1 := hK1.cell
    have g1 := hK1.free
    have hl0 := hK0.lt
    have hl1 := hK1.lt
    clear HH3 HH2 HL1 HL0 HC0 HCB hb3 hK0 hK1
    go_wp2
    generalize hW : ((((((((((w3.setCell ⟨w.heap.size, 1, none⟩ (.slice (some ⟨w0.heap.size, 0, none⟩) N N)).setCell ⟨w.heap.size + 1, 0, none⟩ (.int .i64 1)).setCell ⟨w.heap.size + 1, 1, none⟩ (.slice (some ⟨w0.heap.size, 0, none⟩) N N)).setCell ⟨w.heap.size + 1, 2, none⟩ (.slice se.a se.n se.c)).setCell ⟨w.heap.size + 1, 3, none⟩ (.string o.target)).setCell ⟨w.heap.size + 1, 4, none⟩ (.int .i64 o.peer)).setCell ⟨w.heap.size + 1, 5, none⟩ (.slice sq.a sq.n sq.c)).setCell ⟨w.heap.size + 1, 6, none⟩ (.int .i64 o.proc)).setCell ⟨w.heap.size + 1, 7, none⟩ (.int .i64 o.links)).setCell ⟨w.heap.size + 1, 8, none⟩ (.int .i64 o.up)) = W9
    have hr9 : Blk (w3.setCell ⟨w.heap.size, 1, none⟩ (.slice (some ⟨w0.heap.size, 0, none⟩) N N)) (w.heap.size + 1) _ _ := Blk.other HK13.out (a := ⟨w.heap.size, 1, none⟩) (by show w.heap.size + 1 ≠ w.heap.size; omega) _
    obtain ⟨hb9, hon9, hsz9⟩ := Blk.nine hr9 _ _ _ _ _ _ _ _ _ W9 hW.symm
    have hc9 := hb9.cell
    have hBw3 : Below w.heap.size w w3 := HBE.out.trans (HB3.out.mono HBE.out.size)
    have hB9 : Below w.heap.size w W9 := by
      rw [← hW]
      exact Below.nine (hBw3.setCell (Nat.le_refl _) _) (by omega) _ _ _ _ _ _ _ _ _
    have hszS : (w3.setCell ⟨w.heap.size, 1, none⟩ (.slice (some ⟨w0.heap.size, 0, none⟩) N N)).heap.size = w3.heap.size := by simp
    have honF : On (fun x => x ≠ w.heap.size ∧ x ≠ w.heap.size + 1) w3 W9 := ((On.set w3 ⟨w.heap.size, 1, none⟩ _).less fun b hb => hb.1).trans (hon9.less fun b hb => hb.2)
    have hF9 : W9.heap[w0.heap.size]? = some (.cells (cellsB R).toArray 5 (0, 0)) := (honF _ ⟨by have := HW0.out; omega, by have := HW0.out; omega⟩).trans HF.out
    have hNR : N = R.length := HLL.out.symm
    have hby : Bytes W9 (fun x => x = w0.heap.size) (.slice (some ⟨w0.heap.size, 0, none⟩) N N) R := by
      have := bytes_block hF9 (by rw [HLL.out]; unfold maxLen; omega) (fun x => x = w0.heap.size) rfl
      rw [← hNR] at this
      exact this
    obtain ⟨s', he', hl'⟩ := HOUT.out w0 W9 N hNR HW0.out (On.of hB9) hby (lt_of_block hF9)
    refine bodyPost_ret (v := .tuple #[.agg #[.int .i64 1, .slice (some ⟨w0.heap.size, 0, none⟩) N N, .slice se.a se.n se.c, .string o.target, .int .i64 o.peer, .slice sq.a sq.n sq.c, .int .i64 o.proc, .int .i64 o.links, .int .i64 o.up], .int .i64 0]) (by simp [results, Try.results23, go_sem, hc9]) rfl ⟨s', by rw [← he'], hl', hB9⟩
  · have hcz : (k : Int) + (b.length : Int) ≤ (d.length : Int) := by omega
    go_enter Try.func23, Try.ntmps23
    go_wp2_with (with_reducible refine stop_at (.makeSlice 22 (.tmp 48) (.tmp 48)) rfl ?_)
    unfold Hold
    generalize ((w.alloc (.cells #[.int .i64 1, .slice da d.length dc, .slice se.a se.n se.c, .string o.target, .int .i64 o.peer, .slice sq.a sq.n sq.c, .int .i64 o.proc, .int .i64 o.links, .int .i64 o.up] 35)).alloc (.cells #[.int .i64 0, .slice none 0 0, .slice none 0 0, .string ⟨#[]⟩, .int .i64 0, .slice none 0 0, .int .i64 0, .int .i64 0, .int .i64 0] 35)) = w0 at *
    refine wpList_make_full _ rfl _ _ _ rfl w0.heap.size 5 i0 (.int .u8 0) 1 Try.underlying22 hi hz0 hz1 .i64 .i64 _ _ N rfl rfl ?a0 ?a0' ?a1 ?a2 (Nat.le_refl _) ?_
    case a0 => have := HN.out; omega
    case a0' => have := HN.out; omega
    case a1 => rw [hz2]; omega
    case a2 => unfold maxLen; omega
    intro w1 ho hg
    rw [Nat.mul_one, show (Value.int IntKind.u8 0).cells = #[Value.int .u8 0] from rfl, made_bytes] at ho
    have HH : Hid (w1.heap[w0.heap.size]? = some (.cells (cellsB (List.replicate N 0)).toArray 5 (0, 0))) := own_block ho
    have HB1 : Hid (Below w0.heap.size w0 w1) := below_none hg
    have hz1 : w0.heap.size < w1.heap.size := lt_of_block HH.out
    have e1 : Hid ((cellsB d).length = Nat.min d.length N) := by unfold Hid; rw [cellsB_length]; show _ = min _ _; omega
    have e2 : Hid (0 + (cellsB d).length ≤ (cellsB (List.replicate N 0)).length) := by unfold Hid; rw [cellsB_length, cellsB_length, List.length_replicate]; omega
    clear ho hg
    generalize hL0 : cellsB (List.replicate N 0) = L0 at HH e2
    generalize hC0 : cellsB d = C0 at e1 e2 HDP
    have HL0 : Hid (cellsB (List.replicate N 0) = L0) := hL0
    have HC0 : Hid (cellsB d = C0) := hC0
    have HC1 : Hid (∀ v ∈ C0, v.oneCell' = true) := by rw [← hC0]; exact cellsB_one d
    clear hL0 hC0
    have hc01 : w1.cell? ⟨w.heap.size, 1, none⟩ = some (.slice da d.length dc) := (HK0.out.below HB1.out HK0.out.lt).cell 1
    have hlk0 : w.heap.size < w1.heap.size := by have := HK0.out.lt; omega
    go_wp2_with (refine wpList_copy_splice rfl _ _ _ _ rfl 5 Try.underlying22 HSZ.out (some ⟨w0.heap.size, 0, none⟩) da N N d.length dc rfl rfl w0.heap.size 0 L0 5 HH.out C0 e1.out (fun h => ⟨rfl, HDP.out w1 (HBE.out.trans (HB1.out.mono HBE.out.size)) h⟩) e2.out HC1.out w0.heap.size w0 HB1.out (Nat.le_refl _) ?_)
    intro w2 HH2 hb2
    generalize hL1 : splice L0 0 C0 = L1 at HH2
    have HL1 : Hid (splice L0 0 C0 = L1) := hL1
    have HB2 : Hid (Below w0.heap.size w0 w2) := hb2
    have hl1 : L1.length = N := by
      rw [← hL1, length_splice _ _ _ e2.out, ← HL0.out, cellsB_length, List.length_replicate]
    have f1 : Hid ((cellsB b).length = Nat.min b.length (N - k)) := by unfold Hid; rw [cellsB_length]; show _ = min _ _; omega
    have f2 : Hid (k + (cellsB b).length ≤ L1.length) := by unfold Hid; rw [cellsB_length]; omega
    generalize hC1 : cellsB b = C1 at f1 f2 HBP
    have HCB : Hid (cellsB b = C1) := hC1
    have HCO : Hid (∀ v ∈ C1, v.oneCell' = true) := by rw [← hC1]; exact cellsB_one b
    clear hL1 hb2 hl1 hC1 HH HDP e1 hc01
    have hkN : k < N := by omega
    go_wp2_with (refine wpList_copy_splice rfl _ _ _ _ rfl 5 Try.underlying22 HSZ.out (some ⟨w0.heap.size, k, none⟩) ba (N - k) (N - k) b.length bc rfl rfl w0.heap.size k L1 5 HH2.out C1 f1.out (fun h => ⟨rfl, HBP.out w2 (HBE.out.trans (HB2.out.mono HBE.out.size)) h⟩) f2.out HCO.out w0.heap.size w0 HB2.out (Nat.le_refl _) ?_)
    intro w3 HH3 hb3
    have HF : Hid (w3.heap[w0.heap.size]? = some (.cells (cellsB R).toArray 5 (0, 0))) := by
      unfold Hid
      rw [HH3.out, HLY.out, ← splice_bytes, ← splice_bytes, HL0.out, HC0.out, HL1.out, HCB.out]
    have HB3 : Hid (Below w0.heap.size w0 w3) := hb3
    have hK0 := HK0.out.below hb3 HK0.out.lt
    have hK1 := HK1.out.below hb3 HK1.out.lt
    have HK03 : Hid _ := hK0
    have HK13 : Hid _ := hK1
    have c0 := hK0.cell
    have g0 := hK0.free
    have c1 := hK1.cell
    have g1 := hK1.free
    have hl0 := hK0.lt
    have hl1 := hK1.lt
    clear HH3 HH2 HL1 HL0 HC0 HCB hb3 hK0 hK1
    go_wp2
    generalize hW : ((((((((((w3.setCell ⟨w.heap.size, 1, none⟩ (.slice (some ⟨w0.heap.size, 0, none⟩) N N)).setCell ⟨w.heap.size + 1, 0, none⟩ (.int .i64 1)).setCell ⟨w.heap.size + 1, 1, none⟩ (.slice (some ⟨w0.heap.size, 0, none⟩) N N)).setCell ⟨w.heap.size + 1, 2, none⟩ (.slice se.a se.n se.c)).setCell ⟨w.heap.size + 1, 3, none⟩ (.string o.target)).setCell ⟨w.heap.size + 1, 4, none⟩ (.int .i64 o.peer)).setCell ⟨w.heap.size + 1, 5, none⟩ (.slice sq.a sq.n sq.c)).setCell ⟨w.heap.size + 1, 6, none⟩ (.int .i64 o.proc)).setCell ⟨w.heap.size + 1, 7, none⟩ (.int .i64 o.links)).setCell ⟨w.heap.size + 1, 8, none⟩ (.int .i64 o.up)) = W9
    have hr9 : Blk (w3.setCell ⟨w.heap.size, 1, none⟩ (.slice (some ⟨w0.heap.size, 0, none⟩) N N)) (w.heap.size + 1) _ _ := Blk.other HK13.out (a := ⟨w.heap.size, 1, none⟩) (by show w.heap.size + 1 ≠ w.heap.size; omega) _
    obtain ⟨hb9, hon9, hsz9⟩ := Blk.nine hr9 _ _ _ _ _ _ _ _ _ W9 hW.symm
    have hc9 := hb9.cell
    have hBw3 : Below w.heap.size w w3 := HBE.out.trans (HB3.out.mono HBE.out.size)
    have hB9 : Below w.heap.size w W9 := by
      rw [← hW]
      exact Below.nine (hBw3.setCell (Nat.le_refl _) _) (by omega) _ _ _ _ _ _ _ _ _
    have hszS : (w3.setCell ⟨w.heap.size, 1, none⟩ (.slice (some ⟨w0.heap.size, 0, none⟩) N N)).heap.size = w3.heap.size := by simp
    have honF : On (fun x => x ≠ w.heap.size ∧ x ≠ w.heap.size + 1) w3 W9 := ((On.set w3 ⟨w.heap.size, 1, none⟩ _).less fun b hb => hb.1).trans (hon9.less fun b hb => hb.2)
    have hF9 : W9.heap[w0.heap.size]? = some (.cells (cellsB R).toArray 5 (0, 0)) := (honF _ ⟨by have := HW0.out; omega, by have := HW0.out; omega⟩).trans HF.out
    have hNR : N = R.length := HLL.out.symm
    have hby : Bytes W9 (fun x => x = w0.heap.size) (.slice (some ⟨w0.heap.size, 0, none⟩) N N) R := by
      have := bytes_block hF9 (by rw [HLL.out]; unfold maxLen; omega) (fun x => x = w0.heap.size) rfl
      rw [← hNR] at this
      exact this
    obtain ⟨s', he', hl'⟩ := HOUT.out w0 W9 N hNR HW0.out (On.of hB9) hby (lt_of_block hF9)
    refine bodyPost_ret (v := .tuple #[.agg #[.int .i64 1, .slice (some ⟨w0.heap.size, 0, none⟩) N N, .slice se.a se.n se.c, .string o.target, .int .i64 o.peer, .slice sq.a sq.n sq.c, .int .i64 o.proc, .int .i64 o.links, .int .i64 o.up], .int .i64 0]) (by simp [results, Try.results23, go_sem, hc9]) rfl ⟨s', by rw [← he'], hl', hB9⟩
theorem rwrite_ok (s : Sls) (o : Sp.Ob) (k : Nat) (b : List UInt8) (vb : Value) (S : Nat → Prop) (w : World) (hv : Lists w S (s, o)) (hb : Bytes w S vb b) (hS : ∀ b, S b → b < w.heap.size) (hk : o.kind = 1) (hkb : k + b.length ≤ 60) (hdl : o.data.length ≤ 140737488355328) :
    Calls Try.prog 23 #[.agg (objC (s, o)).toArray, .int .i64 k, vb] w fun e w' => ∃ s' : Sls, e = .returned (.tuple #[.agg (objC (s', Sp.write o k b)).toArray, .int .i64 0]) ∧ Lists w' (fun x => x < w'.heap.size) (s', Sp.write o k b) ∧ Below w.heap.size w w' := by
  by_cases h0 : 0 < b.length
  · exact rwrite_some s o k b vb S w hv hb hS hk h0 hkb hdl
  · obtain rfl : b = [] := List.length_eq_zero_iff.1 (by omega)
    exact rwrite_nil s o k vb S w hv hb hS hk (by simpa using hkb)
end Go.Proofs.Ytaobjpajbpoamaa
/-
  Package store and the document's answer, side by side, over a store of Build's.
-/
namespace Go.Proofs.Ytaobjpajbpoamaa
open Go.RowKit
theorem objs_nil (w : World) (S : Nat → Prop) : Objs w S (.slice none 0 0) [] := ⟨[], rfl, Row.nil _ _ _ _ _, fun t ht => by simp at ht⟩
/-- A call that leaves objects, and an error. -/
def Leaves2 (f : Nat) (args : Value → Array Value) (L R : List Sp.Ob) (er : Int) : Prop :=
  ∀ (v : Value) (S : Nat → Prop) (w : World), Objs w S v L → (∀ b, S b → b < w.heap.size) → Calls Try.prog f (args v) w fun e w' => ∃ v', e = .returned (.tuple #[v', .int .i64 er]) ∧ Objs w' (fun b => b < w'.heap.size) v' R ∧ Below w.heap.size w w'
def Leaves3 (f : Nat) (args : Value → Array Value) (L R : List Sp.Ob) (n er : Int) : Prop :=
  ∀ (v : Value) (S : Nat → Prop) (w : World), Objs w S v L → (∀ b, S b → b < w.heap.size) → Calls Try.prog f (args v) w fun e w' => ∃ v', e = .returned (.tuple #[v', .int .i64 n, .int .i64 er]) ∧ Objs w' (fun b => b < w'.heap.size) v' R ∧ Below w.heap.size w w'
theorem or_lt {S : Nat → Prop} {w w' : World} (hS : ∀ b, S b → b < w.heap.size) (hb : Below w.heap.size w w') : ∀ b, Or' S w.heap.size w'.heap.size b → b < w'.heap.size := fun b h => h.elim (fun h => Nat.lt_of_lt_of_le (hS b h) hb.size) (fun h => h.2)
theorem enter_two (L : List Sp.Ob) (dir obj : Int) (name : ByteArray) (hT : Sp.TOk L) (hL : L.length ≤ 14) (hs : name.size ≤ maxLen) :
    ∃ (R : List Sp.Ob) (er : Int), Leaves2 16 (fun v => #[v, .int .i64 dir, .string name, .int .i64 obj]) L R er ∧ Leaves2 17 (fun v => #[v, .int .i64 dir, .string name, .int .i64 obj]) L R er := by
  have hinh : Inhabited Sp.Ent := ⟨⟨⟨#[]⟩, 0⟩⟩
  by_cases hE : Sp.noEnter L dir name obj = 0
  · obtain ⟨d, j, od, oj, rfl, rfl, hd, hj, hkd, hkj, hlk, hnm, hpl, h8⟩ := noEnter_zero hE
    refine ⟨Sp.entered L d j od ⟨name, j⟩, 0, fun v S w hv hS => ?_, fun v S w hv hS => ?_⟩
    · have := enter_ok L d j name od oj v S w hv hS hs (fits_ok hT (by omega)) (by omega) (links_ok hT) hE hd hj hkj h8
      rw [sorted_ins _ _ (hT.all _ _ hd).rise (place_none hpl _)] at this
      refine this.mono ?_
      rintro e w' ⟨v', rfl, ho, hb⟩
      exact ⟨v', rfl, ho.more fun b hb => hb.2, hb⟩
    · have hfi : Sp.find L d name = -1 := by
        have h := (find_of_place hT hd hkd name).2
        rcases place_cases name od.ents with ⟨h1, h2⟩ | ⟨i, x, h1, -⟩
        · unfold Sp.find
          rw [objAt_of hd (by omega)]
          dsimp only
          rw [if_pos hkd, h2]
        · rw [hpl] at h1; omega
      refine (renter_ok L d j name od oj v S w hv hS hs (by omega) (links_ok hT) hd hj hkd hkj (by omega) hnm hfi h8).mono ?_
      rintro e w' ⟨a, c, rfl, ho, hb⟩
      exact ⟨_, rfl, ho.more (or_lt hS hb), hb⟩
  · refine ⟨[], Sp.noEnter L dir name obj, fun v S w hv hS => ?_, fun v S w hv hS => ?_⟩
    · refine (enter_err L dir name obj v S w hv hS hs hE).mono ?_
      rintro e w' ⟨rfl, hb⟩
      exact ⟨_, rfl, objs_nil _ _, hb⟩
    · refine (renter_refused L dir obj name v S w hT hv hS hs hE).mono ?_
      rintro e w' ⟨rfl, hb⟩
      exact ⟨_, rfl, objs_nil _ _, hb⟩
theorem rmE_take {es : List Sp.Ent} {name : ByteArray} (hr : Rising es) {i : Nat} {x : Sp.Ent} (hx : es[i]? = some x) (hn : Sp.eqB x.name name = true) (hb : ∀ k, k < i → ∀ y, es[k]? = some y → Sp.eqB y.name name = false) : rmE name es = es.take i ++ es.drop (i + 1) := by
  have hi := (List.getElem?_eq_some_iff.1 hx).1
  have e : es = es.take i ++ x :: es.drop (i + 1) := by
    have := List.drop_eq_getElem_cons hi
    rw [(List.getElem?_eq_some_iff.1 hx).2] at this
    rw [← this, List.take_append_drop]
  have h1 : rmE name (es.take i) = es.take i := by
    unfold rmE
    refine List.filter_eq_self.2 fun y hy => ?_
    obtain ⟨k, hk⟩ := List.getElem?_of_mem hy
    rw [List.getElem?_take] at hk
    split at hk
    · rw [hb k (by assumption) y hk]; rfl
    · cases hk
  have h2 : rmE name (es.drop (i + 1)) = es.drop (i + 1) := by
    unfold rmE
    refine List.filter_eq_self.2 fun y hy => ?_
    obtain ⟨k, hk⟩ := List.getElem?_of_mem hy
    rw [List.getElem?_drop] at hk
    obtain ⟨hkl, hke⟩ := List.getElem?_eq_some_iff.1 hk
    have hc := List.pairwise_iff_getElem.1 hr i (i + 1 + k) hi hkl (by omega)
    rw [(List.getElem?_eq_some_iff.1 hx).2, hke] at hc
    cases hq : Sp.eqB y.name name with
    | false => rfl
    | true =>
      have e1 := (eqB_iff _ _).1 hq
      have e2 := (eqB_iff _ _).1 hn
      have : cmpE x y = 0 := by unfold cmpE; rw [e1, e2]; exact cb_self _
      omega
  have h3 : rmE name (es.take i ++ x :: es.drop (i + 1)) = rmE name (es.take i) ++ rmE name (es.drop (i + 1)) := by
    unfold rmE
    rw [List.filter_append, List.filter_cons, hn]
    rfl
  have h4 : rmE name es = rmE name (es.take i ++ x :: es.drop (i + 1)) := congrArg (rmE name) e
  rw [h4, h3, h1, h2]
theorem remove_two (L : List Sp.Ob) (dir : Int) (name : ByteArray) (hT : Sp.TOk L) (hL : L.length ≤ 14) :
    ∃ (R : List Sp.Ob) (n er : Int), Leaves3 18 (fun v => #[v, .int .i64 dir, .string name]) L R n er ∧ Leaves3 19 (fun v => #[v, .int .i64 dir, .string name]) L R n er := by
  by_cases hN : Sp.noDir L dir = 0
  · obtain ⟨d, od, rfl, hd, hkd, ho⟩ := noDir_zero hN
    have hfd : Sp.find L d name = match od.ents.find? (fun e => Sp.eqB e.name name) with | none => -1 | some e => e.obj := by
      unfold Sp.find
      rw [ho]
      dsimp only
      rw [if_pos hkd]
      rfl
    rcases place_cases name od.ents with ⟨h1, h2⟩ | ⟨i, x, h1, h2, h3, h4, h5⟩
    · refine ⟨[], 0, 6, fun v S w hv hS => ?_, fun v S w hv hS => ?_⟩
      · refine (remove_none L d name od v S w hv hS hd hkd h1).mono ?_
        rintro e w' ⟨rfl, hb⟩
        exact ⟨_, rfl, objs_nil _ _, hb⟩
      · refine (rremove_none L d name od v S w hv hS hd hkd (by rw [hfd, h2]; decide)).mono ?_
        rintro e w' ⟨rfl, hb⟩
        exact ⟨_, rfl, objs_nil _ _, hb⟩
    · obtain ⟨j, oj, hj1, -, hj, -, -, -⟩ := (hT.all _ _ hd).leads x (List.mem_of_getElem? h2)
      have hxe : ∃ nm, od.ents[i]? = some ⟨nm, (j : Int)⟩ := ⟨x.name, by rw [h2, ← hj1]⟩
      have hfi : Sp.find L d name = (j : Int) := by rw [hfd, h3]; exact hj1
      have hkj : oj.kind ≠ 0 := by have := (hT.all _ _ hj).kind; omega
      by_cases hf : oj.kind = 2 ∧ oj.ents ≠ []
      · refine ⟨[], 0, 18, fun v S w hv hS => ?_, fun v S w hv hS => ?_⟩
        · refine (remove_full L d i j name od oj v S w hv hS hd hkd h1 hxe hj hf.1 hf.2).mono ?_
          rintro e w' ⟨rfl, hb⟩
          exact ⟨_, rfl, objs_nil _ _, hb⟩
        · refine (rremove_full L d j name od oj v S w hv hS hd hkd hfi hj hf.1 hf.2).mono ?_
          rintro e w' ⟨rfl, hb⟩
          exact ⟨_, rfl, objs_nil _ _, hb⟩
      · have he : oj.kind = 2 → oj.ents = [] := fun hk => by
          cases hee : oj.ents with
          | nil => rfl
          | cons a t => exact absurd ⟨hk, by rw [hee]; simp⟩ hf
        refine ⟨Sp.removed L d j (rmE name od.ents), (j : Int), 0, fun v S w hv hS => ?_, fun v S w hv hS => ?_⟩
        · have := remove_ok L d i j name od oj v S w hv hS (fits_ok hT (by omega)) (by omega) (links_ok hT) hd hkd h1 hxe hj hkj he
          rw [← rmE_take (hT.all _ _ hd).rise h2 h4 h5] at this
          refine this.mono ?_
          rintro e w' ⟨v', rfl, ho, hb⟩
          exact ⟨v', rfl, ho.more fun b hb => hb.2, hb⟩
        · refine (rremove_ok L d j name od oj v S w hv hS (by omega) (links_ok hT) hd hj hkd hkj hfi (by have := (hT.all _ _ hd).many; omega) he).mono ?_
          rintro e w' ⟨a, c, rfl, ho, hb⟩
          exact ⟨_, rfl, ho.more (or_lt hS hb), hb⟩
  · refine ⟨[], 0, Sp.noDir L dir, fun v S w hv hS => ?_, fun v S w hv hS => ?_⟩
    · refine (remove_nodir L dir name v S w hv hN).mono ?_
      rintro e w' ⟨rfl, rfl⟩
      exact ⟨_, rfl, objs_nil _ _, Below.refl _ _⟩
    · refine (rremove_nodir L dir name v S w hv hN).mono ?_
      rintro e w' ⟨rfl, hb⟩
      exact ⟨_, rfl, objs_nil _ _, hb⟩
def ReadsAs (f : Nat) (o : Sp.Ob) (p n er : Int) (l : List UInt8) : Prop :=
  ∀ (s : Sls) (S : Nat → Prop) (w : World), Lists w S (s, o) → (∀ b, S b → b < w.heap.size) → Calls Try.prog f #[.agg (objC (s, o)).toArray, .int .i64 p, .int .i64 n] w fun e w' => ∃ r : Sl, e = .returned (.tuple #[.slice r.a r.n r.c, .int .i64 er]) ∧ Bytes w' (fun b => b < w'.heap.size) (.slice r.a r.n r.c) l ∧ Below w.heap.size w w'
theorem read_two (o : Sp.Ob) (p n : Int) (hd : o.data.length ≤ 1000) : ∃ (er : Int) (l : List UInt8), ReadsAs 20 o p n er l ∧ ReadsAs 21 o p n er l := by
  by_cases he : Sp.readErr o p n = 0
  · have hnf : Sp.noFile o.kind = 0 := by
      unfold Sp.readErr at he
      by_cases h : Sp.noFile o.kind ≠ 0
      · rw [if_pos h] at he; exact absurd he h
      · omega
    have hk1 : o.kind = 1 := by
      unfold Sp.noFile at hnf
      split at hnf
      · assumption
      · split at hnf
        · exact absurd hnf (by decide)
        · exact absurd hnf (by decide)
    have hpn : 0 ≤ p ∧ 0 ≤ n := by
      unfold Sp.readErr at he
      rw [if_neg (by omega)] at he
      split at he
      · exact absurd he (by decide)
      · rename_i h; omega
    obtain ⟨p', rfl⟩ := Int.eq_ofNat_of_zero_le hpn.1
    obtain ⟨n', rfl⟩ := Int.eq_ofNat_of_zero_le hpn.2
    refine ⟨0, (o.data.drop p').take n', fun s S w hl hS => ?_, fun s S w hl hS => ?_⟩
    · refine (read_ok s o S p' n' w hl.1 hS (by omega) hnf).mono ?_
      rintro e w' ⟨r, rfl, hb1, hb2⟩
      exact ⟨r, rfl, Row.more hb1 fun b hb => hb.2, hb2⟩
    · refine (rread_ok s o S p' n' w hl.1 hS hd hk1).mono ?_
      rintro e w' ⟨r, rfl, hb1, hb2⟩
      exact ⟨r, rfl, Row.more hb1 fun b hb => hb.2, hb2⟩
  · refine ⟨Sp.readErr o p n, [], fun s S w hl hS => ?_, fun s S w hl hS => ?_⟩
    · refine (read_err s o p n w he).mono ?_
      rintro e w' ⟨rfl, hb⟩
      exact ⟨nilSl, rfl, Row.nil _ _ _ _ _, hb⟩
    · refine (rread_err s o p n w he).mono ?_
      rintro e w' ⟨rfl, hb⟩
      exact ⟨nilSl, rfl, Row.nil _ _ _ _ _, hb⟩
def obZ : Sp.Ob := ⟨0, [], [], ⟨#[]⟩, 0, [], 0, 0, 0⟩
theorem zero_is : zeroC.toArray = (objC (⟨nilSl, nilSl, nilSl⟩, obZ)).toArray := rfl
theorem lists_zero (w : World) (S : Nat → Prop) : Lists w S (⟨nilSl, nilSl, nilSl⟩, obZ) := ⟨Row.nil _ _ _ _ _, Row.nil _ _ _ _ _, [], rfl, Row.nil _ _ _ _ _, fun t ht => by simp at ht⟩
def WritesAs (f : Nat) (o : Sp.Ob) (p : Int) (b : List UInt8) (er : Int) (o' : Sp.Ob) : Prop :=
  ∀ (s : Sls) (vb : Value) (S : Nat → Prop) (w : World), Lists w S (s, o) → Bytes w S vb b → (∀ b, S b → b < w.heap.size) → Calls Try.prog f #[.agg (objC (s, o)).toArray, .int .i64 p, vb] w fun e w' => ∃ s' : Sls, e = .returned (.tuple #[.agg (objC (s', o')).toArray, .int .i64 er]) ∧ Lists w' (fun b => b < w'.heap.size) (s', o') ∧ Below w.heap.size w w'
theorem write_two (o : Sp.Ob) (p : Int) (b : List UInt8) (hf : Fits o) : ∃ (er : Int) (o' : Sp.Ob), WritesAs 22 o p b er o' ∧ WritesAs 23 o p b er o' := by
  by_cases he : Sp.writeErr o p b = 0
  · have hnf : Sp.noFile o.kind = 0 := by
      unfold Sp.writeErr at he
      by_cases h : Sp.noFile o.kind ≠ 0
      · rw [if_pos h] at he; exact absurd he h
      · omega
    have hk1 : o.kind = 1 := by
      unfold Sp.noFile at hnf
      split at hnf
      · assumption
      · split at hnf
        · exact absurd hnf (by decide)
        · exact absurd hnf (by decide)
    have hp : 0 ≤ p ∧ p ≤ 60 - (b.length : Int) := by
      unfold Sp.writeErr at he
      rw [if_neg (by omega)] at he
      split at he
      · exact absurd he (by decide)
      · split at he
        · exact absurd he (by decide)
        · omega
    obtain ⟨k, rfl⟩ := Int.eq_ofNat_of_zero_le hp.1
    refine ⟨0, Sp.write o k b, fun s vb S w hl hb hS => ?_, fun s vb S w hl hb hS => ?_⟩
    · refine (write_ok s o k b vb S w hl hb hS hf hnf (by omega)).mono ?_
      rintro e w' ⟨s', rfl, h1, h2⟩
      exact ⟨s', rfl, h1.more fun b hb => hb.2, h2⟩
    · exact rwrite_ok s o k b vb S w hl hb hS hk1 (by omega) hf.1
  · refine ⟨Sp.writeErr o p b, obZ, fun s vb S w hl hb hS => ?_, fun s vb S w hl hb hS => ?_⟩
    · refine (write_err s o p b vb S w hb he).mono ?_
      rintro e w' ⟨rfl, hb⟩
      exact ⟨⟨nilSl, nilSl, nilSl⟩, rfl, lists_zero _ _, hb⟩
    · refine (rwrite_err s o p b vb S w hb he).mono ?_
      rintro e w' ⟨rfl, hb⟩
      exact ⟨⟨nilSl, nilSl, nilSl⟩, rfl, lists_zero _ _, hb⟩
theorem names_one (o : Sp.Ob) (hn : o.ents.length ≤ 1000) (hk : o.kind ≠ 2 → o.ents = []) (s : Sls) (S : Nat → Prop) (w : World) (hl : Lists w S (s, o)) (hS : ∀ b, S b → b < w.heap.size) :
    Calls Try.prog 24 #[.agg (objC (s, o)).toArray] w fun e w' => ∃ a c, e = .returned (.slice a o.ents.length c) ∧ Row w' (fun b => b < w'.heap.size) 1 (.slice a o.ents.length c) (o.ents.map fun e => strC e.name) ∧ Below w.heap.size w w' := by
  by_cases h2 : o.kind = 2
  · refine (names_dir s o S w hl.2.1 hS h2 (by omega)).mono ?_
    rintro e w' ⟨g, rfl, hm, hb⟩
    exact ⟨_, _, rfl, (hm.row (fun cs h => by obtain ⟨x, _, rfl⟩ := List.mem_map.1 h; rfl)).more fun b hb => hb.2, hb⟩
  · refine (names_off s o w h2).mono ?_
    rintro e w' ⟨rfl, hb⟩
    rw [hk h2]
    exact ⟨none, 0, rfl, Row.nil _ _ _ _ _, hb⟩
end Go.Proofs.Ytaobjpajbpoamaa
/-
  rglaw5.StoreTells, walked.
-/
namespace Go.Proofs.Ytaobjpajbpoamaa
open Go.RowKit
theorem fieldKT (a a1 a2 : Option Addr) (n n1 n2 c c1 c2 : Nat) (w : World) : (Instr.field 27 (.agg #[.slice a n c, .slice a1 n1 c1, .slice a2 n2 c2]) 0).run Try.prog w = .ok (.slice a n c) w := by kernel_rfl
/-- The store, and the bytes, lie there. -/
def StW (w : World) (vk vb : Value) (L : List Sp.Ob) (b : List UInt8) (W : World) : Prop := Below w.heap.size w W ∧ Objs W (fun x => x < W.heap.size) vk L ∧ Bytes W (fun x => x < W.heap.size) vb b
theorem StW.below {w W W' : World} {vk vb : Value} {L : List Sp.Ob} {b : List UInt8} (h : StW w vk vb L b W) (hb : Below W.heap.size W W') : StW w vk vb L b W' :=
  ⟨h.1.trans (hb.mono h.1.size), (h.2.1.on (On.of hb)).more fun _ hx => Nat.lt_of_lt_of_le hx hb.size, Row.more (Row.on h.2.2 (On.of hb)) fun _ hx => Nat.lt_of_lt_of_le hx hb.size⟩
theorem StW.alloc {w W : World} {vk vb : Value} {L : List Sp.Ob} {b : List UInt8} (h : StW w vk vb L b W) (o : Obj) : StW w vk vb L b (W.alloc o) := h.below ((Below.refl _ _).alloc (Nat.le_refl _) _)
theorem Objs.later {W W' : World} {v : Value} {L : List Sp.Ob} (h : Objs W (fun x => x < W.heap.size) v L) (hb : Below W.heap.size W W') : Objs W' (fun x => x < W'.heap.size) v L := (h.on (On.of hb)).more fun _ hx => Nat.lt_of_lt_of_le hx hb.size
theorem Lists.later {W W' : World} {s : Sls} {o : Sp.Ob} (h : Lists W (fun x => x < W.heap.size) (s, o)) (hb : Below W.heap.size W W') : Lists W' (fun x => x < W'.heap.size) (s, o) := (h.on (On.of hb)).more fun _ hx => Nat.lt_of_lt_of_le hx hb.size
theorem Row.later {W W' : World} {k : Nat} {v : Value} {css : List (List Value)} (h : Row W (fun x => x < W.heap.size) k v css) (hb : Below W.heap.size W W') : Row W' (fun x => x < W'.heap.size) k v css := (Row.on h (On.of hb)).more fun _ hx => Nat.lt_of_lt_of_le hx hb.size
theorem own_objs (L : List Sp.Ob) (v : Value) (w : World) (hT : Sp.TOk L) (hL : L.length ≤ 14) (hv : Objs w (fun x => x < w.heap.size) v L) :
    Calls Try.prog 10 #[v] w fun e w' => ∃ v', e = .returned v' ∧ Objs w' (fun x => x < w'.heap.size) v' L ∧ Below w.heap.size w w' := by
  refine (own_any L v _ w hv (fun _ h => h) (fits_ok hT (by omega)) (by omega)).mono ?_
  rintro e w' ⟨rfl, ts, m, hts, hM, hA, hb⟩
  refine ⟨_, rfl, ?_, hb⟩
  have := Mine.objs (S := fun x => x < w'.heap.size) hM (fun b hb => hb.2) (fun t ht => (ownAll_lists hA t ht).more fun b hb => hb.2)
  rw [← hts] at this
  exact this
theorem new_kind (w : World) : Calls Try.prog 11 #[] w fun e w' => e = .returned (.slice (some ⟨w.heap.size, 0, none⟩) 1 1) ∧ w'.cell? ⟨w.heap.size, 0, none⟩ = some (.int .i64 2) ∧ w.heap.size < w'.heap.size ∧ Below w.heap.size w w' := by
  refine (new_any w).mono ?_
  rintro e w' ⟨rfl, ho, hb⟩
  obtain ⟨b, o, c, s, he, hS, hc, hm, hl, k0, -⟩ := ho.open (k := 0) rfl
  have e1 := (Value.slice.inj he).1
  cases e1
  exact ⟨rfl, by simpa using k0, hS.2, hb⟩
theorem make_two (L : List Sp.Ob) (b : List UInt8) (a : Option Addr) (bn c : Nat) (v : Value) (w : World) (hT : Sp.TOk L) (hL : L.length ≤ 14) (hv : Objs w (fun x => x < w.heap.size) v L) (hb : Bytes w (fun x => x < w.heap.size) (.slice a bn c) b) (hbl : b.length ≤ 140737488355328) :
    (Calls Try.prog 14 #[v, .agg #[.int .i64 1, .slice a bn c, .slice none 0 0, .string ⟨#[]⟩, .int .i64 0, .slice none 0 0, .int .i64 0, .int .i64 0, .int .i64 0]] w fun e w' => ∃ v', e = .returned (.tuple #[v', .int .i64 L.length, .int .i64 0]) ∧ Objs w' (fun x => x < w'.heap.size) v' (L ++ [fileOf b]) ∧ Below w.heap.size w w') ∧
    (Calls Try.prog 15 #[v, .agg #[.int .i64 1, .slice a bn c, .slice none 0 0, .string ⟨#[]⟩, .int .i64 0, .slice none 0 0, .int .i64 0, .int .i64 0, .int .i64 0]] w fun e w' => ∃ v', e = .returned (.tuple #[v', .int .i64 L.length, .int .i64 0]) ∧ Objs w' (fun x => x < w'.heap.size) v' (L ++ [fileOf b]) ∧ Below w.heap.size w w') := by
  have hnk : ∀ o ∈ L, o.kind ≠ 0 := fun o ho => by
    obtain ⟨i, hk⟩ := tok_mem hT ho
    have := hk.kind
    omega
  have hli : Lists w (fun x => x < w.heap.size) (⟨⟨a, bn, c⟩, nilSl, nilSl⟩, fileOf b) := ⟨hb, Row.nil _ _ _ _ _, [], rfl, Row.nil _ _ _ _ _, fun t ht => by simp at ht⟩
  constructor
  · have := make_app L ⟨⟨a, bn, c⟩, nilSl, nilSl⟩ (fileOf b) v _ w hv (fun _ h => h) (fits_ok hT (by omega)) (by omega) (freeFrom_none L 0 hnk) hli (fits_file b hbl)
    rw [fileC] at this
    refine this.mono ?_
    rintro e w' ⟨v', rfl, ho, hb'⟩
    exact ⟨v', rfl, ho.more fun x hx => hx.2, hb'⟩
  · have := rmake_app L ⟨⟨a, bn, c⟩, nilSl, nilSl⟩ (fileOf b) v _ w hv (fun _ h => h) (by omega) hnk hli
    rw [fileC] at this
    refine this.mono ?_
    rintro e w' ⟨a', c', rfl, ho, hb'⟩
    exact ⟨_, rfl, ho.more (or_lt (fun _ h => h) hb'), hb'⟩
set_option maxRecDepth 1000000 in
set_option maxHeartbeats 16000000 in
theorem stells_any (l b : List UInt8) (dir obj p n : Int) (name : ByteArray) (v vb : Value) (w : World) (hv : Bytes w (fun x => x < w.heap.size) v l) (hb : Bytes w (fun x => x < w.heap.size) vb b) (hs : name.size ≤ maxLen) (hbl : b.length ≤ 140737488355328) :
    Calls Try.prog 3 #[v, .int .i64 dir, .string name, .int .i64 obj, .int .i64 p, .int .i64 n, vb] w fun e w' => e = .returned (.bool true) ∧ Below w.heap.size w w' := by
  obtain ⟨va, vc, rfl, -⟩ := Row.form hv
  obtain ⟨ba, bc, rfl, -⟩ := Row.form hb
  rw [List.length_map] at hv hb ⊢
  rw [List.length_map]
  have HV : Hid (Bytes w (fun x => x < w.heap.size) (.slice va l.length vc) l) := hv
  have HB : Hid (Bytes w (fun x => x < w.heap.size) (.slice ba b.length bc) b) := hb
  have HN : Hid (name.size ≤ maxLen) := hs
  have HBL : Hid (b.length ≤ 140737488355328) := hbl
  clear hv hb hs hbl
  go_enter Try.func3, Try.ntmps3
  go_wp2_with fail
  refine (build_any l (.slice va l.length vc) w HV.out).mono ?_
  rintro e w2 ⟨vo, vp, vq, L, O, P, rfl, hK, hKO, hb2⟩
  obtain ⟨a2, c2, rfl, -⟩ := hK.1.form
  obtain ⟨a3, c3, rfl, -⟩ := hK.2.1.form
  obtain ⟨a4, n4, c4, rfl⟩ : ∃ a4 n4 c4, vq = .slice a4 n4 c4 := by
    obtain ⟨ts, _, hr, _⟩ := hK.2.2
    obtain ⟨a, c, e, _⟩ := hr.form
    exact ⟨a, _, c, e⟩
  rw [List.length_map]
  have hfk := fun (w : World) => fieldKT a2 a3 a4 L.length O.length n4 c2 c3 c4 w
  have HT : Hid (Sp.TOk L) := hKO.objs
  have HL : Hid (L.length ≤ 14) := hKO.len
  have HS2 : Hid (StW w (.slice a2 L.length c2) (.slice ba b.length bc) L b w2) := ⟨hb2, hK.1.more fun x hx => hx.2, Row.later HB.out hb2⟩
  obtain ⟨RE, erE, hE1, hE2⟩ := enter_two L dir obj name HT.out HL.out HN.out
  obtain ⟨RR, nR, erR, hR1, hR2⟩ := remove_two L dir name HT.out HL.out
  have HE1 : Hid (∀ W, StW w (.slice a2 L.length c2) (.slice ba b.length bc) L b W → Calls Try.prog 16 #[.slice a2 L.length c2, .int .i64 dir, .string name, .int .i64 obj] W fun e w' => ∃ v', e = .returned (.tuple #[v', .int .i64 erE]) ∧ Objs w' (fun x => x < w'.heap.size) v' RE ∧ Below W.heap.size W w') := fun W hW => hE1 _ _ W hW.2.1 (fun _ h => h)
  have HE2 : Hid (∀ W, StW w (.slice a2 L.length c2) (.slice ba b.length bc) L b W → Calls Try.prog 17 #[.slice a2 L.length c2, .int .i64 dir, .string name, .int .i64 obj] W fun e w' => ∃ v', e = .returned (.tuple #[v', .int .i64 erE]) ∧ Objs w' (fun x => x < w'.heap.size) v' RE ∧ Below W.heap.size W w') := fun W hW => hE2 _ _ W hW.2.1 (fun _ h => h)
  have HR1 : Hid (∀ W, StW w (.slice a2 L.length c2) (.slice ba b.length bc) L b W → Calls Try.prog 18 #[.slice a2 L.length c2, .int .i64 dir, .string name] W fun e w' => ∃ v', e = .returned (.tuple #[v', .int .i64 nR, .int .i64 erR]) ∧ Objs w' (fun x => x < w'.heap.size) v' RR ∧ Below W.heap.size W w') := fun W hW => hR1 _ _ W hW.2.1 (fun _ h => h)
  have HR2 : Hid (∀ W, StW w (.slice a2 L.length c2) (.slice ba b.length bc) L b W → Calls Try.prog 19 #[.slice a2 L.length c2, .int .i64 dir, .string name] W fun e w' => ∃ v', e = .returned (.tuple #[v', .int .i64 nR, .int .i64 erR]) ∧ Objs w' (fun x => x < w'.heap.size) v' RR ∧ Below W.heap.size W w') := fun W hW => hR2 _ _ W hW.2.1 (fun _ h => h)
  have HF1 : Hid (∀ W, StW w (.slice a2 L.length c2) (.slice ba b.length bc) L b W → Calls Try.prog 12 #[.slice a2 L.length c2, .int .i64 dir, .string name] W fun e w' => e = .returned (.int .i64 (Sp.find L dir name)) ∧ Below W.heap.size W w') := fun W hW => find_any L dir name _ _ W hW.2.1 (fun _ h => h)
  have HF2 : Hid (∀ W, StW w (.slice a2 L.length c2) (.slice ba b.length bc) L b W → Calls Try.prog 13 #[.slice a2 L.length c2, .int .i64 dir, .string name] W fun e w' => e = .returned (.int .i64 (Sp.find L dir name)) ∧ Below W.heap.size W w') := fun W hW => rfind_any L dir name _ _ W hW.2.1 (fun _ h => h)
  clear hK hKO hb2 HV HB hE1 hE2 hR1 hR2
  go_wp2_with fail
  refine (own_objs L (.slice a2 L.length c2) w2 HT.out HL.out HS2.out.2.1).mono ?_
  rintro e w3 ⟨v3, rfl, ho3, hb3⟩
  have HS3 : Hid (StW w (.slice a2 L.length c2) (.slice ba b.length bc) L b w3) := HS2.out.below hb3
  have HSA : Hid (Calls Try.prog 9 #[v3, .slice a2 L.length c2] w3 fun e w' => e = .returned (.bool true) ∧ Below w3.heap.size w3 w') := same_objs L v3 _ _ _ w3 ho3 HS3.out.2.1 (fun _ h => h) (fun _ h => h)
  clear ho3 hb3 HS2 hfk
  go_wp2_with fail
  refine HSA.out.mono ?_
  rintro e w4 ⟨rfl, hb4⟩
  have HS4 : Hid (StW w (.slice a2 L.length c2) (.slice ba b.length bc) L b w4) := HS3.out.below hb4
  clear hb4 HS3 HSA
  go_wp2_with fail
  refine (new_kind w4).mono ?_
  rintro e w5 ⟨rfl, -, -, hb5⟩
  have HS5 : Hid (StW w (.slice a2 L.length c2) (.slice ba b.length bc) L b w5) := HS4.out.below hb5
  clear hb5 HS4
  go_wp2_with fail
  refine (new_kind w5).mono ?_
  rintro e w6 ⟨rfl, hk6, hl6, hb6⟩
  have HS6 : Hid (StW w (.slice a2 L.length c2) (.slice ba b.length bc) L b w6) := HS5.out.below hb6
  clear hb6 HS5
  go_wp2_with fail
  clear hk6 hl6
  refine (HF1.out _ HS6.out).mono ?_
  rintro e w7 ⟨rfl, hb7⟩
  have HS7 : Hid (StW w (.slice a2 L.length c2) (.slice ba b.length bc) L b w7) := HS6.out.below hb7
  clear hb7 HS6 HF1
  go_wp2_with fail
  refine (HF2.out _ HS7.out).mono ?_
  rintro e w8 ⟨rfl, hb8⟩
  have HS8 : Hid (StW w (.slice a2 L.length c2) (.slice ba b.length bc) L b w8) := HS7.out.below hb8
  clear hb8 HS7 HF2
  generalize Sp.find L dir name = fi at *
  go_wp2_with fail
  refine (make_two L b ba b.length bc _ w8 HT.out HL.out HS8.out.2.1 HS8.out.2.2 HBL.out).1.mono ?_
  rintro e w9 ⟨v9, rfl, ho9, hb9⟩
  have HS9 : Hid (StW w (.slice a2 L.length c2) (.slice ba b.length bc) L b w9) := HS8.out.below hb9
  have HO9 : Hid (Objs w9 (fun x => x < w9.heap.size) v9 (L ++ [fileOf b])) := ho9
  clear hb9 HS8 ho9
  go_wp2_with fail
  refine (make_two L b ba b.length bc _ w9 HT.out HL.out HS9.out.2.1 HS9.out.2.2 HBL.out).2.mono ?_
  rintro e w10 ⟨v10, rfl, ho10, hb10⟩
  have HS10 : Hid (StW w (.slice a2 L.length c2) (.slice ba b.length bc) L b w10) := HS9.out.below hb10
  have HSB : Hid (Calls Try.prog 9 #[v9, v10] w10 fun e w' => e = .returned (.bool true) ∧ Below w10.heap.size w10 w') := same_objs _ v9 v10 _ _ w10 (HO9.out.later hb10) ho10 (fun _ h => h) (fun _ h => h)
  clear hb10 HS9 ho10 HO9
  go_wp2_with fail
  refine HSB.out.mono ?_
  rintro e w11 ⟨rfl, hb11⟩
  have HS11 : Hid (StW w (.slice a2 L.length c2) (.slice ba b.length bc) L b w11) := HS10.out.below hb11
  clear hb11 HS10 HSB
  go_wp2_with fail
  refine (HE1.out _ HS11.out).mono ?_
  rintro e w12 ⟨v12, rfl, ho12, hb12⟩
  have HS12 : Hid (StW w (.slice a2 L.length c2) (.slice ba b.length bc) L b w12) := HS11.out.below hb12
  have HO12 : Hid (Objs w12 (fun x => x < w12.heap.size) v12 RE) := ho12
  clear hb12 HS11 ho12 HE1
  go_wp2_with fail
  refine (HE2.out _ HS12.out).mono ?_
  rintro e w13 ⟨v13, rfl, ho13, hb13⟩
  have HS13 : Hid (StW w (.slice a2 L.length c2) (.slice ba b.length bc) L b w13) := HS12.out.below hb13
  have HSC : Hid (Calls Try.prog 9 #[v12, v13] w13 fun e w' => e = .returned (.bool true) ∧ Below w13.heap.size w13 w') := same_objs _ v12 v13 _ _ w13 (HO12.out.later hb13) ho13 (fun _ h => h) (fun _ h => h)
  clear hb13 HS12 ho13 HO12 HE2
  go_wp2_with fail
  refine HSC.out.mono ?_
  rintro e w14 ⟨rfl, hb14⟩
  have HS14 : Hid (StW w (.slice a2 L.length c2) (.slice ba b.length bc) L b w14) := HS13.out.below hb14
  clear hb14 HS13 HSC
  go_wp2_with fail
  refine (HR1.out _ HS14.out).mono ?_
  rintro e w15 ⟨v15, rfl, ho15, hb15⟩
  have HS15 : Hid (StW w (.slice a2 L.length c2) (.slice ba b.length bc) L b w15) := HS14.out.below hb15
  have HO15 : Hid (Objs w15 (fun x => x < w15.heap.size) v15 RR) := ho15
  clear hb15 HS14 ho15 HR1
  go_wp2_with fail
  refine (HR2.out _ HS15.out).mono ?_
  rintro e w16 ⟨v16, rfl, ho16, hb16⟩
  have HS16 : Hid (StW w (.slice a2 L.length c2) (.slice ba b.length bc) L b w16) := HS15.out.below hb16
  have HSD : Hid (Calls Try.prog 9 #[v15, v16] w16 fun e w' => e = .returned (.bool true) ∧ Below w16.heap.size w16 w') := same_objs _ v15 v16 _ _ w16 (HO15.out.later hb16) ho16 (fun _ h => h) (fun _ h => h)
  clear hb16 HS15 ho16 HO15 HR2
  go_wp2_with fail
  refine HSD.out.mono ?_
  rintro e w17 ⟨rfl, hb17⟩
  have HS17 : Hid (StW w (.slice a2 L.length c2) (.slice ba b.length bc) L b w17) := HS16.out.below hb17
  clear hb17 HS16 HSD
  go_wp2_with fail
  go_loopw [151] (fun i wr => ∃ k : Nat, k ≤ L.length ∧ i = .int .i64 k ∧ StW w (.slice a2 L.length c2) (.slice ba b.length bc) L b wr) (fun i _ => L.length - (intOf i).toNat)
  case atStart => exact ⟨0, Nat.zero_le _, rfl, HS17.out⟩
  case round =>
    obtain ⟨k, hk, rfl, hSk⟩ := hrel
    have HSk : Hid (StW w (.slice a2 L.length c2) (.slice ba b.length bc) L b wr) := hSk
    clear hSk HS17
    by_cases hlt : k < L.length
    · have hx : L[k]? = some L[k] := List.getElem?_eq_getElem hlt
      obtain ⟨ob, oo, oc, s, he, hSb, hc, hm, hl, k0, k1, k2, k3, k4, k5, k6, k7, k8⟩ := HSk.out.2.1.open hx
      obtain ⟨rfl, -, rfl⟩ := Value.slice.inj he
      have hOK := HT.out.all _ _ hx
      have hfit := fits_ok HT.out (by have := HL.out; omega) _ (List.getElem_mem hlt)
      generalize L[k] = x at *
      obtain ⟨erd, rl, hrd1, hrd2⟩ := read_two x p n (by have := hOK.data; omega)
      obtain ⟨ewr, xo, hwr1, hwr2⟩ := write_two x p b hfit
      have HL0 : Hid (Lists wr (fun y => y < wr.heap.size) (s, x)) := hl
      have HRD1 : Hid (∀ W, Lists W (fun y => y < W.heap.size) (s, x) → Calls Try.prog 20 #[.agg #[.int .i64 x.kind, .slice s.d.a s.d.n s.d.c, .slice s.e.a s.e.n s.e.c, .string x.target, .int .i64 x.peer, .slice s.q.a s.q.n s.q.c, .int .i64 x.proc, .int .i64 x.links, .int .i64 x.up], .int .i64 p, .int .i64 n] W fun e w' => ∃ r : Sl, e = .returned (.tuple #[.slice r.a r.n r.c, .int .i64 erd]) ∧ Bytes w' (fun b => b < w'.heap.size) (.slice r.a r.n r.c) rl ∧ Below W.heap.size W w') := fun W h => hrd1 s _ W h (fun _ h => h)
      have HRD2 : Hid (∀ W, Lists W (fun y => y < W.heap.size) (s, x) → Calls Try.prog 21 #[.agg #[.int .i64 x.kind, .slice s.d.a s.d.n s.d.c, .slice s.e.a s.e.n s.e.c, .string x.target, .int .i64 x.peer, .slice s.q.a s.q.n s.q.c, .int .i64 x.proc, .int .i64 x.links, .int .i64 x.up], .int .i64 p, .int .i64 n] W fun e w' => ∃ r : Sl, e = .returned (.tuple #[.slice r.a r.n r.c, .int .i64 erd]) ∧ Bytes w' (fun b => b < w'.heap.size) (.slice r.a r.n r.c) rl ∧ Below W.heap.size W w') := fun W h => hrd2 s _ W h (fun _ h => h)
      have HWR1 : Hid (∀ W, Lists W (fun y => y < W.heap.size) (s, x) → Bytes W (fun y => y < W.heap.size) (.slice ba b.length bc) b → Calls Try.prog 22 #[.agg #[.int .i64 x.kind, .slice s.d.a s.d.n s.d.c, .slice s.e.a s.e.n s.e.c, .string x.target, .int .i64 x.peer, .slice s.q.a s.q.n s.q.c, .int .i64 x.proc, .int .i64 x.links, .int .i64 x.up], .int .i64 p, .slice ba b.length bc] W fun e w' => ∃ s' : Sls, e = .returned (.tuple #[.agg #[.int .i64 xo.kind, .slice s'.d.a s'.d.n s'.d.c, .slice s'.e.a s'.e.n s'.e.c, .string xo.target, .int .i64 xo.peer, .slice s'.q.a s'.q.n s'.q.c, .int .i64 xo.proc, .int .i64 xo.links, .int .i64 xo.up], .int .i64 ewr]) ∧ Lists w' (fun b => b < w'.heap.size) (s', xo) ∧ Below W.heap.size W w') := fun W h hb => hwr1 s _ _ W h hb (fun _ h => h)
      have HWR2 : Hid (∀ W, Lists W (fun y => y < W.heap.size) (s, x) → Bytes W (fun y => y < W.heap.size) (.slice ba b.length bc) b → Calls Try.prog 23 #[.agg #[.int .i64 x.kind, .slice s.d.a s.d.n s.d.c, .slice s.e.a s.e.n s.e.c, .string x.target, .int .i64 x.peer, .slice s.q.a s.q.n s.q.c, .int .i64 x.proc, .int .i64 x.links, .int .i64 x.up], .int .i64 p, .slice ba b.length bc] W fun e w' => ∃ s' : Sls, e = .returned (.tuple #[.agg #[.int .i64 xo.kind, .slice s'.d.a s'.d.n s'.d.c, .slice s'.e.a s'.e.n s'.e.c, .string xo.target, .int .i64 xo.peer, .slice s'.q.a s'.q.n s'.q.c, .int .i64 xo.proc, .int .i64 xo.links, .int .i64 xo.up], .int .i64 ewr]) ∧ Lists w' (fun b => b < w'.heap.size) (s', xo) ∧ Below W.heap.size W w') := fun W h hb => hwr2 s _ _ W h hb (fun _ h => h)
      have HNA : Hid (∀ W, Lists W (fun y => y < W.heap.size) (s, x) → Calls Try.prog 24 #[.agg #[.int .i64 x.kind, .slice s.d.a s.d.n s.d.c, .slice s.e.a s.e.n s.e.c, .string x.target, .int .i64 x.peer, .slice s.q.a s.q.n s.q.c, .int .i64 x.proc, .int .i64 x.links, .int .i64 x.up]] W fun e w' => ∃ a c, e = .returned (.slice a x.ents.length c) ∧ Row w' (fun b => b < w'.heap.size) 1 (.slice a x.ents.length c) (x.ents.map fun e => strC e.name) ∧ Below W.heap.size W w') := fun W h => names_one x (by have := hOK.many; have := HL.out; omega) hOK.noents s _ W h (fun _ h => h)
      have hen := Row.eqNil hl.2.1
      rw [List.length_map] at hen
      have HEN : Hid (s.e.n = x.ents.length) := hen
      have hel : x.ents.length ≤ 1000 := by have := hOK.many; have := HL.out; omega
      have HS0 : Hid (StW w (.slice (some ⟨ob, oo, none⟩) L.length c2) (.slice ba b.length bc) L b (wr.alloc (.cells #[.int .i64 x.kind, .slice s.d.a s.d.n s.d.c, .slice s.e.a s.e.n s.e.c, .string x.target, .int .i64 x.peer, .slice s.q.a s.q.n s.q.c, .int .i64 x.proc, .int .i64 x.links, .int .i64 x.up] 35))) := HSk.out.alloc _
      have HK0 : Hid (Blk (wr.alloc (.cells #[.int .i64 x.kind, .slice s.d.a s.d.n s.d.c, .slice s.e.a s.e.n s.e.c, .string x.target, .int .i64 x.peer, .slice s.q.a s.q.n s.q.c, .int .i64 x.proc, .int .i64 x.links, .int .i64 x.up] 35)) wr.heap.size #[.int .i64 x.kind, .slice s.d.a s.d.n s.d.c, .slice s.e.a s.e.n s.e.c, .string x.target, .int .i64 x.peer, .slice s.q.a s.q.n s.q.c, .int .i64 x.proc, .int .i64 x.links, .int .i64 x.up] 35) := Blk.new wr _ _
      have HL1 : Hid (Lists (wr.alloc (.cells #[.int .i64 x.kind, .slice s.d.a s.d.n s.d.c, .slice s.e.a s.e.n s.e.c, .string x.target, .int .i64 x.peer, .slice s.q.a s.q.n s.q.c, .int .i64 x.proc, .int .i64 x.links, .int .i64 x.up] 35)) (fun y => y < (wr.alloc (.cells #[.int .i64 x.kind, .slice s.d.a s.d.n s.d.c, .slice s.e.a s.e.n s.e.c, .string x.target, .int .i64 x.peer, .slice s.q.a s.q.n s.q.c, .int .i64 x.proc, .int .i64 x.links, .int .i64 x.up] 35)).heap.size) (s, x)) := HL0.out.later ((Below.refl _ _).alloc (Nat.le_refl _) _)
      unfold maxLen at hm
      clear hx he hOK hfit hl hrd1 hrd2 hwr1 hwr2 hen hSb
      go_wp2_with fail
      clear k0 k1 k2 k3 k4 k5 k6 k7 k8
      generalize wr.alloc (.cells #[.int .i64 x.kind, .slice s.d.a s.d.n s.d.c, .slice s.e.a s.e.n s.e.c, .string x.target, .int .i64 x.peer, .slice s.q.a s.q.n s.q.c, .int .i64 x.proc, .int .i64 x.links, .int .i64 x.up] 35) = u0 at *
      generalize wr.heap.size = G at *
      refine (HRD1.out _ HL1.out).mono ?_
      rintro e u1 ⟨r1, rfl, hby1, hb1⟩
      have HS1 : Hid (StW w (.slice (some ⟨ob, oo, none⟩) L.length c2) (.slice ba b.length bc) L b u1) := HS0.out.below hb1
      have HLu1 : Hid (Lists u1 (fun y => y < u1.heap.size) (s, x)) := HL1.out.later hb1
      have hKu1 : Blk u1 G #[.int .i64 x.kind, .slice s.d.a s.d.n s.d.c, .slice s.e.a s.e.n s.e.c, .string x.target, .int .i64 x.peer, .slice s.q.a s.q.n s.q.c, .int .i64 x.proc, .int .i64 x.links, .int .i64 x.up] 35 := HK0.out.below hb1 HK0.out.lt
      have HKu1 : Hid (Blk u1 G #[.int .i64 x.kind, .slice s.d.a s.d.n s.d.c, .slice s.e.a s.e.n s.e.c, .string x.target, .int .i64 x.peer, .slice s.q.a s.q.n s.q.c, .int .i64 x.proc, .int .i64 x.links, .int .i64 x.up] 35) := hKu1
      have HBY1 : Hid (Bytes u1 (fun y => y < u1.heap.size) (.slice r1.a r1.n r1.c) rl) := hby1
      have cG := hKu1.cell
      have hGl := hKu1.lt
      clear hb1 hKu1 hby1 HS0 HL1 HK0 HRD1
      go_wp2_with fail
      clear cG
      refine (HRD2.out _ HLu1.out).mono ?_
      rintro e u2 ⟨r2, rfl, hby2, hb2⟩
      have HS2 : Hid (StW w (.slice (some ⟨ob, oo, none⟩) L.length c2) (.slice ba b.length bc) L b u2) := HS1.out.below hb2
      have HLu2 : Hid (Lists u2 (fun y => y < u2.heap.size) (s, x)) := HLu1.out.later hb2
      have hKu2 : Blk u2 G #[.int .i64 x.kind, .slice s.d.a s.d.n s.d.c, .slice s.e.a s.e.n s.e.c, .string x.target, .int .i64 x.peer, .slice s.q.a s.q.n s.q.c, .int .i64 x.proc, .int .i64 x.links, .int .i64 x.up] 35 := HKu1.out.below hb2 HKu1.out.lt
      have HKu2 : Hid (Blk u2 G #[.int .i64 x.kind, .slice s.d.a s.d.n s.d.c, .slice s.e.a s.e.n s.e.c, .string x.target, .int .i64 x.peer, .slice s.q.a s.q.n s.q.c, .int .i64 x.proc, .int .i64 x.links, .int .i64 x.up] 35) := hKu2
      have q1 : (convert 22 9 (.slice r1.a r1.n r1.c)).run Try.prog u2 = .ok (.string ⟨rl.toArray⟩) u2 := conv_any rl _ u2 _ (Row.later HBY1.out hb2)
      have q2 : (convert 22 9 (.slice r2.a r2.n r2.c)).run Try.prog u2 = .ok (.string ⟨rl.toArray⟩) u2 := conv_any rl _ u2 _ hby2
      have cG := hKu2.cell
      have hGl2 := hKu2.lt
      clear hb2 hKu2 hby2 HS1 HLu1 HKu1 HRD2 HBY1 hGl
      go_wp2_with fail
      clear cG q1 q2
      refine (HWR1.out _ HLu2.out HS2.out.2.2).mono ?_
      rintro e u3 ⟨s3, rfl, hl3, hb3⟩
      have HS3 : Hid (StW w (.slice (some ⟨ob, oo, none⟩) L.length c2) (.slice ba b.length bc) L b (u3.alloc (.cells #[.int .i64 xo.kind, .slice s3.d.a s3.d.n s3.d.c, .slice s3.e.a s3.e.n s3.e.c, .string xo.target, .int .i64 xo.peer, .slice s3.q.a s3.q.n s3.q.c, .int .i64 xo.proc, .int .i64 xo.links, .int .i64 xo.up] 35))) := (HS2.out.below hb3).alloc _
      have HLu3 : Hid (Lists (u3.alloc (.cells #[.int .i64 xo.kind, .slice s3.d.a s3.d.n s3.d.c, .slice s3.e.a s3.e.n s3.e.c, .string xo.target, .int .i64 xo.peer, .slice s3.q.a s3.q.n s3.q.c, .int .i64 xo.proc, .int .i64 xo.links, .int .i64 xo.up] 35)) (fun y => y < (u3.alloc (.cells #[.int .i64 xo.kind, .slice s3.d.a s3.d.n s3.d.c, .slice s3.e.a s3.e.n s3.e.c, .string xo.target, .int .i64 xo.peer, .slice s3.q.a s3.q.n s3.q.c, .int .i64 xo.proc, .int .i64 xo.links, .int .i64 xo.up] 35)).heap.size) (s, x)) := (HLu2.out.later hb3).later ((Below.refl _ _).alloc (Nat.le_refl _) _)
      have hKu3 : Blk u3 G #[.int .i64 x.kind, .slice s.d.a s.d.n s.d.c, .slice s.e.a s.e.n s.e.c, .string x.target, .int .i64 x.peer, .slice s.q.a s.q.n s.q.c, .int .i64 x.proc, .int .i64 x.links, .int .i64 x.up] 35 := HKu2.out.below hb3 HKu2.out.lt
      have HKu3 : Hid (Blk (u3.alloc (.cells #[.int .i64 xo.kind, .slice s3.d.a s3.d.n s3.d.c, .slice s3.e.a s3.e.n s3.e.c, .string xo.target, .int .i64 xo.peer, .slice s3.q.a s3.q.n s3.q.c, .int .i64 xo.proc, .int .i64 xo.links, .int .i64 xo.up] 35)) G #[.int .i64 x.kind, .slice s.d.a s.d.n s.d.c, .slice s.e.a s.e.n s.e.c, .string x.target, .int .i64 x.peer, .slice s.q.a s.q.n s.q.c, .int .i64 x.proc, .int .i64 x.links, .int .i64 x.up] 35) := hKu3.alloc _
      have HKA3 : Hid (Blk (u3.alloc (.cells #[.int .i64 xo.kind, .slice s3.d.a s3.d.n s3.d.c, .slice s3.e.a s3.e.n s3.e.c, .string xo.target, .int .i64 xo.peer, .slice s3.q.a s3.q.n s3.q.c, .int .i64 xo.proc, .int .i64 xo.links, .int .i64 xo.up] 35)) u3.heap.size #[.int .i64 xo.kind, .slice s3.d.a s3.d.n s3.d.c, .slice s3.e.a s3.e.n s3.e.c, .string xo.target, .int .i64 xo.peer, .slice s3.q.a s3.q.n s3.q.c, .int .i64 xo.proc, .int .i64 xo.links, .int .i64 xo.up] 35) := Blk.new u3 _ _
      have HLA3 : Hid (Lists (u3.alloc (.cells #[.int .i64 xo.kind, .slice s3.d.a s3.d.n s3.d.c, .slice s3.e.a s3.e.n s3.e.c, .string xo.target, .int .i64 xo.peer, .slice s3.q.a s3.q.n s3.q.c, .int .i64 xo.proc, .int .i64 xo.links, .int .i64 xo.up] 35)) (fun y => y < (u3.alloc (.cells #[.int .i64 xo.kind, .slice s3.d.a s3.d.n s3.d.c, .slice s3.e.a s3.e.n s3.e.c, .string xo.target, .int .i64 xo.peer, .slice s3.q.a s3.q.n s3.q.c, .int .i64 xo.proc, .int .i64 xo.links, .int .i64 xo.up] 35)).heap.size) (s3, xo)) := Lists.later hl3 ((Below.refl _ _).alloc (Nat.le_refl _) _)
      have cG := hKu3.cell
      have hGl3 := hKu3.lt
      clear hb3 hKu3 hl3 HS2 HLu2 HKu2 HWR1 hGl2
      go_wp2_with fail
      clear cG
      generalize u3.alloc (.cells #[.int .i64 xo.kind, .slice s3.d.a s3.d.n s3.d.c, .slice s3.e.a s3.e.n s3.e.c, .string xo.target, .int .i64 xo.peer, .slice s3.q.a s3.q.n s3.q.c, .int .i64 xo.proc, .int .i64 xo.links, .int .i64 xo.up] 35) = U3 at *
      generalize u3.heap.size = GA at *
      refine (HWR2.out _ HLu3.out HS3.out.2.2).mono ?_
      rintro e u4 ⟨s4, rfl, hl4, hb4⟩
      have HS4 : Hid (StW w (.slice (some ⟨ob, oo, none⟩) L.length c2) (.slice ba b.length bc) L b (u4.alloc (.cells #[.int .i64 xo.kind, .slice s4.d.a s4.d.n s4.d.c, .slice s4.e.a s4.e.n s4.e.c, .string xo.target, .int .i64 xo.peer, .slice s4.q.a s4.q.n s4.q.c, .int .i64 xo.proc, .int .i64 xo.links, .int .i64 xo.up] 35))) := (HS3.out.below hb4).alloc _
      have HLu4 : Hid (Lists (u4.alloc (.cells #[.int .i64 xo.kind, .slice s4.d.a s4.d.n s4.d.c, .slice s4.e.a s4.e.n s4.e.c, .string xo.target, .int .i64 xo.peer, .slice s4.q.a s4.q.n s4.q.c, .int .i64 xo.proc, .int .i64 xo.links, .int .i64 xo.up] 35)) (fun y => y < (u4.alloc (.cells #[.int .i64 xo.kind, .slice s4.d.a s4.d.n s4.d.c, .slice s4.e.a s4.e.n s4.e.c, .string xo.target, .int .i64 xo.peer, .slice s4.q.a s4.q.n s4.q.c, .int .i64 xo.proc, .int .i64 xo.links, .int .i64 xo.up] 35)).heap.size) (s, x)) := (HLu3.out.later hb4).later ((Below.refl _ _).alloc (Nat.le_refl _) _)
      have hKu4 : Blk u4 G #[.int .i64 x.kind, .slice s.d.a s.d.n s.d.c, .slice s.e.a s.e.n s.e.c, .string x.target, .int .i64 x.peer, .slice s.q.a s.q.n s.q.c, .int .i64 x.proc, .int .i64 x.links, .int .i64 x.up] 35 := HKu3.out.below hb4 HKu3.out.lt
      have HKu4 : Hid (Blk (u4.alloc (.cells #[.int .i64 xo.kind, .slice s4.d.a s4.d.n s4.d.c, .slice s4.e.a s4.e.n s4.e.c, .string xo.target, .int .i64 xo.peer, .slice s4.q.a s4.q.n s4.q.c, .int .i64 xo.proc, .int .i64 xo.links, .int .i64 xo.up] 35)) G #[.int .i64 x.kind, .slice s.d.a s.d.n s.d.c, .slice s.e.a s.e.n s.e.c, .string x.target, .int .i64 x.peer, .slice s.q.a s.q.n s.q.c, .int .i64 x.proc, .int .i64 x.links, .int .i64 x.up] 35) := hKu4.alloc _
      have HKA4 : Hid (Blk (u4.alloc (.cells #[.int .i64 xo.kind, .slice s4.d.a s4.d.n s4.d.c, .slice s4.e.a s4.e.n s4.e.c, .string xo.target, .int .i64 xo.peer, .slice s4.q.a s4.q.n s4.q.c, .int .i64 xo.proc, .int .i64 xo.links, .int .i64 xo.up] 35)) GA #[.int .i64 xo.kind, .slice s3.d.a s3.d.n s3.d.c, .slice s3.e.a s3.e.n s3.e.c, .string xo.target, .int .i64 xo.peer, .slice s3.q.a s3.q.n s3.q.c, .int .i64 xo.proc, .int .i64 xo.links, .int .i64 xo.up] 35) := (HKA3.out.below hb4 HKA3.out.lt).alloc _
      have HLA4 : Hid (Lists (u4.alloc (.cells #[.int .i64 xo.kind, .slice s4.d.a s4.d.n s4.d.c, .slice s4.e.a s4.e.n s4.e.c, .string xo.target, .int .i64 xo.peer, .slice s4.q.a s4.q.n s4.q.c, .int .i64 xo.proc, .int .i64 xo.links, .int .i64 xo.up] 35)) (fun y => y < (u4.alloc (.cells #[.int .i64 xo.kind, .slice s4.d.a s4.d.n s4.d.c, .slice s4.e.a s4.e.n s4.e.c, .string xo.target, .int .i64 xo.peer, .slice s4.q.a s4.q.n s4.q.c, .int .i64 xo.proc, .int .i64 xo.links, .int .i64 xo.up] 35)).heap.size) (s3, xo)) := (HLA3.out.later hb4).later ((Below.refl _ _).alloc (Nat.le_refl _) _)
      have HKB4 : Hid (Blk (u4.alloc (.cells #[.int .i64 xo.kind, .slice s4.d.a s4.d.n s4.d.c, .slice s4.e.a s4.e.n s4.e.c, .string xo.target, .int .i64 xo.peer, .slice s4.q.a s4.q.n s4.q.c, .int .i64 xo.proc, .int .i64 xo.links, .int .i64 xo.up] 35)) u4.heap.size #[.int .i64 xo.kind, .slice s4.d.a s4.d.n s4.d.c, .slice s4.e.a s4.e.n s4.e.c, .string xo.target, .int .i64 xo.peer, .slice s4.q.a s4.q.n s4.q.c, .int .i64 xo.proc, .int .i64 xo.links, .int .i64 xo.up] 35) := Blk.new u4 _ _
      have HLB4 : Hid (Lists (u4.alloc (.cells #[.int .i64 xo.kind, .slice s4.d.a s4.d.n s4.d.c, .slice s4.e.a s4.e.n s4.e.c, .string xo.target, .int .i64 xo.peer, .slice s4.q.a s4.q.n s4.q.c, .int .i64 xo.proc, .int .i64 xo.links, .int .i64 xo.up] 35)) (fun y => y < (u4.alloc (.cells #[.int .i64 xo.kind, .slice s4.d.a s4.d.n s4.d.c, .slice s4.e.a s4.e.n s4.e.c, .string xo.target, .int .i64 xo.peer, .slice s4.q.a s4.q.n s4.q.c, .int .i64 xo.proc, .int .i64 xo.links, .int .i64 xo.up] 35)).heap.size) (s4, xo)) := Lists.later hl4 ((Below.refl _ _).alloc (Nat.le_refl _) _)
      have cG := hKu4.cell
      have hGl4 := hKu4.lt
      clear hb4 hKu4 hl4 HS3 HLu3 HKu3 HWR2 hGl3 HKA3 HLA3
      go_wp2_with fail
      clear cG
      generalize u4.alloc (.cells #[.int .i64 xo.kind, .slice s4.d.a s4.d.n s4.d.c, .slice s4.e.a s4.e.n s4.e.c, .string xo.target, .int .i64 xo.peer, .slice s4.q.a s4.q.n s4.q.c, .int .i64 xo.proc, .int .i64 xo.links, .int .i64 xo.up] 35) = U4 at *
      generalize u4.heap.size = GB at *
      refine (HNA.out _ HLu4.out).mono ?_
      rintro e u5 ⟨na, nc, rfl, hrn, hb5⟩
      have HS5 : Hid (StW w (.slice (some ⟨ob, oo, none⟩) L.length c2) (.slice ba b.length bc) L b u5) := HS4.out.below hb5
      have HLu5 : Hid (Lists u5 (fun y => y < u5.heap.size) (s, x)) := HLu4.out.later hb5
      have hKu5 : Blk u5 G #[.int .i64 x.kind, .slice s.d.a s.d.n s.d.c, .slice s.e.a s.e.n s.e.c, .string x.target, .int .i64 x.peer, .slice s.q.a s.q.n s.q.c, .int .i64 x.proc, .int .i64 x.links, .int .i64 x.up] 35 := HKu4.out.below hb5 HKu4.out.lt
      have HKu5 : Hid (Blk u5 G #[.int .i64 x.kind, .slice s.d.a s.d.n s.d.c, .slice s.e.a s.e.n s.e.c, .string x.target, .int .i64 x.peer, .slice s.q.a s.q.n s.q.c, .int .i64 x.proc, .int .i64 x.links, .int .i64 x.up] 35) := hKu5
      have hKA5 : Blk u5 GA #[.int .i64 xo.kind, .slice s3.d.a s3.d.n s3.d.c, .slice s3.e.a s3.e.n s3.e.c, .string xo.target, .int .i64 xo.peer, .slice s3.q.a s3.q.n s3.q.c, .int .i64 xo.proc, .int .i64 xo.links, .int .i64 xo.up] 35 := HKA4.out.below hb5 HKA4.out.lt
      have hKB5 : Blk u5 GB #[.int .i64 xo.kind, .slice s4.d.a s4.d.n s4.d.c, .slice s4.e.a s4.e.n s4.e.c, .string xo.target, .int .i64 xo.peer, .slice s4.q.a s4.q.n s4.q.c, .int .i64 xo.proc, .int .i64 xo.links, .int .i64 xo.up] 35 := HKB4.out.below hb5 HKB4.out.lt
      have HRN : Hid (Row u5 (fun b => b < u5.heap.size) 1 (.slice na x.ents.length nc) (x.ents.map fun e => strC e.name)) := hrn
      have HSO : Hid (Calls Try.prog 25 #[.agg #[.int .i64 xo.kind, .slice s3.d.a s3.d.n s3.d.c, .slice s3.e.a s3.e.n s3.e.c, .string xo.target, .int .i64 xo.peer, .slice s3.q.a s3.q.n s3.q.c, .int .i64 xo.proc, .int .i64 xo.links, .int .i64 xo.up], .agg #[.int .i64 xo.kind, .slice s4.d.a s4.d.n s4.d.c, .slice s4.e.a s4.e.n s4.e.c, .string xo.target, .int .i64 xo.peer, .slice s4.q.a s4.q.n s4.q.c, .int .i64 xo.proc, .int .i64 xo.links, .int .i64 xo.up]] u5 fun e w' => e = .returned (.bool true) ∧ Below u5.heap.size u5 w') := same_obj s3 s4 xo _ _ u5 (HLA4.out.later hb5) (HLB4.out.later hb5) (fun _ h => h) (fun _ h => h)
      have cA := hKA5.cell
      have cB := hKB5.cell
      have lA := hKA5.lt
      have lB := hKB5.lt
      clear hb5 hKu5 hrn HS4 HLu4 HKu4 HNA hGl4 HKA4 HLA4 HKB4 HLB4 hKA5 hKB5
      go_wp2_with fail
      clear cA cB lA lB
      refine HSO.out.mono ?_
      rintro e u6 ⟨rfl, hb6⟩
      have HS6 : Hid (StW w (.slice (some ⟨ob, oo, none⟩) L.length c2) (.slice ba b.length bc) L b u6) := HS5.out.below hb6
      have HLu6 : Hid (Lists u6 (fun y => y < u6.heap.size) (s, x)) := HLu5.out.later hb6
      have hKu6 : Blk u6 G #[.int .i64 x.kind, .slice s.d.a s.d.n s.d.c, .slice s.e.a s.e.n s.e.c, .string x.target, .int .i64 x.peer, .slice s.q.a s.q.n s.q.c, .int .i64 x.proc, .int .i64 x.links, .int .i64 x.up] 35 := HKu5.out.below hb6 HKu5.out.lt
      have HRN6 : Hid (Row u6 (fun b => b < u6.heap.size) 1 (.slice na x.ents.length nc) (x.ents.map fun e => strC e.name)) := Row.later HRN.out hb6
      have k2 : u6.cell? ⟨G, 2, none⟩ = some (.slice s.e.a x.ents.length s.e.c) := by rw [hKu6.cell, ← HEN.out]; rfl
      have lG := hKu6.lt
      clear hb6 hKu6 HS5 HLu5 HKu5 HRN HSO
      go_wp2_with fail
      clear k2
      go_loopw [215] (fun i wq => ∃ q : Nat, q ≤ x.ents.length ∧ i = .int .i64 q ∧ Below u6.heap.size u6 wq) (fun i _ => x.ents.length - (intOf i).toNat)
      case atStart => exact ⟨0, Nat.zero_le _, rfl, Below.refl _ _⟩
      case round =>
        obtain ⟨q, hq, rfl, hBq⟩ := hrel
        by_cases hlt2 : q < x.ents.length
        · have hy : x.ents[q]? = some x.ents[q] := List.getElem?_eq_getElem hlt2
          have hEr : Ents u6 (fun y => y < u6.heap.size) (.slice s.e.a s.e.n s.e.c) x.ents := HLu6.out.2.1
          obtain ⟨eb, eo, ec, hse, hSe, h3, h4, h5⟩ := (Row.on hEr (On.of hBq)).some (by rw [List.length_map]; omega)
          rw [List.length_map] at hse h3
          obtain ⟨hsa, hsn, hsc⟩ := Value.slice.inj hse
          obtain ⟨x0, x1⟩ := ent_cells h5 hy
          obtain ⟨nb, no, nc', hne, hNe, g3, g4, g5⟩ := (Row.on HRN6.out (On.of hBq)).some (by rw [List.length_map]; omega)
          rw [List.length_map] at hne g3
          obtain ⟨rfl, -, rfl⟩ := Value.slice.inj hne
          have n0 := g5 q (strC x.ents[q].name) (by rw [List.getElem?_map, hy]; rfl) 0 _ rfl
          rw [Nat.mul_one, Nat.add_zero] at n0
          have hzq := hBq.size
          have hebl : eb < wr.heap.size := by omega
          have hnbl : nb < wr.heap.size := by omega
          have hneb : ¬ eb = wr.heap.size := by omega
          have hnnb : ¬ nb = wr.heap.size := by omega
          generalize x.ents[q] = y at *
          rw [hsa, hsc]
          unfold maxLen at h4 g4
          have HBQ : Hid (Below u6.heap.size u6 (wr.alloc (.cells #[.string y.name, .int .i64 y.obj] 51))) := hBq.alloc hBq.size _
          have hnw : wr.heap.size < (wr.alloc (.cells #[.string y.name, .int .i64 y.obj] 51)).heap.size := by simp
          clear hy hse h5 hne g5 hBq hSe hNe hEr
          go_wp2_with fail
          have z0 : (wr.alloc (.cells #[.string y.name, .int .i64 y.obj] 51)).cell? ⟨wr.heap.size, 0, none⟩ = some (.string y.name) := (Blk.new wr _ _).cell 0
          have z1 : (wr.alloc (.cells #[.string y.name, .int .i64 y.obj] 51)).cell? ⟨nb, no + q, none⟩ = some (.string y.name) := by rw [(On.alloc wr _).cell hnbl]; exact n0
          clear x0 x1 n0
          generalize wr.alloc (.cells #[.string y.name, .int .i64 y.obj] 51) = W7 at *
          go_region_held3 (fun w' => w'.cell? ⟨wr.heap.size, 0, none⟩ = some (.string y.name) ∧ w'.cell? ⟨nb, no + q, none⟩ = some (.string y.name)) (go_keep) (fail)
          go_wp2
          exact ⟨⟨q + 1, by omega, by go_num, HBQ.out.drew⟩, by simp [intOf]; omega⟩
        · obtain rfl : q = x.ents.length := by omega
          have HS7 : Hid (StW w (.slice (some ⟨ob, oo, none⟩) L.length c2) (.slice ba b.length bc) L b _) := HS6.out.below hBq
          clear hBq
          go_wp2
          exact ⟨⟨k + 1, by omega, by go_num, HS7.out⟩, by simp [intOf]; omega⟩
    · obtain rfl : k = L.length := by omega
      go_wp2
      go_ret
      exact ⟨rfl, HSk.out.1⟩
end Go.Proofs.Ytaobjpajbpoamaa
