/-
  What chapter 9 says of channels, as plain functions over lists; channel.isEnd, noSend, noRecv, newEnd, walked.
-/
import Derived.Test.YthoacakdmnijcaaRMake
namespace Go.Proofs.Ythoacakdmnijcaa
open Go.RowKit
namespace Ch
def peerOf (L : List Sp.Ob) (k : Int) : Int := match Sp.objAt L k with
  | some o => o.peer
  | none => -1
def waits (L : List Sp.Ob) (k : Int) : Nat := match Sp.objAt L k with
  | some o => o.queue.length
  | none => 0
def noSend (L : List Sp.Ob) (k : Int) (n : Nat) : Int := if Sp.is L k 4 = false then 8 else if Sp.is L (peerOf L k) 4 = false then 17 else if 60 < n then 4 else if 4 ≤ waits L (peerOf L k) then 15 else 0
def noRecv (L : List Sp.Ob) (k : Int) : Int := if Sp.is L k 4 = false then 8 else if 0 < waits L k then 0 else if Sp.is L (peerOf L k) 4 = false then 17 else 16
def withQ (L : List Sp.Ob) (p : Nat) (o : Sp.Ob) (q : List Sp.Msg) : List Sp.Ob := L.set p { o with queue := q }
end Ch
theorem is_end {L : List Sp.Ob} {k : Int} : Sp.is L k 4 = true → ∃ (n : Nat) (o : Sp.Ob), k = n ∧ L[n]? = some o ∧ o.kind = 4 ∧ Sp.objAt L k = some o := by
  intro h
  unfold Sp.is at h
  cases ho : Sp.objAt L k with
  | none => rw [ho] at h; cases h
  | some o =>
    rw [ho] at h
    obtain ⟨n, rfl, hx, _⟩ := objAt_some ho
    exact ⟨n, o, rfl, hx, by simpa using h, rfl⟩
set_option maxRecDepth 100000 in
theorem isEnd_any (L : List Sp.Ob) (k : Int) (v : Value) (S : Nat → Prop) (w : World) (hv : Objs w S v L) :
    Calls Try.prog 68 #[v, .int .i64 k] w fun e w' => e = .returned (.bool (Sp.is L k 4)) ∧ w' = w := by
  by_cases h0 : 0 ≤ k
  · obtain ⟨n, rfl⟩ := Int.eq_ofNat_of_zero_le h0
    by_cases h1 : n < L.length
    · have hx : L[n]? = some L[n] := List.getElem?_eq_getElem h1
      obtain ⟨b, o, c, s, rfl, hb, hc, hm, -, c0, -⟩ := hv.open hx
      have HE : Hid (Sp.is L n 4 = (L[n].kind == 4)) := by
        unfold Hid Sp.is
        rw [objAt_nat, hx, Option.filter_some]
        cases hk : L[n].kind != 0 with
        | true => rfl
        | false =>
          have : L[n].kind = 0 := by simpa using hk
          rw [this]; rfl
      generalize L[n] = x at *
      unfold maxLen at hm
      rw [HE.out]
      clear hv hx HE
      go_enter Try.func68, Try.ntmps68
      go_wp2
      go_ret
      exact ⟨rfl, rfl⟩
    · have HE : Hid (Sp.is L n 4 = false) := by
        unfold Hid Sp.is
        rw [objAt_nat, List.getElem?_eq_none (by omega)]
        rfl
      obtain ⟨a, c, rfl, -⟩ := hv.form
      rw [HE.out]
      clear hv HE
      go_enter Try.func68, Try.ntmps68
      go_wp2
      go_ret
      exact ⟨rfl, rfl⟩
  · have HE : Hid (Sp.is L k 4 = false) := by unfold Hid Sp.is; rw [objAt_neg h0]
    obtain ⟨a, c, rfl, -⟩ := hv.form
    rw [HE.out]
    clear hv HE
    go_enter Try.func68, Try.ntmps68
    go_wp2
    go_ret
    exact ⟨rfl, rfl⟩
theorem newEnd_any (p : Int) (w : World) :
    Calls Try.prog 49 #[.int .i64 p] w fun e w' => e = .returned (.agg #[.int .i64 4, .slice none 0 0, .slice none 0 0, .string ⟨#[]⟩, .int .i64 p, .slice none 0 0, .int .i64 (-1), .int .i64 0, .int .i64 0]) ∧ Below w.heap.size w w' := by
  go_enter Try.func49, Try.ntmps49
  go_wp2
  exact bodyPost_ret (v := .agg #[.int .i64 4, .slice none 0 0, .slice none 0 0, .string ⟨#[]⟩, .int .i64 p, .slice none 0 0, .int .i64 (-1), .int .i64 0, .int .i64 0]) (by simp [results, Try.results49, go_sem]) rfl ⟨rfl, (Below.refl _ _).alloc (Nat.le_refl _) _⟩
/-- A message, as a value. -/
def msgV (t : Sl × Sp.Msg) : Value := .agg #[.slice t.1.a t.1.n t.1.c, .bool t.2.has, .int .i64 t.2.op, .int .i64 t.2.rt]
set_option maxRecDepth 100000 in
set_option maxHeartbeats 2000000 in
theorem noSend_any (L : List Sp.Ob) (k : Int) (t : Sl × Sp.Msg) (v : Value) (S : Nat → Prop) (w : World) (hv : Objs w S v L) (hS : ∀ b, S b → b < w.heap.size) (hm : t.1.n = t.2.data.length) (hml : t.2.data.length ≤ maxLen) :
    Calls Try.prog 50 #[v, .int .i64 k, msgV t] w fun e w' => e = .returned (.int .i64 (Ch.noSend L k t.2.data.length)) ∧ Below w.heap.size w w' := by
  obtain ⟨⟨ma, mn, mc⟩, md, mh, mo, mr⟩ := t
  dsimp only at hm hml
  subst hm
  have HV : Hid (∀ w', Below w.heap.size w w' → Objs w' S v L) := fun w' h => hv.on ((On.of h).less hS)
  have HE : Hid (∀ w' (j : Int), Below w.heap.size w w' → Calls Try.prog 68 #[v, .int .i64 j] w' fun e w'' => e = .returned (.bool (Sp.is L j 4)) ∧ w'' = w') := fun w' j h => isEnd_any L j v S w' (hv.on ((On.of h).less hS))
  have HB : Hid (Below w.heap.size w (w.alloc (.cells #[.slice ma md.length mc, .bool mh, .int .i64 mo, .int .i64 mr] 49))) := (Below.refl _ _).alloc (Nat.le_refl _) _
  have hK := Blk.new w #[.slice ma md.length mc, .bool mh, .int .i64 mo, .int .i64 mr] 49
  unfold msgV maxLen at *
  dsimp only
  cases he : Sp.is L k 4 with
  | false =>
    have HN : Hid (Ch.noSend L k md.length = 8) := by unfold Hid Ch.noSend; rw [if_pos he]
    rw [HN.out]
    have HE1 := HE.out _ k HB.out
    rw [he] at HE1
    have HE2 : Hid _ := HE1
    obtain ⟨a, c, rfl, -⟩ := hv.form
    clear hv hS hK he HE1
    go_enter Try.func50, Try.ntmps50
    go_wp2_with fail
    refine Calls.mono HE2.out ?_
    rintro e w2 ⟨rfl, hw⟩
    rw [hw]
    clear hw
    go_wp2
    go_ret
    exact ⟨rfl, HB.out⟩
  | true =>
    obtain ⟨n, o, rfl, hx, hk4, hob⟩ := is_end he
    have hpe : Ch.peerOf L (n : Int) = o.peer := by unfold Ch.peerOf; rw [hob]
    have hnl := (List.getElem?_eq_some_iff.1 hx).1
    have HE1 := HE.out _ (n : Int) HB.out
    rw [he] at HE1
    have HE2 : Hid _ := HE1
    have HE3 := HE.out _ o.peer HB.out
    obtain ⟨b, of, c, s, hve, hSb, hc, hcm, -, c0, c1, c2, c3, c4, c5, c6, c7, c8⟩ := (HV.out _ HB.out).open hx
    subst hve
    unfold maxLen at hcm
    cases hp : Sp.is L o.peer 4 with
    | false =>
      have HN : Hid (Ch.noSend L (n : Int) md.length = 17) := by unfold Hid Ch.noSend; rw [if_neg (by rw [he]; decide), hpe, if_pos hp]
      rw [HN.out]
      rw [hp] at HE3
      have HE4 : Hid _ := HE3
      clear hv hS hK he HE1 HE3 hp hx hob hpe c0 c1 c2 c3 c5 c6 c7 c8
      go_enter Try.func50, Try.ntmps50
      go_wp2_with fail
      refine Calls.mono HE2.out ?_
      rintro e w2 ⟨rfl, hw⟩
      rw [hw]
      clear hw
      go_wp2_with fail
      refine Calls.mono HE4.out ?_
      rintro e w2 ⟨rfl, hw⟩
      rw [hw]
      clear hw
      go_wp2
      go_ret
      exact ⟨rfl, HB.out⟩
    | true =>
      obtain ⟨q, oq, hqe, hxq, hkq, hobq⟩ := is_end hp
      have hwa : Ch.waits L o.peer = oq.queue.length := by unfold Ch.waits; rw [hobq]
      have hql := (List.getElem?_eq_some_iff.1 hxq).1
      rw [hp] at HE3
      have HE4 : Hid _ := HE3
      obtain ⟨b', of', c', s', hve', -, -, -, hli', d0, d1, d2, d3, d4, d5, d6, d7, d8⟩ := (HV.out _ HB.out).open hxq
      obtain ⟨e1, -, e2⟩ := Value.slice.inj hve'
      obtain ⟨rfl, rfl, -⟩ := Addr.mk.inj (Option.some.inj e1)
      obtain ⟨ts, ht1, ht2, -⟩ := hli'.2.2
      have hsn : s'.q.n = oq.queue.length := by
        have := Row.eqNil ht2
        rw [List.length_map] at this
        rw [this, ht1, List.length_map]
      rw [hsn] at d5
      have hk0 := hK.cell 0
      have hqm : oq.queue.length ≤ maxLen := by
        obtain ⟨_, _, hh, hh2⟩ := ht2.form
        rw [List.length_map] at hh2
        rw [ht1, List.length_map]; exact hh2
      unfold maxLen at hqm
      have HN0 : Hid (Ch.noSend L (n : Int) md.length = if 60 < md.length then 4 else if 4 ≤ oq.queue.length then 15 else 0) := by unfold Hid Ch.noSend; rw [if_neg (by rw [he]; decide), hpe, if_neg (by rw [hp]; decide), hwa]
      rw [hqe] at HE4 c4
      clear hv hS he HE1 HE3 hp hx hob hpe hobq hwa hli' ht1 ht2 hxq hve' e1 e2 c0 c1 c2 c3 c5 c6 c7 c8 d0 d1 d2 d3 d4 d6 d7 d8 hsn hqe hK
      by_cases h60 : 60 < md.length
      · have HN : Hid (Ch.noSend L (n : Int) md.length = 4) := by unfold Hid; rw [HN0.out, if_pos h60]
        rw [HN.out]
        go_enter Try.func50, Try.ntmps50
        go_wp2_with fail
        refine Calls.mono HE2.out ?_
        rintro e w2 ⟨rfl, hw⟩
        rw [hw]
        clear hw
        go_wp2_with fail
        refine Calls.mono HE4.out ?_
        rintro e w2 ⟨rfl, hw⟩
        rw [hw]
        clear hw
        go_wp2
        go_ret
        exact ⟨rfl, HB.out⟩
      · by_cases h4 : 4 ≤ oq.queue.length
        all_goals
          have HN : Hid (Ch.noSend L (n : Int) md.length = if 4 ≤ oq.queue.length then 15 else 0) := by unfold Hid; rw [HN0.out, if_neg h60]
          first | rw [if_pos h4] at HN | rw [if_neg h4] at HN
          rw [HN.out]
          go_enter Try.func50, Try.ntmps50
          go_wp2_with fail
          refine Calls.mono HE2.out ?_
          rintro e w2 ⟨rfl, hw⟩
          rw [hw]
          clear hw
          go_wp2_with fail
          refine Calls.mono HE4.out ?_
          rintro e w2 ⟨rfl, hw⟩
          rw [hw]
          clear hw
          go_wp2
          go_ret
          exact ⟨rfl, HB.out⟩
set_option maxRecDepth 100000 in
set_option maxHeartbeats 2000000 in
theorem noRecv_any (L : List Sp.Ob) (k : Int) (v : Value) (S : Nat → Prop) (w : World) (hv : Objs w S v L) :
    Calls Try.prog 51 #[v, .int .i64 k] w fun e w' => e = .returned (.int .i64 (Ch.noRecv L k)) ∧ w' = w := by
  have HE : Hid (∀ (j : Int), Calls Try.prog 68 #[v, .int .i64 j] w fun e w'' => e = .returned (.bool (Sp.is L j 4)) ∧ w'' = w) := fun j => isEnd_any L j v S w hv
  cases he : Sp.is L k 4 with
  | false =>
    have HN : Hid (Ch.noRecv L k = 8) := by unfold Hid Ch.noRecv; rw [if_pos he]
    rw [HN.out]
    have HE1 := HE.out k
    rw [he] at HE1
    have HE2 : Hid _ := HE1
    obtain ⟨a, c, rfl, -⟩ := hv.form
    clear hv he HE1
    go_enter Try.func51, Try.ntmps51
    go_wp2_with fail
    refine Calls.mono HE2.out ?_
    rintro e w2 ⟨rfl, hw⟩
    rw [hw]
    clear hw
    go_wp2
    go_ret
    exact ⟨rfl, rfl⟩
  | true =>
    obtain ⟨n, o, rfl, hx, hk4, hob⟩ := is_end he
    have hpe : Ch.peerOf L (n : Int) = o.peer := by unfold Ch.peerOf; rw [hob]
    have hwa : Ch.waits L (n : Int) = o.queue.length := by unfold Ch.waits; rw [hob]
    have hnl := (List.getElem?_eq_some_iff.1 hx).1
    have HE1 := HE.out (n : Int)
    rw [he] at HE1
    have HE2 : Hid _ := HE1
    have HE3 := HE.out o.peer
    obtain ⟨b, of, c, s, hve, hSb, hc, hcm, hli, c0, c1, c2, c3, c4, c5, c6, c7, c8⟩ := hv.open hx
    subst hve
    obtain ⟨ts, ht1, ht2, -⟩ := hli.2.2
    have hsn : s.q.n = o.queue.length := by
      have := Row.eqNil ht2
      rw [List.length_map] at this
      rw [this, ht1, List.length_map]
    rw [hsn] at c5
    have hqm : o.queue.length ≤ maxLen := by
      obtain ⟨_, _, hh, hh2⟩ := ht2.form
      rw [List.length_map] at hh2
      rw [ht1, List.length_map]; exact hh2
    unfold maxLen at hqm hcm
    by_cases hq : 0 < o.queue.length
    · have HN : Hid (Ch.noRecv L (n : Int) = 0) := by unfold Hid Ch.noRecv; rw [if_neg (by rw [he]; decide), hwa, if_pos hq]
      rw [HN.out]
      clear hv he HE1 HE3 hx hob hpe hwa hli ht1 ht2 c0 c1 c2 c3 c6 c7 c8 hsn
      go_enter Try.func51, Try.ntmps51
      go_wp2_with fail
      refine Calls.mono HE2.out ?_
      rintro e w2 ⟨rfl, hw⟩
      rw [hw]
      clear hw
      go_wp2
      go_ret
      exact ⟨rfl, rfl⟩
    · cases hp : Sp.is L o.peer 4
      all_goals
        have HN : Hid (Ch.noRecv L (n : Int) = if Sp.is L o.peer 4 = false then 17 else 16) := by unfold Hid Ch.noRecv; rw [if_neg (by rw [he]; decide), hwa, if_neg hq, hpe]
        rw [hp] at HN HE3
        first | rw [if_pos rfl] at HN | rw [if_neg (by decide)] at HN
        rw [HN.out]
        have HE4 : Hid _ := HE3
        clear hv he HE1 HE3 hx hob hpe hwa hli ht1 ht2 c0 c1 c2 c3 c6 c7 c8 hsn hp
        go_enter Try.func51, Try.ntmps51
        go_wp2_with fail
        refine Calls.mono HE2.out ?_
        rintro e w2 ⟨rfl, hw⟩
        rw [hw]
        clear hw
        go_wp2_with fail
        refine Calls.mono HE4.out ?_
        rintro e w2 ⟨rfl, hw⟩
        rw [hw]
        clear hw
        go_wp2
        go_ret
        exact ⟨rfl, rfl⟩
end Go.Proofs.Ythoacakdmnijcaa
