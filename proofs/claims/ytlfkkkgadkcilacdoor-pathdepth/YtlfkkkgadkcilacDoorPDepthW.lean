/-
  rglaw4.PathDepth answers true.
-/
import Derived.Test.YtlfkkkgadkcilacDoorPWalkE
import Derived.Laws.OwnMore
import Derived.Laws.AppendOwnNone
namespace Go.Proofs.YtlfkkkgadkcilacDoor
open Go.RowKit
theorem below_text (xs : List ByteArray) : (Pt.climb (dataL (xs ++ [⟨#[46, 46]⟩]))).2 = (Pt.climb (dataL xs)).2 ∨ (Pt.climb (dataL (xs ++ [⟨#[46, 46]⟩]))).2 = (Pt.climb (dataL xs)).2 + 1 := by
  have e : dataL (xs ++ [⟨#[46, 46]⟩]) = dataL xs ++ [[46, 46]] := by unfold dataL; rw [List.map_append]; rfl
  have hf := Pt.climb_facts (dataL xs)
  rw [e, Pt.climb_snoc, climb_up]
  show max _ _ = _ ∨ max _ _ = _
  omega
theorem oneCell_texts (xs : List ByteArray) : ∀ u ∈ xs.map Value.string, u.oneCell' = true := by
  intro u hu
  obtain ⟨x, _, rfl⟩ := List.mem_map.1 hu
  rfl
set_option maxHeartbeats 2000000 in
theorem pdepth_some (xs : List ByteArray) (m : Int) (b o c : Nat) (w : World) (hm : w.cell? ⟨0, 0, none⟩ = some (.int .i64 m)) (hb : b < w.heap.size) (hN : xs.length ≤ 8796093022000) (hc : xs.length ≤ c)
    (hcells : ∀ (j : Nat) x, xs[j]? = some x → w.cell? ⟨b, o + j, none⟩ = some (.string x)) :
    Calls Tryd.prog 3 #[.slice (some ⟨b, o, none⟩) xs.length c] w fun e w' => e = .returned (.bool true) ∧ Below w.heap.size w w' := by
  obtain ⟨i0, hi, hz0, hz1, hz2⟩ := info_parts Tryd.infoS
  have HM : Hid (w.cell? ⟨0, 0, none⟩ = some (.int .i64 m)) := hm
  have HC : Hid (∀ (j : Nat) x, xs[j]? = some x → w.cell? ⟨b, o + j, none⟩ = some (.string x)) := hcells
  clear hm hcells
  go_enter Tryd.func3, Tryd.ntmps3
  go_wp2_with fail
  refine (alive_any m w HM.out).mono ?_
  rintro e w1 ⟨rfl, hb1⟩
  have HB1 : Hid (Below w.heap.size w w1) := hb1
  have hz := hb1.size
  have HC1 : Hid (∀ (j : Nat) x, xs[j]? = some x → w1.cell? ⟨b, o + j, none⟩ = some (.string x)) := fun j x hj => (hb1.cell (p := ⟨b, o + j, none⟩) hb).trans (HC.out j x hj)
  clear hb1 HC HM
  go_wp2_with fail
  go_loop [3, 12] (fun u i => ∃ k : Nat, k ≤ xs.length ∧ i = .int .i64 k ∧ u = .int .i64 (Pt.ups (dataL (xs.take k)))) (fun _ i => xs.length - (intOf i).toNat)
  case atStart => exact ⟨0, Nat.zero_le _, rfl, rfl⟩
  case round =>
    obtain ⟨k, hk, rfl, rfl⟩ := hrel
    have hf := (Pt.climb_facts (dataL (xs.take k))).2.2.2.2.2
    rw [dataL_length] at hf
    have hlk : (xs.take k).length ≤ k := List.length_take_le _ _
    by_cases hlt : k < xs.length
    · obtain ⟨x, hx⟩ : ∃ x, xs[k]? = some x := ⟨_, List.getElem?_eq_getElem hlt⟩
      have hcx := HC1.out k x hx
      have HT : Hid (Pt.ups (dataL (xs.take (k + 1))) = Pt.ups (dataL (xs.take k)) + if x.data.toList = [46, 46] then 1 else 0) := by unfold Hid; rw [dataL_take xs k x hx, Pt.ups_snoc]
      clear hx
      generalize Pt.ups (dataL (xs.take k)) = u at *
      generalize (xs.take k).length = n at *
      cases he : (x.toList == [46, 46]) with
      | true =>
        have HE : Hid (x.data.toList = [46, 46]) := by rw [toList_beq, decide_eq_true_eq] at he; exact he
        go_wp2
        go_round
        case rel => exact ⟨k + 1, by omega, by go_num, by rw [HT.out, if_pos HE.out]; go_num⟩
        case measure => simp [intOf]; omega
      | false =>
        have HE : Hid (x.data.toList ≠ [46, 46]) := by rw [toList_beq, decide_eq_false_iff_not] at he; exact he
        go_wp2
        go_round
        case rel => exact ⟨k + 1, by omega, by go_num, by rw [HT.out, if_neg HE.out]; rfl⟩
        case measure => simp [intOf]; omega
    · obtain rfl : k = xs.length := by omega
      rw [List.take_length] at *
      have hcf := Pt.climb_facts (dataL xs)
      rw [dataL_length] at hcf
      clear hf hlk
      go_wp2_with fail
      refine (depth_any xs _ _ (Or.inr ⟨b, o, c, rfl, by omega, hc, HC1.out⟩) (by omega)).mono ?_
      rintro e w2 ⟨rfl, hw⟩
      rw [hw]
      clear hw
      have HO : Hid ((w1.alloc (.cells #[] 9)).ownsRow w.heap.size 9 1 (.slice (some ⟨w1.heap.size, 0, none⟩) 0 0) 0 []) := World.ownsRow_lit w1 #[] 0 hz (Nat.zero_le _) rfl
      have HB2 : Hid (Below w.heap.size w (w1.alloc (.cells #[] 9))) := HB1.out.alloc hz _
      have HC2 : Hid (∀ (j : Nat) u, (xs.map Value.string)[j]? = some u → (w1.alloc (.cells #[] 9)).cell? ((⟨b, o, none⟩ : Addr).add j) = some u) := by
        intro j u hj
        rw [List.getElem?_map] at hj
        obtain ⟨x, hx, rfl⟩ := Option.map_eq_some_iff.1 hj
        rw [Addr.add_lit, World.cell?_alloc_past _ _ _ (by show b < w1.heap.size; omega)]
        exact HC1.out j x hx
      go_wp2_with (at_builtin; refine wpList_append_own _ rfl _ _ 22 rfl w.heap.size 9 i0 (.string ByteArray.empty) 1 16 Tryd.underlying22 hi hz0 hz1 hz2 rfl (by decide) (.slice (some ⟨w1.heap.size, 0, none⟩) 0 0) 0 [] rfl HO.out ⟨b, o, none⟩ xs.length c (xs.map Value.string) rfl (by simp) HC2.out (oneCell_texts xs) (by unfold maxLen; omega) (by omega) (by simp; omega) ?_)
      intro v3 w3 ho3 hg3 _
      have HB3 : Hid (Below w.heap.size w w3) := HB2.out.grown hg3 (by simp; omega) (fun j hj => (HO.out.lt j hj).1)
      have HO3 : Hid (w3.ownsRow w.heap.size 9 1 v3 xs.length (xs.map Value.string)) := by unfold Hid; simpa using ho3
      have HO3' : Hid ((w3.alloc (.cells #[.string ⟨#[46, 46]⟩] 9)).ownsRow w.heap.size 9 1 v3 xs.length (xs.map Value.string)) := HO3.out.alloc _
      have hz3 := HB3.out.size
      have HB4 : Hid (Below w.heap.size w (w3.alloc (.cells #[.string ⟨#[46, 46]⟩] 9))) := HB3.out.alloc hz3 _
      clear ho3 hg3 HO HB2 HC2 HC1
      go_wp2_with (at_builtin; refine wpList_append_own _ rfl _ _ 22 rfl w.heap.size 9 i0 (.string ByteArray.empty) 1 16 Tryd.underlying22 hi hz0 hz1 hz2 rfl (by decide) v3 xs.length (xs.map Value.string) rfl HO3'.out ⟨w3.heap.size, 0, none⟩ 1 1 [.string ⟨#[46, 46]⟩] rfl rfl ?c1 ?c2 (by unfold maxLen; omega) (by omega) (by simp; omega) ?_)
      case c1 =>
        intro j u hj
        match j, hj with
        | 0, hj => simp at hj; subst hj; simp [Addr.add]
      case c2 => intro u hu; simp at hu; subst hu; rfl
      intro v4 w4 ho4 hg4 _
      have HB5 : Hid (Below w.heap.size w w4) := HB4.out.grown hg4 (by simp; omega) (fun j hj => (HO3.out.lt j hj).1)
      have HO4 : Hid (w4.ownsRow w.heap.size 9 1 v4 (xs ++ [(⟨#[46, 46]⟩ : ByteArray)]).length ((xs ++ [(⟨#[46, 46]⟩ : ByteArray)]).map Value.string)) := by
        unfold Hid; rw [List.map_append, List.length_append]; exact ho4
      clear ho4 hg4 HO3 HO3' HB4 HB3
      go_wp2_with fail
      refine (depth_any (xs ++ [⟨#[46, 46]⟩]) v4 w4 (TL.own HO4.out) (by rw [List.length_append]; simp; omega)).mono ?_
      rintro e w5 ⟨rfl, hw⟩
      rw [hw]
      clear hw
      have hcl := below_text xs
      generalize (Pt.climb (dataL (xs ++ [⟨#[46, 46]⟩]))).2 = n2 at *
      generalize (Pt.climb (dataL xs)).2 = n1 at *
      generalize Pt.ups (dataL xs) = u at *
      have g1 : 0 ≤ n1 := hcf.2.2.1
      have g2 : n1 ≤ (u : Int) := hcf.2.2.2.1
      rcases hcl with rfl | rfl
      · go_wp2
        go_ret
        exact ⟨rfl, HB5.out⟩
      · have e3 : (n1 + 1 == n1) = false := by rw [beq_eq_false_iff_ne]; omega
        have e4 : n1 + 1 - 1 = n1 := by omega
        go_wp2
        go_ret
        exact ⟨rfl, HB5.out⟩
theorem climb_nil : (Pt.climb (dataL [])).2 = 0 := rfl
theorem climb_one : (Pt.climb (dataL [⟨#[46, 46]⟩])).2 = 1 := by decide
set_option maxHeartbeats 2000000 in
theorem pdepth_zero (m : Int) (ad : Addr) (c : Nat) (w : World) (hm : w.cell? ⟨0, 0, none⟩ = some (.int .i64 m)) :
    Calls Tryd.prog 3 #[.slice (some ad) 0 c] w fun e w' => e = .returned (.bool true) ∧ Below w.heap.size w w' := by
  obtain ⟨i0, hi, hz0, hz1, hz2⟩ := info_parts Tryd.infoS
  have HM : Hid (w.cell? ⟨0, 0, none⟩ = some (.int .i64 m)) := hm
  clear hm
  go_enter Tryd.func3, Tryd.ntmps3
  go_wp2_with fail
  refine (alive_any m w HM.out).mono ?_
  rintro e w1 ⟨rfl, hb1⟩
  have HB1 : Hid (Below w.heap.size w w1) := hb1
  have hz := hb1.size
  clear hb1 HM
  go_wp2_with fail
  refine wp_loop_rounds 1 ?_
  rw [rounds_succ]
  go_wp2_with fail
  refine (depth_any [] _ _ (Or.inl ⟨_, _, rfl, rfl⟩) (by decide)).mono ?_
  rintro e w2 ⟨rfl, hw⟩
  rw [hw, climb_nil]
  clear hw
  have HO : Hid ((w1.alloc (.cells #[] 9)).ownsRow w.heap.size 9 1 (.slice (some ⟨w1.heap.size, 0, none⟩) 0 0) 0 []) := World.ownsRow_lit w1 #[] 0 hz (Nat.zero_le _) rfl
  have HB2 : Hid (Below w.heap.size w (w1.alloc (.cells #[] 9))) := HB1.out.alloc hz _
  go_wp2_with (at_builtin; refine wpList_append_own _ rfl _ _ 22 rfl w.heap.size 9 i0 (.string ByteArray.empty) 1 16 Tryd.underlying22 hi hz0 hz1 hz2 rfl (by decide) (.slice (some ⟨w1.heap.size, 0, none⟩) 0 0) 0 [] rfl HO.out ad 0 c [] rfl rfl (fun j u hj => by simp at hj) (fun u hu => by simp at hu) (by decide) (by decide) (by simp; omega) ?_)
  intro v3 w3 ho3 hg3 _
  have HB3 : Hid (Below w.heap.size w w3) := HB2.out.grown hg3 (by simp; omega) (fun j hj => (HO.out.lt j hj).1)
  have HO3 : Hid (w3.ownsRow w.heap.size 9 1 v3 0 []) := ho3
  clear ho3 hg3
  have HO3' : Hid ((w3.alloc (.cells #[.string ⟨#[46, 46]⟩] 9)).ownsRow w.heap.size 9 1 v3 0 []) := HO3.out.alloc _
  have hz3 := HB3.out.size
  have HB4 : Hid (Below w.heap.size w (w3.alloc (.cells #[.string ⟨#[46, 46]⟩] 9))) := HB3.out.alloc hz3 _
  clear HO HB2
  go_wp2_with (at_builtin; refine wpList_append_own _ rfl _ _ 22 rfl w.heap.size 9 i0 (.string ByteArray.empty) 1 16 Tryd.underlying22 hi hz0 hz1 hz2 rfl (by decide) v3 0 [] rfl HO3'.out ⟨w3.heap.size, 0, none⟩ 1 1 [.string ⟨#[46, 46]⟩] rfl rfl ?c1 ?c2 (by decide) (by decide) (by simp; omega) ?_)
  case c1 =>
    intro j u hj
    match j, hj with
    | 0, hj => simp at hj; subst hj; simp [Addr.add]
  case c2 => intro u hu; simp at hu; subst hu; rfl
  intro v4 w4 ho4 hg4 _
  have HB5 : Hid (Below w.heap.size w w4) := HB4.out.grown hg4 (by simp; omega) (fun j hj => (HO3.out.lt j hj).1)
  have HO4 : Hid (w4.ownsRow w.heap.size 9 1 v4 [(⟨#[46, 46]⟩ : ByteArray)].length ([(⟨#[46, 46]⟩ : ByteArray)].map Value.string)) := ho4
  clear ho4 hg4 HO3 HO3' HB4 HB3
  go_wp2_with fail
  refine (depth_any [⟨#[46, 46]⟩] v4 w4 (TL.own HO4.out) (by decide)).mono ?_
  rintro e w5 ⟨rfl, hw⟩
  rw [hw, climb_one]
  clear hw
  go_wp2
  go_ret
  exact ⟨rfl, HB5.out⟩
set_option maxHeartbeats 2000000 in
theorem pdepth_nil (m : Int) (w : World) (hm : w.cell? ⟨0, 0, none⟩ = some (.int .i64 m)) :
    Calls Tryd.prog 3 #[.slice none 0 0] w fun e w' => e = .returned (.bool true) ∧ Below w.heap.size w w' := by
  obtain ⟨i0, hi, hz0, hz1, hz2⟩ := info_parts Tryd.infoS
  have HM : Hid (w.cell? ⟨0, 0, none⟩ = some (.int .i64 m)) := hm
  clear hm
  go_enter Tryd.func3, Tryd.ntmps3
  go_wp2_with fail
  refine (alive_any m w HM.out).mono ?_
  rintro e w1 ⟨rfl, hb1⟩
  have HB1 : Hid (Below w.heap.size w w1) := hb1
  have hz := hb1.size
  clear hb1 HM
  go_wp2_with fail
  refine wp_loop_rounds 1 ?_
  rw [rounds_succ]
  go_wp2_with fail
  refine (depth_any [] _ _ (Or.inl ⟨_, _, rfl, rfl⟩) (by decide)).mono ?_
  rintro e w2 ⟨rfl, hw⟩
  rw [hw, climb_nil]
  clear hw
  have HO : Hid ((w1.alloc (.cells #[] 9)).ownsRow w.heap.size 9 1 (.slice (some ⟨w1.heap.size, 0, none⟩) 0 0) 0 []) := World.ownsRow_lit w1 #[] 0 hz (Nat.zero_le _) rfl
  have HB2 : Hid (Below w.heap.size w (w1.alloc (.cells #[] 9))) := HB1.out.alloc hz _
  have HO3' : Hid (((w1.alloc (.cells #[] 9)).alloc (.cells #[.string ⟨#[46, 46]⟩] 9)).ownsRow w.heap.size 9 1 (.slice (some ⟨w1.heap.size, 0, none⟩) 0 0) 0 []) := HO.out.alloc _
  have hz3 := HB2.out.size
  have HB4 : Hid (Below w.heap.size w ((w1.alloc (.cells #[] 9)).alloc (.cells #[.string ⟨#[46, 46]⟩] 9))) := HB2.out.alloc hz3 _
  go_wp2_with (at_builtin; first | refine wpList_append_own_none rfl _ _ 22 rfl w.heap.size 9 i0 1 Tryd.underlying22 hi (.slice (some ⟨w1.heap.size, 0, none⟩) 0 0) 0 [] rfl HO.out rfl ?_ | refine wpList_append_own _ rfl _ _ 22 rfl w.heap.size 9 i0 (.string ByteArray.empty) 1 16 Tryd.underlying22 hi hz0 hz1 hz2 rfl (by decide) (.slice (some ⟨w1.heap.size, 0, none⟩) 0 0) 0 [] rfl HO3'.out ⟨w1.heap.size + 1, 0, none⟩ 1 1 [.string ⟨#[46, 46]⟩] rfl rfl ?c1 ?c2 (by decide) (by decide) (by simp; omega) ?_)
  case c1 =>
    intro j u hj
    match j, hj with
    | 0, hj => simp at hj; subst hj; simp [Addr.add]
  case c2 => intro u hu; simp at hu; subst hu; rfl
  intro v4 w4 ho4 hg4 _
  have HB5 : Hid (Below w.heap.size w w4) := HB4.out.grown hg4 (by simp; omega) (fun j hj => (HO.out.lt j hj).1)
  have HO4 : Hid (w4.ownsRow w.heap.size 9 1 v4 [(⟨#[46, 46]⟩ : ByteArray)].length ([(⟨#[46, 46]⟩ : ByteArray)].map Value.string)) := ho4
  clear ho4 hg4 HO HO3' HB4 HB2
  go_wp2_with fail
  refine (depth_any [⟨#[46, 46]⟩] v4 w4 (TL.own HO4.out) (by decide)).mono ?_
  rintro e w5 ⟨rfl, hw⟩
  rw [hw, climb_one]
  clear hw
  go_wp2
  go_ret
  exact ⟨rfl, HB5.out⟩
/-- How a list of texts that came in lies. -/
def TArg (w : World) (v : Value) (xs : List ByteArray) : Prop :=
  (v = .slice none 0 0 ∧ xs = []) ∨ (∃ ad c, v = .slice (some ad) 0 c ∧ xs = []) ∨ ∃ b o c, v = .slice (some ⟨b, o, none⟩) xs.length c ∧ b < w.heap.size ∧ xs.length ≤ c ∧ ∀ (j : Nat) x, xs[j]? = some x → w.cell? ⟨b, o + j, none⟩ = some (.string x)
theorem pdepth_any (xs : List ByteArray) (m : Int) (v : Value) (w : World) (hm : w.cell? ⟨0, 0, none⟩ = some (.int .i64 m)) (hv : TArg w v xs) (hN : xs.length ≤ 8796093022000) :
    Calls Tryd.prog 3 #[v] w fun e w' => e = .returned (.bool true) ∧ Below w.heap.size w w' := by
  rcases hv with ⟨rfl, rfl⟩ | ⟨ad, c, rfl, rfl⟩ | ⟨b, o, c, rfl, h1, h2, h3⟩
  · exact pdepth_nil m w hm
  · exact pdepth_zero m ad c w hm
  · exact pdepth_some xs m b o c w hm h1 hN h2 h3
end Go.Proofs.YtlfkkkgadkcilacDoor
