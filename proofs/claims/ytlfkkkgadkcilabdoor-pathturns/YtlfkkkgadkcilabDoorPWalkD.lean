/-
  What path.Depth answers.
-/
import Derived.Test.YtlfkkkgadkcilabDoorPWalkC
namespace Go.Proofs.YtlfkkkgadkcilabDoor
open Go.RowKit
theorem dataL_take (xs : List ByteArray) (k : Nat) (x : ByteArray) (h : xs[k]? = some x) : dataL (xs.take (k + 1)) = dataL (xs.take k) ++ [x.data.toList] := by
  unfold dataL
  rw [List.take_add_one, h, List.map_append]; rfl
theorem dataL_length (xs : List ByteArray) : (dataL xs).length = xs.length := List.length_map ..
theorem climb_up {h : Int × Int} : Pt.step h [46, 46] = (h.1 + 1, max h.2 (h.1 + 1)) := by simp [Pt.step]
theorem climb_down {h : Int × Int} {x : List UInt8} (hx : x ≠ [46, 46]) : Pt.step h x = (h.1 - 1, max h.2 (h.1 - 1)) := by simp [Pt.step, hx]
set_option maxHeartbeats 400000 in
theorem depth_at (xs : List ByteArray) (b o c : Nat) (w : World) (_hb : b < w.heap.size) (hN : xs.length ≤ 1152921504606846976) (_hc : xs.length ≤ c) (hcells : ∀ (j : Nat) x, xs[j]? = some x → w.cell? ⟨b, o + j, none⟩ = some (.string x)) :
    Calls Tryd.prog 8 #[.slice (some ⟨b, o, none⟩) xs.length c] w fun e w' => e = .returned (.int .i64 (Pt.climb (dataL xs)).2) ∧ w' = w := by
  have HC : Hid (∀ (j : Nat) x, xs[j]? = some x → w.cell? ⟨b, o + j, none⟩ = some (.string x)) := hcells
  clear hcells
  go_enter Tryd.func8, Tryd.ntmps8
  go_wp2
  go_loop [3, 4, 9] (fun h m i => ∃ k : Nat, k ≤ xs.length ∧ i = .int .i64 k ∧ h = .int .i64 (Pt.climb (dataL (xs.take k))).1 ∧ m = .int .i64 (Pt.climb (dataL (xs.take k))).2) (fun _ _ i => xs.length - (intOf i).toNat)
  case atStart => exact ⟨0, Nat.zero_le _, rfl, rfl, rfl⟩
  case round =>
    obtain ⟨k, hk, rfl, rfl, rfl⟩ := hrel
    have hf := Pt.climb_facts (dataL (xs.take k))
    have hlk : (dataL (xs.take k)).length ≤ k := by rw [dataL_length]; exact List.length_take_le _ _
    by_cases hlt : k < xs.length
    · obtain ⟨x, hx⟩ : ∃ x, xs[k]? = some x := ⟨_, List.getElem?_eq_getElem hlt⟩
      have hcx := HC.out k x hx
      have HT : Hid (Pt.climb (dataL (xs.take (k + 1))) = Pt.step (Pt.climb (dataL (xs.take k))) x.data.toList) := by unfold Hid; rw [dataL_take xs k x hx, Pt.climb_snoc]
      clear hx
      generalize Pt.climb (dataL (xs.take k)) = h at *
      generalize Pt.ups (dataL (xs.take k)) = u at *
      generalize (dataL (xs.take k)).length = n at *
      obtain ⟨h1, h2⟩ := h
      dsimp only at hf
      cases he : (x.toList == [46, 46]) with
      | true =>
        have HE : Hid (x.data.toList = [46, 46]) := by rw [toList_beq, decide_eq_true_eq] at he; exact he
        go_wp2
        all_goals go_round
        case rel => exact ⟨k + 1, by omega, by go_num, by rw [HT.out, HE.out, climb_up], by rw [HT.out, HE.out, climb_up]⟩
        case measure => simp [intOf]; omega
      | false =>
        have HE : Hid (x.data.toList ≠ [46, 46]) := by rw [toList_beq, decide_eq_false_iff_not] at he; exact he
        go_wp2
        all_goals go_round
        case rel => exact ⟨k + 1, by omega, by go_num, by rw [HT.out, climb_down HE.out], by rw [HT.out, climb_down HE.out]⟩
        case measure => simp [intOf]; omega
    · go_wp2
      go_ret
      refine ⟨?_, rfl⟩
      rw [List.take_of_length_le (by omega)]; rfl
theorem depth_any (xs : List ByteArray) (v : Value) (w : World) (hv : TL w w.heap.size v xs) (hN : xs.length ≤ 1152921504606846976) :
    Calls Tryd.prog 8 #[v] w fun e w' => e = .returned (.int .i64 (Pt.climb (dataL xs)).2) ∧ w' = w := by
  rcases hv with ⟨a, c, rfl, rfl⟩ | ⟨b, o, c, rfl, h1, h2, h3⟩
  · go_enter Tryd.func8, Tryd.ntmps8
    go_wp2
    refine wp_loop_rounds 1 ?_
    rw [rounds_succ]
    go_wp2
    go_ret
    exact ⟨rfl, rfl⟩
  · exact depth_at xs b o c w h1 hN h2 h3
end Go.Proofs.YtlfkkkgadkcilabDoor
