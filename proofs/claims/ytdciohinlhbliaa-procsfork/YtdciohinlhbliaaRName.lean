
/-
  rgref1.Name, walked.
-/
import Derived.Test.YtdciohinlhbliaaRFind
import Derived.Test.YtdciohinlhbliaaPWalkA
namespace Go.Proofs.Ytdciohinlhbliaa
open Go.RowKit
set_option maxRecDepth 100000 in
set_option maxHeartbeats 4000000 in
theorem rname_any (s : ByteArray) (hs : s.size ≤ maxLen) (w : World) :
    Calls Try.prog 59 #[.string s] w fun e w' => e = .returned (.bool (Pt.isName s.data.toList)) ∧ w' = w := by
  have HSZ : Hid (s.size = s.data.toList.length) := size_list s
  have HB : Hid (Pt.isName s.data.toList = (decide (s.data.toList ≠ [] ∧ s.data.toList.length ≤ 12 ∧ s.data.toList ≠ [46] ∧ s.data.toList ≠ [46, 46]) && s.data.toList.all Pt.inN)) := rfl
  generalize Pt.isName s.data.toList = bb at *
  unfold maxLen at hs
  go_enter Try.func59, Try.ntmps59
  go_wp2
  go_loop [7] (fun i => ∃ k : Nat, k ≤ s.size ∧ i = .int .i64 k ∧ Hid ((s.data.toList.take k).all Pt.inN = true)) (fun i => s.size - (intOf i).toNat)
  case atStart => exact ⟨0, Nat.zero_le _, rfl, rfl⟩
  case round =>
    obtain ⟨k, hk, rfl, hall⟩ := hrel
    by_cases hlt : k < s.size
    · have hts := take_snoc s k hlt
      have HT : Hid (s.data.toList.take (k + 1) = s.data.toList.take k ++ [s[k]]) := hts
      have hmem : s[k] ∈ s.data.toList := by
        have : s[k] ∈ s.data.toList.take (k + 1) := by rw [hts]; simp
        exact List.mem_of_mem_take this
      have HM : Hid (s[k] ∈ s.data.toList) := hmem
      clear hts hmem
      cases hb : inNn s[k].toNat with
      | true =>
        have HN : Hid ((s.data.toList.take (k + 1)).all Pt.inN = true) := by unfold Hid; rw [HT.out, List.all_append, hall.out]; simp [inN_at, hb]
        unfold inNn at hb
        rw [decide_eq_true_eq] at hb
        clear HT HM hall
        rcases hb with ⟨h1, h2⟩ | ⟨h1, h2⟩ | h | h
        · have g1 : (97 : Int) ≤ s[k].toNat := by omega
          have g2 : (s[k].toNat : Int) ≤ 122 := by omega
          clear h1 h2
          go_wp2
          go_round
          case rel => exact ⟨k + 1, by omega, by go_num, HN⟩
          case measure => simp [intOf]; omega
        · have g1 : ¬ (97 : Int) ≤ s[k].toNat := by omega
          have g2 : (48 : Int) ≤ s[k].toNat := by omega
          have g3 : (s[k].toNat : Int) ≤ 57 := by omega
          clear h1 h2
          go_wp2
          go_round
          case rel => exact ⟨k + 1, by omega, by go_num, HN⟩
          case measure => simp [intOf]; omega
        · have g1 : ¬ (97 : Int) ≤ s[k].toNat := by omega
          have g2 : ¬ (48 : Int) ≤ s[k].toNat := by omega
          have g3 : ((s[k].toNat : Int) != 46) = false := by simp [h]
          clear h
          go_wp2
          go_round
          case rel => exact ⟨k + 1, by omega, by go_num, HN⟩
          case measure => simp [intOf]; omega
        · have g1 : ¬ (97 : Int) ≤ s[k].toNat := by omega
          have g2 : (48 : Int) ≤ s[k].toNat := by omega
          have g2' : ¬ (s[k].toNat : Int) ≤ 57 := by omega
          have g3 : ((s[k].toNat : Int) != 46) = true := by simp [h]
          have g4 : ((s[k].toNat : Int) != 95) = false := by simp [h]
          clear h
          go_wp2
          go_round
          case rel => exact ⟨k + 1, by omega, by go_num, HN⟩
          case measure => simp [intOf]; omega
      | false =>
        have HR : Hid (bb = false) := by unfold Hid; rw [HB.out, all_false HM.out (by rw [inN_at]; exact hb), Bool.and_false]
        unfold inNn at hb
        rw [decide_eq_false_iff_not] at hb
        have e1 : ((s[k].toNat : Int) != 46) = true := by rw [bne_iff_ne]; omega
        have e2 : ((s[k].toNat : Int) != 95) = true := by rw [bne_iff_ne]; omega
        clear HT HM hall HB
        by_cases g1 : (97 : Int) ≤ s[k].toNat
        · have g2 : ¬ (s[k].toNat : Int) ≤ 122 := by omega
          have g3 : (48 : Int) ≤ s[k].toNat := by omega
          have g4 : ¬ (s[k].toNat : Int) ≤ 57 := by omega
          clear hb
          go_wp2
          go_ret
          exact ⟨by rw [HR.out]; rfl, rfl⟩
        · by_cases g3 : (48 : Int) ≤ s[k].toNat
          · have g4 : ¬ (s[k].toNat : Int) ≤ 57 := by omega
            clear hb
            go_wp2
            go_ret
            exact ⟨by rw [HR.out]; rfl, rfl⟩
          · clear hb
            go_wp2
            go_ret
            exact ⟨by rw [HR.out]; rfl, rfl⟩
    · have hA : s.data.toList.all Pt.inN = true := by
        have := hall.out
        rwa [List.take_of_length_le (by rw [← HSZ.out]; omega)] at this
      have HR : Hid (bb = decide (s.data.toList ≠ [] ∧ s.data.toList.length ≤ 12 ∧ s.data.toList ≠ [46] ∧ s.data.toList ≠ [46, 46])) := by unfold Hid; rw [HB.out, hA, Bool.and_true]
      have hsz := HSZ.out
      by_cases h1 : s.data.toList = []
      · have e0 : ¬ (0 : Int) < (s.size : Int) := by have h00 : s.data.toList.length = 0 := by rw [h1]; rfl
                                                     omega
        have er : bb = false := by rw [HR.out]; exact decide_eq_false fun h => h.1 h1
        subst er
        clear hall hA h1 hsz HSZ HB HR
        go_wp2
        go_ret
        exact ⟨rfl, rfl⟩
      have e0 : (0 : Int) < (s.size : Int) := by have := List.length_pos_iff.2 h1; omega
      by_cases h2 : s.data.toList.length ≤ 12
      · have g2 : (s.size : Int) ≤ 12 := by omega
        by_cases h3 : s.data.toList = [46]
        · have e3 : (s.toList == [46]) = true := by rw [toList_beq]; simp [h3]
          have er : bb = false := by rw [HR.out]; exact decide_eq_false fun h => h.2.2.1 h3
          subst er
          clear hall hA h1 h2 h3 hsz HSZ HB HR
          go_wp2
          go_ret
          exact ⟨rfl, rfl⟩
        · have e3 : (s.toList == [46]) = false := by rw [toList_beq]; simp [h3]
          by_cases h4 : s.data.toList = [46, 46]
          · have e4 : (s.toList == [46, 46]) = true := by rw [toList_beq]; simp [h4]
            have er : bb = false := by rw [HR.out]; exact decide_eq_false fun h => h.2.2.2 h4
            subst er
            clear hall hA h1 h2 h3 h4 hsz HSZ HB HR
            go_wp2
            go_ret
            exact ⟨rfl, rfl⟩
          · have e4 : (s.toList == [46, 46]) = false := by rw [toList_beq]; simp [h4]
            have er : bb = true := by rw [HR.out]; exact decide_eq_true ⟨h1, h2, h3, h4⟩
            subst er
            clear hall hA h1 h2 h3 h4 hsz HSZ HB HR
            go_wp2
            go_ret
            exact ⟨rfl, rfl⟩
      · have g2 : ¬ (s.size : Int) ≤ 12 := by omega
        have er : bb = false := by rw [HR.out]; exact decide_eq_false fun h => h2 h.2.1
        subst er
        clear hall hA h1 h2 hsz HSZ HB HR
        go_wp2
        go_ret
        exact ⟨rfl, rfl⟩
end Go.Proofs.Ytdciohinlhbliaa
