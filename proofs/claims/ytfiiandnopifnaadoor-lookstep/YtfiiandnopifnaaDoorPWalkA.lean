
/-
  What path.inNames and path.Name answer.
-/
import Derived.Test.YtfiiandnopifnaaDoorPPlain
import Derived.Test.YtfiiandnopifnaaDoorProg
import Derived.WalkKit
import Derived.WalkSpells
import Derived.Laws.Externs
import Derived.WalkLawsBesides
import Derived.Below
import Derived.Lib.Walk
import Derived.Lib.Strings
namespace Go.Proofs.YtfiiandnopifnaaDoor
open Go.RowKit
def inNn (n : Nat) : Bool := decide ((97 ≤ n ∧ n ≤ 122) ∨ (48 ≤ n ∧ n ≤ 57) ∨ n = 46 ∨ n = 95)
theorem inNames_yes (n : Nat) (h : inNn n = true) (w : World) : Calls Tryd.prog 43 #[.int .u8 (n : Int)] w fun e w' => e = .returned (.bool true) ∧ w' = w := by
  unfold inNn at h
  rw [decide_eq_true_eq] at h
  rcases h with ⟨h1, h2⟩ | ⟨h1, h2⟩ | h | h
  · have g1 : (97 : Int) ≤ n := by omega
    have g2 : (n : Int) ≤ 122 := by omega
    go_enter Tryd.func43, Tryd.ntmps43
    go_wp2
    go_ret
    exact ⟨rfl, rfl⟩
  · have g1 : ¬ (97 : Int) ≤ n := by omega
    have g2 : (48 : Int) ≤ n := by omega
    have g3 : (n : Int) ≤ 57 := by omega
    go_enter Tryd.func43, Tryd.ntmps43
    go_wp2
    go_ret
    exact ⟨rfl, rfl⟩
  · subst h
    go_enter Tryd.func43, Tryd.ntmps43
    go_wp2
    go_ret
    exact ⟨rfl, rfl⟩
  · subst h
    go_enter Tryd.func43, Tryd.ntmps43
    go_wp2
    go_ret
    exact ⟨rfl, rfl⟩
theorem inNames_no (n : Nat) (h : inNn n = false) (w : World) : Calls Tryd.prog 43 #[.int .u8 (n : Int)] w fun e w' => e = .returned (.bool false) ∧ w' = w := by
  unfold inNn at h
  rw [decide_eq_false_iff_not] at h
  have e1 : ((n : Int) == 46) = false := by rw [beq_eq_false_iff_ne]; omega
  have e2 : ((n : Int) == 95) = false := by rw [beq_eq_false_iff_ne]; omega
  by_cases g1 : (97 : Int) ≤ n
  · have g2 : ¬ (n : Int) ≤ 122 := by omega
    have g3 : (48 : Int) ≤ n := by omega
    have g4 : ¬ (n : Int) ≤ 57 := by omega
    clear h
    go_enter Tryd.func43, Tryd.ntmps43
    go_wp2
    go_ret
    exact ⟨rfl, rfl⟩
  · by_cases g3 : (48 : Int) ≤ n
    · have g4 : ¬ (n : Int) ≤ 57 := by omega
      clear h
      go_enter Tryd.func43, Tryd.ntmps43
      go_wp2
      go_ret
      exact ⟨rfl, rfl⟩
    · clear h
      go_enter Tryd.func43, Tryd.ntmps43
      go_wp2
      go_ret
      exact ⟨rfl, rfl⟩
theorem toList_beq (s : ByteArray) (l : List UInt8) : (s.toList == l) = decide (s.data.toList = l) := by
  rw [ByteArray.toList_eq, Bool.eq_iff_iff, beq_iff_eq, decide_eq_true_eq]
theorem toList_bne (s : ByteArray) (l : List UInt8) : (s.toList != l) = !decide (s.data.toList = l) := by
  rw [bne, toList_beq]
theorem size_list (s : ByteArray) : s.size = s.data.toList.length := by rw [Array.length_toList]; rfl
/-- A text that is none for its length, or as it is. -/
theorem name_short (s : ByteArray) (hs : s.size ≤ maxLen) (h : ¬ (s.data.toList ≠ [] ∧ s.data.toList.length ≤ 12 ∧ s.data.toList ≠ [46] ∧ s.data.toList ≠ [46, 46])) (w : World) :
    Calls Tryd.prog 39 #[.string s] w fun e w' => e = .returned (.bool false) ∧ w' = w := by
  have hsz := size_list s
  unfold maxLen at hs
  by_cases h1 : s.data.toList = []
  · have e1 : (s.toList == []) = true := by rw [toList_beq]; simp [h1]
    clear h hsz h1
    go_enter Tryd.func39, Tryd.ntmps39
    go_wp2
    go_ret
    exact ⟨rfl, rfl⟩
  have e1 : (s.toList == []) = false := by rw [toList_beq]; simp [h1]
  by_cases h2 : s.data.toList.length ≤ 12
  · have g2 : ¬ (12 : Int) < s.size := by omega
    by_cases h3 : s.data.toList = [46]
    · have e3 : (s.toList == [46]) = true := by rw [toList_beq]; simp [h3]
      clear h hsz h1 h2 h3
      go_enter Tryd.func39, Tryd.ntmps39
      go_wp2
      go_ret
      exact ⟨rfl, rfl⟩
    · have e3 : (s.toList == [46]) = false := by rw [toList_beq]; simp [h3]
      have h4 : s.data.toList = [46, 46] := by
        refine Classical.byContradiction fun e => h ⟨h1, h2, h3, e⟩
      have e4 : (s.toList == [46, 46]) = true := by rw [toList_beq]; simp [h4]
      clear h hsz h1 h2 h3 h4
      go_enter Tryd.func39, Tryd.ntmps39
      go_wp2
      go_ret
      exact ⟨rfl, rfl⟩
  · have g2 : (12 : Int) < s.size := by omega
    clear h hsz h1 h2
    go_enter Tryd.func39, Tryd.ntmps39
    go_wp2
    go_ret
    exact ⟨rfl, rfl⟩
theorem take_snoc (s : ByteArray) (k : Nat) (h : k < s.size) : s.data.toList.take (k + 1) = s.data.toList.take k ++ [s[k]] := by
  rw [List.take_succ_eq_append_getElem (by simpa using h)]; rfl
theorem inN_at (c : UInt8) : Pt.inN c = inNn c.toNat := rfl
theorem all_false {l : List UInt8} {c : UInt8} (hm : c ∈ l) (h : Pt.inN c = false) : l.all Pt.inN = false := by
  cases e : l.all Pt.inN with
  | false => rfl
  | true => rw [List.all_eq_true.1 e c hm] at h; cases h
theorem name_long (s : ByteArray) (b : Bool) (hb : s.data.toList.all Pt.inN = b) (hs : s.size ≤ maxLen) (h : s.data.toList ≠ [] ∧ s.data.toList.length ≤ 12 ∧ s.data.toList ≠ [46] ∧ s.data.toList ≠ [46, 46]) (w : World) :
    Calls Tryd.prog 39 #[.string s] w fun e w' => e = .returned (.bool b) ∧ w' = w := by
  have HA : Hid (s.data.toList.all Pt.inN = b) := hb
  clear hb
  have hsz := size_list s
  unfold maxLen at hs
  obtain ⟨h1, h2, h3, h4⟩ := h
  have e1 : (s.toList == []) = false := by rw [toList_beq]; simp [h1]
  have e3 : (s.toList == [46]) = false := by rw [toList_beq]; simp [h3]
  have e4 : (s.toList == [46, 46]) = false := by rw [toList_beq]; simp [h4]
  have g2 : ¬ (12 : Int) < s.size := by omega
  have HS : Hid (s.size = s.data.toList.length) := hsz
  clear hsz h1 h2 h3 h4
  go_enter Tryd.func39, Tryd.ntmps39
  go_wp2
  go_loop [21] (fun i => ∃ k : Nat, k ≤ s.size ∧ i = .int .i64 k ∧ Hid ((s.data.toList.take k).all Pt.inN = true)) (fun i => s.size - (intOf i).toNat)
  case atStart => exact ⟨0, Nat.zero_le _, rfl, rfl⟩
  case round =>
    obtain ⟨k, hk, rfl, hall⟩ := hrel
    by_cases hlt : k < s.size
    · have hts := take_snoc s k hlt
      have HT : Hid (s.data.toList.take (k + 1) = s.data.toList.take k ++ [s[k]]) := hts
      have hmem : s[k] ∈ s.data.toList := by
        have : s[k] ∈ s.data.toList.take (k + 1) := by rw [hts]; simp
        exact List.mem_of_mem_take this
      have HM : Hid (s[k] ∈ s.data.toList) := hmem
      clear hts hmem
      cases hb : inNn s[k].toNat with
      | true =>
        have HB : Hid (inNn s[k].toNat = true) := hb
        clear hb
        go_wp2_with (go_at_call 43; refine (inNames_yes _ HB.out _).mono ?_; rintro e w' ⟨rfl, rfl⟩)
        go_round
        case rel => exact ⟨k + 1, by omega, by go_num, by unfold Hid; rw [HT.out, List.all_append, hall.out]; simp [inN_at, HB.out]⟩
        case measure => simp [intOf]; omega
      | false =>
        have HB : Hid (inNn s[k].toNat = false) := hb
        clear hb
        go_wp2_with (go_at_call 43; refine (inNames_no _ HB.out _).mono ?_; rintro e w' ⟨rfl, rfl⟩)
        go_ret
        exact ⟨by rw [← HA.out, all_false HM.out HB.out]; rfl, rfl⟩
    · go_wp2
      go_ret
      refine ⟨?_, rfl⟩
      have := hall.out
      rw [List.take_of_length_le (by rw [← HS.out]; omega)] at this
      rw [HA.out] at this
      rw [this]; rfl
theorem name_any (s : ByteArray) (hs : s.size ≤ maxLen) (w : World) :
    Calls Tryd.prog 39 #[.string s] w fun e w' => e = .returned (.bool (Pt.isName s.data.toList)) ∧ w' = w := by
  unfold Pt.isName
  by_cases h : s.data.toList ≠ [] ∧ s.data.toList.length ≤ 12 ∧ s.data.toList ≠ [46] ∧ s.data.toList ≠ [46, 46]
  · rw [decide_eq_true h, Bool.true_and]
    exact name_long s _ rfl hs h w
  · rw [decide_eq_false h, Bool.false_and]
    exact name_short s hs h w
end Go.Proofs.YtfiiandnopifnaaDoor
