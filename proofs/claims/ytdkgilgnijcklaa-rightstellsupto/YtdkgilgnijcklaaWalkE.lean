/-
  Less is less: the sets' order as plain facts, and the law of the order at every three sets.
-/
import Derived.Test.YtdkgilgnijcklaaWalkD
namespace Go.Proofs.Rg
theorem bit_and (a b j : Nat) : (a &&& b).testBit j = (a.testBit j && b.testBit j) := Nat.testBit_and a b j
theorem within_iff (a b : Nat) : within a b = true ↔ ∀ j, a.testBit j = true → b.testBit j = true := by
  unfold within
  rw [beq_iff_eq]
  constructor
  · intro h j hj
    have := congrArg (fun x => Nat.testBit x j) h
    simp only [Nat.testBit_and] at this
    rw [hj] at this; simpa using this
  · intro h
    apply Nat.eq_of_testBit_eq
    intro j
    rw [Nat.testBit_and]
    have := h j
    cases ha : a.testBit j
    · rfl
    · rw [this ha]; rfl
theorem within_refl (a : Nat) : within a a = true := (within_iff a a).2 fun _ h => h
theorem within_trans {a b c : Nat} (h1 : within a b = true) (h2 : within b c = true) : within a c = true :=
  (within_iff a c).2 fun j h => (within_iff b c).1 h2 j ((within_iff a b).1 h1 j h)
theorem within_anti {a b : Nat} (h1 : within a b = true) (h2 : within b a = true) : a = b := by
  apply Nat.eq_of_testBit_eq
  intro j
  rw [Bool.eq_iff_iff]
  exact ⟨(within_iff a b).1 h1 j, (within_iff b a).1 h2 j⟩
theorem meet_left (a b : Nat) : within (meet a b) a = true := (within_iff _ _).2 fun j h => by
  unfold meet at h; rw [Nat.testBit_and, Bool.and_eq_true] at h; exact h.1
theorem meet_right (a b : Nat) : within (meet a b) b = true := (within_iff _ _).2 fun j h => by
  unfold meet at h; rw [Nat.testBit_and, Bool.and_eq_true] at h; exact h.2
theorem join_left (a b : Nat) : within a (join a b) = true := (within_iff _ _).2 fun j h => by
  unfold join; rw [Nat.testBit_or, h]; rfl
theorem meet_greatest (a b c : Nat) (h : within c a = true) : within c (meet a b) = within c b := by
  rw [Bool.eq_iff_iff]
  constructor
  · exact fun h2 => within_trans h2 (meet_right a b)
  · intro h2
    refine (within_iff _ _).2 fun j hj => ?_
    unfold meet
    rw [Nat.testBit_and, (within_iff c a).1 h j hj, (within_iff c b).1 h2 j hj]; rfl
theorem meet_assoc (a b c : Nat) : meet (meet a b) c = meet a (meet b c) := Nat.and_assoc a b c
theorem meet_join (a b : Nat) : meet a (join a b) = a := by
  have := join_left a b
  unfold within at this
  exact beq_iff_eq.1 this
theorem bit_le (a b i : Nat) : (a &&& b) / 2 ^ i % 2 ≤ a / 2 ^ i % 2 := by
  have h1 := Nat.testBit_and a b i
  rw [Nat.testBit_eq_decide_div_mod_eq, Nat.testBit_eq_decide_div_mod_eq] at h1
  have h3 : (a &&& b) / 2 ^ i % 2 < 2 := Nat.mod_lt _ (by decide)
  generalize (a &&& b) / 2 ^ i % 2 = x at *
  generalize a / 2 ^ i % 2 = y at *
  by_cases hx : x = 1
  · rw [hx] at h1; simp at h1; omega
  · omega
theorem count_le (a b : Nat) : count (meet a b) ≤ count a := by
  have h0 : (a &&& b) % 2 ≤ a % 2 := by have := bit_le a b 0; rw [Nat.pow_zero, Nat.div_one, Nat.div_one] at this; exact this
  exact Nat.add_le_add (Nat.add_le_add (Nat.add_le_add (Nat.add_le_add (Nat.add_le_add (Nat.add_le_add (Nat.add_le_add (Nat.add_le_add (Nat.add_le_add (Nat.add_le_add (Nat.add_le_add h0 (bit_le a b 1)) (bit_le a b 2)) (bit_le a b 3)) (bit_le a b 4)) (bit_le a b 5)) (bit_le a b 6)) (bit_le a b 7)) (bit_le a b 8)) (bit_le a b 9)) (bit_le a b 10)) (bit_le a b 11)
end Go.Proofs.Rg
namespace Go.Proofs.Ytdkgilgnijcklaa
open Go.RowKit
set_option maxHeartbeats 1000000 in
theorem order_sets (a b c : Nat) (ha : a < 4096) (hb : b < 4096) (hc : c < 4096) (w : World) :
    Calls Try.prog 4 #[.int .i64 a, .int .i64 b, .int .i64 c] w fun e w' => e = .returned (.bool true) ∧ Below w.heap.size w w' := by
  have hm : Rg.meet a b < 4096 := Rg.meet_lt a b ha
  have hj : Rg.join a b < 4096 := Rg.join_lt a b ha hb
  have hbc' : Rg.meet b c < 4096 := Rg.meet_lt b c hb
  have ra : isRight (a : Int) = true := by unfold isRight; rw [decide_eq_true_eq]; omega
  have rb : isRight (b : Int) = true := by unfold isRight; rw [decide_eq_true_eq]; omega
  have rc : isRight (c : Int) = true := by unfold isRight; rw [decide_eq_true_eq]; omega
  have f1 := Rg.within_refl a
  have f2 := Rg.meet_left a b
  have f3 := Rg.meet_right a b
  have f4 := Rg.join_left a b
  have f5 := Rg.meet_assoc a b c
  have f6 := Rg.meet_join a b
  have f7 : (Rg.count (Rg.meet a b) : Int) ≤ (Rg.count a : Int) := by have := Rg.count_le a b; omega
  have f8 : Rg.within a b = true → Rg.within b c = true → Rg.within a c = true := Rg.within_trans
  have f9 : Rg.within a b = true → Rg.within b a = true → ((a : Int) != (b : Int)) = false := fun h1 h2 => by rw [Rg.within_anti h1 h2]; simp
  have f10 : Rg.within c a = true → Rg.within c (Rg.meet a b) = Rg.within c b := Rg.meet_greatest a b c
  cases h1 : Rg.within a b <;> cases h2 : Rg.within b c <;> cases h3 : Rg.within b a <;> cases h4 : Rg.within c a <;> cases h5 : Rg.within c b
  all_goals
    rw [h1, h2] at f8
    rw [h1, h3] at f9
    rw [h4, h5] at f10
    simp only [Bool.false_eq_true, false_implies, true_implies] at f8 f9 f10
    go_enter Try.func4, Try.ntmps4
    go_wp2_with (first
      | (go_at_call 25; refine (alive_any _).mono ?_; rintro e w1 ⟨rfl, hbel⟩)
      | (go_at_call 10; refine (right_any _ _).mono ?_; rintro e w' ⟨rfl, rfl⟩)
      | (go_at_call 17; refine (meet_any _ _ (by assumption) (by assumption) _).mono ?_; rintro e w' ⟨rfl, rfl⟩)
      | (go_at_call 19; refine (join_any _ _ (by assumption) (by assumption) _).mono ?_; rintro e w' ⟨rfl, rfl⟩)
      | (go_at_call 15; refine (within_any _ _ (by assumption) (by assumption) _).mono ?_; rintro e w' ⟨rfl, rfl⟩)
      | (go_at_call 20; refine (count_any _ (by assumption) _).mono ?_; rintro e w' ⟨rfl, rfl⟩))
    go_ret
    exact ⟨rfl, hbel⟩
theorem order_any (a b c : Int) (w : World) :
    Calls Try.prog 4 #[.int .i64 a, .int .i64 b, .int .i64 c] w fun e w' => e = .returned (.bool true) ∧ Below w.heap.size w w' := by
  cases ra : isRight a
  · go_enter Try.func4, Try.ntmps4
    go_wp2_with (first
      | (go_at_call 25; refine (alive_any _).mono ?_; rintro e w1 ⟨rfl, hbel⟩)
      | (go_at_call 10; refine (right_any _ _).mono ?_; rintro e w' ⟨rfl, rfl⟩))
    go_ret
    exact ⟨rfl, hbel⟩
  cases rb : isRight b
  · go_enter Try.func4, Try.ntmps4
    go_wp2_with (first
      | (go_at_call 25; refine (alive_any _).mono ?_; rintro e w1 ⟨rfl, hbel⟩)
      | (go_at_call 10; refine (right_any _ _).mono ?_; rintro e w' ⟨rfl, rfl⟩))
    go_ret
    exact ⟨rfl, hbel⟩
  cases rc : isRight c
  · go_enter Try.func4, Try.ntmps4
    go_wp2_with (first
      | (go_at_call 25; refine (alive_any _).mono ?_; rintro e w1 ⟨rfl, hbel⟩)
      | (go_at_call 10; refine (right_any _ _).mono ?_; rintro e w' ⟨rfl, rfl⟩))
    go_ret
    exact ⟨rfl, hbel⟩
  have ha := of_decide_eq_true ra
  have hb := of_decide_eq_true rb
  have hc := of_decide_eq_true rc
  obtain ⟨A, rfl⟩ := Int.eq_ofNat_of_zero_le ha.1
  obtain ⟨B, rfl⟩ := Int.eq_ofNat_of_zero_le hb.1
  obtain ⟨C, rfl⟩ := Int.eq_ofNat_of_zero_le hc.1
  exact order_sets A B C (by omega) (by omega) (by omega) w
end Go.Proofs.Ytdkgilgnijcklaa
