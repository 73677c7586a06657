/-
  The document's own answer, chapter 1: the bits of a set and the number of bits.
-/
import Derived.Test.YtdkgilgnijcklaaWalkE
import Derived.Handy
namespace Go.Proofs.Rg
/-- the bit k -/
def bt (n k : Nat) : Bool := n.testBit k
theorem bt_div (n k : Nat) (x : Int) (h : x = ((n / 2 ^ k : Nat) : Int)) : (x % 2 == 1) = bt n k := by
  subst h
  unfold bt
  rw [Nat.testBit_eq_decide_div_mod_eq, Bool.eq_iff_iff, beq_iff_eq, decide_eq_true_eq]
  omega
theorem half (n k : Nat) (x : Int) (h : x = ((n / 2 ^ k : Nat) : Int)) : x / 2 = ((n / 2 ^ (k + 1) : Nat) : Int) := by
  subst h
  rw [Nat.pow_succ, ← Nat.div_div_eq_div_mul]
  omega
end Go.Proofs.Rg
namespace Go.Proofs.Ytdkgilgnijcklaa
open Go.RowKit
set_option maxHeartbeats 2000000 in
theorem rbits (n : Nat) (hn : n < 4096) (w : World) : Calls Try.prog 14 #[.int .i64 n] w fun e w' => e = .returned (.agg #[.bool (Rg.bt n 0), .bool (Rg.bt n 1), .bool (Rg.bt n 2), .bool (Rg.bt n 3), .bool (Rg.bt n 4), .bool (Rg.bt n 5), .bool (Rg.bt n 6), .bool (Rg.bt n 7), .bool (Rg.bt n 8), .bool (Rg.bt n 9), .bool (Rg.bt n 10), .bool (Rg.bt n 11)]) ∧ Below w.heap.size w w' := by
  have g0 : (n : Int) = ((n / 2 ^ 0 : Nat) : Int) := by simp
  have g1 := Rg.half n 0 _ g0
  have g2 := Rg.half n 1 _ g1
  have g3 := Rg.half n 2 _ g2
  have g4 := Rg.half n 3 _ g3
  have g5 := Rg.half n 4 _ g4
  have g6 := Rg.half n 5 _ g5
  have g7 := Rg.half n 6 _ g6
  have g8 := Rg.half n 7 _ g7
  have g9 := Rg.half n 8 _ g8
  have g10 := Rg.half n 9 _ g9
  have g11 := Rg.half n 10 _ g10
  have h0 := Rg.bt_div n 0 _ g0
  have h1 := Rg.bt_div n 1 _ g1
  have h2 := Rg.bt_div n 2 _ g2
  have h3 := Rg.bt_div n 3 _ g3
  have h4 := Rg.bt_div n 4 _ g4
  have h5 := Rg.bt_div n 5 _ g5
  have h6 := Rg.bt_div n 6 _ g6
  have h7 := Rg.bt_div n 7 _ g7
  have h8 := Rg.bt_div n 8 _ g8
  have h9 := Rg.bt_div n 9 _ g9
  have h10 := Rg.bt_div n 10 _ g10
  have h11 := Rg.bt_div n 11 _ g11
  clear g0 g1 g2 g3 g4 g5 g6 g7 g8 g9 g10 g11
  go_enter Try.func14, Try.ntmps14
  go_wp2
  go_rounds 13
  refine bodyPost_ret (v := .agg #[.bool (Rg.bt n 0), .bool (Rg.bt n 1), .bool (Rg.bt n 2), .bool (Rg.bt n 3), .bool (Rg.bt n 4), .bool (Rg.bt n 5), .bool (Rg.bt n 6), .bool (Rg.bt n 7), .bool (Rg.bt n 8), .bool (Rg.bt n 9), .bool (Rg.bt n 10), .bool (Rg.bt n 11)]) (by simp [results, Try.results14, go_sem]) rfl ⟨rfl, ?_⟩
  exact ((Below.refl _ _).alloc (Nat.le_refl _) _).alloc (by simp) _
end Go.Proofs.Ytdkgilgnijcklaa
namespace Go.Proofs.Rg
/-- what m bits from above come to -/
def nU (f : Nat → Bool) : Nat → Nat
  | 0 => 0
  | m + 1 => 2 * nU f m + (f (11 - m)).toNat
theorem nU_lt (f : Nat → Bool) : ∀ m, nU f m < 2 ^ m
  | 0 => by simp [nU]
  | m + 1 => by
    have := nU_lt f m
    have h2 : (f (11 - m)).toNat ≤ 1 := Bool.toNat_le _
    rw [nU, Nat.pow_succ]; omega
theorem nU_of (x : Nat) (f : Nat → Bool) (hf : ∀ j, j < 12 → f j = x.testBit j) (hx : x < 4096) : ∀ m, m ≤ 12 → nU f m = x / 2 ^ (12 - m)
  | 0, _ => by rw [nU]; exact (Nat.div_eq_of_lt hx).symm
  | m + 1, h => by
    rw [nU, nU_of x f hf hx m (by omega), hf (11 - m) (by omega), Nat.testBit_eq_decide_div_mod_eq]
    have e : 12 - m = 11 - m + 1 := by omega
    have e2 : 12 - (m + 1) = 11 - m := by omega
    rw [e, e2, Nat.pow_succ, ← Nat.div_div_eq_div_mul]
    generalize x / 2 ^ (11 - m) = y
    by_cases hy : y % 2 = 1
    · simp [hy]; omega
    · simp [hy]; omega
theorem num_of (x : Nat) (f : Nat → Bool) (hf : ∀ j, j < 12 → f j = x.testBit j) (hx : x < 4096) : nU f 12 = x := by
  rw [nU_of x f hf hx 12 (Nat.le_refl _)]; simp
end Go.Proofs.Rg
namespace Go.Proofs.Ytdkgilgnijcklaa
open Go.RowKit
theorem box12 (f : Nat → Bool) (t : Nat) (w : World) (j : Nat) (hj : j < 12) :
    (w.alloc (.cells #[.bool (f 0), .bool (f 1), .bool (f 2), .bool (f 3), .bool (f 4), .bool (f 5), .bool (f 6), .bool (f 7), .bool (f 8), .bool (f 9), .bool (f 10), .bool (f 11)] t)).cell? ⟨w.heap.size, j, none⟩ = some (.bool (f j)) := by
  rw [World.cell?_alloc_at _ _ _ _ rfl]
  match j, hj with
  | 0, _ | 1, _ | 2, _ | 3, _ | 4, _ | 5, _ | 6, _ | 7, _ | 8, _ | 9, _ | 10, _ | 11, _ => rfl
set_option maxHeartbeats 1000000 in
theorem rnum (f : Nat → Bool) (w : World) : Calls Try.prog 29 #[.agg #[.bool (f 0), .bool (f 1), .bool (f 2), .bool (f 3), .bool (f 4), .bool (f 5), .bool (f 6), .bool (f 7), .bool (f 8), .bool (f 9), .bool (f 10), .bool (f 11)]] w fun e w' => e = .returned (.int .i64 (Rg.nU f 12 : Nat)) ∧ Below w.heap.size w w' := by
  have HB : Hid (∀ j, j < 12 → (w.alloc (.cells #[.bool (f 0), .bool (f 1), .bool (f 2), .bool (f 3), .bool (f 4), .bool (f 5), .bool (f 6), .bool (f 7), .bool (f 8), .bool (f 9), .bool (f 10), .bool (f 11)] 31)).cell? ⟨w.heap.size, j, none⟩ = some (.bool (f j))) := fun j hj => box12 f 31 w j hj
  have hB : Below w.heap.size w (w.alloc (.cells #[.bool (f 0), .bool (f 1), .bool (f 2), .bool (f 3), .bool (f 4), .bool (f 5), .bool (f 6), .bool (f 7), .bool (f 8), .bool (f 9), .bool (f 10), .bool (f 11)] 31)) := (Below.refl _ _).alloc (Nat.le_refl _) _
  go_enter Try.func29, Try.ntmps29
  go_wp2
  go_loop [3, 4] (fun n k => (∃ i : Nat, i ≤ 11 ∧ k = .int .i64 i ∧ n = .int .i64 (Rg.nU f (11 - i) : Nat)) ∨ (k = .int .i64 (-1) ∧ n = .int .i64 (Rg.nU f 12 : Nat))) (fun _ k => (intOf k + 1).toNat)
  case atStart => exact .inl ⟨11, Nat.le_refl _, rfl, rfl⟩
  case round =>
    rcases hrel with ⟨i, hi, rfl, rfl⟩ | ⟨rfl, rfl⟩
    · have hlt := Rg.nU_lt f (11 - i)
      have hp : 2 ^ (11 - i) ≤ 2 ^ 11 := Nat.pow_le_pow_right (by decide) (by omega)
      have hb : Rg.nU f (11 - i) < 2048 := Nat.lt_of_lt_of_le hlt hp
      have hs : Rg.nU f (11 - i + 1) = 2 * Rg.nU f (11 - i) + (f i).toNat := by rw [Rg.nU]; congr 3; omega
      have HS : Hid (Rg.nU f (11 - i + 1) = 2 * Rg.nU f (11 - i) + (f i).toNat) := hs
      have hcell := HB.out i (by omega)
      generalize (w.alloc (.cells #[.bool (f 0), .bool (f 1), .bool (f 2), .bool (f 3), .bool (f 4), .bool (f 5), .bool (f 6), .bool (f 7), .bool (f 8), .bool (f 9), .bool (f 10), .bool (f 11)] 31)) = W at *
      clear hlt hp hs HB
      generalize Rg.nU f (11 - i) = N at *
      cases hf : f i with
      | true =>
        rw [hf] at hcell HS
        clear hf
        go_wp2
        go_round
        case rel =>
          by_cases h0 : i = 0
          · subst h0; exact .inr ⟨by go_num, by have := HS.out; simp at this; go_num⟩
          · exact .inl ⟨i - 1, by omega, by go_num, by have := HS.out; rw [show 11 - (i - 1) = 11 - i + 1 from by omega, this]; go_num⟩
        case measure => simp [intOf]
      | false =>
        rw [hf] at hcell HS
        clear hf
        go_wp2
        go_round
        case rel =>
          by_cases h0 : i = 0
          · subst h0; exact .inr ⟨by go_num, by have := HS.out; simp at this; go_num⟩
          · exact .inl ⟨i - 1, by omega, by go_num, by have := HS.out; rw [show 11 - (i - 1) = 11 - i + 1 from by omega, this]; go_num⟩
        case measure => simp [intOf]
    · generalize (w.alloc (.cells #[.bool (f 0), .bool (f 1), .bool (f 2), .bool (f 3), .bool (f 4), .bool (f 5), .bool (f 6), .bool (f 7), .bool (f 8), .bool (f 9), .bool (f 10), .bool (f 11)] 31)) = W at *
      go_wp2
      go_ret
      exact ⟨rfl, hB⟩
end Go.Proofs.Ytdkgilgnijcklaa
