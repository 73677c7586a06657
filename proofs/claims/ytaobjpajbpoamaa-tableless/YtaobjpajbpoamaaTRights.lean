/-
  Sets of rights: package rights' Right and Within, the document's Bits and Within, walked.
-/
import Derived.Test.YtaobjpajbpoamaaTPlain
import Derived.Laws.BitsAllLaws
import Derived.Laws.BitsLemmas
import Derived.Handy
import Derived.BigQuiet
import Derived.Deep.QuietTactic
namespace Go.Proofs.Ytaobjpajbpoamaa
open Go.RowKit
namespace Tb

theorem andNot_zero (a b : Nat) (ha : a < 4096) (hb : b < 4096) : a &&& (2 ^ 64 - 1 - b) = 0 ↔ a &&& b = a := by
  have e : 2 ^ 64 - 1 - b = 2 ^ 64 - (b + 1) := by omega
  rw [e]
  constructor
  · intro h
    apply Nat.eq_of_testBit_eq
    intro j
    have hj := congrArg (fun x => Nat.testBit x j) h
    simp only [Nat.testBit_and, Nat.zero_testBit, Nat.testBit_two_pow_sub_succ (by omega : b < 2 ^ 64)] at hj
    rw [Nat.testBit_and]
    by_cases h64 : j < 64
    · cases ha' : a.testBit j <;> cases hb' : b.testBit j <;> simp_all
    · have : a.testBit j = false := Nat.testBit_lt_two_pow (Nat.lt_of_lt_of_le ha (by
        have : 2 ^ 12 ≤ 2 ^ j := Nat.pow_le_pow_right (by decide) (by omega)
        omega))
      simp [this]
  · intro h
    apply Nat.eq_of_testBit_eq
    intro j
    have hj := congrArg (fun x => Nat.testBit x j) h
    simp only [Nat.testBit_and] at hj
    rw [Nat.testBit_and, Nat.zero_testBit, Nat.testBit_two_pow_sub_succ (by omega : b < 2 ^ 64)]
    cases ha' : a.testBit j <;> cases hb' : b.testBit j <;> simp_all
theorem i64_within (a b : Nat) (ha : a < 4096) (hb : b < 4096) : (bits .andNot .i64 (a : Int) (b : Int) == 0) = within a b := by
  have hx : a &&& (2 ^ 64 - 1 - b) ≤ a := Nat.and_le_left
  have h0 : bits .andNot .i64 (a : Int) (b : Int) = ((a &&& (2 ^ 64 - 1 - b) : Nat) : Int) := by
    show IntKind.i64.wrap ((BitVec.ofInt 64 (a : Int) &&& ~~~BitVec.ofInt 64 (b : Int)).toNat : Int) = _
    rw [BitVec.toNat_and, BitVec.toNat_not, BitVec.ofInt_natCast, BitVec.toNat_ofNat, BitVec.ofInt_natCast, BitVec.toNat_ofNat, IntKind.wrap_i64]
    have e1 : a % 2 ^ 64 = a := by omega
    have e2 : b % 2 ^ 64 = b := by omega
    rw [e1, e2]
    omega
  rw [h0, Bool.eq_iff_iff]
  unfold within
  rw [beq_iff_eq, beq_iff_eq, ← andNot_zero a b ha hb]
  omega
theorem within_iff (a b : Nat) : within a b = true ↔ ∀ j, a.testBit j = true → b.testBit j = true := by
  unfold within
  rw [beq_iff_eq]
  constructor
  · intro h j hj
    have := congrArg (fun x => Nat.testBit x j) h
    simp only [Nat.testBit_and] at this
    rw [hj] at this; simpa using this
  · intro h
    apply Nat.eq_of_testBit_eq
    intro j
    rw [Nat.testBit_and]
    have := h j
    cases ha : a.testBit j
    · rfl
    · rw [this ha]; rfl
theorem within_refl (a : Nat) : within a a = true := (within_iff a a).2 fun _ h => h
theorem within_trans {a b c : Nat} (h1 : within a b = true) (h2 : within b c = true) : within a c = true :=
  (within_iff a c).2 fun j h => (within_iff b c).1 h2 j ((within_iff a b).1 h1 j h)
def bt (n k : Nat) : Bool := n.testBit k
theorem bt_div (n k : Nat) (x : Int) (h : x = ((n / 2 ^ k : Nat) : Int)) : (x % 2 == 1) = bt n k := by
  subst h
  unfold bt
  rw [Nat.testBit_eq_decide_div_mod_eq, Bool.eq_iff_iff, beq_iff_eq, decide_eq_true_eq]
  omega
theorem half (n k : Nat) (x : Int) (h : x = ((n / 2 ^ k : Nat) : Int)) : x / 2 = ((n / 2 ^ (k + 1) : Nat) : Int) := by
  subst h
  rw [Nat.pow_succ, ← Nat.div_div_eq_div_mul]
  omega
theorem within_low (a b : Nat) (ha : a < 4096) : within a b = true ↔ ∀ j, j < 12 → bt a j = true → bt b j = true := by
  rw [within_iff]
  unfold bt
  constructor
  · exact fun h j _ => h j
  · intro h j hj
    by_cases hl : j < 12
    · exact h j hl hj
    · have : a.testBit j = false := Nat.testBit_lt_two_pow (Nat.lt_of_lt_of_le ha (by
        have : 2 ^ 12 ≤ 2 ^ j := Nat.pow_le_pow_right (by decide) (by omega)
        omega))
      rw [this] at hj; simp at hj
end Tb
theorem rightsWithin (a b : Nat) (ha : a < 4096) (hb : b < 4096) (w : World) : Calls Try.prog 68 #[.int .i64 a, .int .i64 b] w fun e w' => e = .returned (.bool (Tb.within a b)) ∧ w' = w := by
  have h := Tb.i64_within a b ha hb
  go_enter Try.func68, Try.ntmps68
  go_wp2
  go_ret
  exact ⟨by simp, rfl⟩
theorem rightsRight (a : Int) (w : World) : Calls Try.prog 60 #[.int .i64 a] w fun e w' => e = .returned (.bool (Tb.right a)) ∧ w' = w := by
  by_cases h0 : 0 ≤ a
  · have h : decide (a ≤ 4095) = Tb.right a := by simp [Tb.right, h0]
    go_enter Try.func60, Try.ntmps60
    go_wp2
    go_ret
    exact ⟨by simp, rfl⟩
  · have h : Tb.right a = false := by simp [Tb.right, h0]
    go_enter Try.func60, Try.ntmps60
    go_wp2
    go_ret
    exact ⟨by simp, rfl⟩
set_option maxHeartbeats 2000000 in
theorem rbits (n : Nat) (hn : n < 4096) (w : World) : Calls Try.prog 69 #[.int .i64 n] w fun e w' => e = .returned (.agg #[.bool (Tb.bt n 0), .bool (Tb.bt n 1), .bool (Tb.bt n 2), .bool (Tb.bt n 3), .bool (Tb.bt n 4), .bool (Tb.bt n 5), .bool (Tb.bt n 6), .bool (Tb.bt n 7), .bool (Tb.bt n 8), .bool (Tb.bt n 9), .bool (Tb.bt n 10), .bool (Tb.bt n 11)]) ∧ Below w.heap.size w w' := by
  have g0 : (n : Int) = ((n / 2 ^ 0 : Nat) : Int) := by simp
  have g1 := Tb.half n 0 _ g0
  have g2 := Tb.half n 1 _ g1
  have g3 := Tb.half n 2 _ g2
  have g4 := Tb.half n 3 _ g3
  have g5 := Tb.half n 4 _ g4
  have g6 := Tb.half n 5 _ g5
  have g7 := Tb.half n 6 _ g6
  have g8 := Tb.half n 7 _ g7
  have g9 := Tb.half n 8 _ g8
  have g10 := Tb.half n 9 _ g9
  have g11 := Tb.half n 10 _ g10
  have h0 := Tb.bt_div n 0 _ g0
  have h1 := Tb.bt_div n 1 _ g1
  have h2 := Tb.bt_div n 2 _ g2
  have h3 := Tb.bt_div n 3 _ g3
  have h4 := Tb.bt_div n 4 _ g4
  have h5 := Tb.bt_div n 5 _ g5
  have h6 := Tb.bt_div n 6 _ g6
  have h7 := Tb.bt_div n 7 _ g7
  have h8 := Tb.bt_div n 8 _ g8
  have h9 := Tb.bt_div n 9 _ g9
  have h10 := Tb.bt_div n 10 _ g10
  have h11 := Tb.bt_div n 11 _ g11
  clear g0 g1 g2 g3 g4 g5 g6 g7 g8 g9 g10 g11
  go_enter Try.func69, Try.ntmps69
  go_wp2
  go_rounds 13
  refine bodyPost_ret (v := .agg #[.bool (Tb.bt n 0), .bool (Tb.bt n 1), .bool (Tb.bt n 2), .bool (Tb.bt n 3), .bool (Tb.bt n 4), .bool (Tb.bt n 5), .bool (Tb.bt n 6), .bool (Tb.bt n 7), .bool (Tb.bt n 8), .bool (Tb.bt n 9), .bool (Tb.bt n 10), .bool (Tb.bt n 11)]) (by simp [results, Try.results69, go_sem]) rfl ⟨rfl, ?_⟩
  exact ((Below.refl _ _).alloc (Nat.le_refl _) _).alloc (by simp) _
theorem box12 (f : Nat → Bool) (t : Nat) (w : World) (j : Nat) (hj : j < 12) :
    (w.alloc (.cells #[.bool (f 0), .bool (f 1), .bool (f 2), .bool (f 3), .bool (f 4), .bool (f 5), .bool (f 6), .bool (f 7), .bool (f 8), .bool (f 9), .bool (f 10), .bool (f 11)] t)).cell? ⟨w.heap.size, j, none⟩ = some (.bool (f j)) := by
  rw [World.cell?_alloc_at _ _ _ _ rfl]
  match j, hj with
  | 0, _ | 1, _ | 2, _ | 3, _ | 4, _ | 5, _ | 6, _ | 7, _ | 8, _ | 9, _ | 10, _ | 11, _ => rfl
theorem box12b (f : Nat → Bool) (t : Nat) (o : Obj) (w : World) (j : Nat) (hj : j < 12) :
    ((w.alloc (.cells #[.bool (f 0), .bool (f 1), .bool (f 2), .bool (f 3), .bool (f 4), .bool (f 5), .bool (f 6), .bool (f 7), .bool (f 8), .bool (f 9), .bool (f 10), .bool (f 11)] t)).alloc o).cell? ⟨w.heap.size, j, none⟩ = some (.bool (f j)) := by
  rw [World.cell?_alloc_past _ _ _ (by simp)]
  exact box12 f t w j hj
theorem box12c (f : Nat → Bool) (t : Nat) (o : Obj) (w : World) (j : Nat) (hj : j < 12) :
    ((w.alloc o).alloc (.cells #[.bool (f 0), .bool (f 1), .bool (f 2), .bool (f 3), .bool (f 4), .bool (f 5), .bool (f 6), .bool (f 7), .bool (f 8), .bool (f 9), .bool (f 10), .bool (f 11)] t)).cell? ⟨w.heap.size + 1, j, none⟩ = some (.bool (f j)) := by
  have := box12 f t (w.alloc o) j hj
  simpa using this
set_option maxHeartbeats 1000000 in
theorem rwithin (a b : Nat) (ha : a < 4096) (hb : b < 4096) (w : World) : Calls Try.prog 39 #[.int .i64 a, .int .i64 b] w fun e w' => e = .returned (.bool (Tb.within a b)) ∧ Below w.heap.size w w' := by
  go_enter Try.func39, Try.ntmps39
  go_wp2_with fail
  refine (rbits a ha _).mono ?_
  rintro e w1 ⟨rfl, hb1⟩
  go_wp2_with fail
  refine (rbits b hb _).mono ?_
  rintro e w2 ⟨rfl, hb2⟩
  have hB : Below w.heap.size w w2 := hb1.trans (hb2.mono hb1.size)
  have hsz : w.heap.size ≤ w2.heap.size := hB.size
  have HW : Hid (Tb.within a b = true ↔ ∀ j, j < 12 → Tb.bt a j = true → Tb.bt b j = true) := Tb.within_low a b ha
  clear hb1 hb2
  have HX : Hid (∀ j, j < 12 → ((w2.alloc (.cells #[.bool (Tb.bt a 0), .bool (Tb.bt a 1), .bool (Tb.bt a 2), .bool (Tb.bt a 3), .bool (Tb.bt a 4), .bool (Tb.bt a 5), .bool (Tb.bt a 6), .bool (Tb.bt a 7), .bool (Tb.bt a 8), .bool (Tb.bt a 9), .bool (Tb.bt a 10), .bool (Tb.bt a 11)] 112)).alloc (.cells #[.bool (Tb.bt b 0), .bool (Tb.bt b 1), .bool (Tb.bt b 2), .bool (Tb.bt b 3), .bool (Tb.bt b 4), .bool (Tb.bt b 5), .bool (Tb.bt b 6), .bool (Tb.bt b 7), .bool (Tb.bt b 8), .bool (Tb.bt b 9), .bool (Tb.bt b 10), .bool (Tb.bt b 11)] 112)).cell? ⟨w2.heap.size, j, none⟩ = some (.bool (Tb.bt a j))) := fun j hj => box12b (Tb.bt a) 112 _ w2 j hj
  have HY : Hid (∀ j, j < 12 → ((w2.alloc (.cells #[.bool (Tb.bt a 0), .bool (Tb.bt a 1), .bool (Tb.bt a 2), .bool (Tb.bt a 3), .bool (Tb.bt a 4), .bool (Tb.bt a 5), .bool (Tb.bt a 6), .bool (Tb.bt a 7), .bool (Tb.bt a 8), .bool (Tb.bt a 9), .bool (Tb.bt a 10), .bool (Tb.bt a 11)] 112)).alloc (.cells #[.bool (Tb.bt b 0), .bool (Tb.bt b 1), .bool (Tb.bt b 2), .bool (Tb.bt b 3), .bool (Tb.bt b 4), .bool (Tb.bt b 5), .bool (Tb.bt b 6), .bool (Tb.bt b 7), .bool (Tb.bt b 8), .bool (Tb.bt b 9), .bool (Tb.bt b 10), .bool (Tb.bt b 11)] 112)).cell? ⟨w2.heap.size + 1, j, none⟩ = some (.bool (Tb.bt b j))) := fun j hj => box12c (Tb.bt b) 112 _ w2 j hj
  have hBB : Below w.heap.size w ((w2.alloc (.cells #[.bool (Tb.bt a 0), .bool (Tb.bt a 1), .bool (Tb.bt a 2), .bool (Tb.bt a 3), .bool (Tb.bt a 4), .bool (Tb.bt a 5), .bool (Tb.bt a 6), .bool (Tb.bt a 7), .bool (Tb.bt a 8), .bool (Tb.bt a 9), .bool (Tb.bt a 10), .bool (Tb.bt a 11)] 112)).alloc (.cells #[.bool (Tb.bt b 0), .bool (Tb.bt b 1), .bool (Tb.bt b 2), .bool (Tb.bt b 3), .bool (Tb.bt b 4), .bool (Tb.bt b 5), .bool (Tb.bt b 6), .bool (Tb.bt b 7), .bool (Tb.bt b 8), .bool (Tb.bt b 9), .bool (Tb.bt b 10), .bool (Tb.bt b 11)] 112)) := (hB.alloc hsz _).alloc (by simp; omega) _
  go_wp2
  generalize ((w2.alloc (.cells #[.bool (Tb.bt a 0), .bool (Tb.bt a 1), .bool (Tb.bt a 2), .bool (Tb.bt a 3), .bool (Tb.bt a 4), .bool (Tb.bt a 5), .bool (Tb.bt a 6), .bool (Tb.bt a 7), .bool (Tb.bt a 8), .bool (Tb.bt a 9), .bool (Tb.bt a 10), .bool (Tb.bt a 11)] 112)).alloc (.cells #[.bool (Tb.bt b 0), .bool (Tb.bt b 1), .bool (Tb.bt b 2), .bool (Tb.bt b 3), .bool (Tb.bt b 4), .bool (Tb.bt b 5), .bool (Tb.bt b 6), .bool (Tb.bt b 7), .bool (Tb.bt b 8), .bool (Tb.bt b 9), .bool (Tb.bt b 10), .bool (Tb.bt b 11)] 112)) = W at *
  go_loop [12] (fun i => ∃ k : Nat, k ≤ 12 ∧ i = .int .i64 k ∧ ∀ j, j < k → Tb.bt a j = true → Tb.bt b j = true) (fun i => 12 - (intOf i).toNat)
  case atStart => exact ⟨0, Nat.zero_le _, rfl, fun j hj => absurd hj (Nat.not_lt_zero _)⟩
  case round =>
    obtain ⟨k, hk, rfl, hall⟩ := hrel
    have HA : Hid (∀ j, j < k → Tb.bt a j = true → Tb.bt b j = true) := hall
    clear hall
    by_cases hlt : k < 12
    · have hx := HX.out k hlt
      have hy := HY.out k hlt
      have hi : (k : Int) < 12 := by omega
      cases ha' : Tb.bt a k with
      | false =>
        rw [ha'] at hx
        have HA' : Hid (Tb.bt a k = false) := ha'
        clear ha'
        go_wp2
        go_round
        case rel =>
          refine ⟨k + 1, by omega, by go_num, fun j hj hj2 => ?_⟩
          by_cases e : j = k
          · subst e; rw [HA'.out] at hj2; simp at hj2
          · exact HA.out j (by omega) hj2
        case measure => simp [intOf]; omega
      | true =>
        rw [ha'] at hx
        have HA' : Hid (Tb.bt a k = true) := ha'
        clear ha'
        cases hb' : Tb.bt b k with
        | true =>
          rw [hb'] at hy
          have HB' : Hid (Tb.bt b k = true) := hb'
          clear hb'
          go_wp2
          go_round
          case rel =>
            refine ⟨k + 1, by omega, by go_num, fun j hj hj2 => ?_⟩
            by_cases e : j = k
            · subst e; exact HB'.out
            · exact HA.out j (by omega) hj2
          case measure => simp [intOf]; omega
        | false =>
          rw [hb'] at hy
          have hw : Tb.within a b = false := by
            cases hh : Tb.within a b with
            | false => rfl
            | true => have := HW.out.1 hh k hlt HA'.out; rw [hb'] at this; exact this.symm
          clear hb'
          go_wp2
          go_ret
          exact ⟨by first | rfl | (rw [hw]; rfl), hBB⟩
    · have hw : Tb.within a b = true := HW.out.2 fun j hj h => HA.out j (by omega) h
      go_wp2
      go_ret
      exact ⟨by first | rfl | (rw [hw]; rfl), hBB⟩

end Go.Proofs.Ytaobjpajbpoamaa
