/-
  The law that package rights tells what the document tells, at every number, pair of words and text of at most 1048576 bytes.
-/
import Derived.Test.YtdkgilgnijcklaaRefE
import Derived.Test.YtdkgilgnijcklaaWalkF
namespace Go.Proofs.Ytdkgilgnijcklaa
open Go.RowKit
def fx (a b : Int) : Int := if Rg.okw a b then (Rg.fw a b : Nat) else 0
def fv (a b : Int) : Int := if Rg.okw a b then 0 else 2
theorem from_all (a b : Int) (wa : -9223372036854775808 ≤ a ∧ a ≤ 9223372036854775807) (wb : -9223372036854775808 ≤ b ∧ b ≤ 9223372036854775807) (w : World) : Calls Try.prog 8 #[.agg #[.int .i64 a, .int .i64 b]] w fun e w' => e = .returned (.tuple #[.int .i64 (fx a b), .int .i64 (fv a b)]) ∧ Below w.heap.size w w' := by
  unfold fx fv
  cases h : Rg.okw a b
  · exact from_no a b wa wb h w
  · exact from_yes a b h w
theorem rfrom_all (a b : Int) (w : World) : Calls Try.prog 9 #[.agg #[.int .i64 a, .int .i64 b]] w fun e w' => e = .returned (.tuple #[.int .i64 (fx a b), .int .i64 (fv a b)]) ∧ Below w.heap.size w w' := by
  unfold fx fv
  cases h : Rg.okw a b
  · exact rfrom_no a b h w
  · exact rfrom_yes a b h w
theorem rmeet (a b : Nat) (ha : a < 4096) (hb : b < 4096) (w : World) : Calls Try.prog 18 #[.int .i64 a, .int .i64 b, .bool true] w fun e w' => e = .returned (.int .i64 (Rg.meet a b : Nat)) ∧ Below w.heap.size w w' := by
  have := rboth true a b ha hb w
  rw [Rg.num_of (Rg.meet a b) (hBoth true a b) (fun j _ => by simp only [hBoth, if_true]; unfold Rg.meet Rg.bt; rw [Nat.testBit_and]) (Rg.meet_lt a b ha)] at this
  exact this
theorem rjoin (a b : Nat) (ha : a < 4096) (hb : b < 4096) (w : World) : Calls Try.prog 18 #[.int .i64 a, .int .i64 b, .bool false] w fun e w' => e = .returned (.int .i64 (Rg.join a b : Nat)) ∧ Below w.heap.size w w' := by
  have := rboth false a b ha hb w
  rw [Rg.num_of (Rg.join a b) (hBoth false a b) (fun j _ => by simp only [hBoth, Bool.false_eq_true, if_false]; unfold Rg.join Rg.bt; rw [Nat.testBit_or]) (Rg.join_lt a b ha hb)] at this
  exact this
/-- how many of the lowest k bits -/
def cnt (n : Nat) : Nat → Nat
  | 0 => 0
  | k + 1 => cnt n k + (Rg.bt n k).toNat
theorem cnt_le (n : Nat) : ∀ k, cnt n k ≤ k
  | 0 => Nat.le_refl _
  | k + 1 => by have := cnt_le n k; have := Bool.toNat_le (Rg.bt n k); rw [cnt]; omega
theorem bt_num (n k : Nat) : (Rg.bt n k).toNat = n / 2 ^ k % 2 := by
  unfold Rg.bt
  rw [Nat.testBit_eq_decide_div_mod_eq]
  by_cases h : n / 2 ^ k % 2 = 1
  · simp [h]
  · have : n / 2 ^ k % 2 = 0 := by omega
    simp [this]
theorem cnt_all (n : Nat) : cnt n 12 = Rg.count n := by
  simp only [cnt, bt_num, Rg.count]
  simp
theorem same_names (b c : Nat) (w w0 : World) (hw : Below w0.heap.size w0 w) (hb : ∀ (j : Nat) x, Rg.nm[j]? = some x → w.cell? ⟨b, j, none⟩ = some (.string x)) (hc : ∀ (j : Nat) x, Rg.nm[j]? = some x → w.cell? ⟨c, j, none⟩ = some (.string x)) :
    Calls Try.prog 11 #[.slice (some ⟨b, 0, none⟩) 12 12, .slice (some ⟨c, 0, none⟩) 12 12] w fun e w' => e = .returned (.bool true) ∧ Below w0.heap.size w0 w' :=
  (rsame b c w hb hc).mono fun _ _ h => ⟨h.1, by obtain ⟨n, h2⟩ := h.2; rw [h2]; exact below_drewN hw n⟩
set_option maxHeartbeats 4000000 in
theorem tells_any (a b : Int) (s : ByteArray) (hs : s.size ≤ 1048576) (c d : Int) (wc : -9223372036854775808 ≤ c ∧ c ≤ 9223372036854775807) (wd : -9223372036854775808 ≤ d ∧ d ≤ 9223372036854775807) (w : World) :
    Calls Try.prog 3 #[.int .i64 a, .int .i64 b, .string s, .agg #[.int .i64 c, .int .i64 d]] w fun e w' => e = .returned (.bool true) ∧ Below w.heap.size w w' := by
  have HS : Hid (s.size ≤ 1048576) := hs
  have HS2 : Hid (s.size ≤ maxLen) := Nat.le_trans hs (by decide)
  have WC : Hid (-9223372036854775808 ≤ c ∧ c ≤ 9223372036854775807) := wc
  have WD : Hid (-9223372036854775808 ≤ d ∧ d ≤ 9223372036854775807) := wd
  clear hs wc wd
  go_enter Try.func3, Try.ntmps3
  go_wp2_with fail
  refine (parse_any s HS2.out _).mono ?_
  rintro e w1 ⟨rfl, hb1⟩
  have hcA : w1.cell? ⟨w.heap.size, 0, none⟩ = some (.int .i64 c) := below_cell hb1 (by simp) (by simp)
  have hcB : w1.cell? ⟨w.heap.size, 1, none⟩ = some (.int .i64 d) := below_cell hb1 (by simp) (by simp)
  have hsz : w.heap.size < w1.heap.size := below_size hb1 (by simp)
  have hB : Below w.heap.size w w1 := ((Below.refl w.heap.size w).alloc (Nat.le_refl _) _).trans (hb1.mono (by simp))
  clear hb1
  go_wp2_with fail
  refine (rparse s HS.out _).mono ?_
  rintro e w2 ⟨rfl, hb2⟩
  replace hcA := below_cell hb2 hsz hcA
  replace hcB := below_cell hb2 hsz hcB
  replace hB := below_on hB hsz hb2
  replace hsz := below_size hb2 hsz
  clear hb2
  generalize (Rg.parse s.data.toList).1 = A at *
  generalize (Rg.parse s.data.toList).2 = E at *
  go_wp2_with fail
  refine (from_all c d WC.out WD.out _).mono ?_
  rintro e w3 ⟨rfl, hb2⟩
  replace hcA := below_cell hb2 hsz hcA
  replace hcB := below_cell hb2 hsz hcB
  replace hB := below_on hB hsz hb2
  replace hsz := below_size hb2 hsz
  clear hb2
  go_wp2_with fail
  refine (rfrom_all c d _).mono ?_
  rintro e w4 ⟨rfl, hb2⟩
  replace hB := below_on hB hsz hb2
  replace hsz := below_size hb2 hsz
  clear hb2 hcA hcB
  generalize fx c d = X at *
  generalize fv c d = V at *
  go_wp2_with fail
  refine (right_any _ _).mono ?_
  rintro e w5 ⟨rfl, rfl⟩
  have hcase : (a < 0 ∧ isRight a = false) ∨ ((0 ≤ a ∧ 4095 < a) ∧ isRight a = false) ∨ ((0 ≤ a ∧ a ≤ 4095) ∧ isRight a = true) := by
    unfold isRight; simp only [decide_eq_true_eq, decide_eq_false_iff_not]; omega
  rcases hcase with ⟨h1, hr⟩ | ⟨⟨h1, h2⟩, hr⟩ | ⟨⟨h1, h2⟩, hr⟩
  all_goals
    go_wp2_with fail
    refine (names_any _).mono ?_
    rintro e w6 ⟨rfl, hb6, hs6, hc6⟩
    have H6 : Hid (∀ (j : Nat) x, Rg.nm[j]? = some x → w6.cell? ⟨_, j, none⟩ = some (.string x)) := hc6
    replace hB := below_on hB hsz hb6
    replace hsz := below_size hb6 hsz
    clear hc6 hb6
    go_wp2_with fail
    refine (rnames _).mono ?_
    rintro e w7 ⟨rfl, hb7, hs7, hc7⟩
    have H67 := fun (j : Nat) (x : ByteArray) (hx : Rg.nm[j]? = some x) => below_cell (o := j) (v := .string x) hb7 (by omega) (H6.out j x hx)
    replace hB := below_on hB hsz hb7
    replace hsz := below_size hb7 hsz
    have H7 := hc7
    have HG : Hid _ := same_names _ _ w7 w hB H67 H7
    clear hc7 hb7 hs7 hs6 H6 H67 H7
    go_wp2_with fail
    refine Calls.mono HG.out ?_
    clear HG hsz hB
    rintro e w8 ⟨rfl, hB⟩
  · go_wp2
    go_ret
    exact ⟨rfl, hB⟩
  · go_wp2
    go_ret
    exact ⟨rfl, hB⟩
  · have hsz : w.heap.size ≤ w8.heap.size := hB.size
    obtain ⟨N, rfl⟩ := Int.eq_ofNat_of_zero_le h1
    have hN : N < 4096 := by omega
    by_cases g1 : b < 0
    · go_wp2
      go_ret
      exact ⟨rfl, hB⟩
    by_cases g2 : 4095 < b
    · go_wp2
      go_ret
      exact ⟨rfl, hB⟩
    obtain ⟨M, rfl⟩ := Int.eq_ofNat_of_zero_le (Int.not_lt.1 g1)
    have hM : M < 4096 := by omega
    go_wp2_with fail
    refine (rbits N hN _).mono ?_
    rintro e w9 ⟨rfl, hb9⟩
    replace hB : Below w.heap.size w w9 := hB.trans (hb9.mono hB.size)
    clear hb9
    go_wp2
    go_loop [17, 91] (fun n i => ∃ k : Nat, k ≤ 12 ∧ i = .int .i64 k ∧ n = .int .i64 (cnt N k : Nat)) (fun _ i => 12 - (intOf i).toNat)
    case atStart => exact ⟨0, Nat.zero_le _, rfl, rfl⟩
    case round =>
      obtain ⟨k, hk, rfl, rfl⟩ := hrel
      have hle := cnt_le N k
      by_cases hlt : k < 12
      · have hi : (k : Int) < 12 := by omega
        have hix := fun w => idx12 (Rg.bt N) k hlt w
        have HC : Hid (cnt N (k + 1) = cnt N k + (Rg.bt N k).toNat) := by rw [Hid, cnt]
        generalize cnt N k = C at *
        cases hb : Rg.bt N k
        all_goals
          rw [hb] at hix HC
          clear hb
          go_wp2
          go_round
          case rel => exact ⟨k + 1, by omega, by go_num, by rw [HC.out]; first | rfl | go_num⟩
          case measure => simp [intOf]; omega
      · obtain rfl : k = 12 := by omega
        rw [cnt_all N]
        clear hle
        have heq : ∀ w, (Op.equalIn 10000 22 (.agg #[.int .i64 (Rg.lo N : Nat), .int .i64 (Rg.hi N : Nat)]) (.agg #[.int .i64 (Rg.lo N : Nat), .int .i64 (Rg.hi N : Nat)])).run Try.prog w = .ok true w := fun w => by rw [eq22]; simp
        go_wp2_with fail
        refine (within_any N M hN hM _).mono ?_
        rintro e v1 ⟨rfl, rfl⟩
        go_wp2_with fail
        refine (rwithin N M hN hM _).mono ?_
        rintro e v2 ⟨rfl, hb2⟩
        replace hB := hB.trans (hb2.mono hB.size)
        clear hb2
        go_wp2_with fail
        refine (meet_any N M hN hM _).mono ?_
        rintro e v3 ⟨rfl, rfl⟩
        go_wp2_with fail
        refine (rmeet N M hN hM _).mono ?_
        rintro e v4 ⟨rfl, hb2⟩
        replace hB := hB.trans (hb2.mono hB.size)
        clear hb2
        go_wp2_with fail
        refine (join_any N M hN hM _).mono ?_
        rintro e v5 ⟨rfl, rfl⟩
        go_wp2_with fail
        refine (rjoin N M hN hM _).mono ?_
        rintro e v6 ⟨rfl, hb2⟩
        replace hB := hB.trans (hb2.mono hB.size)
        clear hb2
        go_wp2_with fail
        refine (count_any N hN _).mono ?_
        rintro e v7 ⟨rfl, rfl⟩
        go_wp2_with fail
        refine (print_any N hN _).mono ?_
        rintro e v8 ⟨rfl, hb2⟩
        replace hB := hB.trans (hb2.mono hB.size)
        clear hb2
        go_wp2_with fail
        refine (rprint N hN _).mono ?_
        rintro e v9 ⟨rfl, hb2⟩
        replace hB := hB.trans (hb2.mono hB.size)
        clear hb2
        go_wp2_with fail
        refine (words_any N _).mono ?_
        rintro e v10 ⟨rfl, hb2⟩
        replace hB := hB.trans (hb2.mono hB.size)
        clear hb2
        go_wp2_with fail
        refine (rwords N hN _).mono ?_
        rintro e v11 ⟨rfl, hb2⟩
        replace hB := hB.trans (hb2.mono hB.size)
        clear hb2
        go_wp2
        go_ret
        exact ⟨rfl, hB⟩
end Go.Proofs.Ytdkgilgnijcklaa
