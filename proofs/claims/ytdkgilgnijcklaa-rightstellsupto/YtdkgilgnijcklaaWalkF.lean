/-
  The law of writing and reading again, at every number, text and pair of words.
-/
import Derived.Test.YtdkgilgnijcklaaTexts
import Derived.Deep.RegionWith
import Derived.BigQuiet
import Derived.Laws.StructEq
namespace Go.Proofs.Ytdkgilgnijcklaa
open Go.RowKit
theorem part0 (x y : Value) (k : IntKind) (a : Int) (hx : x = .int k a) (w : World) : (part 3 #[x, y] 0).run Try.prog w = .ok x w := by subst hx; kernel_rfl
theorem part1 (x y : Value) (k : IntKind) (a : Int) (hx : y = .int k a) (w : World) : (part 3 #[x, y] 1).run Try.prog w = .ok y w := by subst hx; kernel_rfl
theorem eq22' (d : Nat) (a b c e : Int) (w : World) : (Op.equalIn (d + 2) 22 (.agg #[.int .i64 a, .int .i64 b]) (.agg #[.int .i64 c, .int .i64 e])).run Try.prog w = .ok (a == c && b == e) w := by
  have hs : ∀ w, (sizeOf 3).run Try.prog w = .ok 1 w := Try.sizeOf3
  have p0 := fun (x y : Int) (w : World) => part0 (.int .i64 x) (.int .i64 y) .i64 x rfl w
  have p1 := fun (x y : Int) (w : World) => part1 (.int .i64 x) (.int .i64 y) .i64 y rfl w
  have q := fun (x y : Int) (w : World) => run_equalIn_int w d 3 .i64 .i64 x y Try.underlying3
  rw [Op.equalIn]
  simp only [Sem.run_bind, run_underlying Try.underlying22, Result.andThen_ok, hs]
  simp only [Std.Legacy.Range.forIn_eq_forIn_range', Std.Legacy.Range.size]
  simp [List.range', p0, p1, q]
  by_cases h1 : a = c <;> by_cases h2 : b = e <;> simp [h1, h2]
theorem eq22 (a b c e : Int) (w : World) : (Op.equalIn 10000 22 (.agg #[.int .i64 a, .int .i64 b]) (.agg #[.int .i64 c, .int .i64 e])).run Try.prog w = .ok (a == c && b == e) w := eq22' 9998 a b c e w
theorem below_cell {W w1 : World} {b o : Nat} {v : Value} (hb : Below W.heap.size W w1) (hz : b < W.heap.size) (h : W.cell? ⟨b, o, none⟩ = some v) : w1.cell? ⟨b, o, none⟩ = some v :=
  (hb.cell (p := ⟨b, o, none⟩) hz).trans h
theorem below_size {B : Nat} {W w1 : World} (hb : Below W.heap.size W w1) (hz : B < W.heap.size) : B < w1.heap.size := Nat.lt_of_lt_of_le hz hb.size
theorem below_on {w W w1 : World} (h : Below w.heap.size w W) (hz : w.heap.size < W.heap.size) (hb : Below W.heap.size W w1) : Below w.heap.size w w1 := h.trans (hb.mono (Nat.le_of_lt hz))
theorem print_is (A : Nat) (s : ByteArray) (hA : A < 4096) (h : printL A = s.data.toList) (w : World) : Calls Try.prog 21 #[.int .i64 A] w fun e w' => e = .returned (.string s) ∧ Below w.heap.size w w' := by
  have := print_any A hA w
  rw [h] at this
  exact this
theorem parse_printed (n : Nat) (hn : n < 4096) (w : World) : Calls Try.prog 6 #[.string ⟨(printL n).toArray⟩] w fun e w' => e = .returned (.tuple #[.int .i64 n, .int .i64 0]) ∧ Below w.heap.size w w' := by
  have := parse_any ⟨(printL n).toArray⟩ (by show (printL n).toArray.size ≤ maxLen; have := print_len n; unfold maxLen; simp; omega) w
  rw [show Rg.parse (⟨(printL n).toArray⟩ : ByteArray).data.toList = (n, 0) from parse_print n hn] at this
  exact this
theorem from_words (n : Nat) (hn : n < 4096) (w : World) : Calls Try.prog 8 #[.agg #[.int .i64 (Rg.lo n : Nat), .int .i64 (Rg.hi n : Nat)]] w fun e w' => e = .returned (.tuple #[.int .i64 n, .int .i64 0]) ∧ Below w.heap.size w w' := by
  have h := Rg.lo_hi n hn
  have := from_yes (Rg.lo n : Nat) (Rg.hi n : Nat) h.1 w
  rw [h.2] at this
  exact this
theorem words_back (a b : Int) (h : Rg.okw a b = true) (w : World) : Calls Try.prog 23 #[.int .i64 (Rg.fw a b : Nat)] w fun e w' => e = .returned (.agg #[.int .i64 a, .int .i64 b]) ∧ Below w.heap.size w w' := by
  have := words_any (Rg.fw a b) w
  rw [(Rg.fw_back a b h).1, (Rg.fw_back a b h).2] at this
  exact this
theorem words_there (a b : Int) (h : Rg.okw a b = true) (w W : World) (hB : Below w.heap.size w W) (hsz : w.heap.size < W.heap.size) (hcA : W.cell? ⟨w.heap.size, 0, none⟩ = some (.int .i64 a)) (hcB : W.cell? ⟨w.heap.size, 1, none⟩ = some (.int .i64 b)) :
    Calls Try.prog 23 #[.int .i64 (Rg.fw a b : Nat)] W fun e w' => e = .returned (.agg #[.int .i64 a, .int .i64 b]) ∧ Below w.heap.size w w' ∧ w'.cell? ⟨w.heap.size, 0, none⟩ = some (.int .i64 a) ∧ w'.cell? ⟨w.heap.size, 1, none⟩ = some (.int .i64 b) :=
  (words_back a b h W).mono fun _ _ h => ⟨h.1, below_on hB hsz h.2, below_cell h.2 hsz hcA, below_cell h.2 hsz hcB⟩
set_option maxHeartbeats 4000000 in
theorem turns_any (n : Int) (s : ByteArray) (hs : s.size ≤ maxLen) (a b : Int) (wa : -9223372036854775808 ≤ a ∧ a ≤ 9223372036854775807) (wb : -9223372036854775808 ≤ b ∧ b ≤ 9223372036854775807) (w : World) :
    Calls Try.prog 5 #[.int .i64 n, .string s, .agg #[.int .i64 a, .int .i64 b]] w fun e w' => e = .returned (.bool true) ∧ Below w.heap.size w w' := by
  have HS : Hid (s.size ≤ maxLen) := hs
  have WA : Hid (-9223372036854775808 ≤ a ∧ a ≤ 9223372036854775807) := wa
  have WB : Hid (-9223372036854775808 ≤ b ∧ b ≤ 9223372036854775807) := wb
  clear hs wa wb
  go_enter Try.func5, Try.ntmps5
  go_wp2_with fail
  refine (alive_any _).mono ?_
  rintro e w1 ⟨rfl, hb1⟩
  have hcA : w1.cell? ⟨w.heap.size, 0, none⟩ = some (.int .i64 a) := below_cell hb1 (by simp) (by simp)
  have hcB : w1.cell? ⟨w.heap.size, 1, none⟩ = some (.int .i64 b) := below_cell hb1 (by simp) (by simp)
  have hsz : w.heap.size < w1.heap.size := below_size hb1 (by simp)
  have hB : Below w.heap.size w w1 := ((Below.refl w.heap.size w).alloc (Nat.le_refl _) _).trans (hb1.mono (by simp))
  clear hb1
  go_wp2_with fail
  refine (right_any _ _).mono ?_
  rintro e w2 ⟨rfl, rfl⟩
  cases rn : isRight n
  focus
    go_wp2_with fail
  rotate_left
  focus
    have hn := of_decide_eq_true rn
    obtain ⟨N, rfl⟩ := Int.eq_ofNat_of_zero_le hn.1
    have hN : N < 4096 := by omega
    clear hn
    go_wp2_with fail
    refine (print_any N hN _).mono ?_
    rintro e w2 ⟨rfl, hb2⟩
    replace hcA := below_cell hb2 hsz hcA
    replace hcB := below_cell hb2 hsz hcB
    replace hB := below_on hB hsz hb2
    replace hsz := below_size hb2 hsz
    clear hb2
    go_wp2_with fail
    refine (parse_printed N hN _).mono ?_
    rintro e w3 ⟨rfl, hb2⟩
    replace hcA := below_cell hb2 hsz hcA
    replace hcB := below_cell hb2 hsz hcB
    replace hB := below_on hB hsz hb2
    replace hsz := below_size hb2 hsz
    clear hb2
    go_wp2_with fail
    refine (words_any N _).mono ?_
    rintro e w4 ⟨rfl, hb2⟩
    replace hcA := below_cell hb2 hsz hcA
    replace hcB := below_cell hb2 hsz hcB
    replace hB := below_on hB hsz hb2
    replace hsz := below_size hb2 hsz
    clear hb2
    go_wp2_with fail
    refine (from_words N hN _).mono ?_
    rintro e w5 ⟨rfl, hb2⟩
    replace hcA := below_cell hb2 hsz hcA
    replace hcB := below_cell hb2 hsz hcB
    replace hB := below_on hB hsz hb2
    replace hsz := below_size hb2 hsz
    clear hb2
    go_wp2_with fail
  all_goals
    refine (parse_any s HS.out _).mono ?_
    rintro e w6 ⟨rfl, hb2⟩
    replace hcA := below_cell hb2 hsz hcA
    replace hcB := below_cell hb2 hsz hcB
    replace hB := below_on hB hsz hb2
    replace hsz := below_size hb2 hsz
    clear hb2
    have HP : ∀ A, Rg.parse s.data.toList = (A, 0) → A < 4096 ∧ printL A = s.data.toList := parse_ok s.data.toList
    generalize Rg.parse s.data.toList = AE at *
    obtain ⟨A, E⟩ := AE
    dsimp only at *
    by_cases hE : E = 0
    focus
      subst hE
      obtain ⟨hA, hP⟩ := HP A rfl
      have rA : isRight (A : Int) = true := by unfold isRight; rw [decide_eq_true_eq]; omega
      have HPP : Hid (printL A = s.data.toList) := hP
      clear HP hP
      go_wp2_with fail
      refine (right_any _ _).mono ?_
      rintro e w7 ⟨rfl, rfl⟩
      go_wp2_with fail
      refine (print_is A s hA HPP.out _).mono ?_
      rintro e w8 ⟨rfl, hb2⟩
      replace hcA := below_cell hb2 hsz hcA
      replace hcB := below_cell hb2 hsz hcB
      replace hB := below_on hB hsz hb2
      replace hsz := below_size hb2 hsz
      clear hb2 HPP hA rA
      go_wp2_with fail
    rotate_left
    focus
      have hE' : ((E : Int) == 0) = false := by rw [beq_eq_false_iff_ne]; omega
      clear HP hE
      go_wp2_with fail
  all_goals
    cases ok : Rg.okw a b
    · refine (from_no a b WA.out WB.out ok _).mono ?_
      rintro e w9 ⟨rfl, hb2⟩
      replace hB := below_on hB hsz hb2
      clear hb2 hcA hcB ok
      go_wp2_with fail
      go_quiet (fail)
      go_wp2
      go_ret
      exact ⟨rfl, below_drewN hB _⟩
    · refine (from_yes a b ok _).mono ?_
      rintro e w9 ⟨rfl, hb2⟩
      replace hcA := below_cell hb2 hsz hcA
      replace hcB := below_cell hb2 hsz hcB
      replace hB := below_on hB hsz hb2
      replace hsz := below_size hb2 hsz
      clear hb2
      have rf : isRight (Rg.fw a b : Nat) = true := by unfold isRight; rw [decide_eq_true_eq]; have := Rg.fw_lt a b; omega
      have HO : Hid (Rg.okw a b = true) := ok
      have heq : ∀ w, (Op.equalIn 10000 22 (.agg #[.int .i64 a, .int .i64 b]) (.agg #[.int .i64 a, .int .i64 b])).run Try.prog w = .ok true w := fun w => by rw [eq22]; simp
      clear ok
      go_wp2_with fail
      go_region_with (first | (go_at_call 10; refine (right_any _ _).mono ?_; rintro e w10 ⟨rfl, rfl⟩) | (go_at_call 23; refine (words_there a b HO.out w _ (by exact hB.drew) (by exact hsz) (by exact hcA) (by exact hcB)).mono ?_; rintro e w10 ⟨rfl, hB3, hcA3, hcB3⟩))
      all_goals (try go_wp2)
      all_goals go_ret
      all_goals exact ⟨rfl, hB3⟩
end Go.Proofs.Ytdkgilgnijcklaa
