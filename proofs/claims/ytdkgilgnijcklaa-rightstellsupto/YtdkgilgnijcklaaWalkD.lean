/-
  The closed fact that each statement of chapter 1 asks first: it holds.
-/
import Derived.Test.YtdkgilgnijcklaaWalkC
namespace Go.Proofs.Ytdkgilgnijcklaa
open Go.RowKit
theorem al_parse (w : World) : Calls Try.prog 6 #[.string ⟨#[114, 101, 97, 100, 44, 107, 105, 108, 108]⟩] w fun e w' => e = .returned (.tuple #[.int .i64 2049, .int .i64 0]) ∧ Below w.heap.size w w' := by
  have h : Rg.parse (⟨#[114, 101, 97, 100, 44, 107, 105, 108, 108]⟩ : ByteArray).data.toList = (2049, 0) := by decide +kernel
  have := parse_any ⟨#[114, 101, 97, 100, 44, 107, 105, 108, 108]⟩ (by decide) w
  rw [h] at this
  exact this
theorem al_words (w : World) : Calls Try.prog 23 #[.int .i64 2049] w fun e w' => e = .returned (.agg #[.int .i64 65, .int .i64 160]) ∧ Below w.heap.size w w' := words_any 2049 w
theorem al_from (w : World) : Calls Try.prog 8 #[.agg #[.int .i64 65, .int .i64 160]] w fun e w' => e = .returned (.tuple #[.int .i64 2049, .int .i64 0]) ∧ Below w.heap.size w w' := from_yes 65 160 (by decide) w
theorem al_print (w : World) : Calls Try.prog 21 #[.int .i64 2049] w fun e w' => e = .returned (.string ⟨#[114, 101, 97, 100, 44, 107, 105, 108, 108]⟩) ∧ Below w.heap.size w w' := by
  have h : (printL 2049).toArray = #[114, 101, 97, 100, 44, 107, 105, 108, 108] := by decide +kernel
  have := print_any 2049 (by decide) w
  rw [h] at this
  exact this
theorem al_within1 (w : World) : Calls Try.prog 15 #[.int .i64 1, .int .i64 2049] w fun e w' => e = .returned (.bool true) ∧ w' = w := within_any 1 2049 (by decide) (by decide) w
theorem al_within2 (w : World) : Calls Try.prog 15 #[.int .i64 2, .int .i64 2049] w fun e w' => e = .returned (.bool false) ∧ w' = w := within_any 2 2049 (by decide) (by decide) w
theorem al_meet (w : World) : Calls Try.prog 17 #[.int .i64 2049, .int .i64 3] w fun e w' => e = .returned (.int .i64 1) ∧ w' = w := meet_any 2049 3 (by decide) (by decide) w
theorem al_join (w : World) : Calls Try.prog 19 #[.int .i64 1, .int .i64 2] w fun e w' => e = .returned (.int .i64 3) ∧ w' = w := join_any 1 2 (by decide) (by decide) w
theorem al_count (w : World) : Calls Try.prog 20 #[.int .i64 2049] w fun e w' => e = .returned (.int .i64 2) ∧ w' = w := count_any 2049 (by decide) w
theorem al_right (w : World) : Calls Try.prog 10 #[.int .i64 2049] w fun e w' => e = .returned (.bool true) ∧ w' = w := right_any 2049 w
theorem alive_any (w : World) : Calls Try.prog 25 #[] w fun e w' => e = .returned (.bool true) ∧ Below w.heap.size w w' := by
  go_enter Try.func25, Try.ntmps25
  go_wp2_with fail
  refine (al_parse _).mono ?_
  rintro e w1 ⟨rfl, hb1⟩
  go_wp2_with fail
  refine (al_words _).mono ?_
  rintro e w2 ⟨rfl, hb2⟩
  go_wp2_with fail
  refine (al_from _).mono ?_
  rintro e w3 ⟨rfl, hb3⟩
  go_wp2_with fail
  refine (al_print _).mono ?_
  rintro e w4 ⟨rfl, hb4⟩
  go_wp2_with fail
  refine (al_within1 _).mono ?_
  rintro e w5 ⟨rfl, rfl⟩
  go_wp2_with fail
  refine (al_within2 _).mono ?_
  rintro e w5 ⟨rfl, rfl⟩
  go_wp2_with fail
  refine (al_meet _).mono ?_
  rintro e w5 ⟨rfl, rfl⟩
  go_wp2_with fail
  refine (al_join _).mono ?_
  rintro e w5 ⟨rfl, rfl⟩
  go_wp2_with fail
  refine (al_count _).mono ?_
  rintro e w5 ⟨rfl, rfl⟩
  go_wp2_with fail
  refine (al_right _).mono ?_
  rintro e w5 ⟨rfl, rfl⟩
  go_wp2_with fail
  refine (names_any _).mono ?_
  rintro e w5 ⟨rfl, hb5, _, _⟩
  go_wp2
  go_ret
  have s1 := hb1.size
  have s2 := hb2.size
  have s3 := hb3.size
  have s4 := hb4.size
  exact ⟨rfl, ((((hb1.trans (hb2.mono (by omega))).trans (hb3.mono (by omega))).trans (hb4.mono (by omega))).trans (hb5.mono (by omega)))⟩
end Go.Proofs.Ytdkgilgnijcklaa
