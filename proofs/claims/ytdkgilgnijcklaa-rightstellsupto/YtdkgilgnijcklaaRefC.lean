/-
  The document's own answer, chapter 1: the text of a set.
-/
import Derived.Test.YtdkgilgnijcklaaRefB
namespace Go.Proofs.Ytdkgilgnijcklaa
open Go.RowKit
theorem idx12_0 (f : Nat → Bool) (w : World) : (Instr.index 31 (.agg #[.bool (f 0), .bool (f 1), .bool (f 2), .bool (f 3), .bool (f 4), .bool (f 5), .bool (f 6), .bool (f 7), .bool (f 8), .bool (f 9), .bool (f 10), .bool (f 11)]) (.int .i64 0)).run Try.prog w = .ok (.bool (f 0)) w := by kernel_rfl
theorem idx12_1 (f : Nat → Bool) (w : World) : (Instr.index 31 (.agg #[.bool (f 0), .bool (f 1), .bool (f 2), .bool (f 3), .bool (f 4), .bool (f 5), .bool (f 6), .bool (f 7), .bool (f 8), .bool (f 9), .bool (f 10), .bool (f 11)]) (.int .i64 1)).run Try.prog w = .ok (.bool (f 1)) w := by kernel_rfl
theorem idx12_2 (f : Nat → Bool) (w : World) : (Instr.index 31 (.agg #[.bool (f 0), .bool (f 1), .bool (f 2), .bool (f 3), .bool (f 4), .bool (f 5), .bool (f 6), .bool (f 7), .bool (f 8), .bool (f 9), .bool (f 10), .bool (f 11)]) (.int .i64 2)).run Try.prog w = .ok (.bool (f 2)) w := by kernel_rfl
theorem idx12_3 (f : Nat → Bool) (w : World) : (Instr.index 31 (.agg #[.bool (f 0), .bool (f 1), .bool (f 2), .bool (f 3), .bool (f 4), .bool (f 5), .bool (f 6), .bool (f 7), .bool (f 8), .bool (f 9), .bool (f 10), .bool (f 11)]) (.int .i64 3)).run Try.prog w = .ok (.bool (f 3)) w := by kernel_rfl
theorem idx12_4 (f : Nat → Bool) (w : World) : (Instr.index 31 (.agg #[.bool (f 0), .bool (f 1), .bool (f 2), .bool (f 3), .bool (f 4), .bool (f 5), .bool (f 6), .bool (f 7), .bool (f 8), .bool (f 9), .bool (f 10), .bool (f 11)]) (.int .i64 4)).run Try.prog w = .ok (.bool (f 4)) w := by kernel_rfl
theorem idx12_5 (f : Nat → Bool) (w : World) : (Instr.index 31 (.agg #[.bool (f 0), .bool (f 1), .bool (f 2), .bool (f 3), .bool (f 4), .bool (f 5), .bool (f 6), .bool (f 7), .bool (f 8), .bool (f 9), .bool (f 10), .bool (f 11)]) (.int .i64 5)).run Try.prog w = .ok (.bool (f 5)) w := by kernel_rfl
theorem idx12_6 (f : Nat → Bool) (w : World) : (Instr.index 31 (.agg #[.bool (f 0), .bool (f 1), .bool (f 2), .bool (f 3), .bool (f 4), .bool (f 5), .bool (f 6), .bool (f 7), .bool (f 8), .bool (f 9), .bool (f 10), .bool (f 11)]) (.int .i64 6)).run Try.prog w = .ok (.bool (f 6)) w := by kernel_rfl
theorem idx12_7 (f : Nat → Bool) (w : World) : (Instr.index 31 (.agg #[.bool (f 0), .bool (f 1), .bool (f 2), .bool (f 3), .bool (f 4), .bool (f 5), .bool (f 6), .bool (f 7), .bool (f 8), .bool (f 9), .bool (f 10), .bool (f 11)]) (.int .i64 7)).run Try.prog w = .ok (.bool (f 7)) w := by kernel_rfl
theorem idx12_8 (f : Nat → Bool) (w : World) : (Instr.index 31 (.agg #[.bool (f 0), .bool (f 1), .bool (f 2), .bool (f 3), .bool (f 4), .bool (f 5), .bool (f 6), .bool (f 7), .bool (f 8), .bool (f 9), .bool (f 10), .bool (f 11)]) (.int .i64 8)).run Try.prog w = .ok (.bool (f 8)) w := by kernel_rfl
theorem idx12_9 (f : Nat → Bool) (w : World) : (Instr.index 31 (.agg #[.bool (f 0), .bool (f 1), .bool (f 2), .bool (f 3), .bool (f 4), .bool (f 5), .bool (f 6), .bool (f 7), .bool (f 8), .bool (f 9), .bool (f 10), .bool (f 11)]) (.int .i64 9)).run Try.prog w = .ok (.bool (f 9)) w := by kernel_rfl
theorem idx12_10 (f : Nat → Bool) (w : World) : (Instr.index 31 (.agg #[.bool (f 0), .bool (f 1), .bool (f 2), .bool (f 3), .bool (f 4), .bool (f 5), .bool (f 6), .bool (f 7), .bool (f 8), .bool (f 9), .bool (f 10), .bool (f 11)]) (.int .i64 10)).run Try.prog w = .ok (.bool (f 10)) w := by kernel_rfl
theorem idx12_11 (f : Nat → Bool) (w : World) : (Instr.index 31 (.agg #[.bool (f 0), .bool (f 1), .bool (f 2), .bool (f 3), .bool (f 4), .bool (f 5), .bool (f 6), .bool (f 7), .bool (f 8), .bool (f 9), .bool (f 10), .bool (f 11)]) (.int .i64 11)).run Try.prog w = .ok (.bool (f 11)) w := by kernel_rfl
theorem idx12 (f : Nat → Bool) (k : Nat) (hk : k < 12) (w : World) : (Instr.index 31 (.agg #[.bool (f 0), .bool (f 1), .bool (f 2), .bool (f 3), .bool (f 4), .bool (f 5), .bool (f 6), .bool (f 7), .bool (f 8), .bool (f 9), .bool (f 10), .bool (f 11)]) (.int .i64 (k : Int))).run Try.prog w = .ok (.bool (f k)) w := by
  have h : k = 0 ∨ k = 1 ∨ k = 2 ∨ k = 3 ∨ k = 4 ∨ k = 5 ∨ k = 6 ∨ k = 7 ∨ k = 8 ∨ k = 9 ∨ k = 10 ∨ k = 11 := by omega
  rcases h with rfl | rfl | rfl | rfl | rfl | rfl | rfl | rfl | rfl | rfl | rfl | rfl
  · exact idx12_0 f w
  · exact idx12_1 f w
  · exact idx12_2 f w
  · exact idx12_3 f w
  · exact idx12_4 f w
  · exact idx12_5 f w
  · exact idx12_6 f w
  · exact idx12_7 f w
  · exact idx12_8 f w
  · exact idx12_9 f w
  · exact idx12_10 f w
  · exact idx12_11 f w
theorem join_snoc (p : List UInt8) : ∀ (xs : List (List UInt8)), xs ≠ [] → Lib.join (xs ++ [p]) [44] = Lib.join xs [44] ++ [44] ++ p
  | [], h => absurd rfl h
  | x :: r, _ => by
    rw [List.cons_append, Lib.join_cons, Lib.join_cons]
    simp [Lib.joinTail]
theorem join_empty (n k : Nat) (h : selL n k ≠ []) : Lib.join (selL n k) [44] ≠ [] := by
  intro h0
  have hp := pieces_join (selL n k) h (fun x hx => nmL_plain x (selL_mem n k x hx))
  rw [h0] at hp
  have : ([] : List UInt8) ∈ selL n k := by rw [← hp]; simp [Rg.pieces]
  have := selL_mem n k [] this
  revert this; decide
theorem join_len (n k : Nat) (hk : k ≤ 12) : (Lib.join (selL n k) [44]).length ≤ 100 := by
  have h6 : ∀ x ∈ Rg.nmL, x.length ≤ 6 := by decide
  have hm : ∀ x ∈ selL n k, x.length ≤ 6 := fun x hx => h6 x (selL_mem n k x hx)
  have hl : (selL n k).length ≤ 12 := by unfold selL; rw [List.length_map]; exact Nat.le_trans (sel_le n k) hk
  revert hm hl
  generalize selL n k = xs
  intro hm hl
  cases xs with
  | nil => simp [Lib.join_nil]
  | cons x r =>
    have h1 := hm x (by simp)
    have h2 := lens_short r (fun y hy => hm y (by simp [hy]))
    rw [Lib.join_cons, List.length_append, Lib.joinTail_length]
    simp at hl ⊢
    omega
set_option maxHeartbeats 1000000 in
theorem rprint (n : Nat) (hn : n < 4096) (w : World) : Calls Try.prog 22 #[.int .i64 n] w fun e w' => e = .returned (.string ⟨(printL n).toArray⟩) ∧ Below w.heap.size w w' := by
  go_enter Try.func22, Try.ntmps22
  go_wp2_with fail
  refine (rbits n hn _).mono ?_
  rintro e w1 ⟨rfl, hb1⟩
  go_wp2
  go_loopw [3, 8] (fun s i wr => ∃ k : Nat, k ≤ 12 ∧ i = .int .i64 k ∧ s = .string ⟨(Lib.join (selL n k) [44]).toArray⟩ ∧ Below w.heap.size w wr) (fun _ i _ => 12 - (intOf i).toNat)
  case atStart => exact ⟨0, Nat.zero_le _, rfl, rfl, hb1⟩
  case round =>
    clear hb1
    obtain ⟨k, hk, rfl, rfl, hB⟩ := hrel
    by_cases hlt : k < 12
    · have hi : (k : Int) < 12 := by omega
      have hix := fun w => idx12 (Rg.bt n) k hlt w
      obtain ⟨y, hy⟩ : ∃ y, Rg.nm[k]? = some y := ⟨Rg.nm[k], List.getElem?_eq_getElem (by rw [Rg.nm_length]; exact hlt)⟩
      have HY : Hid (Rg.nm[k]? = some y) := hy
      have hys : y.size ≤ 6 := by have := nm_short y (List.mem_of_getElem? hy); simpa using this
      have hjl := join_len n k hk
      clear hy
      cases hb' : Rg.bt n k with
      | false =>
        have HS : Hid (selL n (k + 1) = selL n k) := by unfold Hid selL; rw [sel, if_neg (by show ¬ (Rg.bt n k = true); rw [hb']; simp)]
        rw [hb'] at hix
        clear hb'
        go_wp2
        go_roundw
        case rel => exact ⟨k + 1, by omega, by go_num, by rw [HS.out], hB⟩
        case measure => simp [intOf]; omega
      | true =>
        have HS : Hid (selL n (k + 1) = selL n k ++ [y.data.toList]) := selL_succ n k hb' _ (Rg.nmL_get k y HY.out)
        rw [hb'] at hix
        clear hb'
        by_cases he : selL n k = []
        · have HJ : Hid (Lib.join (selL n (k + 1)) [44] = y.data.toList) := by rw [Hid, HS.out, he]; exact Lib.join_one _ _
          rw [he]
          have hj0 : Lib.join ([] : List (List UInt8)) [44] = [] := rfl
          rw [hj0]
          clear he hj0
          go_wp2_with fail
          refine (rnames _).mono ?_
          rintro e w2 ⟨rfl, hb2, hs2, hc2⟩
          have hcy := hc2 k y HY.out
          have hB2 : Below w.heap.size w w2 := hB.trans (hb2.mono hB.size)
          clear hc2 hb2 hs2
          go_wp2
          go_roundw
          case rel => exact ⟨k + 1, by omega, by go_num, congrArg Value.string (by rw [HJ.out]; exact Rg.bytes_ext (by simp)), hB2⟩
          case measure => simp [intOf]; omega
        · have HJ : Hid (Lib.join (selL n (k + 1)) [44] = Lib.join (selL n k) [44] ++ [44] ++ y.data.toList) := by rw [Hid, HS.out]; exact join_snoc _ _ he
          have hj0 := join_empty n k he
          clear he
          generalize Lib.join (selL n k) [44] = L at *
          have hne : (L == []) = false := by simp [hj0]
          clear hj0
          go_wp2_with fail
          refine (rnames _).mono ?_
          rintro e w2 ⟨rfl, hb2, hs2, hc2⟩
          have hcy := hc2 k y HY.out
          have hB2 : Below w.heap.size w w2 := hB.trans (hb2.mono hB.size)
          clear hc2 hb2 hs2
          go_wp2
          go_roundw
          case rel => exact ⟨k + 1, by omega, by go_num, congrArg Value.string (by rw [HJ.out]; exact Rg.bytes_ext (by simp)), hB2⟩
          case measure => simp [intOf]; omega
    · obtain rfl : k = 12 := by omega
      go_wp2
      go_ret
      exact ⟨rfl, hB⟩
end Go.Proofs.Ytdkgilgnijcklaa
