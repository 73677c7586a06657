/-
  What the functions of package rights answer (all but Print and Parse), one theorem a function.
-/
import Derived.Test.YtdkgilgnijcklaaProg
import Derived.Test.YtdkgilgnijcklaaPlain
import Derived.WalkKit
import Derived.WalkSpells
import Derived.Laws.Externs
import Derived.WalkLawsBesides
import Derived.Lib.Walk
import Derived.Lib.Strings
import Derived.Lib.Slices
import Derived.Lib.Bytealg
import Derived.Lib.CutLaws
namespace Go.Proofs.Ytdkgilgnijcklaa
open Go.RowKit
theorem ret_int {k : IntKind} {a b : Int} (h : a = b) : Ending.returned (.int k a) = .returned (.int k b) := by rw [h]
theorem meet_any (a b : Nat) (ha : a < 4096) (hb : b < 4096) (w : World) : Calls Try.prog 17 #[.int .i64 a, .int .i64 b] w fun e w' => e = .returned (.int .i64 (Rg.meet a b : Nat)) ∧ w' = w := by
  go_enter Try.func17, Try.ntmps17
  go_wp2
  go_ret
  exact ⟨ret_int (Rg.i64_and a b ha hb), rfl⟩
theorem join_any (a b : Nat) (ha : a < 4096) (hb : b < 4096) (w : World) : Calls Try.prog 19 #[.int .i64 a, .int .i64 b] w fun e w' => e = .returned (.int .i64 (Rg.join a b : Nat)) ∧ w' = w := by
  go_enter Try.func19, Try.ntmps19
  go_wp2
  go_ret
  exact ⟨ret_int (Rg.i64_or a b ha hb), rfl⟩
theorem within_any (a b : Nat) (ha : a < 4096) (hb : b < 4096) (w : World) : Calls Try.prog 15 #[.int .i64 a, .int .i64 b] w fun e w' => e = .returned (.bool (Rg.within a b)) ∧ w' = w := by
  have h := Rg.i64_within a b ha hb
  go_enter Try.func15, Try.ntmps15
  go_wp2
  go_ret
  exact ⟨by simp, rfl⟩
def isRight (a : Int) : Bool := decide (0 ≤ a ∧ a ≤ 4095)
theorem right_any (a : Int) (w : World) : Calls Try.prog 10 #[.int .i64 a] w fun e w' => e = .returned (.bool (isRight a)) ∧ w' = w := by
  by_cases h0 : 0 ≤ a
  · have h : decide (a ≤ 4095) = isRight a := by simp [isRight, h0]
    go_enter Try.func10, Try.ntmps10
    go_wp2
    go_ret
    exact ⟨by simp, rfl⟩
  · have h : isRight a = false := by simp [isRight, h0]
    go_enter Try.func10, Try.ntmps10
    go_wp2
    go_ret
    exact ⟨by simp, rfl⟩
set_option maxRecDepth 100000 in
theorem ones64 (n : Nat) (hn : n < 4096) (w : World) : Calls Try.prog 34 #[.int .u64 (n : Int)] w fun e w' => e = .returned (.int .i64 (Rg.count n : Nat)) ∧ w' = w := by
  have hh : Hid (n < 4096) := hn
  clear hn
  go_enter Try.func34, Try.ntmps34
  go_wp2
  go_ret
  refine ⟨ret_int ?_, rfl⟩
  have hn := hh.out
  clear hh w
  revert n
  decide +kernel
theorem count_any (n : Nat) (hn : n < 4096) (w : World) : Calls Try.prog 20 #[.int .i64 n] w fun e w' => e = .returned (.int .i64 (Rg.count n : Nat)) ∧ w' = w := by
  have h1 : bits .and .i64 (n : Int) 4095 = (n : Int) := by
    have := Rg.i64_and n 4095 hn (by decide)
    rw [show ((4095 : Nat) : Int) = 4095 from rfl] at this
    rw [this]; unfold Rg.meet; rw [nat_mask12]; omega
  have h2 : IntKind.u64.wrap (n : Int) = (n : Int) := by rw [IntKind.wrap_u64]; omega
  go_enter Try.func20, Try.ntmps20
  go_wp2_with (first | (go_at_call 34; refine (ones64 n hn _).mono ?_; rintro e w' ⟨rfl, rfl⟩) | go_in)
  go_ret
  exact ⟨rfl, rfl⟩
theorem words_any (n : Nat) (w : World) : Calls Try.prog 23 #[.int .i64 n] w fun e w' => e = .returned (.agg #[.int .i64 (Rg.lo n : Nat), .int .i64 (Rg.hi n : Nat)]) ∧ Below w.heap.size w w' := by
  have h1 := Rg.lo_is n
  have h2 := Rg.hi_is n
  go_enter Try.func23, Try.ntmps23
  go_wp2
  exact bodyPost_ret (v := .agg #[.int .i64 (Rg.lo n : Nat), .int .i64 (Rg.hi n : Nat)]) (by simp [results, Try.results23, go_sem]) rfl ⟨rfl, (Below.refl _ _).alloc (Nat.le_refl _) _⟩
theorem from_yes (a b : Int) (hok : Rg.okw a b = true) (w : World) : Calls Try.prog 8 #[.agg #[.int .i64 a, .int .i64 b]] w fun e w' => e = .returned (.tuple #[.int .i64 (Rg.fw a b : Nat), .int .i64 0]) ∧ Below w.heap.size w w' := by
  unfold Rg.okw at hok
  have h := of_decide_eq_true hok
  have h1 : bits .andNot .i64 a 63 = 64 := by have := Rg.low_is a (by omega); simp [h.1] at this; exact this
  have h2 : bits .andNot .i64 b 63 = 128 := by have := Rg.high_is b (by omega); simp [h.2] at this; exact this
  have h3 := Rg.fw_is a b
  clear hok h
  go_enter Try.func8, Try.ntmps8
  go_wp2
  go_ret2
  exact ⟨rfl, (Below.refl _ _).alloc (Nat.le_refl _) _⟩
theorem from_no (a b : Int) (wa : -9223372036854775808 ≤ a ∧ a ≤ 9223372036854775807) (wb : -9223372036854775808 ≤ b ∧ b ≤ 9223372036854775807) (hok : Rg.okw a b = false) (w : World) : Calls Try.prog 8 #[.agg #[.int .i64 a, .int .i64 b]] w fun e w' => e = .returned (.tuple #[.int .i64 0, .int .i64 2]) ∧ Below w.heap.size w w' := by
  unfold Rg.okw at hok
  have h := of_decide_eq_false hok
  have g1 := Rg.low_is a wa
  have g2 := Rg.high_is b wb
  by_cases c1 : 64 ≤ a ∧ a ≤ 127
  · have c2 : ¬ (128 ≤ b ∧ b ≤ 191) := fun c2 => h ⟨c1, c2⟩
    have h1 : bits .andNot .i64 a 63 = 64 := by simp [c1] at g1; exact g1
    have h2 : (bits .andNot .i64 b 63 != 128) = true := by rw [g2]; simp only [Bool.not_eq_true', decide_eq_false_iff_not]; exact c2
    clear hok h g1 g2 c1 c2
    go_enter Try.func8, Try.ntmps8
    go_wp2
    go_ret2
    exact ⟨rfl, (Below.refl _ _).alloc (Nat.le_refl _) _⟩
  · have h1 : (bits .andNot .i64 a 63 != 64) = true := by rw [g1]; simp only [Bool.not_eq_true', decide_eq_false_iff_not]; exact c1
    clear hok h g1 g2 c1
    go_enter Try.func8, Try.ntmps8
    go_wp2
    go_ret2
    exact ⟨rfl, (Below.refl _ _).alloc (Nat.le_refl _) _⟩
/-- Names: a new slice of the twelve names. -/
theorem names_any (w : World) : Calls Try.prog 12 #[] w fun e w' => e = .returned (.slice (some ⟨w.heap.size, 0, none⟩) 12 12) ∧ Below w.heap.size w w' ∧ w'.heap.size = w.heap.size + 1 ∧ ∀ (j : Nat) x, Rg.nm[j]? = some x → w'.cell? ⟨w.heap.size, j, none⟩ = some (.string x) := by
  go_enter Try.func12, Try.ntmps12
  go_wp2
  go_ret
  refine ⟨rfl, (Below.refl _ _).alloc (Nat.le_refl _) _, by simp, ?_⟩
  intro j x hx
  rw [World.cell?_alloc_at _ _ _ _ rfl]
  match j, hx with
  | 0, hx | 1, hx | 2, hx | 3, hx | 4, hx | 5, hx | 6, hx | 7, hx | 8, hx | 9, hx | 10, hx | 11, hx => simp [Rg.nm] at hx; subst hx; rfl
  | j + 12, hx => simp [Rg.nm] at hx
theorem indexByte_any (s : ByteArray) (c : Int) (w : World) :
    Calls Try.prog 41 #[.string s, .int .u8 c] w fun e w' => e = .returned (.int .i64 (Lib.indexByte s.data.toList c.toNat.toUInt8)) ∧ w' = w := by
  go_enter Try.func41, Try.ntmps41
  go_wp2
  rw [run_callFunc_extern Try.func47 (by kernel_rfl) (by kernel_rfl) (by kernel_rfl) (e := Extern.BytealgIndexByte.indexByte) (by kernel_rfl), Lib.run_indexByteString]
  simp only [Result.andThen]
  rw [Oper.upon_value]
  go_wp2
  go_ret
  exact ⟨rfl, rfl⟩
theorem index_any (s : ByteArray) (c : UInt8) (w : World) :
    Calls Try.prog 38 #[.string s, .string ⟨#[c]⟩] w fun e w' => e = .returned (.int .i64 (Lib.indexByte s.data.toList c)) ∧ w' = w := by
  go_enter Try.func38, Try.ntmps38
  go_wp2_with (go_at_call 41; refine (indexByte_any _ _ _).mono ?_; rintro e w' ⟨rfl, rfl⟩)
  · have h : ([c] == s.toList) = true := by assumption
    go_ret
    refine ⟨?_, rfl⟩
    have e : s.data.toList = [c] := by rw [← Lib.toList_data]; exact (beq_iff_eq.1 h).symm
    rw [e]
    simp [Lib.indexByte]
  · go_ret
    exact ⟨rfl, rfl⟩
theorem scut_any (s : ByteArray) (hs : s.size ≤ maxLen) (w : World) :
    Calls Try.prog 32 #[.string s, .string ⟨#[44]⟩] w fun e w' => e = .returned (.tuple #[.string ⟨(Lib.cut s.data.toList [44]).1.toArray⟩, .string ⟨(Lib.cut s.data.toList [44]).2.1.toArray⟩, .bool (Lib.cut s.data.toList [44]).2.2]) ∧ ∃ n, w' = w.drewN n := by
  rcases Lib.indexB_cases s ⟨#[44]⟩ with hix | ⟨i, hix, hroom⟩
  · obtain ⟨e1, e2, e3⟩ := Lib.cutB_miss s ⟨#[44]⟩ hix
    rw [e1, e2, e3]
    go_enter Try.func32, Try.ntmps32
    go_wp2_with (go_at_call 38; refine (index_any _ _ _).mono ?_; rintro e w' ⟨rfl, rfl⟩; rw [← Lib.index_one, show Lib.index s.data.toList [44] = _ from hix])
    go_ret3
    exact ⟨rfl, 0, rfl⟩
  · obtain ⟨e1, e2, e3⟩ := Lib.cutB_hit s ⟨#[44]⟩ i hix
    rw [e1, e2, e3]
    have c1 : (0 : Int) ≤ ↑i := by omega
    have c2 : (↑i : Int) ≤ ↑s.size := by omega
    have hr : i + 1 ≤ s.size := hroom
    have c3 : (0 : Int) ≤ ↑i + 1 := by omega
    unfold maxLen at hs
    have c4 : (↑i + 1 : Int) ≤ ↑s.size := by omega
    go_enter Try.func32, Try.ntmps32
    go_wp2_with (go_at_call 38; refine (index_any _ _ _).mono ?_; rintro e w' ⟨rfl, rfl⟩; rw [← Lib.index_one, show Lib.index s.data.toList [44] = _ from hix])
    go_region
    all_goals (try go_wp2)
    all_goals go_ret3
    all_goals exact ⟨rfl, 1, rfl⟩
theorem cut_any (s : ByteArray) (hs : s.size ≤ maxLen) (w : World) :
    Calls Try.prog 26 #[.string s, .string ⟨#[44]⟩] w fun e w' => e = .returned (.tuple #[.string ⟨(Lib.cut s.data.toList [44]).1.toArray⟩, .string ⟨(Lib.cut s.data.toList [44]).2.1.toArray⟩, .bool (Lib.cut s.data.toList [44]).2.2]) ∧ ∃ n, w' = w.drewN n := by
  go_enter Try.func26, Try.ntmps26
  go_wp2_with (go_at_call 32; refine (scut_any _ hs _).mono ?_; rintro e w' ⟨rfl, n, rfl⟩)
  go_ret3
  exact ⟨rfl, n, rfl⟩
theorem bytes_eq (x y : ByteArray) : (x.toList == y.toList) = true ↔ x = y := by
  rw [beq_iff_eq, ByteArray.toList_eq, ByteArray.toList_eq]
  exact ⟨fun h => ByteArray.ext (Array.toList_inj.mp h), fun h => by rw [h]⟩
theorem bytes_ne (x y : ByteArray) : (x.toList == y.toList) = false ↔ x ≠ y := by
  rw [Ne, ← bytes_eq x y, Bool.not_eq_true]
theorem sindex_any (b c : Nat) (x : ByteArray) (w : World) (hc : ∀ (j : Nat) y, Rg.nm[j]? = some y → w.cell? ⟨b, j, none⟩ = some (.string y)) :
    Calls Try.prog 27 #[.slice (some ⟨b, 0, none⟩) 12 c, .string x] w fun e w' => e = .returned (.int .i64 (Rg.idx x.data.toList)) ∧ w' = w := by
  have HC : Hid (∀ (j : Nat) y, Rg.nm[j]? = some y → w.cell? ⟨b, j, none⟩ = some (.string y)) := hc
  clear hc
  go_enter Try.func27, Try.ntmps27
  go_wp2
  go_loop [5, 8] (fun _ i => ∃ k : Nat, k ≤ 12 ∧ i = .int .i64 k ∧ ∀ j, j < k → Rg.nm[j]? ≠ some x) (fun _ i => 12 - (intOf i).toNat)
  case atStart => exact ⟨0, Nat.zero_le _, rfl, fun j hj => absurd hj (Nat.not_lt_zero _)⟩
  case round =>
    obtain ⟨k, hk, rfl, hne⟩ := hrel
    by_cases hlt : k < 12
    · obtain ⟨y, hy⟩ : ∃ y, Rg.nm[k]? = some y := ⟨Rg.nm[k], List.getElem?_eq_getElem (by rw [Rg.nm_length]; exact hlt)⟩
      have hcell := HC.out k y hy
      have HN : Hid (∀ j, j < k → Rg.nm[j]? ≠ some x) := hne
      have HY : Hid (Rg.nm[k]? = some y) := hy
      clear hne hy
      by_cases he : x = y
      · have ht : (x.toList == y.toList) = true := (bytes_eq x y).2 he
        have HE : Hid (x = y) := he
        clear he
        go_wp2
        go_ret
        exact ⟨ret_int (Rg.idx_hit x k (HE.out ▸ HY.out) HN.out).symm, rfl⟩
      · have ht : (x.toList == y.toList) = false := (bytes_ne x y).2 he
        have HE : Hid (x ≠ y) := he
        clear he
        go_wp2
        go_round
        case rel =>
          refine ⟨k + 1, by omega, by go_num, fun j hj => ?_⟩
          by_cases e : j = k
          · subst e; rw [HY.out]; intro h; exact HE.out (Option.some.inj h).symm
          · exact HN.out j (by omega)
        case measure => simp [intOf]; omega
    · have HN : Hid (∀ j, j < k → Rg.nm[j]? ≠ some x) := hne
      clear hne
      go_wp2
      go_ret
      refine ⟨ret_int (Rg.idx_miss x fun j => ?_).symm, rfl⟩
      by_cases e : j < k
      · exact HN.out j e
      · rw [List.getElem?_eq_none (by rw [Rg.nm_length]; omega)]; simp
end Go.Proofs.Ytdkgilgnijcklaa
