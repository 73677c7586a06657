/-
  What Print of package rights answers, at every set.
-/
import Derived.Test.YtdkgilgnijcklaaWalkB
import Derived.Test.YtdkgilgnijcklaaShelf
namespace Go.Proofs.Ytdkgilgnijcklaa
open Go.RowKit
theorem Try.info9 : (Try.prog.info? 9).map (fun i => (i.zero, i.size, i.bytes)) = some (some (.string ByteArray.empty), 1, 16) := by kernel_rfl
theorem bit_is (n k : Nat) (hn : n < 4096) : (bits .and .i64 ((n : Int) / 2 ^ k) 1 == 1) = n.testBit k := by
  have e : (n : Int) / 2 ^ k = ((n / 2 ^ k : Nat) : Int) := by simp
  have h1 : n / 2 ^ k ≤ n := Nat.div_le_self _ _
  rw [e, show (1 : Int) = ((1 : Nat) : Int) from rfl, Rg.i64_and _ 1 (by omega) (by decide)]
  unfold Rg.meet
  rw [nat_mask1, Nat.testBit_eq_decide_div_mod_eq, Bool.eq_iff_iff, beq_iff_eq, decide_eq_true_eq]
  omega
/-- the names of the bits below k -/
def sel (n : Nat) : Nat → List ByteArray
  | 0 => []
  | k + 1 => if n.testBit k then sel n k ++ Rg.nm[k]?.toList else sel n k
theorem sel_le (n : Nat) : ∀ k, (sel n k).length ≤ k
  | 0 => Nat.le_refl _
  | k + 1 => by
    have := sel_le n k
    have h2 : Rg.nm[k]?.toList.length ≤ 1 := by cases Rg.nm[k]? <;> simp
    rw [sel]; split
    · rw [List.length_append]; omega
    · omega
/-- the text of a set -/
def printL (n : Nat) : List UInt8 := Lib.join ((sel n 12).map (·.data.toList)) [44]
theorem sel_mem (n : Nat) (x : ByteArray) : ∀ k, x ∈ sel n k → x ∈ Rg.nm
  | 0, h => by simp [sel] at h
  | k + 1, h => by
    rw [sel] at h
    split at h
    · rcases List.mem_append.1 h with h | h
      · exact sel_mem n x k h
      · rw [Option.mem_toList] at h; exact List.mem_of_getElem? h
    · exact sel_mem n x k h
theorem nm_short (x : ByteArray) (h : x ∈ Rg.nm) : x.data.toList.length ≤ 6 := by
  have := List.mem_map_of_mem (f := (·.data.toList)) h
  rw [Rg.nm_nmL] at this
  revert this
  generalize x.data.toList = l
  revert l
  decide
theorem lens_short : ∀ (xs : List (List UInt8)), (∀ x ∈ xs, x.length ≤ 6) → Lib.lens xs ≤ 6 * xs.length
  | [], _ => by simp [Lib.lens]
  | x :: r, h => by
    have h1 := h x (by simp)
    have h2 := lens_short r (fun y hy => h y (by simp [hy]))
    simp only [Lib.lens, List.map_cons, List.sum_cons, List.length_cons] at h2 ⊢
    omega
theorem print_len (n : Nat) : (printL n).length ≤ 100 := by
  have hm : ∀ x ∈ (sel n 12).map (·.data.toList), x.length ≤ 6 := fun x hx => by
    obtain ⟨y, hy, rfl⟩ := List.mem_map.1 hx
    exact nm_short y (sel_mem n y 12 hy)
  have hl : ((sel n 12).map (·.data.toList)).length ≤ 12 := by rw [List.length_map]; exact sel_le n 12
  unfold printL
  revert hm hl
  generalize (sel n 12).map (·.data.toList) = xs
  intro hm hl
  cases xs with
  | nil => simp [Lib.join_nil]
  | cons x r =>
    have h1 := hm x (by simp)
    have h2 := lens_short r (fun y hy => hm y (by simp [hy]))
    rw [Lib.join_cons, List.length_append, Lib.joinTail_length]
    simp at hl ⊢
    omega
def PrRel (w w1 : World) (n : Nat) (v i : Value) (wr : World) : Prop :=
  ∃ k : Nat, k ≤ 12 ∧ i = .int .i64 k ∧ wr.ownsRow (w.heap.size + 1) 9 1 v (sel n k).length ((sel n k).map Value.string) ∧ Below (w.heap.size + 1) w1 wr
set_option maxHeartbeats 400000 in
theorem print_any (n : Nat) (hn : n < 4096) (w : World) : Calls Try.prog 21 #[.int .i64 n] w fun e w' => e = .returned (.string ⟨(printL n).toArray⟩) ∧ Below w.heap.size w w' := by
  obtain ⟨i0, hi, hz0, hz1, hz2⟩ := info_parts Try.info9
  go_enter Try.func21, Try.ntmps21
  go_wp2_with (go_at_call 12; refine (names_any _).mono ?_; rintro e w1 ⟨rfl, hb1, hs1, hc1⟩)
  go_loopw [3, 8] (fun v i wr => PrRel w w1 n v i wr) (fun _ i _ => 12 - (intOf i).toNat)
  case atStart => exact ⟨0, Nat.zero_le _, rfl, World.ownsRow_nil _ _ _ _, Below.refl _ _⟩
  case round =>
    obtain ⟨k, hk, rfl, hown, hb⟩ := hrel
    have hz : w.heap.size + 1 ≤ wr.heap.size := by have := hb.size; omega
    by_cases hlt : k < 12
    · obtain ⟨y, hy⟩ : ∃ y, Rg.nm[k]? = some y := ⟨Rg.nm[k], List.getElem?_eq_getElem (by rw [Rg.nm_length]; exact hlt)⟩
      have hcx : wr.cell? ⟨w.heap.size, k, none⟩ = some (.string y) := (hb.cell (p := ⟨w.heap.size, k, none⟩) (Nat.lt_succ_self _)).trans (hc1 k y hy)
      have hbit := bit_is n k hn
      have HY : Hid (Rg.nm[k]? = some y) := hy
      have hle := sel_le n k
      clear hy hc1 
      cases hb' : n.testBit k with
      | true =>
        rw [hb'] at hbit
        have HS : Hid (sel n (k + 1) = sel n k ++ [y]) := by rw [Hid, sel, if_pos hb', HY.out]; rfl
        clear hb'
        go_wp2_with (at_builtin; refine wpList_append_own _ rfl _ _ 29 rfl (w.heap.size + 1) 9 i0 (.string ByteArray.empty) 1 16 Try.underlying29 hi hz0 hz1 hz2 rfl (by decide) _ _ _ rfl (hown.alloc _) ⟨wr.heap.size, 0, none⟩ 1 1 [.string y] rfl rfl ?c1 ?c2 ?c3 ?c4 ?c5 ?_)
        case c1 =>
          intro j u hj
          match j, hj with
          | 0, hj => simp at hj; subst hj; simp [Addr.add]
        case c2 => intro u hu; simp at hu; subst hu; rfl
        case c3 => unfold maxLen; omega
        case c4 => omega
        case c5 => simp; omega
        intro v' w2 hown' hgrow _
        have hb2 : Below (w.heap.size + 1) w1 w2 := (hb.alloc hz _).grown hgrow (by simp; omega) (fun j hj => (hown.lt j hj).1)
        have hown2 : w2.ownsRow (w.heap.size + 1) 9 1 v' (sel n (k + 1)).length ((sel n (k + 1)).map Value.string) := by rw [HS.out]; simpa using hown'
        have HO := hown2
        clear hown' hgrow hown hb hcx
        go_wp2
        go_roundw
        case rel => exact ⟨k + 1, by omega, by go_num, hown2, hb2⟩
        case measure => simp [intOf]; omega
      | false =>
        rw [hb'] at hbit
        have HS : Hid (sel n (k + 1) = sel n k) := by rw [Hid, sel, if_neg (by rw [hb']; simp)]
        clear hb'
        go_wp2
        go_roundw
        case rel => exact ⟨k + 1, by omega, by go_num, by rw [HS.out]; exact hown, hb⟩
        case measure => simp [intOf]; omega
    · obtain rfl : k = 12 := by omega
      clear hc1
      have hbw : Below w.heap.size w wr := hb1.trans (hb.mono (Nat.le_succ _))
      have hpl := print_len n
      have hle := sel_le n 12
      have hcl := fun g hg => hown.cells (g := g) hg
      have hg0 := hown.lt
      rcases hown.2 with ⟨rfl, hl0⟩ | ⟨g, cap, cur, rfl, hg1, hg2, hg3, hg4, hg5, hg6⟩
      · have hs : sel n 12 = [] := List.length_eq_zero_iff.1 hl0
        have HP : Hid (printL n = []) := by rw [Hid, printL, hs]; rfl
        clear hcl hg0 hpl hle hl0 hs hown hb hb1 hs1
        go_wp2_with fail
        refine (Try.strings_Join_none _ _ _ _).mono ?_
        rintro e w2 ⟨rfl, rfl⟩
        go_wp2
        go_ret
        exact ⟨by rw [HP.out]; rfl, hbw⟩
      · have hcells : ∀ (j : Nat) x, (sel n 12)[j]? = some x → wr.cell? ⟨g, 0 + j, none⟩ = some (.string x) := fun j x hj => by
          have := hcl g rfl j (.string x) (by rw [List.getElem?_map, hj]; rfl)
          have e : (⟨g, 0, none⟩ : Addr).add j = ⟨g, 0 + j, none⟩ := by unfold Addr.add; split <;> simp_all
          rw [e] at this; exact this
        have hgz : g < wr.heap.size := (hg0 g rfl).2
        have HX : Hid ((printL n).length ≤ 140737488355328) := Nat.le_trans hpl (by decide)
        have HC : Hid (∀ (j : Nat) x, (sel n 12)[j]? = some x → wr.cell? ⟨g, 0 + j, none⟩ = some (.string x)) := hcells
        clear hcl hg0 hpl hcells hown hb hb1 hs1 hg1 hg2 hg4 hg5 hg6
        go_wp2_with fail
        refine (Try.strings_Join g 0 cap (sel n 12) ⟨#[44]⟩ _ HC.out hgz (by omega) hg3 HX.out).mono ?_
        rintro e w2 ⟨rfl, hb2⟩
        go_wp2
        go_ret
        exact ⟨rfl, hbw.trans (hb2.mono (by omega))⟩
end Go.Proofs.Ytdkgilgnijcklaa
