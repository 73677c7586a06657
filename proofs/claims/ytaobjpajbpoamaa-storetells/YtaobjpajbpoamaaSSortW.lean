/-
  Names against each other; the stable sort, walked.
-/
import Derived.Test.YtaobjpajbpoamaaSSort
namespace Go.Proofs.Ytaobjpajbpoamaa
open Go.RowKit Go.Shelf Go.Sort
theorem cb_self : ∀ a : List UInt8, Lib.compareBytes a a = 0
  | [] => rfl
  | x :: a => by simp [Lib.compareBytes, cb_self a]
theorem cb_anti : ∀ a b : List UInt8, Lib.compareBytes b a = - Lib.compareBytes a b
  | [], [] => rfl
  | [], _ :: _ => rfl
  | _ :: _, [] => rfl
  | x :: a, y :: b => by
    unfold Lib.compareBytes
    by_cases h1 : x < y
    · have h2 : ¬ y < x := UInt8.lt_asymm h1
      simp [h1, h2]
    · by_cases h2 : y < x
      · simp [h1, h2]
      · simp [h1, h2, cb_anti a b]
theorem cb_eq : ∀ a b : List UInt8, Lib.compareBytes a b = 0 → a = b
  | [], [], _ => rfl
  | [], _ :: _, h => by simp [Lib.compareBytes] at h
  | _ :: _, [], h => by simp [Lib.compareBytes] at h
  | x :: a, y :: b, h => by
    unfold Lib.compareBytes at h
    by_cases h1 : x < y
    · simp [h1] at h
    · by_cases h2 : y < x
      · simp [h1, h2] at h
      · simp [h1, h2] at h
        have : x = y := UInt8.le_antisymm (UInt8.not_lt.1 h2) (UInt8.not_lt.1 h1)
        rw [this, cb_eq a b h]
theorem cb_trans : ∀ a b c : List UInt8, Lib.compareBytes a b < 0 → Lib.compareBytes b c < 0 → Lib.compareBytes a c < 0
  | [], [], _, h, _ => by simp [Lib.compareBytes] at h
  | [], _ :: _, [], _, h => by simp [Lib.compareBytes] at h
  | [], _ :: _, _ :: _, _, _ => by simp [Lib.compareBytes]
  | _ :: _, [], _, h, _ => by simp [Lib.compareBytes] at h
  | _ :: _, _ :: _, [], _, h => by simp [Lib.compareBytes] at h
  | x :: a, y :: b, z :: c, h, k => by
    unfold Lib.compareBytes at h k ⊢
    by_cases h1 : x < y
    · by_cases k1 : y < z
      · simp [UInt8.lt_trans h1 k1]
      · by_cases k2 : z < y
        · simp [k1, k2] at k
        · have : y = z := UInt8.le_antisymm (UInt8.not_lt.1 k2) (UInt8.not_lt.1 k1)
          subst this
          simp [h1]
    · by_cases h2 : y < x
      · simp [h1, h2] at h
      · have : x = y := UInt8.le_antisymm (UInt8.not_lt.1 h2) (UInt8.not_lt.1 h1)
        subst this
        simp [h1] at h
        by_cases k1 : x < z
        · simp [k1]
        · by_cases k2 : z < x
          · simp [k1, k2] at k
          · simp [k1, k2] at k ⊢
            exact cb_trans a b c h k
theorem swoE : SWO (ltOf cmpE) where
  irrefl x := by simp [ltOf, cmpE, cb_self]
  trans x y z h k := decide_eq_true (cb_trans _ _ _ (of_decide_eq_true h) (of_decide_eq_true k))
  ntrans x y z h k := by
    have h := of_decide_eq_false h
    have k := of_decide_eq_false k
    refine decide_eq_false fun hn => ?_
    unfold cmpE at h k hn
    have a1 := cb_anti x.name.data.toList y.name.data.toList
    have a2 := cb_anti y.name.data.toList z.name.data.toList
    rcases Int.lt_or_eq_of_le (show Lib.compareBytes y.name.data.toList x.name.data.toList ≤ 0 by omega) with h1 | h1
    · have := cb_trans _ _ _ h1 hn
      omega
    · rw [cb_eq _ _ h1] at k
      exact k hn
theorem sorted_perm [Inhabited Sp.Ent] (es : List Sp.Ent) : (sorted es).length = es.length ∧ (sorted es).Perm es ∧ (sorted es).Pairwise (fun a b => ¬ cmpE b a < 0) := by
  obtain ⟨⟨h1, -, h3⟩, h4⟩ := insertionSort_holds (lt := ltOf cmpE) swoE es.toArray 0 es.length (Nat.zero_le _) (by simp)
  unfold sorted
  generalize Sort.insertionSort (ltOf cmpE) es.toArray 0 es.length = A at *
  have hA : A.size = es.length := by simpa using h1
  refine ⟨by simpa using hA, ?_, ?_⟩
  · rw [← hA, Array.extract_size] at h3
    rw [hA] at h3
    simpa using h3
  · rw [List.pairwise_iff_getElem]
    intro i j hi hj hij hlt
    have hi' : i < A.size := by simpa using hi
    have hj' : j < A.size := by simpa using hj
    have := of_decide_eq_false (h4 i j (Nat.zero_le _) hij (by omega))
    rw [getElem!_pos A i hi', getElem!_pos A j hj'] at this
    exact this (by simpa using hlt)
theorem sorted_length [Inhabited Sp.Ent] (es : List Sp.Ent) : (sorted es).length = es.length := (sorted_perm es).1
theorem insort_any [Inhabited Sp.Ent] (es : List Sp.Ent) (base g n c : Nat) (w : World) (hM : Mine w base 51 2 (.slice (some ⟨g, 0, none⟩) n c) (es.map entC)) (hn : es.length ≤ 19) :
    Calls Try.prog 79 #[.slice (some ⟨g, 0, none⟩) n c, .int .i64 0, .int .i64 n, .func (.func 52) #[] #[]] w fun e w' => e = .returned (.tuple #[]) ∧ Mine w' base 51 2 (.slice (some ⟨g, 0, none⟩) n c) ((sorted es).map entC) ∧ On (fun b => b < w.heap.size ∧ b ≠ g) w w' ∧ w.heap.size ≤ w'.heap.size ∧ ∀ B, B ≤ g → Below B w w' := by
  obtain ⟨cur, hblk, hnl, -, -, -, -⟩ := hM.blk
  rw [List.length_map] at hnl
  subst hnl
  have hcon := AnyQ.insertionSortCmpFunc sortLays 2 Try.isAgg51 Try.sizeOf51 entC (fun _ => rfl) (fun x v hv => by simp [entC] at hv; rcases hv with rfl | rfl <;> rfl) cmpE 52 #[] g 0 c 0 es.length es.toArray w entersE (fun _ _ _ _ x y => closureE x y _) (mine_holdsK hM) hblk.lt (Nat.zero_le _) (by simp) (by simp; omega)
  refine Calls.mono hcon ?_
  rintro e w' ⟨rfl, m, os, rfl⟩
  have e : Sort.insertionSort (ltOf cmpE) es.toArray 0 es.length = (sorted es).toArray := by unfold sorted; rw [Array.toArray_toList]
  rw [e]
  exact ⟨rfl, sort_row hM (sorted_length es) m os, sort_on _ _ _ _ _, sort_size _ _ _ _ _, fun B hB => sort_below _ _ _ _ _ hblk.lt B hB⟩
set_option maxHeartbeats 1000000 in
theorem stable_any [Inhabited Sp.Ent] (es : List Sp.Ent) (base g n c : Nat) (w : World) (hM : Mine w base 51 2 (.slice (some ⟨g, 0, none⟩) n c) (es.map entC)) (hn : es.length ≤ 19) :
    Calls Try.prog 51 #[.slice (some ⟨g, 0, none⟩) n c, .func (.func 52) #[] #[]] w fun e w' => e = .returned (.tuple #[]) ∧ Mine w' base 51 2 (.slice (some ⟨g, 0, none⟩) n c) ((sorted es).map entC) ∧ On (fun b => b < w.heap.size ∧ b ≠ g) w w' ∧ w.heap.size ≤ w'.heap.size ∧ ∀ B, B ≤ g → Below B w w' := by
  have hI := insort_any es base g n c w hM hn
  have HI : Hid _ := hI
  have hnl : n = es.length := by obtain ⟨cur, hblk, hnl, -⟩ := hM.blk; rw [List.length_map] at hnl; exact hnl
  have hn' : n ≤ 19 := by omega
  clear hI hM hnl hn
  have HS : Hid (Calls Try.prog 76 #[.slice (some ⟨g, 0, none⟩) n c, .int .i64 n, .func (.func 52) #[] #[]] w fun e w' => e = .returned (.tuple #[]) ∧ Mine w' base 51 2 (.slice (some ⟨g, 0, none⟩) n c) ((sorted es).map entC) ∧ On (fun b => b < w.heap.size ∧ b ≠ g) w w' ∧ w.heap.size ≤ w'.heap.size ∧ ∀ B, B ≤ g → Below B w w') := by
    unfold Hid
    have h20 : ¬ (20 : Int) ≤ (n : Int) := by omega
    have h20' : ¬ (20 : Int) < (n : Int) := by omega
    go_enter Try.func76, Try.ntmps76
    go_wp2
    refine wp_loop_rounds 1 ?_
    rw [rounds_succ]
    go_wp2_with fail
    refine Calls.mono HI.out ?_
    rintro e w2 ⟨rfl, hr⟩
    have HR : Hid _ := hr
    clear hr
    go_wp2
    refine wp_loop_rounds 1 ?_
    rw [rounds_succ]
    go_wp2
    go_end0
    exact ⟨rfl, HR.out⟩
  clear HI
  go_enter Try.func51, Try.ntmps51
  go_wp2_with fail
  refine Calls.mono HS.out ?_
  rintro e w2 ⟨rfl, hr⟩
  have HR : Hid _ := hr
  clear hr
  go_wp2
  go_end0
  exact ⟨rfl, HR.out⟩
end Go.Proofs.Ytaobjpajbpoamaa
