/-
  The document's own answer, chapter 1: the words of a set; a text cut at its commas.
-/
import Derived.Test.YtdkgilgnijcklaaRefC
import Derived.BigRegion
namespace Go.Proofs.Rg
theorem mod_step (n k : Nat) : n % 2 ^ (k + 1) = n % 2 ^ k + (bt n k).toNat * 2 ^ k := by
  unfold bt
  rw [Nat.mod_pow_succ, Nat.testBit_eq_decide_div_mod_eq]
  by_cases h : n / 2 ^ k % 2 = 1
  · simp [h]
  · have : n / 2 ^ k % 2 = 0 := by omega
    simp [this]
theorem bt_div64 (n k : Nat) : bt n (k + 6) = bt (n / 64) k := by
  unfold bt
  rw [show (64 : Nat) = 2 ^ 6 from rfl, Nat.testBit_div_two_pow, Nat.add_comm]
/-- the low and the high sum behind k bits -/
def wlo (n k : Nat) : Nat := n % 2 ^ min k 6
def whi (n k : Nat) : Nat := n / 64 % 2 ^ (k - 6)
theorem wlo_lt (n k : Nat) : wlo n k < 64 := by
  unfold wlo
  exact Nat.lt_of_lt_of_le (Nat.mod_lt _ (Nat.two_pow_pos _)) (Nat.pow_le_pow_right (n := 2) (by decide) (by omega : min k 6 ≤ 6))
theorem whi_lt (n k : Nat) (hk : k ≤ 12) : whi n k < 64 := by
  unfold whi
  exact Nat.lt_of_lt_of_le (Nat.mod_lt _ (Nat.two_pow_pos _)) (Nat.pow_le_pow_right (n := 2) (by decide) (by omega : k - 6 ≤ 6))
theorem wlo_step (n k : Nat) (h : k < 6) : wlo n (k + 1) = wlo n k + (bt n k).toNat * 2 ^ (k % 6) := by
  unfold wlo
  rw [show min (k + 1) 6 = k + 1 from by omega, show min k 6 = k from by omega, Nat.mod_eq_of_lt h, mod_step]
theorem wlo_stay (n k : Nat) (h : ¬ k < 6) : wlo n (k + 1) = wlo n k := by
  unfold wlo
  rw [show min (k + 1) 6 = 6 from by omega, show min k 6 = 6 from by omega]
theorem whi_stay (n k : Nat) (h : k < 6) : whi n (k + 1) = whi n k := by
  unfold whi
  rw [show k + 1 - 6 = 0 from by omega, show k - 6 = 0 from by omega]
theorem whi_step (n k : Nat) (h : ¬ k < 6) (h2 : k < 12) : whi n (k + 1) = whi n k + (bt n k).toNat * 2 ^ (k % 6) := by
  unfold whi
  obtain ⟨i, rfl⟩ : ∃ i, k = i + 6 := ⟨k - 6, by omega⟩
  rw [show i + 6 + 1 - 6 = i + 1 from by omega, show i + 6 - 6 = i from by omega, show (i + 6) % 6 = i from by omega, mod_step, bt_div64]
end Go.Proofs.Rg
namespace Go.Proofs.Ytdkgilgnijcklaa
open Go.RowKit
theorem pow_6 (k : Nat) : 2 ^ (k % 6) ≤ 32 := Nat.pow_le_pow_right (n := 2) (by decide) (by omega : k % 6 ≤ 5)
set_option maxHeartbeats 2000000 in
theorem rwords (n : Nat) (hn : n < 4096) (w : World) : Calls Try.prog 24 #[.int .i64 n] w fun e w' => e = .returned (.agg #[.int .i64 (Rg.lo n : Nat), .int .i64 (Rg.hi n : Nat)]) ∧ Below w.heap.size w w' := by
  go_enter Try.func24, Try.ntmps24
  go_wp2_with fail
  refine (rbits n hn _).mono ?_
  rintro e w1 ⟨rfl, hb1⟩
  have hB : Below w.heap.size w w1 := ((Below.refl w.heap.size w).alloc (Nat.le_refl _) _).trans (hb1.mono (by simp))
  have hz : w.heap.size < w1.heap.size := by have := hb1.size; simp at this; omega
  have hc0 : w1.cell? ⟨w.heap.size, 0, none⟩ = some (.int .i64 0) := (hb1.cell (p := ⟨w.heap.size, 0, none⟩) (by simp)).trans (by simp)
  have hc1 : w1.cell? ⟨w.heap.size, 1, none⟩ = some (.int .i64 0) := (hb1.cell (p := ⟨w.heap.size, 1, none⟩) (by simp)).trans (by simp)
  have hf0 : w1.frozen? ⟨w.heap.size, 0, none⟩ = false := (hb1.frozen (p := ⟨w.heap.size, 0, none⟩) (by simp)).trans (by simp)
  have hf1 : w1.frozen? ⟨w.heap.size, 1, none⟩ = false := (hb1.frozen (p := ⟨w.heap.size, 1, none⟩) (by simp)).trans (by simp)
  clear hb1
  go_wp2
  go_loop [3, 4, 10] (fun l h i => ∃ k : Nat, k ≤ 12 ∧ i = .int .i64 k ∧ l = .int .i64 (Rg.wlo n k : Nat) ∧ h = .int .i64 (Rg.whi n k : Nat)) (fun _ _ i => 12 - (intOf i).toNat)
  case atStart => exact ⟨0, Nat.zero_le _, rfl, by simp [Rg.wlo, Nat.mod_one], by simp [Rg.whi, Nat.mod_one]⟩
  case round =>
    obtain ⟨k, hk, rfl, rfl, rfl⟩ := hrel
    have hl := Rg.wlo_lt n k
    have hh := Rg.whi_lt n k hk
    by_cases hlt : k < 12
    · have hi : (k : Int) < 12 := by omega
      have hix := fun w => idx12 (Rg.bt n) k hlt w
      have hp := pow_6 k
      have H1 : Hid (k < 6 → Rg.wlo n (k + 1) = Rg.wlo n k + (Rg.bt n k).toNat * 2 ^ (k % 6)) := Rg.wlo_step n k
      have H2 : Hid (¬ k < 6 → Rg.wlo n (k + 1) = Rg.wlo n k) := Rg.wlo_stay n k
      have H3 : Hid (k < 6 → Rg.whi n (k + 1) = Rg.whi n k) := Rg.whi_stay n k
      have H4 : Hid (¬ k < 6 → Rg.whi n (k + 1) = Rg.whi n k + (Rg.bt n k).toNat * 2 ^ (k % 6)) := fun h => Rg.whi_step n k h hlt
      generalize Rg.wlo n k = L at *
      generalize Rg.whi n k = H at *
      obtain ⟨m, hm, hmk⟩ : ∃ m : Nat, m = k % 6 ∧ (k : Int) % 6 = (m : Int) := ⟨k % 6, rfl, by omega⟩
      have hm5 : m ≤ 5 := by omega
      rw [← hm] at hp H1 H4
      clear hm
      go_wp2
      go_loop [7, 16] (fun b j => ∃ i : Nat, i ≤ m ∧ j = .int .i64 i ∧ b = .int .i64 ((2 ^ i : Nat) : Int)) (fun _ j => m - (intOf j).toNat)
      case atStart => exact ⟨0, Nat.zero_le _, rfl, rfl⟩
      case round =>
        obtain ⟨i, hi2, rfl, rfl⟩ := hrel
        have hpi : 2 ^ i ≤ 32 := Nat.pow_le_pow_right (n := 2) (by decide) (by omega : i ≤ 5)
        have HPS : Hid (2 ^ (i + 1) = 2 ^ i * 2) := Nat.pow_succ ..
        by_cases hc : i < m
        · generalize 2 ^ i = P at *
          go_wp2
          go_round
          case rel => exact ⟨i + 1, by omega, by go_num, by rw [HPS.out]; go_num⟩
          case measure => simp [intOf]; omega
        · obtain rfl : i = m := by omega
          clear HPS
          generalize 2 ^ i = P at *
          have E1 : Hid (Rg.wlo n (k + 1) = if k < 6 then L + (Rg.bt n k).toNat * P else L) := by
            by_cases h : k < 6
            · rw [Hid, if_pos h]; exact H1.out h
            · rw [Hid, if_neg h]; exact H2.out h
          have E2 : Hid (Rg.whi n (k + 1) = if k < 6 then H else H + (Rg.bt n k).toNat * P) := by
            by_cases h : k < 6
            · rw [Hid, if_pos h]; exact H3.out h
            · rw [Hid, if_neg h]; exact H4.out h
          clear H1 H2 H3 H4 hix
          cases hb : Rg.bt n k <;> by_cases h6 : k < 6
          all_goals
            rw [hb] at E1 E2
            go_wp2
            go_round
            case rel =>
              refine ⟨k + 1, by omega, by go_num, ?_, ?_⟩
              · rw [E1.out]; simp [h6]
              · rw [E2.out]; simp [h6]
            case measure => simp [intOf]; omega
    · obtain rfl : k = 12 := by omega
      have hlo : Rg.wlo n 12 + 64 = Rg.lo n := rfl
      have hhi : Rg.whi n 12 + 128 = Rg.hi n := rfl
      have HL : Hid ((64 : Int) + (Rg.wlo n 12 : Nat) = (Rg.lo n : Nat)) := by unfold Hid; omega
      have HH : Hid ((128 : Int) + (Rg.whi n 12 : Nat) = (Rg.hi n : Nat)) := by unfold Hid; omega
      clear hlo hhi
      generalize Rg.wlo n 12 = L at *
      generalize Rg.whi n 12 = H at *
      go_wp2
      refine bodyPost_ret (v := .agg #[.int .i64 (64 + (L : Int)), .int .i64 (128 + (H : Int))]) (by simp [results, Try.results24, go_sem, hc0, hc1]) rfl ⟨by rw [HL.out, HH.out], ?_⟩
      exact (hB.setCell (Nat.le_refl _) _).setCell (Nat.le_refl _) _
end Go.Proofs.Ytdkgilgnijcklaa
namespace Go.Proofs.Rg
theorem pieces_snoc : ∀ (l : List UInt8) (c : UInt8), ∃ ps last, pieces l = ps ++ [last] ∧ pieces (l ++ [c]) = (if c = 44 then ps ++ [last] ++ [[]] else ps ++ [last ++ [c]]) ∧ ps.length + last.length ≤ l.length
  | [], c => ⟨[], [], rfl, by by_cases h : c = 44 <;> simp [pieces, h], Nat.le_refl _⟩
  | d :: r, c => by
    obtain ⟨ps, last, h1, h2, h3⟩ := pieces_snoc r c
    by_cases hd : d = 44
    · refine ⟨[] :: ps, last, by rw [pieces, if_pos hd, h1]; rfl, ?_, by simp; omega⟩
      rw [List.cons_append, pieces, if_pos hd, h2]
      by_cases hc : c = 44 <;> simp [hc]
    · cases ps with
      | nil =>
        refine ⟨[], d :: last, by rw [pieces, if_neg hd, h1]; rfl, ?_, by simp at h3 ⊢; omega⟩
        rw [List.cons_append, pieces, if_neg hd, h2]
        by_cases hc : c = 44 <;> simp [hc]
      | cons p ps =>
        refine ⟨(d :: p) :: ps, last, by rw [pieces, if_neg hd, h1]; rfl, ?_, by simp at h3 ⊢; omega⟩
        rw [List.cons_append, pieces, if_neg hd, h2]
        by_cases hc : c = 44 <;> simp [hc]
end Go.Proofs.Rg
namespace Go.Proofs.Ytdkgilgnijcklaa
open Go.RowKit
def str (p : List UInt8) : Value := .string ⟨p.toArray⟩
def CRel (w : World) (l : List UInt8) (v i : Value) (wr : World) : Prop :=
  ∃ k : Nat, k ≤ l.length ∧ i = .int .i64 k ∧ wr.ownsRow w.heap.size 9 1 v (Rg.pieces (l.take k)).length ((Rg.pieces (l.take k)).map str) ∧ Below w.heap.size w wr
theorem take_snoc (s : ByteArray) (k : Nat) (h : k < s.size) : s.data.toList.take (k + 1) = s.data.toList.take k ++ [s[k]] := by
  rw [List.take_succ_eq_append_getElem (by simpa using h)]; rfl
theorem ext_one (s : ByteArray) (k : Nat) (h : k < s.size) : (s.extract k (k + 1)).data.toList = [s[k]] := by
  have h' : k < s.data.toList.length := by simpa using h
  rw [ByteArray.data_extract, Array.toList_extract, List.extract_eq_take_drop, show k + 1 - k = 1 from by omega, List.drop_eq_getElem_cons h', List.take_succ_cons, List.take_zero]
  rfl
set_option maxHeartbeats 2000000 in
theorem rcut (s : ByteArray) (hs : s.size ≤ 1048576) (w : World) : Calls Try.prog 28 #[.string s, .int .u8 44] w fun e w' => ∃ v, e = .returned v ∧ w'.ownsRow w.heap.size 9 1 v (Rg.pieces s.data.toList).length ((Rg.pieces s.data.toList).map str) ∧ Below w.heap.size w w' := by
  obtain ⟨i0, hi, hz0, hz1, hz2⟩ := info_parts Try.info9
  go_enter Try.func28, Try.ntmps28
  go_wp2
  go_loopw [5, 10] (fun v i wr => CRel w s.data.toList v i wr) (fun _ i _ => s.size - (intOf i).toNat)
  case atStart => exact ⟨0, Nat.zero_le _, rfl, World.ownsRow_lit _ _ _ (Nat.le_refl _) (by decide) rfl, (Below.refl _ _).alloc (Nat.le_refl _) _⟩
  case round =>
    obtain ⟨k, hk, rfl, hown, hB⟩ := hrel
    have hks : k ≤ s.size := by simpa using hk
    have hzz : w.heap.size ≤ wr.heap.size := hB.size
    by_cases hlt : k < s.size
    · obtain ⟨ps, last, h1, h2, h3⟩ := Rg.pieces_snoc (s.data.toList.take k) s[k]
      rw [← take_snoc s k hlt] at h2
      have hl3 : (s.data.toList.take k).length ≤ k := List.length_take_le _ _
      rw [h1] at hown
      by_cases hc : s[k] = 44
      · rw [if_pos hc] at h2
        have HS : Hid (Rg.pieces (s.data.toList.take (k + 1)) = ps ++ [last] ++ [[]]) := h2
        have ht : ((s[k].toNat : Int) == 44) = true := by rw [hc]; rfl
        have hpl : (ps ++ [last]).length ≤ 1048577 := by simp; omega
        clear h1 h2 h3 hl3 hc
        go_wp2_with (at_builtin; refine wpList_append_own _ rfl _ _ 29 rfl w.heap.size 9 i0 (.string ByteArray.empty) 1 16 Try.underlying29 hi hz0 hz1 hz2 rfl (by decide) _ _ _ rfl (hown.alloc _) ⟨wr.heap.size, 0, none⟩ 1 1 [.string ⟨#[]⟩] rfl rfl ?c1 ?c2 ?c3 ?c4 ?c5 ?_)
        case c1 =>
          intro j u hj
          match j, hj with
          | 0, hj => simp at hj; subst hj; simp [Addr.add]
        case c2 => intro u hu; simp at hu; subst hu; rfl
        case c3 => unfold maxLen; omega
        case c4 => omega
        case c5 => simp; omega
        intro v' w2 hown' hgrow _
        have hb2 : Below w.heap.size w w2 := (hB.alloc hzz _).grown hgrow (by simp; omega) (fun j hj => (hown.lt j hj).1)
        have hown2 : w2.ownsRow w.heap.size 9 1 v' (Rg.pieces (s.data.toList.take (k + 1))).length ((Rg.pieces (s.data.toList.take (k + 1))).map str) := by
          rw [HS.out]; simpa [str] using hown'
        clear hown' hgrow hown hB
        go_wp2
        go_roundw
        case rel => exact ⟨k + 1, by simp; omega, by go_num, hown2, hb2⟩
        case measure => simp [intOf]; omega
      · rw [if_neg hc] at h2
        have HS : Hid (Rg.pieces (s.data.toList.take (k + 1)) = ps ++ [last ++ [s[k]]]) := h2
        have ht : ((s[k].toNat : Int) == 44) = false := by
          rw [beq_eq_false_iff_ne]; intro h; exact hc (UInt8.toNat_inj.1 (by simpa using (by omega : s[k].toNat = 44)))
        clear h1 h2 hc
        have hlen : (ps ++ [last]).length = ps.length + 1 := by simp
        rw [hlen] at hown
        generalize hM : ps.length = m at *
        have hown0 := hown
        rcases hown.2 with ⟨_, h0⟩ | ⟨g, cap, cur, rfl, hg1, hg2, hg3, hg4, hg5, hg6⟩
        · omega
        have hcell : wr.cell? ⟨g, m, none⟩ = some (.string ⟨last.toArray⟩) := by
          rw [hown.cellAt m (by omega), ← hM]; simp [str]
        have hfz : wr.frozen? ⟨g, m, none⟩ = false := hown.frozenAt m
        have hST := hown.stored m (.string (⟨last.toArray⟩ ++ s.extract k (k + 1)))
        have hB2 : Below w.heap.size w (wr.setCell ⟨g, m, none⟩ (.string (⟨last.toArray⟩ ++ s.extract k (k + 1)))) := hB.setCell hg1 _
        have hx : (⟨last.toArray⟩ ++ s.extract k (k + 1) : ByteArray) = ⟨(last ++ [s[k]]).toArray⟩ := by
          exact Rg.bytes_ext (by rw [ByteArray.data_append, Array.toList_append, ext_one s k hlt])
        have hST2 : (wr.setCell ⟨g, m, none⟩ (.string (⟨last.toArray⟩ ++ s.extract k (k + 1)))).ownsRow w.heap.size 9 1 (.slice (some ⟨g, 0, none⟩) (m + 1) cap) (Rg.pieces (s.data.toList.take (k + 1))).length ((Rg.pieces (s.data.toList.take (k + 1))).map str) := by
          have e1 : (Rg.pieces (s.data.toList.take (k + 1))).length = m + 1 := by rw [HS.out]; simp [hM]
          have e2 : (Rg.pieces (s.data.toList.take (k + 1))).map str = ((ps ++ [last]).map str).set m (.string (⟨last.toArray⟩ ++ s.extract k (k + 1))) := by
            rw [HS.out, hx, List.map_append, List.map_append, ← hM, List.set_append_right _ _ (by simp)]
            simp [str]
          rw [e1, e2]
          exact hST.1
        have HST : Hid (CRel w s.data.toList (.slice (some ⟨g, 0, none⟩) (m + 1) cap) (.int .i64 ((k + 1 : Nat) : Int)) (wr.setCell ⟨g, m, none⟩ (.string (⟨last.toArray⟩ ++ s.extract k (k + 1)))).drew) := ⟨k + 1, by simp; omega, rfl, hST2.drew, hB2.drew⟩
        have hll : last.length ≤ 1048576 := by omega
        have hmm : m ≤ 1048576 := by omega
        clear hx hST hST2 hB2 hg1 hg2 hg4 hg5 hg6 hown hown0 hM HS hB h3 hl3 hlen
        go_wp2
        go_region
        all_goals (try go_wp2)
        all_goals go_roundw
        case rel => exact HST.out
        case measure => simp [intOf]; omega
    · obtain rfl : k = s.size := by omega
      have e : s.data.toList.take s.size = s.data.toList := List.take_of_length_le (by simp)
      rw [e] at hown
      go_wp2
      go_ret
      exact ⟨_, rfl, hown, hB⟩
end Go.Proofs.Ytdkgilgnijcklaa
