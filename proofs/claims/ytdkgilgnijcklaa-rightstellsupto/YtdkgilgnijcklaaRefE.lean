/-
  The document's own answer, chapter 1: a text read.
-/
import Derived.Test.YtdkgilgnijcklaaRefD
namespace Go.Proofs.Ytdkgilgnijcklaa
open Go.RowKit
/-- the place found so far -/
def At (p : List UInt8) (k : Nat) (A : Int) : Prop := (A = -1 ∧ ∀ j, j < k → Rg.nmL[j]? ≠ some p) ∨ ∃ j : Nat, j < k ∧ A = j ∧ Rg.nmL[j]? = some p
theorem At_end (p : List UInt8) (A : Int) (h : At p 12 A) : A = Rg.idx p := by
  rcases h with ⟨rfl, h⟩ | ⟨j, hj, rfl, h⟩
  · unfold Rg.idx
    rw [Rg.idxIn_miss]
    intro j e
    by_cases hj : j < 12
    · exact h j hj e
    · rw [List.getElem?_eq_none (by rw [Rg.nmL_length]; omega)] at e; simp at e
  · exact (idx_at j p h).symm
def RPRel (w : World) (g : Nat) (ps : List (List UInt8)) (R : Nat × Nat) (nx i : Value) (wr : World) : Prop :=
  ∃ k next set : Nat, k ≤ ps.length ∧ i = .int .i64 k ∧ nx = .int .i64 next ∧ next ≤ 12 ∧ set < 2 ^ next ∧ R = Rg.prs (ps.drop k) set ((next : Int) - 1) ∧
    (∀ j, j < 12 → wr.cell? ⟨w.heap.size, j, none⟩ = some (.bool (Rg.bt set j))) ∧ (∀ j, wr.frozen? ⟨w.heap.size, j, none⟩ = false) ∧
    (∀ (j : Nat) p, ps[j]? = some p → wr.cell? ⟨g, j, none⟩ = some (.string ⟨p.toArray⟩)) ∧ w.heap.size < g ∧ g < wr.heap.size ∧ Below w.heap.size w wr
theorem bt_join (set k j : Nat) : Rg.bt (Rg.join set (2 ^ k)) j = (Rg.bt set j || decide (k = j)) := by
  unfold Rg.bt Rg.join; rw [Nat.testBit_or, Nat.testBit_two_pow]
theorem RP_step {w wr : World} {g : Nat} {ps : List (List UInt8)} {R : Nat × Nat} {k next set a : Nat} {p : List UInt8} (hp : ps[k]? = some p) (ha : a < 12) (hidx : Rg.idx p = (a : Int)) (hn : next ≤ a) (hset : set < 2 ^ next)
    (hR : R = Rg.prs (ps.drop k) set ((next : Int) - 1))
    (h1 : ∀ j, j < 12 → wr.cell? ⟨w.heap.size, j, none⟩ = some (.bool (Rg.bt set j))) (h2 : ∀ j, wr.frozen? ⟨w.heap.size, j, none⟩ = false)
    (h3 : ∀ (j : Nat) p, ps[j]? = some p → wr.cell? ⟨g, j, none⟩ = some (.string ⟨p.toArray⟩)) (h4 : w.heap.size < g) (h5 : g < wr.heap.size) (h6 : Below w.heap.size w wr) :
    RPRel w g ps R (.int .i64 ((a + 1 : Nat) : Int)) (.int .i64 ((k + 1 : Nat) : Int)) (wr.setCell ⟨w.heap.size, a, none⟩ (.bool true)) := by
  have hkl : k < ps.length := (List.getElem?_eq_some_iff.1 hp).1
  refine ⟨k + 1, a + 1, Rg.join set (2 ^ a), hkl, rfl, rfl, by omega, ?_, ?_, fun j hj => ?_, fun j => ?_, fun j q hq => ?_, h4, by simpa using h5, h6.setCell (Nat.le_refl _) _⟩
  · unfold Rg.join
    exact Nat.or_lt_two_pow (Nat.lt_of_lt_of_le hset (Nat.pow_le_pow_right (by decide) (by omega))) (Nat.pow_lt_pow_right (by decide) (by omega))
  · have hd : ps.drop k = p :: ps.drop (k + 1) := by
      rw [List.drop_eq_getElem_cons hkl]
      congr 1
      exact Option.some.inj ((List.getElem?_eq_getElem hkl).symm.trans hp)
    rw [hR, hd, prs_on p _ set _ a hidx (by omega)]
    congr 1
    omega
  · by_cases e : j = a
    · subst e
      rw [World.cell?_setCell_same _ _ _ (h1 j hj), bt_join]; simp
    · have e' : ¬ a = j := fun h => e h.symm
      rw [World.cell?_setCell_other _ _ _ _ (by simp), h1 j hj, bt_join]; simp [e']
  · rw [World.frozen?_setCell, h2]
  · rw [World.cell?_setCell_other _ _ _ _ (by simp), h3 j q hq]
set_option maxHeartbeats 2000000 in
theorem rparse_some (s : ByteArray) (hs : s.size ≤ 1048576) (h0 : s.data.toList ≠ []) (w : World) :
    Calls Try.prog 7 #[.string s] w fun e w' => e = .returned (.tuple #[.int .i64 ((Rg.parse s.data.toList).1 : Nat), .int .i64 ((Rg.parse s.data.toList).2 : Nat)]) ∧ Below w.heap.size w w' := by
  have hne : (s.toList == []) = false := by rw [ByteArray.toList_eq]; cases h : s.data.toList <;> simp_all
  have HP : Hid (Rg.parse s.data.toList = Rg.prs (Rg.pieces s.data.toList) 0 (-1)) := by unfold Rg.parse; rw [if_neg h0]; exact rfl
  have HS : Hid (s.size ≤ 1048576) := hs
  have HL : Hid ((Rg.pieces s.data.toList).length ≤ 1048577) := by
    have hl : s.data.toList.length ≤ 1048576 := by simpa using hs
    generalize s.data.toList = l at *
    have : ∀ l, (Rg.pieces l).length ≤ l.length + 1 := by
      intro l
      induction l with
      | nil => simp [Rg.pieces]
      | cons c r ih =>
        rw [Rg.pieces]; split
        · simp; omega
        · split
          · rename_i h; rw [h] at ih; simp at ih ⊢; omega
          · simp
    have := this l
    show _ ≤ _
    omega
  have HNE : Hid ((Rg.pieces s.data.toList) ≠ []) := Rg.pieces_ne _
  generalize Rg.parse s.data.toList = R at *
  clear h0 hs
  go_enter Try.func7, Try.ntmps7
  go_wp2_with fail
  refine (rcut s HS.out _).mono ?_
  rintro e w1 ⟨v, rfl, hown, hb1⟩
  generalize Rg.pieces s.data.toList = ps at *
  have hlp := HL.out
  rcases hown.2 with ⟨_, hh⟩ | ⟨g, cap, cur, rfl, hg1, hg2, hg3, hg4, hg5, hg6⟩
  · exact absurd (List.length_eq_zero_iff.1 hh) HNE.out
  have hgs : g < w1.heap.size := (hown.lt g rfl).2
  have hgw : w.heap.size < g := by simp at hg1; omega
  have HR : Hid (RPRel w g ps R (.int .i64 0) (.int .i64 0) w1) := by
    refine ⟨0, 0, 0, Nat.zero_le _, rfl, rfl, Nat.zero_le _, by decide, HP.out, fun j hj => ?_, fun j => ?_, fun j p hp => ?_, hgw, hgs, ((Below.refl w.heap.size w).alloc (Nat.le_refl _) _).trans (hb1.mono (by simp))⟩
    · refine (hb1.cell (p := ⟨w.heap.size, j, none⟩) (by simp)).trans ?_
      rw [World.cell?_alloc_at _ _ _ _ rfl]
      have h : j = 0 ∨ j = 1 ∨ j = 2 ∨ j = 3 ∨ j = 4 ∨ j = 5 ∨ j = 6 ∨ j = 7 ∨ j = 8 ∨ j = 9 ∨ j = 10 ∨ j = 11 := by omega
      rcases h with rfl | rfl | rfl | rfl | rfl | rfl | rfl | rfl | rfl | rfl | rfl | rfl <;> rfl
    · exact (hb1.frozen (p := ⟨w.heap.size, j, none⟩) (by simp)).trans (by simp)
    · rw [hown.cellAt j (by have := (List.getElem?_eq_some_iff.1 hp).1; omega), List.getElem?_map, hp]; rfl
  clear hown hg1 hg2 hg4 hg5 hg6 hgs hgw hb1
  go_wp2
  go_loopw [5, 16] (fun nx i wr => RPRel w g ps R nx i wr) (fun _ i _ => ps.length - (intOf i).toNat)
  case atStart => exact HR.out
  case round =>
    clear HR
    obtain ⟨k, next, set, hk, rfl, rfl, hnx, hset, hR, h1, h2, h3, h4, h5, h6⟩ := hrel
    by_cases hlt : k < ps.length
    · obtain ⟨p, hp⟩ : ∃ p, ps[k]? = some p := ⟨ps[k], List.getElem?_eq_getElem hlt⟩
      have hcp := h3 k p hp
      have hki : (k : Int) < (ps.length : Int) := by omega
      have H1 : Hid (∀ j, j < 12 → wr.cell? ⟨w.heap.size, j, none⟩ = some (.bool (Rg.bt set j))) := h1
      have H2 : Hid (∀ j, wr.frozen? ⟨w.heap.size, j, none⟩ = false) := h2
      have H3 : Hid (∀ (j : Nat) p, ps[j]? = some p → wr.cell? ⟨g, j, none⟩ = some (.string ⟨p.toArray⟩)) := h3
      have HRR : Hid (R = Rg.prs (ps.drop k) set ((next : Int) - 1)) := hR
      have HPP : Hid (ps[k]? = some p) := hp
      have HSET : Hid (set < 2 ^ next) := hset
      clear h1 h2 h3 hR hp hset
      go_wp2_with fail
      refine (rnames _).mono ?_
      rintro e w2 ⟨rfl, hb2, hs2, hc2⟩
      have HC : Hid (∀ (j : Nat) x, Rg.nm[j]? = some x → w2.cell? ⟨wr.heap.size, j, none⟩ = some (.string x)) := hc2
      have hwz : w.heap.size < wr.heap.size := by omega
      have G1 : Hid (∀ j, j < 12 → w2.cell? ⟨w.heap.size, j, none⟩ = some (.bool (Rg.bt set j))) := fun j hj => (hb2.cell (p := ⟨w.heap.size, j, none⟩) hwz).trans (H1.out j hj)
      have G2 : Hid (∀ j, w2.frozen? ⟨w.heap.size, j, none⟩ = false) := fun j => (hb2.frozen (p := ⟨w.heap.size, j, none⟩) hwz).trans (H2.out j)
      have G3 : Hid (∀ (j : Nat) p, ps[j]? = some p → w2.cell? ⟨g, j, none⟩ = some (.string ⟨p.toArray⟩)) := fun j q hq => (hb2.cell (p := ⟨g, j, none⟩) h5).trans (H3.out j q hq)
      have hB2 : Below w.heap.size w w2 := h6.trans (hb2.mono (by omega))
      have hg2 : g < w2.heap.size := by have := hb2.size; omega
      clear hc2 hb2 hs2 H1 H2 H3 h6 hcp
      go_wp2
      go_loop [8, 22] (fun at' kk => ∃ (m : Nat) (A : Int), m ≤ 12 ∧ kk = .int .i64 m ∧ at' = .int .i64 A ∧ At p m A) (fun _ kk => 12 - (intOf kk).toNat)
      case atStart => exact ⟨0, -1, Nat.zero_le _, rfl, rfl, .inl ⟨rfl, fun j hj => absurd hj (Nat.not_lt_zero _)⟩⟩
      case round =>
        obtain ⟨m, A, hm, rfl, rfl, hA⟩ := hrel
        by_cases hm12 : m < 12
        · obtain ⟨y, hy⟩ : ∃ y, Rg.nm[m]? = some y := ⟨Rg.nm[m], List.getElem?_eq_getElem (by rw [Rg.nm_length]; exact hm12)⟩
          have hcy := HC.out m y hy
          have hnl := Rg.nmL_get m y hy
          by_cases he : p = y.data.toList
          · have ht : (p == y.toList) = true := by rw [ByteArray.toList_eq, he]; simp
            have HA2 : Hid (At p (m + 1) (m : Int)) := .inr ⟨m, Nat.lt_succ_self _, rfl, by rw [hnl, he]⟩
            clear hA hnl he hy
            go_wp2
            go_round
            case rel => exact ⟨m + 1, m, by omega, by go_num, rfl, HA2.out⟩
            case measure => simp [intOf]; omega
          · have ht : (p == y.toList) = false := by rw [ByteArray.toList_eq]; simp [he]
            have HA2 : Hid (At p (m + 1) A) := by
              rcases hA with ⟨rfl, hA⟩ | ⟨j, hj, rfl, hA⟩
              · refine .inl ⟨rfl, fun j hj => ?_⟩
                by_cases e : j = m
                · subst e; rw [hnl]; intro e2; exact he (Option.some.inj e2).symm
                · exact hA j (by omega)
              · exact .inr ⟨j, by omega, rfl, hA⟩
            clear hA hnl he hy
            go_wp2
            go_round
            case rel => exact ⟨m + 1, A, by omega, by go_num, rfl, HA2.out⟩
            case measure => simp [intOf]; omega
        · obtain rfl : m = 12 := by omega
          have hAi := At_end p A hA
          have hix : Rg.idx p = -1 ∨ 0 ≤ Rg.idx p ∧ Rg.idx p < 12 := by rcases Rg.idx_cases p with h | ⟨k, h1, h2, _⟩ <;> omega
          rw [← hAi] at hix
          have HI : Hid (Rg.idx p = A) := hAi.symm
          have HD : Hid (ps.drop k = p :: ps.drop (k + 1)) := by
            rw [Hid, List.drop_eq_getElem_cons hlt]
            congr 1
            exact Option.some.inj ((List.getElem?_eq_getElem hlt).symm.trans HPP.out)
          clear hA hAi
          by_cases a1 : A < 0
          · have hR : R = (0, 6) := by rw [HRR.out, HD.out, Rg.prs, if_pos (by rw [HI.out]; exact a1)]
            subst hR
            go_wp2
            go_ret2
            exact ⟨rfl, hB2⟩
          · by_cases a2 : A < next
            · have hR : R = (0, 2) := by rw [HRR.out, HD.out, Rg.prs, if_neg (by rw [HI.out]; exact a1), if_pos (by rw [HI.out]; omega)]
              subst hR
              go_wp2
              go_ret2
              exact ⟨rfl, hB2⟩
            · obtain ⟨a, rfl⟩ := Int.eq_ofNat_of_zero_le (Int.not_lt.1 a1)
              have ha : a < 12 := by omega
              have hca := G1.out a ha
              have hfa := G2.out a
              have ST : Hid (RPRel w g ps R (.int .i64 ((a + 1 : Nat) : Int)) (.int .i64 ((k + 1 : Nat) : Int)) (w2.setCell ⟨w.heap.size, a, none⟩ (.bool true))) :=
                RP_step HPP.out ha HI.out (by omega) HSET.out HRR.out G1.out G2.out G3.out h4 hg2 hB2
              go_wp2
              go_roundw
              case rel => exact ST.out
              case measure => simp [intOf]; omega
    · obtain rfl : k = ps.length := by omega
      have hR2 : R = (set, 0) := by rw [hR, List.drop_length]; rfl
      subst hR2
      have c0 := h1 0 (by decide)
      have c1 := h1 1 (by decide)
      have c2 := h1 2 (by decide)
      have c3 := h1 3 (by decide)
      have c4 := h1 4 (by decide)
      have c5 := h1 5 (by decide)
      have c6 := h1 6 (by decide)
      have c7 := h1 7 (by decide)
      have c8 := h1 8 (by decide)
      have c9 := h1 9 (by decide)
      have c10 := h1 10 (by decide)
      have c11 := h1 11 (by decide)
      have hsl : set < 4096 := Nat.lt_of_lt_of_le hset (Nat.pow_le_pow_right (n := 2) (by decide) (by omega : next ≤ 12))
      have HN : Hid (Rg.nU (Rg.bt set) 12 = set) := Rg.num_of set (Rg.bt set) (fun _ _ => rfl) hsl
      clear h1 h2 h3 hR hset
      go_wp2_with fail
      refine (rnum (Rg.bt set) _).mono ?_
      rintro e w9 ⟨rfl, hb9⟩
      have hE : Below w.heap.size w w9 := h6.trans (hb9.mono h6.size)
      rw [HN.out]
      go_wp2
      go_ret2
      exact ⟨rfl, hE⟩
theorem rparse (s : ByteArray) (hs : s.size ≤ 1048576) (w : World) :
    Calls Try.prog 7 #[.string s] w fun e w' => e = .returned (.tuple #[.int .i64 ((Rg.parse s.data.toList).1 : Nat), .int .i64 ((Rg.parse s.data.toList).2 : Nat)]) ∧ Below w.heap.size w w' := by
  by_cases h0 : s.data.toList = []
  · have hne : (s.toList == []) = true := by rw [ByteArray.toList_eq, h0]; rfl
    have hp : Rg.parse s.data.toList = (0, 0) := by unfold Rg.parse; rw [if_pos h0]
    rw [hp]
    clear hp h0
    go_enter Try.func7, Try.ntmps7
    go_wp2
    go_ret2
    exact ⟨rfl, Below.refl _ _⟩
  · exact rparse_some s hs h0 w
end Go.Proofs.Ytdkgilgnijcklaa
