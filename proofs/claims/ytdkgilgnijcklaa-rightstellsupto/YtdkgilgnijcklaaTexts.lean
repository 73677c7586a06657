/-
  Texts and words of sets, written and read again: plain facts.
-/
import Derived.Test.YtdkgilgnijcklaaWalkD
namespace Go.Proofs.Rg
theorem lo_hi (n : Nat) (h : n < 4096) : okw (lo n : Nat) (hi n : Nat) = true ∧ fw (lo n : Nat) (hi n : Nat) = n := by
  unfold okw fw lo hi
  constructor
  · rw [decide_eq_true_eq]; omega
  · omega
theorem fw_back (a b : Int) (h : okw a b = true) : ((lo (fw a b) : Nat) : Int) = a ∧ ((hi (fw a b) : Nat) : Int) = b := by
  unfold okw at h
  have h := of_decide_eq_true h
  unfold fw lo hi
  omega
end Go.Proofs.Rg
namespace Go.Proofs.Ytdkgilgnijcklaa
open Go.RowKit
/-! ### Texts of sets, read again -/
theorem sel_congr (a b : Nat) : ∀ k, (∀ j, j < k → a.testBit j = b.testBit j) → sel a k = sel b k
  | 0, _ => rfl
  | k + 1, h => by rw [sel, sel, h k (Nat.lt_succ_self _), sel_congr a b k (fun j hj => h j (Nat.lt_succ_of_lt hj))]
theorem sel_stop (a i : Nat) (h : a < 2 ^ i) : ∀ k, i ≤ k → sel a k = sel a i
  | 0, hk => by have : i = 0 := by omega
                rw [this]
  | k + 1, hk => by
    by_cases e : i = k + 1
    · rw [e]
    · have ht : a.testBit k = false := Nat.testBit_lt_two_pow (Nat.lt_of_lt_of_le h (Nat.pow_le_pow_right (by decide) (by omega)))
      rw [sel, if_neg (by rw [ht]; simp), sel_stop a i h k (by omega)]
def selL (n k : Nat) : List (List UInt8) := (sel n k).map (·.data.toList)
theorem selL_succ (n k : Nat) (h : n.testBit k = true) (p : List UInt8) (hp : Rg.nmL[k]? = some p) : selL n (k + 1) = selL n k ++ [p] := by
  unfold selL
  rw [sel, if_pos h, List.map_append]
  congr 1
  rw [← Rg.nm_nmL, List.getElem?_map] at hp
  cases hq : Rg.nm[k]? with
  | none => rw [hq] at hp; simp at hp
  | some x => rw [hq] at hp; simpa using hp
theorem idx_at (k : Nat) (p : List UInt8) (h : Rg.nmL[k]? = some p) : Rg.idx p = (k : Int) := by
  have hk : k < 12 := by have := (List.getElem?_eq_some_iff.1 h).1; exact this
  match k, hk, h with
  | 0, _, h | 1, _, h | 2, _, h | 3, _, h | 4, _, h | 5, _, h | 6, _, h | 7, _, h | 8, _, h | 9, _, h | 10, _, h | 11, _, h => simp [Rg.nmL] at h; subst h; rfl
theorem join_pow (n k : Nat) (h : n.testBit k = true) : Rg.join (n % 2 ^ k) (2 ^ k) = n % 2 ^ (k + 1) := by
  unfold Rg.join
  apply Nat.eq_of_testBit_eq
  intro j
  rw [Nat.testBit_or, Nat.testBit_mod_two_pow, Nat.testBit_mod_two_pow, Nat.testBit_two_pow]
  by_cases h1 : j = k
  · subst h1; simp [h]
  · by_cases h2 : j < k
    · have : ¬ k = j := by omega
      simp [h2, this, Nat.lt_succ_of_lt h2]
    · have a1 : ¬ k = j := by omega
      have a2 : ¬ j < k + 1 := by omega
      simp [h2, a1, a2]
theorem mod_pow (n k : Nat) (h : n.testBit k = false) : n % 2 ^ (k + 1) = n % 2 ^ k := by
  apply Nat.eq_of_testBit_eq
  intro j
  rw [Nat.testBit_mod_two_pow, Nat.testBit_mod_two_pow]
  by_cases h1 : j = k
  · subst h1; simp [h]
  · have : j < k + 1 ↔ j < k := by omega
    simp [this]
theorem prs_sel (n : Nat) : ∀ k : Nat, k ≤ 12 → ∃ last : Int, -1 ≤ last ∧ last < k ∧ ∀ rest, Rg.prs (selL n k ++ rest) 0 (-1) = Rg.prs rest (n % 2 ^ k) last
  | 0, _ => ⟨-1, by omega, by omega, fun rest => by rw [Nat.pow_zero, Nat.mod_one]; rfl⟩
  | k + 1, hk => by
    obtain ⟨last, h1, h2, h3⟩ := prs_sel n k (by omega)
    cases hb : n.testBit k with
    | false =>
      refine ⟨last, h1, by omega, fun rest => ?_⟩
      have e : selL n (k + 1) = selL n k := by unfold selL; rw [sel, if_neg (by rw [hb]; simp)]
      rw [e, h3, mod_pow n k hb]
    | true =>
      obtain ⟨p, hp⟩ : ∃ p, Rg.nmL[k]? = some p := ⟨Rg.nmL[k]'(by rw [Rg.nmL_length]; omega), List.getElem?_eq_getElem _⟩
      refine ⟨k, by omega, by omega, fun rest => ?_⟩
      rw [selL_succ n k hb p hp, List.append_assoc, h3, List.singleton_append, prs_on p rest _ last k (idx_at k p hp) (by omega), join_pow n k hb]
theorem pieces_join : ∀ (xs : List (List UInt8)), xs ≠ [] → (∀ x ∈ xs, ∀ k : Nat, x[k]? ≠ some 44) → Rg.pieces (Lib.join xs [44]) = xs
  | [], h, _ => absurd rfl h
  | [x], _, h => by rw [Lib.join_one, Rg.pieces_no x (h x (by simp))]
  | x :: y :: r, _, h => by
    have ih := pieces_join (y :: r) (by simp) (fun z hz => h z (by simp [hz]))
    have e : Lib.join (x :: y :: r) [44] = x ++ 44 :: Lib.join (y :: r) [44] := by
      rw [Lib.join_cons, Lib.join_cons]
      simp [Lib.joinTail]
    rw [e]
    have hx := h x (by simp)
    rw [Rg.pieces_at (x ++ 44 :: Lib.join (y :: r) [44]) x.length (by simp) (fun k hk => by rw [List.getElem?_append_left hk]; exact hx k)]
    have e1 : List.take x.length (x ++ 44 :: Lib.join (y :: r) [44]) = x := by simp
    have e2 : List.drop (x.length + 1) (x ++ 44 :: Lib.join (y :: r) [44]) = Lib.join (y :: r) [44] := by simp
    rw [e1, e2, ih]
theorem join_pieces : ∀ l : List UInt8, Lib.join (Rg.pieces l) [44] = l
  | [] => rfl
  | c :: r => by
    have ih := join_pieces r
    obtain ⟨p, ps, hp⟩ : ∃ p ps, Rg.pieces r = p :: ps := by
      cases h : Rg.pieces r with
      | nil => exact absurd h (Rg.pieces_ne r)
      | cons p ps => exact ⟨p, ps, rfl⟩
    rw [hp, Lib.join_cons] at ih
    rw [Rg.pieces, hp]
    by_cases hc : c = 44
    · rw [if_pos hc, Lib.join_cons]
      subst hc
      simp only [Lib.joinTail, List.map_cons, List.flatten_cons] at ih ⊢
      simp [← ih]
    · rw [if_neg hc]
      show Lib.join ((c :: p) :: ps) [44] = c :: r
      rw [Lib.join_cons, ← ih]
      rfl
theorem nmL_plain : ∀ x ∈ Rg.nmL, ∀ k : Nat, x[k]? ≠ some 44 := by
  intro x hx k h
  have h44 : (44 : UInt8) ∈ x := List.mem_of_getElem? h
  clear h
  revert h44
  revert x
  decide
theorem selL_mem (n k : Nat) (x : List UInt8) (h : x ∈ selL n k) : x ∈ Rg.nmL := by
  unfold selL at h
  obtain ⟨y, hy, rfl⟩ := List.mem_map.1 h
  rw [← Rg.nm_nmL]
  exact List.mem_map_of_mem (sel_mem n y k hy)
theorem parse_print (n : Nat) (hn : n < 4096) : Rg.parse (printL n) = (n, 0) := by
  obtain ⟨last, _, _, h⟩ := prs_sel n 12 (Nat.le_refl _)
  have h := h []
  rw [List.append_nil, Rg.prs, Nat.mod_eq_of_lt hn] at h
  have e : printL n = Lib.join (selL n 12) [44] := rfl
  by_cases hs : selL n 12 = []
  · rw [e, hs]
    rw [hs] at h
    exact h
  · have hne : Lib.join (selL n 12) [44] ≠ [] := by
      intro h0
      have hp := pieces_join (selL n 12) hs (fun x hx => nmL_plain x (selL_mem n 12 x hx))
      rw [h0] at hp
      have : ([] : List UInt8) ∈ selL n 12 := by rw [← hp]; simp [Rg.pieces]
      have := selL_mem n 12 [] this
      revert this; decide
    rw [e]
    unfold Rg.parse
    rw [if_neg hne, pieces_join (selL n 12) hs (fun x hx => nmL_plain x (selL_mem n 12 x hx)), h]
theorem prs_ok (a : Nat) : ∀ (ps : List (List UInt8)) (set i : Nat), set < 2 ^ i → i ≤ 12 → Rg.prs ps set ((i : Int) - 1) = (a, 0) → a < 4096 ∧ selL set i ++ ps = selL a 12
  | [], set, i, hs, hi, h => by
    rw [Rg.prs] at h
    obtain rfl : set = a := congrArg Prod.fst h
    refine ⟨Nat.lt_of_lt_of_le hs (Nat.pow_le_pow_right (by decide) hi), ?_⟩
    unfold selL
    rw [List.append_nil, sel_stop set i hs 12 hi]
  | p :: ps, set, i, hs, hi, h => by
    rcases Rg.idx_cases p with h1 | ⟨k, hk, h1, h2⟩
    · rw [Rg.prs, if_pos (by omega)] at h; simp at h
    · by_cases h3 : (k : Int) ≤ (i : Int) - 1
      · rw [Rg.prs, if_neg (by omega), if_pos (by omega)] at h; simp at h
      · rw [prs_on p ps set _ k h1 h3] at h
        have hjb : ∀ j, (Rg.join set (2 ^ k)).testBit j = (set.testBit j || decide (k = j)) := fun j => by unfold Rg.join; rw [Nat.testBit_or, Nat.testBit_two_pow]
        have hlt : Rg.join set (2 ^ k) < 2 ^ (k + 1) := by
          unfold Rg.join
          exact Nat.or_lt_two_pow (Nat.lt_of_lt_of_le hs (Nat.pow_le_pow_right (by decide) (by omega))) (Nat.pow_lt_pow_right (by decide) (by omega))
        have ek : ((k + 1 : Nat) : Int) - 1 = (k : Int) := by omega
        have ih := prs_ok a ps (Rg.join set (2 ^ k)) (k + 1) hlt (by omega) (by rw [ek]; exact h)
        refine ⟨ih.1, ?_⟩
        rw [← ih.2, selL_succ _ k (by rw [hjb]; simp) p h2]
        have e1 : selL (Rg.join set (2 ^ k)) k = selL set i := by
          unfold selL
          rw [← sel_stop set i hs k (by omega), sel_congr (Rg.join set (2 ^ k)) set k (fun j hj => by rw [hjb]; have : ¬ k = j := by omega
                                                                                                      simp [this])]
        rw [e1, List.append_assoc, List.singleton_append]
theorem parse_ok (l : List UInt8) (a : Nat) (h : Rg.parse l = (a, 0)) : a < 4096 ∧ printL a = l := by
  unfold Rg.parse at h
  by_cases h0 : l = []
  · rw [if_pos h0] at h
    obtain rfl : 0 = a := congrArg Prod.fst h
    exact ⟨by decide, by rw [h0]; decide +kernel⟩
  · rw [if_neg h0] at h
    have := prs_ok a (Rg.pieces l) 0 0 (by decide) (by decide) h
    refine ⟨this.1, ?_⟩
    show Lib.join (selL a 12) [44] = l
    rw [← this.2]
    show Lib.join (Rg.pieces l) [44] = l
    exact join_pieces l
end Go.Proofs.Ytdkgilgnijcklaa
