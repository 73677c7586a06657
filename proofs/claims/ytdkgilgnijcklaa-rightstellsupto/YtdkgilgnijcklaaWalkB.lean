/-
  What Parse of package rights answers, at every text.
-/
import Derived.Test.YtdkgilgnijcklaaWalkA
namespace Go.Proofs.Ytdkgilgnijcklaa
open Go.RowKit
theorem sindex_list (b c : Nat) (p : List UInt8) (w : World) (hc : ∀ (j : Nat) y, Rg.nm[j]? = some y → w.cell? ⟨b, j, none⟩ = some (.string y)) :
    Calls Try.prog 27 #[.slice (some ⟨b, 0, none⟩) 12 c, .string ⟨p.toArray⟩] w fun e w' => e = .returned (.int .i64 (Rg.idx p)) ∧ w' = w :=
  sindex_any b c ⟨p.toArray⟩ w hc
theorem pow_lt (k : Nat) (h : k < 12) : 2 ^ k < 4096 := Nat.lt_of_le_of_lt (Nat.pow_le_pow_right (by decide) (by omega : k ≤ 11)) (by decide)
theorem or_step (set k : Nat) (hs : set < 4096) (h : k < 12) : bits .or .i64 (set : Int) (wrap64 (2 ^ k)) = ((Rg.join set (2 ^ k) : Nat) : Int) := by
  have h1 := pow_lt k h
  have e : wrap64 ((2 : Int) ^ k) = ((2 ^ k : Nat) : Int) := by
    have e0 : ((2 ^ k : Nat) : Int) = (2 : Int) ^ k := by simp
    rw [← e0]; clear e0; generalize 2 ^ k = x at *; unfold wrap64; omega
  rw [e, Rg.i64_or set (2 ^ k) hs h1]
theorem prs_on (p : List UInt8) (ps : List (List UInt8)) (set : Nat) (last : Int) (k : Nat) (h : Rg.idx p = (k : Int)) (h2 : ¬ (k : Int) ≤ last) : Rg.prs (p :: ps) set last = Rg.prs ps (Rg.join set (2 ^ k)) k := by
  rw [Rg.prs, h, if_neg (by omega), if_neg h2, Int.toNat_natCast]
def PRel (w : World) (R : Nat × Nat) (s st la mo : Value) (wr : World) : Prop :=
  ∃ (t : ByteArray) (set : Nat) (last : Int) (m : Bool), s = .string t ∧ st = .int .i64 set ∧ la = .int .i64 last ∧ mo = .bool m ∧ t.size ≤ maxLen ∧ set < 4096 ∧ -1 ≤ last ∧ last < 12 ∧
    (m = true → R = Rg.prs (Rg.pieces t.data.toList) set last) ∧ (m = false → R = (set, 0)) ∧ Below w.heap.size w wr ∧
    w.heap.size < wr.heap.size ∧ (∀ (j : Nat) y, Rg.nm[j]? = some y → wr.cell? ⟨w.heap.size, j, none⟩ = some (.string y))
set_option maxHeartbeats 400000 in
theorem parse_some (s : ByteArray) (hs : s.size ≤ maxLen) (h0 : s.data.toList ≠ []) (w : World) :
    Calls Try.prog 6 #[.string s] w fun e w' => e = .returned (.tuple #[.int .i64 ((Rg.parse s.data.toList).1 : Nat), .int .i64 ((Rg.parse s.data.toList).2 : Nat)]) ∧ Below w.heap.size w w' := by
  have hne : (s.toList == []) = false := by rw [ByteArray.toList_eq]; cases h : s.data.toList <;> simp_all
  have hsz : Hid (s.size ≤ maxLen) := hs
  have hp : Hid (Rg.parse s.data.toList = Rg.prs (Rg.pieces s.data.toList) 0 (-1)) := by unfold Rg.parse; rw [if_neg h0]; exact rfl
  generalize Rg.parse s.data.toList = R at *
  clear hs h0
  go_enter Try.func6, Try.ntmps6
  go_wp2_with (go_at_call 12; refine (names_any _).mono ?_; rintro e w1 ⟨rfl, hb1, hz1, hc1⟩)
  go_loopw [0, 5, 6, 7] (fun s st la mo wr => PRel w R s st la mo wr) (fun s _ _ mo _ => match s, mo with | .string t, .bool m => t.size + m.toNat | _, _ => 0)
  case atStart => exact ⟨s, 0, -1, true, rfl, rfl, rfl, rfl, hsz.out, by decide, by decide, by decide, fun _ => hp.out, fun h => by simp at h, hb1, by omega, hc1⟩
  case round =>
    obtain ⟨t, set, last, m, rfl, rfl, rfl, rfl, ht, hset, hl1, hl2, hR1, hR2, hb, hz, hc⟩ := hrel
    clear hc1 hb1 hz1 hp
    cases m with
    | false =>
      have HR := hR2 rfl
      clear hR1 hR2
      subst HR
      go_wp2
      go_ret2
      exact ⟨rfl, hb⟩
    | true =>
      have HR : Hid (R = Rg.prs (Rg.pieces t.data.toList) set last) := hR1 rfl
      have HT : Hid (t.size ≤ maxLen) := ht
      have HCP : Hid (_) := Rg.cut_pieces t.data.toList
      clear hR1 hR2 ht
      go_wp2_with fail
      refine (cut_any t HT.out _).mono ?_
      rintro e w2 ⟨rfl, n, rfl⟩
      generalize (Lib.cut t.data.toList [44]).1 = p at *
      generalize (Lib.cut t.data.toList [44]).2.1 = q at *
      generalize (Lib.cut t.data.toList [44]).2.2 = f at *
      go_wp2_with fail
      refine (sindex_list _ _ p _ (by simpa using hc)).mono ?_
      rintro e w2 ⟨rfl, rfl⟩
      have hix : Rg.idx p = -1 ∨ 0 ≤ Rg.idx p ∧ Rg.idx p < 12 := by rcases Rg.idx_cases p with h | ⟨k, h1, h2, _⟩ <;> omega
      generalize hi : Rg.idx p = ix at *
      have HI : Hid (Rg.idx p = ix) := hi
      have HC : Hid (∀ (j : Nat) y, Rg.nm[j]? = some y → wr.cell? ⟨w.heap.size, j, none⟩ = some (.string y)) := hc
      clear hi hc
      have HP : Hid (∃ rest, Rg.pieces t.data.toList = p :: rest) := by rcases HCP.out with h | h <;> exact ⟨_, h.2.1⟩
      by_cases h1 : ix < 0
      · have hR : R = (0, 6) := by obtain ⟨rest, h⟩ := HP.out; rw [HR.out, h, Rg.prs, if_pos (by rw [HI.out]; exact h1)]
        subst hR
        go_wp2
        go_ret2
        exact ⟨rfl, below_drewN hb n⟩
      · by_cases h2 : ix ≤ last
        · have hR : R = (0, 2) := by obtain ⟨rest, h⟩ := HP.out; rw [HR.out, h, Rg.prs, if_neg (by rw [HI.out]; exact h1), if_pos (by rw [HI.out]; exact h2)]
          subst hR
          go_wp2
          go_ret2
          exact ⟨rfl, below_drewN hb n⟩
        · obtain ⟨k, rfl⟩ := Int.eq_ofNat_of_zero_le (Int.not_lt.1 h1)
          go_wp2
          go_roundw
          case rel =>
            refine ⟨⟨q.toArray⟩, Rg.join set (2 ^ k), k, f, rfl, congrArg (Value.int .i64) (or_step set k hset (by omega)), rfl, rfl, ?_, Rg.join_lt _ _ hset (pow_lt k (by omega)), by omega, by omega, ?_, ?_, below_drewN hb n, hz, HC.out⟩
            · have h1 := HT.out
              have h2 : q.length ≤ t.size := by rcases HCP.out with h | h; · have := h.2.2; simp at this; exact Nat.le_of_lt this
                                                · rw [h.2.2]; exact Nat.zero_le _
              show q.toArray.size ≤ maxLen
              simp; omega
            · intro hf
              rcases HCP.out with h | h
              · rw [HR.out, h.2.1, prs_on p _ set last k HI.out (by omega)]
              · simp [h.1] at hf
            · intro hf
              rcases HCP.out with h | h
              · simp [h.1] at hf
              · rw [HR.out, h.2.1, prs_on p _ set last k HI.out (by omega)]; rfl
          case measure =>
            show q.toArray.size + f.toNat < t.size + 1
            rcases HCP.out with h | h
            · have := h.2.2; simp at this; have h3 : t.data.size = t.size := rfl; simp [h.1]; omega
            · simp [h.1, h.2.2]
theorem parse_any (s : ByteArray) (hs : s.size ≤ maxLen) (w : World) :
    Calls Try.prog 6 #[.string s] w fun e w' => e = .returned (.tuple #[.int .i64 ((Rg.parse s.data.toList).1 : Nat), .int .i64 ((Rg.parse s.data.toList).2 : Nat)]) ∧ Below w.heap.size w w' := by
  by_cases h0 : s.data.toList = []
  · have hne : (s.toList == []) = true := by rw [ByteArray.toList_eq, h0]; rfl
    have hp : Rg.parse s.data.toList = (0, 0) := by unfold Rg.parse; rw [if_pos h0]
    rw [hp]
    clear hp h0
    go_enter Try.func6, Try.ntmps6
    go_wp2
    go_ret2
    exact ⟨rfl, Below.refl _ _⟩
  · exact parse_some s hs h0 w
end Go.Proofs.Ytdkgilgnijcklaa
