/-
  The document's own answer, chapter 1: words, names, within, both.
-/
import Derived.Test.YtdkgilgnijcklaaRefA
import Derived.Test.YtdkgilgnijcklaaTexts
import Derived.BigQuiet
import Derived.Deep.QuietTactic
namespace Go.Proofs.Ytdkgilgnijcklaa
open Go.RowKit
theorem rfrom_yes (a b : Int) (hok : Rg.okw a b = true) (w : World) : Calls Try.prog 9 #[.agg #[.int .i64 a, .int .i64 b]] w fun e w' => e = .returned (.tuple #[.int .i64 (Rg.fw a b : Nat), .int .i64 0]) ∧ Below w.heap.size w w' := by
  unfold Rg.okw at hok
  have h := of_decide_eq_true hok
  have h1 := h.1.1
  have h2 := h.1.2
  have h3 := h.2.1
  have h4 := h.2.2
  have HF : Hid (a - 64 + 64 * (b - 128) = (Rg.fw a b : Nat)) := by unfold Hid Rg.fw; omega
  clear hok h
  go_enter Try.func9, Try.ntmps9
  go_wp2
  go_ret2
  refine ⟨?_, (Below.refl _ _).alloc (Nat.le_refl _) _⟩
  rw [← HF.out]; rfl
theorem rfrom_no (a b : Int) (hok : Rg.okw a b = false) (w : World) : Calls Try.prog 9 #[.agg #[.int .i64 a, .int .i64 b]] w fun e w' => e = .returned (.tuple #[.int .i64 0, .int .i64 2]) ∧ Below w.heap.size w w' := by
  unfold Rg.okw at hok
  have h := of_decide_eq_false hok
  clear hok
  by_cases h1 : a < 64
  · clear h
    go_enter Try.func9, Try.ntmps9
    go_wp2
    go_ret2
    exact ⟨rfl, (Below.refl _ _).alloc (Nat.le_refl _) _⟩
  by_cases h2 : 127 < a
  · clear h
    go_enter Try.func9, Try.ntmps9
    go_wp2
    go_ret2
    exact ⟨rfl, (Below.refl _ _).alloc (Nat.le_refl _) _⟩
  by_cases h3 : b < 128
  · clear h
    go_enter Try.func9, Try.ntmps9
    go_wp2
    go_ret2
    exact ⟨rfl, (Below.refl _ _).alloc (Nat.le_refl _) _⟩
  by_cases h4 : 191 < b
  · clear h
    go_enter Try.func9, Try.ntmps9
    go_wp2
    go_ret2
    exact ⟨rfl, (Below.refl _ _).alloc (Nat.le_refl _) _⟩
  exact absurd ⟨by omega, by omega⟩ h
/-- rgref1.Names: as rights.Names. -/
theorem rnames (w : World) : Calls Try.prog 13 #[] w fun e w' => e = .returned (.slice (some ⟨w.heap.size, 0, none⟩) 12 12) ∧ Below w.heap.size w w' ∧ w'.heap.size = w.heap.size + 1 ∧ ∀ (j : Nat) x, Rg.nm[j]? = some x → w'.cell? ⟨w.heap.size, j, none⟩ = some (.string x) := by
  go_enter Try.func13, Try.ntmps13
  go_wp2
  go_ret
  refine ⟨rfl, (Below.refl _ _).alloc (Nat.le_refl _) _, by simp, ?_⟩
  intro j x hx
  rw [World.cell?_alloc_at _ _ _ _ rfl]
  match j, hx with
  | 0, hx | 1, hx | 2, hx | 3, hx | 4, hx | 5, hx | 6, hx | 7, hx | 8, hx | 9, hx | 10, hx | 11, hx => simp [Rg.nm] at hx; subst hx; rfl
  | j + 12, hx => simp [Rg.nm] at hx
theorem rsame (b c : Nat) (w : World) (hb : ∀ (j : Nat) x, Rg.nm[j]? = some x → w.cell? ⟨b, j, none⟩ = some (.string x)) (hc : ∀ (j : Nat) x, Rg.nm[j]? = some x → w.cell? ⟨c, j, none⟩ = some (.string x)) :
    Calls Try.prog 11 #[.slice (some ⟨b, 0, none⟩) 12 12, .slice (some ⟨c, 0, none⟩) 12 12] w fun e w' => e = .returned (.bool true) ∧ ∃ n, w' = w.drewN n := by
  have HB : Hid (∀ (j : Nat) x, Rg.nm[j]? = some x → w.cell? ⟨b, j, none⟩ = some (.string x)) := hb
  have HC : Hid (∀ (j : Nat) x, Rg.nm[j]? = some x → w.cell? ⟨c, j, none⟩ = some (.string x)) := hc
  clear hb hc
  go_enter Try.func11, Try.ntmps11
  go_wp2
  go_loopw [13] (fun i wr => ∃ k n : Nat, k ≤ 12 ∧ i = .int .i64 k ∧ wr = w.drewN n) (fun i _ => 12 - (intOf i).toNat)
  case atStart => exact ⟨0, 0, Nat.zero_le _, rfl, rfl⟩
  case round =>
    obtain ⟨k, n, hk, rfl, rfl⟩ := hrel
    by_cases hlt : k < 12
    · obtain ⟨y, hy⟩ : ∃ y, Rg.nm[k]? = some y := ⟨Rg.nm[k], List.getElem?_eq_getElem (by rw [Rg.nm_length]; exact hlt)⟩
      have h1 := HB.out k y hy
      have h2 := HC.out k y hy
      have hi : (k : Int) < 12 := by omega
      clear hy
      go_wp2_with fail
      go_quiet (fail)
      go_wp2
      go_roundw
      case rel => exact ⟨k + 1, _, by omega, by go_num, rfl⟩
      case measure => simp [intOf]; omega
    · go_wp2
      go_ret
      exact ⟨rfl, n, rfl⟩
end Go.Proofs.Ytdkgilgnijcklaa
namespace Go.Proofs.Rg
theorem within_low (a b : Nat) (ha : a < 4096) : within a b = true ↔ ∀ j, j < 12 → bt a j = true → bt b j = true := by
  rw [within_iff]
  unfold bt
  constructor
  · exact fun h j _ => h j
  · intro h j hj
    by_cases hl : j < 12
    · exact h j hl hj
    · have : a.testBit j = false := Nat.testBit_lt_two_pow (Nat.lt_of_lt_of_le ha (by
        have : 2 ^ 12 ≤ 2 ^ j := Nat.pow_le_pow_right (by decide) (by omega)
        omega))
      rw [this] at hj; simp at hj
end Go.Proofs.Rg
namespace Go.Proofs.Ytdkgilgnijcklaa
open Go.RowKit
theorem box12b (f : Nat → Bool) (t : Nat) (o : Obj) (w : World) (j : Nat) (hj : j < 12) :
    ((w.alloc (.cells #[.bool (f 0), .bool (f 1), .bool (f 2), .bool (f 3), .bool (f 4), .bool (f 5), .bool (f 6), .bool (f 7), .bool (f 8), .bool (f 9), .bool (f 10), .bool (f 11)] t)).alloc o).cell? ⟨w.heap.size, j, none⟩ = some (.bool (f j)) := by
  rw [World.cell?_alloc_past _ _ _ (by simp)]
  exact box12 f t w j hj
theorem box12c (f : Nat → Bool) (t : Nat) (o : Obj) (w : World) (j : Nat) (hj : j < 12) :
    ((w.alloc o).alloc (.cells #[.bool (f 0), .bool (f 1), .bool (f 2), .bool (f 3), .bool (f 4), .bool (f 5), .bool (f 6), .bool (f 7), .bool (f 8), .bool (f 9), .bool (f 10), .bool (f 11)] t)).cell? ⟨w.heap.size + 1, j, none⟩ = some (.bool (f j)) := by
  have := box12 f t (w.alloc o) j hj
  simpa using this
set_option maxHeartbeats 1000000 in
theorem rwithin (a b : Nat) (ha : a < 4096) (hb : b < 4096) (w : World) : Calls Try.prog 16 #[.int .i64 a, .int .i64 b] w fun e w' => e = .returned (.bool (Rg.within a b)) ∧ Below w.heap.size w w' := by
  go_enter Try.func16, Try.ntmps16
  go_wp2_with fail
  refine (rbits a ha _).mono ?_
  rintro e w1 ⟨rfl, hb1⟩
  go_wp2_with fail
  refine (rbits b hb _).mono ?_
  rintro e w2 ⟨rfl, hb2⟩
  have hB : Below w.heap.size w w2 := hb1.trans (hb2.mono hb1.size)
  have hsz : w.heap.size ≤ w2.heap.size := hB.size
  have HW : Hid (Rg.within a b = true ↔ ∀ j, j < 12 → Rg.bt a j = true → Rg.bt b j = true) := Rg.within_low a b ha
  clear hb1 hb2
  have HX : Hid (∀ j, j < 12 → ((w2.alloc (.cells #[.bool (Rg.bt a 0), .bool (Rg.bt a 1), .bool (Rg.bt a 2), .bool (Rg.bt a 3), .bool (Rg.bt a 4), .bool (Rg.bt a 5), .bool (Rg.bt a 6), .bool (Rg.bt a 7), .bool (Rg.bt a 8), .bool (Rg.bt a 9), .bool (Rg.bt a 10), .bool (Rg.bt a 11)] 31)).alloc (.cells #[.bool (Rg.bt b 0), .bool (Rg.bt b 1), .bool (Rg.bt b 2), .bool (Rg.bt b 3), .bool (Rg.bt b 4), .bool (Rg.bt b 5), .bool (Rg.bt b 6), .bool (Rg.bt b 7), .bool (Rg.bt b 8), .bool (Rg.bt b 9), .bool (Rg.bt b 10), .bool (Rg.bt b 11)] 31)).cell? ⟨w2.heap.size, j, none⟩ = some (.bool (Rg.bt a j))) := fun j hj => box12b (Rg.bt a) 31 _ w2 j hj
  have HY : Hid (∀ j, j < 12 → ((w2.alloc (.cells #[.bool (Rg.bt a 0), .bool (Rg.bt a 1), .bool (Rg.bt a 2), .bool (Rg.bt a 3), .bool (Rg.bt a 4), .bool (Rg.bt a 5), .bool (Rg.bt a 6), .bool (Rg.bt a 7), .bool (Rg.bt a 8), .bool (Rg.bt a 9), .bool (Rg.bt a 10), .bool (Rg.bt a 11)] 31)).alloc (.cells #[.bool (Rg.bt b 0), .bool (Rg.bt b 1), .bool (Rg.bt b 2), .bool (Rg.bt b 3), .bool (Rg.bt b 4), .bool (Rg.bt b 5), .bool (Rg.bt b 6), .bool (Rg.bt b 7), .bool (Rg.bt b 8), .bool (Rg.bt b 9), .bool (Rg.bt b 10), .bool (Rg.bt b 11)] 31)).cell? ⟨w2.heap.size + 1, j, none⟩ = some (.bool (Rg.bt b j))) := fun j hj => box12c (Rg.bt b) 31 _ w2 j hj
  have hBB : Below w.heap.size w ((w2.alloc (.cells #[.bool (Rg.bt a 0), .bool (Rg.bt a 1), .bool (Rg.bt a 2), .bool (Rg.bt a 3), .bool (Rg.bt a 4), .bool (Rg.bt a 5), .bool (Rg.bt a 6), .bool (Rg.bt a 7), .bool (Rg.bt a 8), .bool (Rg.bt a 9), .bool (Rg.bt a 10), .bool (Rg.bt a 11)] 31)).alloc (.cells #[.bool (Rg.bt b 0), .bool (Rg.bt b 1), .bool (Rg.bt b 2), .bool (Rg.bt b 3), .bool (Rg.bt b 4), .bool (Rg.bt b 5), .bool (Rg.bt b 6), .bool (Rg.bt b 7), .bool (Rg.bt b 8), .bool (Rg.bt b 9), .bool (Rg.bt b 10), .bool (Rg.bt b 11)] 31)) := (hB.alloc hsz _).alloc (by simp; omega) _
  go_wp2
  generalize ((w2.alloc (.cells #[.bool (Rg.bt a 0), .bool (Rg.bt a 1), .bool (Rg.bt a 2), .bool (Rg.bt a 3), .bool (Rg.bt a 4), .bool (Rg.bt a 5), .bool (Rg.bt a 6), .bool (Rg.bt a 7), .bool (Rg.bt a 8), .bool (Rg.bt a 9), .bool (Rg.bt a 10), .bool (Rg.bt a 11)] 31)).alloc (.cells #[.bool (Rg.bt b 0), .bool (Rg.bt b 1), .bool (Rg.bt b 2), .bool (Rg.bt b 3), .bool (Rg.bt b 4), .bool (Rg.bt b 5), .bool (Rg.bt b 6), .bool (Rg.bt b 7), .bool (Rg.bt b 8), .bool (Rg.bt b 9), .bool (Rg.bt b 10), .bool (Rg.bt b 11)] 31)) = W at *
  go_loop [12] (fun i => ∃ k : Nat, k ≤ 12 ∧ i = .int .i64 k ∧ ∀ j, j < k → Rg.bt a j = true → Rg.bt b j = true) (fun i => 12 - (intOf i).toNat)
  case atStart => exact ⟨0, Nat.zero_le _, rfl, fun j hj => absurd hj (Nat.not_lt_zero _)⟩
  case round =>
    obtain ⟨k, hk, rfl, hall⟩ := hrel
    have HA : Hid (∀ j, j < k → Rg.bt a j = true → Rg.bt b j = true) := hall
    clear hall
    by_cases hlt : k < 12
    · have hx := HX.out k hlt
      have hy := HY.out k hlt
      have hi : (k : Int) < 12 := by omega
      cases ha' : Rg.bt a k with
      | false =>
        rw [ha'] at hx
        have HA' : Hid (Rg.bt a k = false) := ha'
        clear ha'
        go_wp2
        go_round
        case rel =>
          refine ⟨k + 1, by omega, by go_num, fun j hj hj2 => ?_⟩
          by_cases e : j = k
          · subst e; rw [HA'.out] at hj2; simp at hj2
          · exact HA.out j (by omega) hj2
        case measure => simp [intOf]; omega
      | true =>
        rw [ha'] at hx
        have HA' : Hid (Rg.bt a k = true) := ha'
        clear ha'
        cases hb' : Rg.bt b k with
        | true =>
          rw [hb'] at hy
          have HB' : Hid (Rg.bt b k = true) := hb'
          clear hb'
          go_wp2
          go_round
          case rel =>
            refine ⟨k + 1, by omega, by go_num, fun j hj hj2 => ?_⟩
            by_cases e : j = k
            · subst e; exact HB'.out
            · exact HA.out j (by omega) hj2
          case measure => simp [intOf]; omega
        | false =>
          rw [hb'] at hy
          have hw : Rg.within a b = false := by
            cases hh : Rg.within a b with
            | false => rfl
            | true => have := HW.out.1 hh k hlt HA'.out; rw [hb'] at this; exact this.symm
          clear hb'
          go_wp2
          go_ret
          exact ⟨by first | rfl | (rw [hw]; rfl), hBB⟩
    · have hw : Rg.within a b = true := HW.out.2 fun j hj h => HA.out j (by omega) h
      go_wp2
      go_ret
      exact ⟨by first | rfl | (rw [hw]; rfl), hBB⟩

def hBoth (all : Bool) (a b j : Nat) : Bool := if all then Rg.bt a j && Rg.bt b j else Rg.bt a j || Rg.bt b j
def BRel (w : World) (X : Nat) (all : Bool) (a b : Nat) (i : Value) (wr : World) : Prop :=
  ∃ k : Nat, k ≤ 12 ∧ i = .int .i64 k ∧ (∀ j, j < 12 → wr.cell? ⟨X, j, none⟩ = some (.bool (if j < k then hBoth all a b j else Rg.bt a j))) ∧ (∀ j, j < 12 → wr.cell? ⟨X + 1, j, none⟩ = some (.bool (Rg.bt b j))) ∧ (∀ j, wr.frozen? ⟨X, j, none⟩ = false) ∧ w.heap.size ≤ X ∧ Below w.heap.size w wr
theorem BRel_step {w wr : World} {X k : Nat} {all : Bool} {a b : Nat} (hk : k < 12)
    (h1 : ∀ j, j < 12 → wr.cell? ⟨X, j, none⟩ = some (.bool (if j < k then hBoth all a b j else Rg.bt a j))) (h2 : ∀ j, j < 12 → wr.cell? ⟨X + 1, j, none⟩ = some (.bool (Rg.bt b j)))
    (h3 : ∀ j, wr.frozen? ⟨X, j, none⟩ = false) (h4 : w.heap.size ≤ X) (h5 : Below w.heap.size w wr) :
    BRel w X all a b (.int .i64 ((k + 1 : Nat) : Int)) (wr.setCell ⟨X, k, none⟩ (.bool (hBoth all a b k))) := by
  refine ⟨k + 1, by omega, rfl, fun j hj => ?_, fun j hj => ?_, fun j => ?_, h4, h5.setCell h4 _⟩
  · by_cases e : j = k
    · subst e
      rw [World.cell?_setCell_same _ _ _ (h1 j hk), if_pos (Nat.lt_succ_self _)]
    · rw [World.cell?_setCell_other _ _ _ _ (by simp), h1 j hj]
      by_cases e2 : j < k
      · rw [if_pos e2, if_pos (by omega)]
      · rw [if_neg e2, if_neg (by omega)]
  · rw [World.cell?_setCell_other _ _ _ _ (by simp), h2 j hj]
  · rw [World.frozen?_setCell, h3]
theorem frozen_new (w : World) (cs : Array Value) (t : Nat) (j : Nat) : (w.alloc (.cells cs t)).frozen? ⟨w.heap.size, j, none⟩ = false := by
  simp
theorem frozen_new2 (w : World) (cs : Array Value) (t : Nat) (o : Obj) (j : Nat) : ((w.alloc (.cells cs t)).alloc o).frozen? ⟨w.heap.size, j, none⟩ = false := by
  rw [World.frozen?_alloc_past _ _ _ (by simp)]; exact frozen_new w cs t j
set_option maxHeartbeats 2000000 in
theorem rboth (all : Bool) (a b : Nat) (ha : a < 4096) (hb : b < 4096) (w : World) : Calls Try.prog 18 #[.int .i64 a, .int .i64 b, .bool all] w fun e w' => e = .returned (.int .i64 (Rg.nU (hBoth all a b) 12 : Nat)) ∧ Below w.heap.size w w' := by
  go_enter Try.func18, Try.ntmps18
  go_wp2_with fail
  refine (rbits a ha _).mono ?_
  rintro e w1 ⟨rfl, hb1⟩
  go_wp2_with fail
  refine (rbits b hb _).mono ?_
  rintro e w2 ⟨rfl, hb2⟩
  have hB : Below w.heap.size w w2 := hb1.trans (hb2.mono hb1.size)
  have hsz : w.heap.size ≤ w2.heap.size := hB.size
  clear hb1 hb2
  have HR : Hid (BRel w w2.heap.size all a b (.int .i64 0) ((w2.alloc (.cells #[.bool (Rg.bt a 0), .bool (Rg.bt a 1), .bool (Rg.bt a 2), .bool (Rg.bt a 3), .bool (Rg.bt a 4), .bool (Rg.bt a 5), .bool (Rg.bt a 6), .bool (Rg.bt a 7), .bool (Rg.bt a 8), .bool (Rg.bt a 9), .bool (Rg.bt a 10), .bool (Rg.bt a 11)] 31)).alloc (.cells #[.bool (Rg.bt b 0), .bool (Rg.bt b 1), .bool (Rg.bt b 2), .bool (Rg.bt b 3), .bool (Rg.bt b 4), .bool (Rg.bt b 5), .bool (Rg.bt b 6), .bool (Rg.bt b 7), .bool (Rg.bt b 8), .bool (Rg.bt b 9), .bool (Rg.bt b 10), .bool (Rg.bt b 11)] 31))) :=
    ⟨0, Nat.zero_le _, rfl, fun j hj => by rw [if_neg (Nat.not_lt_zero _)]; exact box12b (Rg.bt a) 31 _ w2 j hj, fun j hj => box12c (Rg.bt b) 31 _ w2 j hj, fun j => frozen_new2 _ _ _ _ _, hsz, (hB.alloc hsz _).alloc (by simp; omega) _⟩
  go_wp2
  generalize ((w2.alloc (.cells #[.bool (Rg.bt a 0), .bool (Rg.bt a 1), .bool (Rg.bt a 2), .bool (Rg.bt a 3), .bool (Rg.bt a 4), .bool (Rg.bt a 5), .bool (Rg.bt a 6), .bool (Rg.bt a 7), .bool (Rg.bt a 8), .bool (Rg.bt a 9), .bool (Rg.bt a 10), .bool (Rg.bt a 11)] 31)).alloc (.cells #[.bool (Rg.bt b 0), .bool (Rg.bt b 1), .bool (Rg.bt b 2), .bool (Rg.bt b 3), .bool (Rg.bt b 4), .bool (Rg.bt b 5), .bool (Rg.bt b 6), .bool (Rg.bt b 7), .bool (Rg.bt b 8), .bool (Rg.bt b 9), .bool (Rg.bt b 10), .bool (Rg.bt b 11)] 31)) = W at *
  go_loopw [14] (fun i wr => BRel w w2.heap.size all a b i wr) (fun i _ => 12 - (intOf i).toNat)
  case atStart => exact HR.out
  case round =>
    clear HR
    obtain ⟨k, hk, rfl, h1, h2, h3, h4, h5⟩ := hrel
    by_cases hlt : k < 12
    · have hx := h1 k hlt
      rw [if_neg (Nat.lt_irrefl _)] at hx
      have hy := h2 k hlt
      have hf := h3 k
      have hi : (k : Int) < 12 := by omega
      have ST : Hid (BRel w w2.heap.size all a b (.int .i64 ((k + 1 : Nat) : Int)) (wr.setCell ⟨w2.heap.size, k, none⟩ (.bool (hBoth all a b k)))) := BRel_step hlt h1 h2 h3 h4 h5
      clear h1 h2 h3 h4 h5
      cases all <;> cases ha' : Rg.bt a k
      all_goals
        simp only [hBoth, ha', Bool.false_and, Bool.true_and, Bool.false_or, Bool.true_or, if_true, Bool.false_eq_true, if_false] at ST
        rw [ha'] at hx
        clear ha'
        go_wp2
        go_roundw
        case rel => exact ST.out
        case measure => simp [intOf]; omega
    · obtain rfl : k = 12 := by omega
      have c0 := h1 0 (by decide)
      have c1 := h1 1 (by decide)
      have c2 := h1 2 (by decide)
      have c3 := h1 3 (by decide)
      have c4 := h1 4 (by decide)
      have c5 := h1 5 (by decide)
      have c6 := h1 6 (by decide)
      have c7 := h1 7 (by decide)
      have c8 := h1 8 (by decide)
      have c9 := h1 9 (by decide)
      have c10 := h1 10 (by decide)
      have c11 := h1 11 (by decide)
      rw [if_pos (by decide)] at c0 c1 c2 c3 c4 c5 c6 c7 c8 c9 c10 c11
      clear h1 h2 h3
      go_wp2_with fail
      refine (rnum (hBoth all a b) _).mono ?_
      rintro e w9 ⟨rfl, hb9⟩
      have hE : Below w.heap.size w w9 := h5.trans (hb9.mono h5.size)
      go_wp2
      go_ret
      exact ⟨rfl, hE⟩
end Go.Proofs.Ytdkgilgnijcklaa
