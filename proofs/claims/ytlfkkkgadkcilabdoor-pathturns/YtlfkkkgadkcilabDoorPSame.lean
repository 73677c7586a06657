/-
  rgref1.SameTexts at two lists of the same texts.
-/
import Derived.Test.YtlfkkkgadkcilabDoorPWalkE
namespace Go.Proofs.YtlfkkkgadkcilabDoor
open Go.RowKit
theorem same_nil (a a' : Option Addr) (c c' : Nat) (w : World) :
    Calls Tryd.prog 7 #[.slice a 0 c, .slice a' 0 c'] w fun e w' => e = .returned (.bool true) ∧ ∃ n, w' = w.drewN n := by
  go_enter Tryd.func7, Tryd.ntmps7
  go_wp2
  refine wp_loop_rounds 1 ?_
  rw [rounds_succ]
  go_wp2
  go_ret
  exact ⟨rfl, 0, rfl⟩
set_option maxHeartbeats 400000 in
theorem same_at (xs : List ByteArray) (b o c b' o' c' : Nat) (w : World) (hN : xs.length ≤ 1152921504606846976) (hb : ∀ (j : Nat) x, xs[j]? = some x → w.cell? ⟨b, o + j, none⟩ = some (.string x)) (hc : ∀ (j : Nat) x, xs[j]? = some x → w.cell? ⟨b', o' + j, none⟩ = some (.string x)) :
    Calls Tryd.prog 7 #[.slice (some ⟨b, o, none⟩) xs.length c, .slice (some ⟨b', o', none⟩) xs.length c'] w fun e w' => e = .returned (.bool true) ∧ ∃ n, w' = w.drewN n := by
  have HB : Hid (∀ (j : Nat) x, xs[j]? = some x → w.cell? ⟨b, o + j, none⟩ = some (.string x)) := hb
  have HC : Hid (∀ (j : Nat) x, xs[j]? = some x → w.cell? ⟨b', o' + j, none⟩ = some (.string x)) := hc
  clear hb hc
  go_enter Tryd.func7, Tryd.ntmps7
  go_wp2
  go_loopw [13] (fun i wr => ∃ k n : Nat, k ≤ xs.length ∧ i = .int .i64 k ∧ wr = w.drewN n) (fun i _ => xs.length - (intOf i).toNat)
  case atStart => exact ⟨0, 0, Nat.zero_le _, rfl, rfl⟩
  case round =>
    obtain ⟨k, n, hk, rfl, rfl⟩ := hrel
    by_cases hlt : k < xs.length
    · obtain ⟨y, hy⟩ : ∃ y, xs[k]? = some y := ⟨_, List.getElem?_eq_getElem hlt⟩
      have h1 := HB.out k y hy
      have h2 := HC.out k y hy
      have hi : (k : Int) < xs.length := by omega
      clear hy
      go_wp2_with fail
      go_quiet (fail)
      go_wp2
      go_roundw
      case rel => exact ⟨k + 1, _, by omega, by go_num, rfl⟩
      case measure => simp [intOf]; omega
    · go_wp2
      go_ret
      exact ⟨rfl, n, rfl⟩
theorem same_any (xs : List ByteArray) (v v' : Value) (w : World) (B C : Nat) (hv : TL w B v xs) (hv' : TL w C v' xs) (hN : xs.length ≤ 1152921504606846976) :
    Calls Tryd.prog 7 #[v, v'] w fun e w' => e = .returned (.bool true) ∧ ∃ n, w' = w.drewN n := by
  obtain ⟨a1, c1, e1⟩ := hv.form
  obtain ⟨a2, c2, e2⟩ := hv'.form
  cases xs with
  | nil => subst e1; subst e2; exact same_nil _ _ _ _ w
  | cons x r =>
    rcases hv with ⟨_, _, _, h⟩ | ⟨b, o, c, rfl, _, _, h4⟩
    · cases h
    rcases hv' with ⟨_, _, _, h⟩ | ⟨b', o', c', rfl, _, _, h4'⟩
    · cases h
    exact same_at (x :: r) b o c b' o' c' w hN h4 h4'
end Go.Proofs.YtlfkkkgadkcilabDoor
