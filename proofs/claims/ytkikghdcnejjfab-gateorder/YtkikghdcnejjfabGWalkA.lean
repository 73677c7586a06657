/-
  Functions handed to slices.ContainsFunc: over masks, and over policies.
-/
import Derived.Test.YtkikghdcnejjfabGPlain
import Derived.BigQuiet
import Derived.Deep.QuietTactic
import Derived.Deep.RegionWith
import Derived.Handy
import Derived.Shelf.Abstract
namespace Go.Proofs.Ytkikghdcnejjfab
open Go.RowKit
def maskV (m : Int × Int) : Value := .agg #[.int .i64 m.1, .int .i64 m.2]
def polV (c : Int) (mv : Value) : Value := .agg #[.int .i64 c, mv]
/-- A function of masks, with what it has captured, answers f, of these masks. -/
def MPred (n : Nat) (caps : Array Value) (w : World) (ms : List (Int × Int)) (f : Int × Int → Bool) : Prop :=
  ∀ (W : World) (m : Int × Int), m ∈ ms → Below w.heap.size w W → Calls Try.prog n (#[maskV m] ++ caps) W fun e w' => e = .returned (.bool (f m)) ∧ Below W.heap.size W w'
theorem any_drop {α : Type} (f : α → Bool) (ms : List α) (k : Nat) (m : α) (hm : ms[k]? = some m) : (ms.drop k).any f = (f m || (ms.drop (k + 1)).any f) := by
  obtain ⟨hk, rfl⟩ := List.getElem?_eq_some_iff.1 hm
  rw [List.drop_eq_getElem_cons hk, List.any_cons]
theorem idxM_some (n : Nat) (caps : Array Value) (ms : List (Int × Int)) (f : Int × Int → Bool) (b o cap : Nat) (w : World) (hb : b < w.heap.size) (hl : MLies w b o ms) (hm : ms.length ≤ maxLen) (hp : MPred n caps w ms f) (eg : Enters Try.prog n) :
    Calls Try.prog 37 #[.slice (some ⟨b, o, none⟩) ms.length cap, .func (.func n) #[] caps] w fun e w' => ∃ j : Int, e = .returned (.int .i64 j) ∧ decide (0 ≤ j) = ms.any f ∧ Below w.heap.size w w' := by
  have HL : Hid (MLies w b o ms) := hl
  have HP : Hid (MPred n caps w ms f) := hp
  unfold maxLen at hm
  clear hl hp
  unfold Enters at eg
  go_enter Try.func37, Try.ntmps37
  go_wp2
  go_loopw [8] (fun i wr => ∃ k : Nat, k ≤ ms.length ∧ i = .int .i64 k ∧ Below w.heap.size w wr ∧ ms.any f = (ms.drop k).any f) (fun i _ => ms.length - (intOf i).toNat)
  case atStart => exact ⟨0, Nat.zero_le _, rfl, Below.refl _ _, by simp⟩
  case round =>
    obtain ⟨k, hk, rfl, hB, hF⟩ := hrel
    have HF : Hid (ms.any f = (ms.drop k).any f) := hF
    clear hF
    by_cases hlt : k < ms.length
    · have hx : ms[k]? = some ms[k] := List.getElem?_eq_getElem hlt
      obtain ⟨c0, c1⟩ := (HL.out.on hB hb) k _ hx
      have HD : Hid ((ms.drop k).any f = _) := any_drop f ms k _ hx
      have HM : Hid (ms[k] ∈ ms) := List.getElem_mem hlt
      clear hx
      generalize ms[k] = m at *
      go_wp2_with fail
      refine (HP.out _ m HM.out hB).mono ?_
      rintro e w2 ⟨rfl, hb2⟩
      have hB2 := hB.trans (hb2.mono hB.size)
      have HE : Hid (ms.any f = (f m || (ms.drop (k + 1)).any f)) := HF.out.trans HD.out
      clear HD HF HM hb2 hB c0 c1
      generalize f m = x at *
      cases x
      · have HN : Hid (ms.any f = (ms.drop (k + 1)).any f) := HE.out.trans (Bool.false_or _)
        clear HE
        go_wp2
        exact ⟨⟨k + 1, by omega, by go_num, hB2, HN.out⟩, by simp [intOf]; omega⟩
      · have HN : Hid (ms.any f = true) := HE.out.trans (Bool.true_or _)
        clear HE
        go_wp2
        go_ret
        exact ⟨(k : Int), rfl, by rw [HN.out]; simp, hB2⟩
    · obtain rfl : k = ms.length := by omega
      have HN : Hid (ms.any f = false) := by unfold Hid; rw [HF.out, List.drop_length]; rfl
      clear HF
      go_wp2
      go_ret
      exact ⟨-1, rfl, by rw [HN.out]; simp, hB⟩
theorem hasM_any (n : Nat) (caps : Array Value) (ms : List (Int × Int)) (f : Int × Int → Bool) (v : Value) (w : World) (hv : MHolds w w.heap.size v ms) (hp : MPred n caps w ms f) (eg : Enters Try.prog n) :
    Calls Try.prog 28 #[v, .func (.func n) #[] caps] w fun e w' => e = .returned (.bool (ms.any f)) ∧ Below w.heap.size w w' := by
  have HI : Hid (Calls Try.prog 37 #[v, .func (.func n) #[] caps] w fun e w' => ∃ j : Int, e = .returned (.int .i64 j) ∧ decide (0 ≤ j) = ms.any f ∧ Below w.heap.size w w') := by
    rcases hv with ⟨a, cap, rfl, rfl⟩ | ⟨b, o, cap, rfl, hlt, h1, hl⟩
    · unfold Hid
      clear hp eg
      go_enter Try.func37, Try.ntmps37
      go_wp2
      refine wp_loop_rounds 1 ?_
      rw [rounds_succ]
      go_wp2
      go_ret
      exact ⟨-1, rfl, by simp, Below.refl _ _⟩
    · exact idxM_some n caps ms f b o cap w hlt hl h1 hp eg
  clear hp eg
  go_enter Try.func28, Try.ntmps28
  go_wp2_with fail
  refine Calls.mono HI.out ?_
  rintro e w2 ⟨j, rfl, hj, hb2⟩
  have HJ : Hid (decide (0 ≤ j) = ms.any f) := hj
  clear hj
  go_wp2
  go_ret
  rw [← HJ.out]
  exact ⟨rfl, hb2⟩
/-- A function of policies, with what it has captured, answers f, of these policies. -/
def PPred (n : Nat) (caps : Array Value) (w : World) (l : List Gp.Pol) (f : Gp.Pol → Bool) : Prop :=
  ∀ (W : World) (P : Gp.Pol) (mv : Value), P ∈ l → MHolds W w.heap.size mv P.masks → Below w.heap.size w W → Calls Try.prog n (#[polV P.call mv] ++ caps) W fun e w' => e = .returned (.bool (f P)) ∧ Below W.heap.size W w'
theorem idxP_some (n : Nat) (caps : Array Value) (ms : List Gp.Pol) (f : Gp.Pol → Bool) (b o cap : Nat) (w : World) (hb : b < w.heap.size) (hl : PLies w w.heap.size b o ms) (hm : ms.length ≤ maxLen) (hp : PPred n caps w ms f) (eg : Enters Try.prog n) :
    Calls Try.prog 36 #[.slice (some ⟨b, o, none⟩) ms.length cap, .func (.func n) #[] caps] w fun e w' => ∃ j : Int, e = .returned (.int .i64 j) ∧ decide (0 ≤ j) = ms.any f ∧ Below w.heap.size w w' := by
  have HL : Hid (PLies w w.heap.size b o ms) := hl
  have HP : Hid (PPred n caps w ms f) := hp
  unfold maxLen at hm
  clear hl hp
  unfold Enters at eg
  go_enter Try.func36, Try.ntmps36
  go_wp2
  go_loopw [8] (fun i wr => ∃ k : Nat, k ≤ ms.length ∧ i = .int .i64 k ∧ Below w.heap.size w wr ∧ ms.any f = (ms.drop k).any f) (fun i _ => ms.length - (intOf i).toNat)
  case atStart => exact ⟨0, Nat.zero_le _, rfl, Below.refl _ _, by simp⟩
  case round =>
    obtain ⟨k, hk, rfl, hB, hF⟩ := hrel
    have HF : Hid (ms.any f = (ms.drop k).any f) := hF
    clear hF
    by_cases hlt : k < ms.length
    · have hx : ms[k]? = some ms[k] := List.getElem?_eq_getElem hlt
      obtain ⟨c0, mv, c1, hM⟩ := (HL.out.on hB hb (Nat.le_refl _)) k _ hx
      have HMV : Hid (MHolds wr w.heap.size mv ms[k].masks) := hM
      clear hM
      have HD : Hid ((ms.drop k).any f = _) := any_drop f ms k _ hx
      have HM : Hid (ms[k] ∈ ms) := List.getElem_mem hlt
      clear hx
      generalize ms[k] = m at *
      go_wp2_with fail
      refine (HP.out _ m mv HM.out HMV.out hB).mono ?_
      rintro e w2 ⟨rfl, hb2⟩
      have hB2 := hB.trans (hb2.mono hB.size)
      have HE : Hid (ms.any f = (f m || (ms.drop (k + 1)).any f)) := HF.out.trans HD.out
      clear HD HF HM HMV hb2 hB c0 c1
      generalize f m = x at *
      cases x
      · have HN : Hid (ms.any f = (ms.drop (k + 1)).any f) := HE.out.trans (Bool.false_or _)
        clear HE
        go_wp2
        exact ⟨⟨k + 1, by omega, by go_num, hB2, HN.out⟩, by simp [intOf]; omega⟩
      · have HN : Hid (ms.any f = true) := HE.out.trans (Bool.true_or _)
        clear HE
        go_wp2
        go_ret
        exact ⟨(k : Int), rfl, by rw [HN.out]; simp, hB2⟩
    · obtain rfl : k = ms.length := by omega
      have HN : Hid (ms.any f = false) := by unfold Hid; rw [HF.out, List.drop_length]; rfl
      clear HF
      go_wp2
      go_ret
      exact ⟨-1, rfl, by rw [HN.out]; simp, hB⟩
theorem hasP_any (n : Nat) (caps : Array Value) (ms : List Gp.Pol) (f : Gp.Pol → Bool) (v : Value) (w : World) (hv : PHolds w w.heap.size v ms) (hp : PPred n caps w ms f) (eg : Enters Try.prog n) :
    Calls Try.prog 26 #[v, .func (.func n) #[] caps] w fun e w' => e = .returned (.bool (ms.any f)) ∧ Below w.heap.size w w' := by
  have HI : Hid (Calls Try.prog 36 #[v, .func (.func n) #[] caps] w fun e w' => ∃ j : Int, e = .returned (.int .i64 j) ∧ decide (0 ≤ j) = ms.any f ∧ Below w.heap.size w w') := by
    rcases hv with ⟨a, cap, rfl, rfl⟩ | ⟨b, o, cap, rfl, hlt, h1, h2, hl⟩
    · unfold Hid
      clear hp eg
      go_enter Try.func36, Try.ntmps36
      go_wp2
      refine wp_loop_rounds 1 ?_
      rw [rounds_succ]
      go_wp2
      go_ret
      exact ⟨-1, rfl, by simp, Below.refl _ _⟩
    · exact idxP_some n caps ms f b o cap w hlt hl (by omega) hp eg
  clear hp eg
  go_enter Try.func26, Try.ntmps26
  go_wp2_with fail
  refine Calls.mono HI.out ?_
  rintro e w2 ⟨j, rfl, hj, hb2⟩
  have HJ : Hid (decide (0 ≤ j) = ms.any f) := hj
  clear hj
  go_wp2
  go_ret
  rw [← HJ.out]
  exact ⟨rfl, hb2⟩
end Go.Proofs.Ytkikghdcnejjfab
