/-
  What gate.Wrong answers: policy by policy.
-/
import Derived.Test.YtkikghdcnejjfabGWalkB
namespace Go.Proofs.Ytkikghdcnejjfab
open Go.RowKit
theorem PLies.take {w : World} {B b o : Nat} {l : List Gp.Pol} (h : PLies w B b o l) (k : Nat) : PLies w B b o (l.take k) := by
  intro i P hP
  refine h i P ?_
  rw [List.getElem?_take] at hP
  split at hP
  · exact hP
  · cases hP
theorem PLies.up {w : World} {B B' b o : Nat} {l : List Gp.Pol} (h : PLies w B b o l) (hB : B ≤ B') : PLies w B' b o l := by
  intro i P hP
  obtain ⟨e1, mv, e2, e3⟩ := h i P hP
  exact ⟨e1, mv, e2, e3.up hB⟩
/-- The calls that lie ahead. -/
def ahd (l : List Gp.Pol) (k : Nat) : List Int := (l.take k).map Gp.Pol.call
theorem polErr_mem {ks ks' : List Int} (h : ∀ c, c ∈ ks ↔ c ∈ ks') (P : Gp.Pol) : Gp.polErr ks P = Gp.polErr ks' P := by
  unfold Gp.polErr
  simp only [h P.call]
theorem firstP_mem : ∀ (l : List Gp.Pol) (ks ks' : List Int) (a : Nat), (∀ c, c ∈ ks ↔ c ∈ ks') → Gp.firstP l ks a = Gp.firstP l ks' a
  | [], _, _, _, _ => rfl
  | P :: t, ks, ks', a, h => by
    rw [Gp.firstP, Gp.firstP, polErr_mem h P, firstP_mem t (P.call :: ks) (P.call :: ks') (a + 1) (fun c => by simp [h c])]
theorem firstP_ahd (l : List Gp.Pol) (k : Nat) (P : Gp.Pol) (hP : l[k]? = some P) : Gp.firstP (l.drop k) (ahd l k) k = if Gp.polErr (ahd l k) P ≠ 0 then some (Gp.polErr (ahd l k) P, k) else Gp.firstP (l.drop (k + 1)) (ahd l (k + 1)) (k + 1) := by
  rw [Gp.firstP_drop l _ k P hP]
  congr 1
  apply firstP_mem
  intro c
  obtain ⟨hk, rfl⟩ := List.getElem?_eq_some_iff.1 hP
  unfold ahd
  rw [List.take_succ_eq_append_getElem hk]
  simp only [List.map_append, List.mem_append, List.map_cons, List.map_nil, List.mem_cons, List.not_mem_nil, or_false]
  exact or_comm
def GRel (w : World) (l : List Gp.Pol) (i : Value) (wr : World) : Prop :=
  ∃ k : Nat, k ≤ l.length ∧ i = .int .i64 k ∧ Below (w.heap.size + 1) (withFault w) wr ∧ Gp.firstP l [] 0 = Gp.firstP (l.drop k) (ahd l k) k
set_option maxRecDepth 100000 in
set_option maxHeartbeats 4000000 in
theorem gWrong_some (l : List Gp.Pol) (b o cap : Nat) (w : World) (hb : b < w.heap.size) (hl : PLies w w.heap.size b o l) (hm : l.length ≤ 30) (hcap : l.length ≤ cap) (hcm : cap ≤ maxLen) :
    Calls Try.prog 10 #[.slice (some ⟨b, o, none⟩) l.length cap] w fun e w' => e = .returned (faultV (Gp.wrongP l)) ∧ Below w.heap.size w w' := by
  have HL : Hid (PLies (withFault w) w.heap.size b o l) := hl.on (withFault_below w) hb (Nat.le_refl _)
  have HC : Hid (Gp.wrongP l = (Gp.firstP l [] 0).getD (0, 0)) := by unfold Hid Gp.wrongP; rw [if_neg (by omega)]
  clear hl
  generalize Gp.wrongP l = res at *
  obtain ⟨re, ra⟩ := res
  unfold faultV
  go_enter Try.func10, Try.ntmps10
  go_wp2
  go_loopw [12] (fun i wr => GRel w l i wr) (fun i _ => l.length - (intOf i).toNat)
  case atStart => exact ⟨0, Nat.zero_le _, rfl, Below.refl _ _, by simp [ahd]⟩
  case round =>
    obtain ⟨k, hk, rfl, hB, hF⟩ := hrel
    have HF : Hid (Gp.firstP l [] 0 = Gp.firstP (l.drop k) (ahd l k) k) := hF
    have hsz : w.heap.size < wr.heap.size := by have := hB.size; rw [withFault_size] at this; omega
    clear hF
    by_cases hlt : k < l.length
    · have hx : l[k]? = some l[k] := List.getElem?_eq_getElem hlt
      have hPL := HL.out.on hB (by omega) (by omega)
      obtain ⟨c0, mv, c1, hM⟩ := hPL k _ hx
      have HD : Hid (Gp.firstP (l.drop k) (ahd l k) k = _) := firstP_ahd l k _ hx
      clear hx
      generalize l[k] = P at *
      obtain ⟨am, capm, rfl, hmm⟩ := hM.form
      unfold maxLen at hmm
      have HCW : Hid (∀ W, Below wr.heap.size wr W → Calls Try.prog 23 #[polV P.call (.slice am P.masks.length capm), .slice (some ⟨b, o, none⟩) k cap] W fun e w' => e = .returned (.int .i64 (Gp.polErr (ahd l k) P)) ∧ Below W.heap.size W w') := by
        intro W hW
        have hWz := hW.size
        refine gwrong_any P _ (l.take k) _ W ((hM.on hW (by omega)).up (by omega)) (Or.inr ⟨b, o, cap, ?_, by omega, ?_, hcm, ((hPL.take k).on hW (by omega) (by omega)).up (by omega)⟩)
        · rw [List.length_take, Nat.min_eq_left hk]
        · rw [List.length_take, Nat.min_eq_left hk]; omega
      unfold polV at HCW
      have hab := (Below.refl wr.heap.size wr).alloc (Nat.le_refl _) (.cells #[.int .i64 P.call, .slice am P.masks.length capm] 41)
      clear hPL hM
      unfold maxLen at hcm
      go_wp2_with fail
      go_region_with (go_at_call 23; refine (HCW.out _ (by exact hab.drew)).mono ?_; rintro e w2 ⟨rfl, hb2⟩)
      all_goals (have hB2 : Below (w.heap.size + 1) (withFault w) w2 := ((hB.alloc (by omega) _).drew).trans (hb2.mono (by simp; omega)))
      all_goals clear hb2 hB hab HCW
      all_goals generalize Gp.polErr (ahd l k) P = x at *
      all_goals by_cases hw : x = 0
      case pos | pos =>
        subst hw
        have HN : Hid (Gp.firstP l [] 0 = Gp.firstP (l.drop (k + 1)) (ahd l (k + 1)) (k + 1)) := by unfold Hid; rw [HF.out, HD.out]; simp
        clear HF HD
        go_wp2
        exact ⟨⟨k + 1, by omega, by go_num, hB2, HN.out⟩, by simp [intOf]; omega⟩
      all_goals (have hw' : (x != 0) = true := by simp [hw])
      all_goals (have hres : (re, ra) = (x, k) := by rw [HC.out, HF.out, HD.out]; simp [hw])
      all_goals clear HF HD HC hw
      all_goals simp only [Prod.mk.injEq] at hres
      all_goals obtain ⟨rfl, rfl⟩ := hres
      all_goals obtain ⟨d0, d1, f0, f1⟩ := fault_cells hB2
      all_goals go_wp2
      all_goals exact bodyPost_ret (v := .agg #[.int .i64 re, .int .i64 ra]) (by simp [results, Try.results10, go_sem, d0, d1]) rfl ⟨rfl, fault_below hB2 _ _⟩
    · obtain rfl : k = l.length := by omega
      have hres : (re, ra) = (0, 0) := by rw [HC.out, HF.out, List.drop_length]; rfl
      simp only [Prod.mk.injEq] at hres
      obtain ⟨rfl, rfl⟩ := hres
      obtain ⟨d0, d1, f0, f1⟩ := fault_cells hB
      clear HF HC
      go_wp2
      exact bodyPost_ret (v := .agg #[.int .i64 0, .int .i64 0]) (by simp [results, Try.results10, go_sem, d0, d1]) rfl ⟨rfl, fault_below hB _ _⟩
theorem gWrong_many (a : Option Addr) (n cap : Nat) (hn : 30 < n) (w : World) :
    Calls Try.prog 10 #[.slice a n cap] w fun e w' => e = .returned (.agg #[.int .i64 5, .int .i64 0]) ∧ Below w.heap.size w w' := by
  go_enter Try.func10, Try.ntmps10
  go_wp2
  exact bodyPost_ret (v := .agg #[.int .i64 5, .int .i64 0]) (by simp [results, Try.results10, go_sem]) rfl ⟨rfl, (Below.refl _ _).alloc (Nat.le_refl _) _⟩
theorem gWrong_nil (a : Option Addr) (cap : Nat) (w : World) :
    Calls Try.prog 10 #[.slice a 0 cap] w fun e w' => e = .returned (.agg #[.int .i64 0, .int .i64 0]) ∧ Below w.heap.size w w' := by
  go_enter Try.func10, Try.ntmps10
  go_wp2
  refine wp_loop_rounds 1 ?_
  rw [rounds_succ]
  go_wp2
  exact bodyPost_ret (v := .agg #[.int .i64 0, .int .i64 0]) (by simp [results, Try.results10, go_sem]) rfl ⟨rfl, (Below.refl _ _).alloc (Nat.le_refl _) _⟩
/-- gate.Wrong tells what the document says. -/
theorem gWrong_any (l : List Gp.Pol) (v : Value) (w : World) (hv : PHolds w w.heap.size v l) :
    Calls Try.prog 10 #[v] w fun e w' => e = .returned (faultV (Gp.wrongP l)) ∧ Below w.heap.size w w' := by
  by_cases h : 30 < l.length
  · have e : Gp.wrongP l = (5, 0) := by unfold Gp.wrongP; rw [if_pos h]
    rw [e]
    rcases hv with ⟨a, cap, rfl, rfl⟩ | ⟨b, o, cap, rfl, hlt, h1, h2, hl⟩
    · simp at h
    · exact gWrong_many _ _ cap h w
  · rcases hv with ⟨a, cap, rfl, rfl⟩ | ⟨b, o, cap, rfl, hlt, h1, h2, hl⟩
    · exact gWrong_nil a cap w
    · exact gWrong_some l b o cap w hlt hl (by omega) h1 h2
end Go.Proofs.Ytkikghdcnejjfab
