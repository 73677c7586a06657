/-
  The document's own answer: rgref1.Check.
-/
import Derived.Test.YtkikghdcnejjfabRegC
import Derived.Deep.CutRange
import Derived.Deep.CutBlock
namespace Go.Proofs.Ytkikghdcnejjfab
open Go.RowKit
set_option maxRecDepth 100000 in
set_option maxHeartbeats 4000000 in
theorem rcheck_some (p : List Bp.Ins) (b o cap : Nat) (hn : 1 ≤ p.length) (hm : p.length ≤ 400) (w : World) (hb : b < w.heap.size) (hl : Lies w b o p) :
    Calls Try.prog 16 #[.slice (some ⟨b, o, none⟩) p.length cap] w fun e w' => e = .returned (faultV (Bp.chk p)) ∧ Below w.heap.size w w' := by
  have HC : Hid (Bp.chk p = match Bp.first p 0 with | some f => f | none => if (p.getD (p.length - 1) default).op ≠ 6 then (2, p.length - 1) else (0, 0)) := by
    unfold Hid Bp.chk; rw [if_neg (by omega)]; rfl
  have HL : Hid (Lies (withFault w) b o p) := hl.on (withFault_below w) hb
  clear hl
  generalize Bp.chk p = res at *
  obtain ⟨re, ra⟩ := res
  unfold faultV
  go_enter Try.func16, Try.ntmps16
  go_wp2
  go_loopw [20] (fun i wr => KRel w p i wr) (fun i _ => p.length - (intOf i).toNat)
  case atStart => exact ⟨0, Nat.zero_le _, rfl, Below.refl _ _, by simp⟩
  case round =>
    obtain ⟨k, hk, rfl, hB, hF⟩ := hrel
    have HF : Hid (Bp.first p 0 = Bp.first (p.drop k) k) := hF
    have hsz : w.heap.size < wr.heap.size := by have := hB.size; rw [withFault_size] at this; omega
    clear hF
    by_cases hlt : k < p.length
    · have hx : p[k]? = some p[k] := List.getElem?_eq_getElem hlt
      obtain ⟨c0, c1, c2, c3⟩ := (HL.out.on hB (by omega)) k _ hx
      have HD : Hid (Bp.first (p.drop k) k = if Bp.wrong p[k] (p.length - 1 - k : Nat) ≠ 0 then some (Bp.wrong p[k] (p.length - 1 - k : Nat), k) else Bp.first (p.drop (k + 1)) (k + 1)) := first_drop p k _ hx
      have hcast : ((p.length : Int) - (k : Int) - 2) = ((p.length - 1 - k : Nat) : Int) - 1 := by omega
      clear hx
      obtain ⟨d0, d1, f0, f1⟩ := fault_cells hB
      generalize p[k] = x at *
      obtain ⟨op, jt, jf, kk⟩ := x
      dsimp only at c0 c1 c2 c3
      go_upto_region 9 with fail
      refine reg9_wp _ _ _ wr.heap.size op jt jf kk (Bp.br op) rfl (by simp) (by simp) (by simp) (by simp) _ _ _ _ _ _ _ _ _ _ _ _ _ _ _ _ _ _ _ _ _ _ _ _ _ _ _ _ _ _ _ _ _ _ _ _ _ _ _ _ _ _ _ _ _ _ _ _ _ _ _ _ _ _ _ _ _ _ _ _ _ _ _ _ _ _ _ _ _ _ _ _ _ _ _ _ _ _ _ _ _ _ _ _ _ _ _ _ _ _ _ _ _ _ _ _ _ _ _ _ _ _ _ _ _ _ _ _ _ _ _ _ _ _ _ _ _ _ _ _ _ _ _ _ _ _ _ _ _ _ _ _ _ _ _ _ _ _ _ _ _ _ _ _ _ _ _ _ _ _ _ _ _ _ _ _ _ _ _ _ _ _ _ _ ?_
      intros
      dsimp only
      go_upto_block 2 with fail
      go_cut [7, 20] from 20 to 153 (fun s7 s20 wx => s7 = .int .i64 (Bp.wrong ⟨op, jt, jf, kk⟩ (p.length - 1 - k : Nat)) ∧ s20 = .int .i64 k ∧ wx = wr.alloc (.cells #[.int .i64 op, .int .i64 jt, .int .i64 jf, .int .i64 kk] 30))
      case first =>
          have HE : Hid (Bp.wrong ⟨op, jt, jf, kk⟩ (p.length - 1 - k : Nat) = _) := wrong_bools op jt jf kk (p.length - 1 - k : Nat)
          clear HF HD HC HL d0 d1 f0 f1
          generalize Bp.wrong ⟨op, jt, jf, kk⟩ (p.length - 1 - k : Nat) = E at *
          generalize hm' : ((p.length - 1 - k : Nat) : Int) = M at *
          clear hm'
          generalize hbr : Bp.br op = two at *
          clear hbr
          go_upto_region 10 with fail
          refine reg10_wp _ _ _ wr.heap.size op jt jf kk M two (B10 op) rfl (by simp) (by simp) (by simp) (by simp) _ _ _ _ _ _ _ _ _ _ _ _ _ _ _ _ _ _ _ _ _ _ _ _ _ _ _ _ _ _ _ _ _ _ _ _ _ _ _ _ _ _ _ _ _ _ _ _ _ _ _ _ _ _ _ _ _ _ _ _ _ _ _ _ _ _ _ _ _ _ _ _ _ _ _ _ _ _ _ _ _ _ _ _ _ _ _ _ _ _ _ _ _ _ _ _ _ _ _ _ _ _ _ _ _ _ _ _ _ _ _ _ _ _ _ _ _ _ _ _ _ _ _ _ _ _ _ _ _ _ _ _ _ _ _ _ _ _ _ _ _ _ _ _ _ _ _ _ _ _ _ _ _ _ _ _ _ _ _ _ _ _ ?_
          intros
          dsimp only
          generalize B10 op = b10 at *
          cases b10
          rotate_left
          · go_wp2_with fail
            go_meet
            exact ⟨congrArg (Value.int .i64) (by rw [HE.out]; rfl), rfl, rfl⟩
          go_upto_region 12 with fail
          refine reg12_wp _ _ _ wr.heap.size op jt jf kk M two (B12 op kk) rfl (by simp) (by simp) (by simp) (by simp) _ _ _ _ _ _ _ _ _ _ _ _ _ _ _ _ _ _ _ _ _ _ _ _ _ _ _ _ _ _ _ _ _ _ _ _ _ _ _ _ _ _ _ _ _ _ _ _ _ _ _ _ _ _ _ _ _ _ _ _ _ _ _ _ _ _ _ _ _ _ _ _ _ _ _ _ _ _ _ _ _ _ _ _ _ _ _ _ _ _ _ _ _ _ _ _ _ _ _ _ _ _ _ _ _ _ _ _ _ _ _ _ _ _ _ _ _ _ _ _ _ _ _ _ _ _ _ _ _ _ _ _ _ _ _ _ _ _ _ _ _ _ _ _ _ _ _ _ _ _ _ _ _ _ _ _ _ _ _ _ _ _ ?_
          intros
          dsimp only
          generalize B12 op kk = b12 at *
          cases b12
          rotate_left
          · go_wp2_with fail
            go_meet
            exact ⟨congrArg (Value.int .i64) (by rw [HE.out]; rfl), rfl, rfl⟩
          go_upto_region 13 with fail
          refine reg13_wp _ _ _ wr.heap.size op jt jf kk M two (B13 two jt jf kk M) rfl (by simp) (by simp) (by simp) (by simp) _ _ _ _ _ _ _ _ _ _ _ _ _ _ _ _ _ _ _ _ _ _ _ _ _ _ _ _ _ _ _ _ _ _ _ _ _ _ _ _ _ _ _ _ _ _ _ _ _ _ _ _ _ _ _ _ _ _ _ _ _ _ _ _ _ _ _ _ _ _ _ _ _ _ _ _ _ _ _ _ _ _ _ _ _ _ _ _ _ _ _ _ _ _ _ _ _ _ _ _ _ _ _ _ _ _ _ _ _ _ _ _ _ _ _ _ _ _ _ _ _ _ _ _ _ _ _ _ _ _ _ _ _ _ _ _ _ _ _ _ _ _ _ _ _ _ _ _ _ _ _ _ _ _ _ _ _ _ _ _ _ _ ?_
          intros
          dsimp only
          generalize B13 two jt jf kk M = b13 at *
          cases b13
          rotate_left
          · go_wp2_with fail
            go_meet
            exact ⟨congrArg (Value.int .i64) (by rw [HE.out]; rfl), rfl, rfl⟩
          go_upto_region 14 with fail
          refine reg14_wp _ _ _ wr.heap.size op jt jf kk M two (B14 op kk M) rfl (by simp) (by simp) (by simp) (by simp) _ _ _ _ _ _ _ _ _ _ _ _ _ _ _ _ _ _ _ _ _ _ _ _ _ _ _ _ _ _ _ _ _ _ _ _ _ _ _ _ _ _ _ _ _ _ _ _ _ _ _ _ _ _ _ _ _ _ _ _ _ _ _ _ _ _ _ _ _ _ _ _ _ _ _ _ _ _ _ _ _ _ _ _ _ _ _ _ _ _ _ _ _ _ _ _ _ _ _ _ _ _ _ _ _ _ _ _ _ _ _ _ _ _ _ _ _ _ _ _ _ _ _ _ _ _ _ _ _ _ _ _ _ _ _ _ _ _ _ _ _ _ _ _ _ _ _ _ _ _ _ _ _ _ _ _ _ _ _ _ _ _ ?_
          intros
          dsimp only
          generalize B14 op kk M = b14 at *
          cases b14
          rotate_left
          · go_wp2_with fail
            go_meet
            exact ⟨congrArg (Value.int .i64) (by rw [HE.out]; rfl), rfl, rfl⟩
          go_upto_region 15 with fail
          refine reg15_wp _ _ _ wr.heap.size op jt jf kk M two (B15 op kk) rfl (by simp) (by simp) (by simp) (by simp) _ _ _ _ _ _ _ _ _ _ _ _ _ _ _ _ _ _ _ _ _ _ _ _ _ _ _ _ _ _ _ _ _ _ _ _ _ _ _ _ _ _ _ _ _ _ _ _ _ _ _ _ _ _ _ _ _ _ _ _ _ _ _ _ _ _ _ _ _ _ _ _ _ _ _ _ _ _ _ _ _ _ _ _ _ _ _ _ _ _ _ _ _ _ _ _ _ _ _ _ _ _ _ _ _ _ _ _ _ _ _ _ _ _ _ _ _ _ _ _ _ _ _ _ _ _ _ _ _ _ _ _ _ _ _ _ _ _ _ _ _ _ _ _ _ _ _ _ _ _ _ _ _ _ _ _ _ _ _ _ _ _ ?_
          intros
          dsimp only
          generalize B15 op kk = b15 at *
          cases b15
          rotate_left
          · go_wp2_with fail
            go_meet
            exact ⟨congrArg (Value.int .i64) (by rw [HE.out]; rfl), rfl, rfl⟩
          go_upto_region 17 with fail
          refine reg17_wp _ _ _ wr.heap.size op jt jf kk M two (B17 two jt jf) rfl (by simp) (by simp) (by simp) (by simp) _ _ _ _ _ _ _ _ _ _ _ _ _ _ _ _ _ _ _ _ _ _ _ _ _ _ _ _ _ _ _ _ _ _ _ _ _ _ _ _ _ _ _ _ _ _ _ _ _ _ _ _ _ _ _ _ _ _ _ _ _ _ _ _ _ _ _ _ _ _ _ _ _ _ _ _ _ _ _ _ _ _ _ _ _ _ _ _ _ _ _ _ _ _ _ _ _ _ _ _ _ _ _ _ _ _ _ _ _ _ _ _ _ _ _ _ _ _ _ _ _ _ _ _ _ _ _ _ _ _ _ _ _ _ _ _ _ _ _ _ _ _ _ _ _ _ _ _ _ _ _ _ _ _ _ _ _ _ _ _ _ _ ?_
          intros
          dsimp only
          generalize B17 two jt jf = b17 at *
          cases b17
          rotate_left
          · go_wp2_with fail
            go_meet
            exact ⟨congrArg (Value.int .i64) (by rw [HE.out]; rfl), rfl, rfl⟩
          go_wp2_with fail
          go_meet
          exact ⟨congrArg (Value.int .i64) (by rw [HE.out]; rfl), rfl, rfl⟩
      case rest =>
          obtain ⟨rfl, rfl, rfl⟩ := hcut
          generalize Bp.wrong ⟨op, jt, jf, kk⟩ (p.length - 1 - k : Nat) = x at *
          clear c0 c1 c2 c3 hcast
          by_cases hw : x = 0
          · subst hw
            have HN : Hid (Bp.first p 0 = Bp.first (p.drop (k + 1)) (k + 1)) := by unfold Hid; rw [HF.out, HD.out]; simp
            clear HF HD
            go_wp2
            go_roundw
            case rel => exact ⟨k + 1, by omega, by go_num, hB.alloc (by omega) _, HN.out⟩
            case measure => simp [intOf]; omega
          · have hw' : (x != 0) = true := by simp [hw]
            have hres : (re, ra) = (x, k) := by rw [HC.out, HF.out, HD.out]; simp [hw]
            clear HF HD HC hw
            simp only [Prod.mk.injEq] at hres
            obtain ⟨rfl, rfl⟩ := hres
            go_wp2
            exact bodyPost_ret (v := .agg #[.int .i64 re, .int .i64 ra]) (by simp [results, Try.results16, go_sem, d0, d1, hsz]) rfl ⟨rfl, (fault_below hB _ _).alloc (by simp; omega) _⟩
    · obtain rfl : k = p.length := by omega
      have hx : p[p.length - 1]? = some (p.getD (p.length - 1) default) := by rw [List.getD_eq_getElem?_getD, List.getElem?_eq_getElem (by omega)]; rfl
      obtain ⟨c0, _, _, _⟩ := (HL.out.on hB (by omega)) (p.length - 1) _ hx
      have hcast : ((p.length : Int) - 1) = ((p.length - 1 : Nat) : Int) := by omega
      have HR : Hid ((re, ra) = if (p.getD (p.length - 1) default).op ≠ 6 then (2, p.length - 1) else (0, 0)) := by
        unfold Hid; rw [HC.out, HF.out]; simp [Bp.first]
      obtain ⟨d0, d1, f0, f1⟩ := fault_cells hB
      clear hx HF HC
      generalize p.getD (p.length - 1) default = x at *
      by_cases h6 : x.op = 6
      · have hR := HR.out
        simp only [h6, ne_eq, not_true, if_false, Prod.mk.injEq] at hR
        obtain ⟨rfl, rfl⟩ := hR
        rw [h6] at c0
        clear HR h6
        go_wp2
        exact bodyPost_ret (v := .agg #[.int .i64 0, .int .i64 0]) (by simp [results, Try.results16, go_sem, d0, d1]) rfl ⟨rfl, fault_below hB _ _⟩
      · have hR := HR.out
        simp only [h6, ne_eq, not_false_eq_true, if_true, Prod.mk.injEq] at hR
        obtain ⟨rfl, rfl⟩ := hR
        have h6' : (x.op != 6) = true := by simp [h6]
        clear HR h6
        go_wp2
        exact bodyPost_ret (v := .agg #[.int .i64 2, .int .i64 (p.length - 1 : Nat)]) (by simp [results, Try.results16, go_sem, d0, d1]) rfl ⟨rfl, fault_below hB _ _⟩
set_option maxRecDepth 100000 in
theorem rcheck_many (b : Option Addr) (n cap : Nat) (hn : n < 1 ∨ 400 < n) (w : World) :
    Calls Try.prog 16 #[.slice b n cap] w fun e w' => e = .returned (.agg #[.int .i64 5, .int .i64 0]) ∧ Below w.heap.size w w' := by
  by_cases h : n < 1
  · obtain rfl : n = 0 := by omega
    go_enter Try.func16, Try.ntmps16
    go_wp2
    exact bodyPost_ret (v := .agg #[.int .i64 5, .int .i64 0]) (by simp [results, Try.results16, go_sem]) rfl ⟨rfl, (Below.refl _ _).alloc (Nat.le_refl _) _⟩
  · have h2 : 400 < n := by omega
    clear hn h
    go_enter Try.func16, Try.ntmps16
    go_wp2
    exact bodyPost_ret (v := .agg #[.int .i64 5, .int .i64 0]) (by simp [results, Try.results16, go_sem]) rfl ⟨rfl, (Below.refl _ _).alloc (Nat.le_refl _) _⟩
/-- rgref1.Check tells what the document says. -/
theorem rcheck_any (p : List Bp.Ins) (v : Value) (w : World) (hv : Holds w w.heap.size v p) :
    Calls Try.prog 16 #[v] w fun e w' => e = .returned (faultV (Bp.chk p)) ∧ Below w.heap.size w w' := by
  by_cases hn : p.length < 1 ∨ 400 < p.length
  · have hc : Bp.chk p = (5, 0) := by unfold Bp.chk; rw [if_pos hn]
    rw [hc]
    rcases hv with ⟨a, cap, rfl, rfl⟩ | ⟨b, o, cap, rfl, _, _, _⟩
    · exact rcheck_many a 0 cap (by simp) w
    · exact rcheck_many _ p.length cap hn w
  · rcases hv with ⟨a, cap, rfl, rfl⟩ | ⟨b, o, cap, rfl, hlt, _, hl⟩
    · simp at hn
    · exact rcheck_some p b o cap (by omega) (by omega) w hlt hl
end Go.Proofs.Ytkikghdcnejjfab
