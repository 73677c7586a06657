/-
  The document's own answer: rgref1.Wrong.
-/
import Derived.Test.YtkikghdcnejjfabGMap
import Derived.BigQuiet
import Derived.Deep.QuietTactic
import Derived.Deep.RegionWith
import Derived.Handy
namespace Go.Proofs.Ytkikghdcnejjfab
open Go.RowKit Go.Maps
theorem bad_any (e : Int) (g k : Nat) (w : World) (hc : w.cell? ⟨g, 0, none⟩ = some (.int .i64 k)) (hg : g < w.heap.size) :
    Calls Try.prog 24 #[.int .i64 e, .pointer (some ⟨g, 0, none⟩)] w fun x w' => x = .returned (.agg #[.int .i64 e, .int .i64 k]) ∧ Below w.heap.size w w' := by
  go_enter Try.func24, Try.ntmps24
  go_wp2
  exact bodyPost_ret (v := .agg #[.int .i64 e, .int .i64 k]) (by simp [results, Try.results24, go_sem]) rfl ⟨rfl, (Below.refl _ _).alloc (Nat.le_refl _) _⟩
theorem wf_call {c : Int} (h1 : 0 ≤ c) (h2 : c < 2147483648) : (Lit.int .i64 c).wf = true := WalkArith.wf_i64 (by omega)
def WRel (w : World) (l : List Gp.Pol) (i : Value) (wr : World) : Prop :=
  ∃ (k : Nat) (ks : List Int), k ≤ l.length ∧ i = .int .i64 k ∧ Below (w.heap.size + 1) (withFault w) wr ∧ SetIs wr (w.heap.size + 1) k ks ∧ Gp.firstP l [] 0 = Gp.firstP (l.drop k) ks k
set_option maxRecDepth 100000 in
set_option maxHeartbeats 4000000 in
theorem rwrong_some (l : List Gp.Pol) (b o cap : Nat) (w : World) (hb : b < w.heap.size) (hl : PLies w w.heap.size b o l) (hm : l.length ≤ 30) :
    Calls Try.prog 11 #[.slice (some ⟨b, o, none⟩) l.length cap] w fun e w' => e = .returned (faultV (Gp.wrongP l)) ∧ Below w.heap.size w w' := by
  have HL : Hid (PLies (withFault w) w.heap.size b o l) := hl.on (withFault_below w) hb (Nat.le_refl _)
  have HC : Hid (Gp.wrongP l = (Gp.firstP l [] 0).getD (0, 0)) := by unfold Hid Gp.wrongP; rw [if_neg (by omega)]
  clear hl
  generalize Gp.wrongP l = res at *
  obtain ⟨re, ra⟩ := res
  unfold faultV
  have hmm := @run_makeMap Try.prog
  go_enter Try.func11, Try.ntmps11
  go_wp2
  clear hmm
  go_loopw [16] (fun i wr => WRel w l i wr) (fun i _ => l.length - (intOf i).toNat)
  case atStart =>
    refine ⟨0, [], Nat.zero_le _, rfl, (Below.refl _ _).alloc (by rw [withFault_size]; exact Nat.le_refl _) _, ?_, by simp⟩
    have := SetIs.made (withFault w)
    rw [withFault_size] at this
    exact this
  case round =>
    obtain ⟨k, ks, hk, rfl, hB, hS, hF⟩ := hrel
    have HF : Hid (Gp.firstP l [] 0 = Gp.firstP (l.drop k) ks k) := hF
    have hsz : w.heap.size + 1 < wr.heap.size := hS.lt
    clear hF
    by_cases hlt : k < l.length
    · have hx : l[k]? = some l[k] := List.getElem?_eq_getElem hlt
      obtain ⟨c0, mv, c1, hM⟩ := (HL.out.on hB (by omega) (by omega)) k _ hx
      have HD : Hid (Gp.firstP (l.drop k) ks k = _) := Gp.firstP_drop l ks k _ hx
      clear hx
      generalize l[k] = P at *
      obtain ⟨call, ms⟩ := P
      dsimp only at c0 hM HD
      obtain ⟨am, capm, rfl, hmm⟩ := hM.form
      unfold maxLen at hmm
      obtain ⟨d0, d1, f0, f1⟩ := fault_cells hB
      clear d0 d1 f0 f1
      have HBB : Below (w.heap.size + 1) (withFault w) ((wr.alloc (.cells #[.int .i64 k] 3)).alloc (.cells #[.int .i64 call, .slice am ms.length capm] 41)) := (hB.alloc (by omega) _).alloc (by simp; omega) _
      have hab : Below wr.heap.size wr ((wr.alloc (.cells #[.int .i64 k] 3)).alloc (.cells #[.int .i64 call, .slice am ms.length capm] 41)) := ((Below.refl _ _).alloc (Nat.le_refl _) _).alloc (by simp) _
      by_cases h1 : call < 0
      · have hpe : Gp.polErr ks ⟨call, ms⟩ = 3 := by unfold Gp.polErr; rw [if_pos (Or.inl h1)]
        have hres : (re, ra) = (3, k) := by rw [HC.out, HF.out, HD.out, if_pos (by rw [hpe]; omega), hpe]; rfl
        simp only [Prod.mk.injEq] at hres
        obtain ⟨rfl, rfl⟩ := hres
        clear HF HD HC hS hM hpe
        go_wp2_with fail
        refine (bad_any 3 wr.heap.size ra _ (by simp) (by simp; omega)).mono ?_
        rintro e w2 ⟨rfl, hb2⟩
        have hB2 : Below (w.heap.size + 1) (withFault w) w2 := HBB.trans (hb2.mono (by simp; omega))
        obtain ⟨d0, d1, f0, f1⟩ := fault_cells hB2
        go_wp2
        exact bodyPost_ret (v := .agg #[.int .i64 3, .int .i64 ra]) (by simp [results, Try.results11, go_sem, d0, d1]) rfl ⟨rfl, fault_below hB2 _ _⟩
      by_cases h2 : 2147483648 ≤ call
      · have hpe : Gp.polErr ks ⟨call, ms⟩ = 3 := by unfold Gp.polErr; rw [if_pos (Or.inr h2)]
        have hres : (re, ra) = (3, k) := by rw [HC.out, HF.out, HD.out, if_pos (by rw [hpe]; omega), hpe]; rfl
        simp only [Prod.mk.injEq] at hres
        obtain ⟨rfl, rfl⟩ := hres
        clear HF HD HC hS hM hpe
        go_wp2_with fail
        refine (bad_any 3 wr.heap.size ra _ (by simp) (by simp; omega)).mono ?_
        rintro e w2 ⟨rfl, hb2⟩
        have hB2 : Below (w.heap.size + 1) (withFault w) w2 := HBB.trans (hb2.mono (by simp; omega))
        obtain ⟨d0, d1, f0, f1⟩ := fault_cells hB2
        go_wp2
        exact bodyPost_ret (v := .agg #[.int .i64 3, .int .i64 ra]) (by simp [results, Try.results11, go_sem, d0, d1]) rfl ⟨rfl, fault_below hB2 _ _⟩
      have hwf : (Lit.int .i64 call).wf = true := wf_call (by omega) (by omega)
      have hS2 := hS.on hab hsz
      have hlook := hS2.look call hwf
      have HWF : Hid ((Lit.int .i64 call).wf = true) := hwf
      clear hwf
      by_cases h3 : call ∈ ks
      · have hpe : Gp.polErr ks ⟨call, ms⟩ = 7 := by unfold Gp.polErr; rw [if_neg (by dsimp only; omega), if_pos h3]
        have h3' : decide (call ∈ ks) = true := decide_eq_true h3
        rw [h3'] at hlook
        have hres : (re, ra) = (7, k) := by rw [HC.out, HF.out, HD.out, if_pos (by rw [hpe]; omega), hpe]; rfl
        simp only [Prod.mk.injEq] at hres
        obtain ⟨rfl, rfl⟩ := hres
        clear HF HD HC hS hM hpe hS2 h3 h3'
        go_wp2_with fail
        refine (bad_any 7 wr.heap.size ra _ (by simp) (by simp; omega)).mono ?_
        rintro e w2 ⟨rfl, hb2⟩
        have hB2 : Below (w.heap.size + 1) (withFault w) w2 := HBB.trans (hb2.mono (by simp; omega))
        obtain ⟨d0, d1, f0, f1⟩ := fault_cells hB2
        go_wp2
        exact bodyPost_ret (v := .agg #[.int .i64 7, .int .i64 ra]) (by simp [results, Try.results11, go_sem, d0, d1]) rfl ⟨rfl, fault_below hB2 _ _⟩
      have h3' : decide (call ∈ ks) = false := decide_eq_false h3
      rw [h3'] at hlook
      clear h3'
      have hM2 := hM.on hab (by omega)
      go_wp2_with (at_mapUpdate; refine wpList_setPut rfl _ _ _ rfl (w.heap.size + 1) k ks rfl hS2 (by omega) call HWF.out rfl rfl ?_)
      intro wu hSu hgu
      have hBu : Below (w.heap.size + 1) (withFault w) wu := HBB.grown hgu (by simp; omega) (fun j hj => by cases hj; exact Nat.le_refl _)
      have hMu := hM2.on ((Below.refl w.heap.size _).grown hgu (by simp; omega) (fun j hj => by cases hj; omega)) (Nat.le_refl _)
      have cI : wu.cell? ⟨wr.heap.size, 0, none⟩ = some (.int .i64 k) := (World.cell?_of_block (hgu.block wr.heap.size (by simp; omega) (by simp; omega))).trans (by simp)
      have cP : wu.cell? ⟨wr.heap.size + 1, 1, none⟩ = some (.slice am ms.length capm) := (World.cell?_of_block (hgu.block (wr.heap.size + 1) (by simp) (by simp; omega))).trans (by simp)
      have hzu : wr.heap.size + 2 ≤ wu.heap.size := by have := hgu.size; simp at this; omega
      have hcn : ¬ (call < 0 ∨ 2147483648 ≤ call) := by omega
      have HPE : Hid (Gp.polErr ks ⟨call, ms⟩ = if 3 < ms.length then 5 else if Gp.anyBad ms = true then 3 else 0) := by unfold Hid Gp.polErr; rw [if_neg hcn, if_neg h3]
      clear hgu hM2 hS2 hlook HBB hab hS hB hM h3 hcn c0 c1
      by_cases h4 : 3 < ms.length
      · have hpe : Gp.polErr ks ⟨call, ms⟩ = 5 := by rw [HPE.out, if_pos h4]
        have hres : (re, ra) = (5, k) := by rw [HC.out, HF.out, HD.out, if_pos (by rw [hpe]; omega), hpe]; rfl
        simp only [Prod.mk.injEq] at hres
        obtain ⟨rfl, rfl⟩ := hres
        clear HF HD HC hpe HPE hSu hMu
        go_wp2_with fail
        refine (bad_any 5 wr.heap.size ra _ cI (by omega)).mono ?_
        rintro e w2 ⟨rfl, hb2⟩
        have hB2 : Below (w.heap.size + 1) (withFault w) w2 := hBu.trans (hb2.mono (by omega))
        obtain ⟨d0, d1, f0, f1⟩ := fault_cells hB2
        go_wp2
        exact bodyPost_ret (v := .agg #[.int .i64 5, .int .i64 ra]) (by simp [results, Try.results11, go_sem, d0, d1]) rfl ⟨rfl, fault_below hB2 _ _⟩
      · go_wp2_with fail
        go_loopw [50] (fun i W => ∃ j : Nat, j ≤ ms.length ∧ i = .int .i64 j ∧ Below wu.heap.size wu W ∧ Gp.anyBad ms = Gp.anyBad (ms.drop j)) (fun i _ => ms.length - (intOf i).toNat)
        case atStart => exact ⟨0, Nat.zero_le _, rfl, Below.refl _ _, by simp⟩
        case round =>
          obtain ⟨j, hj, rfl, hW, hG⟩ := hrel
          have HG : Hid (Gp.anyBad ms = Gp.anyBad (ms.drop j)) := hG
          clear hG
          have hzW := hW.size
          have hBW : Below (w.heap.size + 1) (withFault w) _ := hBu.trans (hW.mono (by omega))
          have cI2 := (hW.cell (p := ⟨_, 0, none⟩) (by simp; omega)).trans cI
          by_cases hjl : j < ms.length
          · have hx : ms[j]? = some ms[j] := List.getElem?_eq_getElem hjl
            rcases hMu.on hW (by omega) with ⟨_, _, _, rfl⟩ | ⟨b', o', cap', he, hlt', _, hml⟩
            · simp at hjl
            simp only [Value.slice.injEq, true_and] at he
            obtain ⟨rfl, rfl⟩ := he
            obtain ⟨m0, m1⟩ := hml j _ hx
            have HJ : Hid (Gp.anyBad (ms.drop j) = _) := Gp.anyBad_drop ms j _ hx
            clear hx hml
            generalize ms[j] = m at *
            obtain ⟨mw, mb⟩ := m
            dsimp only at m0 m1
            have hzI : _ < wr.heap.size := Nat.lt_of_lt_of_le (Nat.lt_of_lt_of_le (Nat.lt_succ_self _) (Nat.le_trans (Nat.le_succ _) hzu)) hzW
            have cI3 := fun o => (((Below.refl wr.heap.size wr).alloc (Nat.le_refl _) o).cell (p := ⟨_, 0, none⟩) hzI).trans cI2
            cases hbm : Gp.badMask (mw, mb)
            · have hg := of_decide_eq_false hbm
              dsimp only at hg
              have q1 : 1 ≤ mw := by omega
              have q2 : mw ≤ 5 := by omega
              have q3 : 1 ≤ mb := by omega
              have q4 : mb < 2147483648 := by omega
              have HN : Hid (Gp.anyBad ms = Gp.anyBad (ms.drop (j + 1))) := by unfold Hid; rw [HG.out, HJ.out, hbm]; rfl
              clear HG HJ hbm hg cI3 cI2
              go_wp2
              exact ⟨⟨j + 1, by omega, by go_num, hW.alloc hzW _, HN.out⟩, by simp [intOf]; omega⟩
            · have hab : Gp.anyBad ms = true := by rw [HG.out, HJ.out, hbm]; rfl
              have hpe : Gp.polErr ks ⟨call, ms⟩ = 3 := by rw [HPE.out, if_neg h4, if_pos hab]
              have hres : (re, ra) = (3, k) := by rw [HC.out, HF.out, HD.out, if_pos (by rw [hpe]; omega), hpe]; rfl
              simp only [Prod.mk.injEq] at hres
              obtain ⟨rfl, rfl⟩ := hres
              have hg := of_decide_eq_true hbm
              dsimp only at hg
              clear HF HD HC hpe HPE hab HG HJ hbm cI2
              by_cases q1 : mw < 1
              · clear hg
                go_wp2_with fail
                refine (bad_any 3 _ ra _ (cI3 _) (by simp; omega)).mono ?_
                rintro e w2 ⟨rfl, hb2⟩
                have hB2 : Below (w.heap.size + 1) (withFault w) w2 := (hBW.alloc (by omega) _).trans (hb2.mono (by simp; omega))
                obtain ⟨d0, d1, f0, f1⟩ := fault_cells hB2
                go_wp2
                exact bodyPost_ret (v := .agg #[.int .i64 3, .int .i64 ra]) (by simp [results, Try.results11, go_sem, d0, d1]) rfl ⟨rfl, fault_below hB2 _ _⟩
              by_cases q2 : 5 < mw
              · clear hg
                go_wp2_with fail
                refine (bad_any 3 _ ra _ (cI3 _) (by simp; omega)).mono ?_
                rintro e w2 ⟨rfl, hb2⟩
                have hB2 : Below (w.heap.size + 1) (withFault w) w2 := (hBW.alloc (by omega) _).trans (hb2.mono (by simp; omega))
                obtain ⟨d0, d1, f0, f1⟩ := fault_cells hB2
                go_wp2
                exact bodyPost_ret (v := .agg #[.int .i64 3, .int .i64 ra]) (by simp [results, Try.results11, go_sem, d0, d1]) rfl ⟨rfl, fault_below hB2 _ _⟩
              by_cases q3 : mb < 1
              · clear hg
                go_wp2_with fail
                refine (bad_any 3 _ ra _ (cI3 _) (by simp; omega)).mono ?_
                rintro e w2 ⟨rfl, hb2⟩
                have hB2 : Below (w.heap.size + 1) (withFault w) w2 := (hBW.alloc (by omega) _).trans (hb2.mono (by simp; omega))
                obtain ⟨d0, d1, f0, f1⟩ := fault_cells hB2
                go_wp2
                exact bodyPost_ret (v := .agg #[.int .i64 3, .int .i64 ra]) (by simp [results, Try.results11, go_sem, d0, d1]) rfl ⟨rfl, fault_below hB2 _ _⟩
              have q4 : 2147483648 ≤ mb := by omega
              clear hg
              go_wp2_with fail
              refine (bad_any 3 _ ra _ (cI3 _) (by simp; omega)).mono ?_
              rintro e w2 ⟨rfl, hb2⟩
              have hB2 : Below (w.heap.size + 1) (withFault w) w2 := (hBW.alloc (by omega) _).trans (hb2.mono (by simp; omega))
              obtain ⟨d0, d1, f0, f1⟩ := fault_cells hB2
              go_wp2
              exact bodyPost_ret (v := .agg #[.int .i64 3, .int .i64 ra]) (by simp [results, Try.results11, go_sem, d0, d1]) rfl ⟨rfl, fault_below hB2 _ _⟩
          · obtain rfl : j = ms.length := by omega
            have hab : Gp.anyBad ms = false := by rw [HG.out, List.drop_length]; rfl
            have hpe : Gp.polErr ks ⟨call, ms⟩ = 0 := by rw [HPE.out, if_neg h4, if_neg (by rw [hab]; simp)]
            have HN : Hid (Gp.firstP l [] 0 = Gp.firstP (l.drop (k + 1)) (call :: ks) (k + 1)) := by unfold Hid; rw [HF.out, HD.out, if_neg (by rw [hpe]; simp)]
            clear HF HD HPE hpe hab HG cI2
            go_wp2
            exact ⟨⟨k + 1, call :: ks, by omega, by go_num, hBW, hSu.on hW hSu.lt, HN.out⟩, by simp [intOf]; omega⟩
    · obtain rfl : k = l.length := by omega
      have hres : (re, ra) = (0, 0) := by rw [HC.out, HF.out, List.drop_length]; rfl
      simp only [Prod.mk.injEq] at hres
      obtain ⟨rfl, rfl⟩ := hres
      obtain ⟨d0, d1, f0, f1⟩ := fault_cells hB
      clear HF HC hS
      go_wp2
      exact bodyPost_ret (v := .agg #[.int .i64 0, .int .i64 0]) (by simp [results, Try.results11, go_sem, d0, d1]) rfl ⟨rfl, fault_below hB _ _⟩
theorem rwrong_many (a : Option Addr) (n cap : Nat) (hn : 30 < n) (w : World) :
    Calls Try.prog 11 #[.slice a n cap] w fun e w' => e = .returned (.agg #[.int .i64 5, .int .i64 0]) ∧ Below w.heap.size w w' := by
  go_enter Try.func11, Try.ntmps11
  go_wp2
  exact bodyPost_ret (v := .agg #[.int .i64 5, .int .i64 0]) (by simp [results, Try.results11, go_sem]) rfl ⟨rfl, (Below.refl _ _).alloc (Nat.le_refl _) _⟩
theorem rwrong_nil (a : Option Addr) (cap : Nat) (w : World) :
    Calls Try.prog 11 #[.slice a 0 cap] w fun e w' => e = .returned (.agg #[.int .i64 0, .int .i64 0]) ∧ Below w.heap.size w w' := by
  have hmm := @run_makeMap Try.prog
  go_enter Try.func11, Try.ntmps11
  go_wp2
  refine wp_loop_rounds 1 ?_
  rw [rounds_succ]
  go_wp2
  exact bodyPost_ret (v := .agg #[.int .i64 0, .int .i64 0]) (by simp [results, Try.results11, go_sem]) rfl ⟨rfl, ((Below.refl _ _).alloc (Nat.le_refl _) _).alloc (by simp) _⟩
/-- rgref1.Wrong tells what the document says. -/
theorem rwrong_any (l : List Gp.Pol) (v : Value) (w : World) (hv : PHolds w w.heap.size v l) :
    Calls Try.prog 11 #[v] w fun e w' => e = .returned (faultV (Gp.wrongP l)) ∧ Below w.heap.size w w' := by
  by_cases h : 30 < l.length
  · have e : Gp.wrongP l = (5, 0) := by unfold Gp.wrongP; rw [if_pos h]
    rw [e]
    rcases hv with ⟨a, cap, rfl, rfl⟩ | ⟨b, o, cap, rfl, hlt, h1, h2, hl⟩
    · simp at h
    · exact rwrong_many _ _ cap h w
  · rcases hv with ⟨a, cap, rfl, rfl⟩ | ⟨b, o, cap, rfl, hlt, h1, h2, hl⟩
    · exact rwrong_nil a cap w
    · exact rwrong_some l b o cap w hlt hl (by omega)
end Go.Proofs.Ytkikghdcnejjfab
