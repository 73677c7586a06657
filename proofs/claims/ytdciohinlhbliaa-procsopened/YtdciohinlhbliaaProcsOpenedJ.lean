/-
  ProcsOpened returns true for all bytes, processes, objects and rights, and leaves its arguments alone: opened, it is one more. No condition.
-/
import Derived.Test.YtdciohinlhbliaaJQ
import Derived.Test.YtdciohinlhbliaaRows
/-
  rglaw10.ProcsOpened, walked.
-/
namespace Go.Proofs.Ytdciohinlhbliaa
open Go.RowKit
open Wp
set_option maxRecDepth 1000000 in
set_option maxHeartbeats 16000000 in
theorem sopened_any (l : List UInt8) (p obj st : Int) (v : Value) (w : World) (hv : Bytes w (fun b => b < w.heap.size) v l) :
    Calls Try.prog 8 #[v, .int .i64 p, .int .i64 obj, .int .i64 st] w fun e w' => e = .returned (.bool true) ∧ Below w.heap.size w w' := by
  have HV0 : Hid _ := hv
  have HA0 : Hid _ := alive10_any w
  clear hv
  go_enter Try.func8, Try.ntmps8
  go_wp2_with fail
  refine Calls.mono HA0.out ?_
  rintro e w0 ⟨rfl, hb0⟩
  have HG0 : Hid (Gw w w0) := Gw.below hb0
  have HB0 : Hid _ := build_any l v w0 (Row.more (Row.on HV0.out HG0.out.1) fun b hb => Nat.lt_of_lt_of_le hb HG0.out.2.1)
  clear hb0 HA0
  go_wp2_with fail
  refine Calls.mono HB0.out ?_
  rintro e w1 ⟨vo, vp, vq, L, O, P, rfl, hkern, hkok, hb1⟩
  have hat1 : KernAt w1 vo vp vq ⟨L, O, P⟩ := ⟨hkern.1.more fun b hb => hb.2, Row.more hkern.2.1 fun b hb => hb.2, procs_more hkern.2.2 fun b hb => hb.2⟩
  have HG1 : Hid (Gw w w1) := Gw.trans HG0.out (Gw.below hb1)
  have HSW : Hid _ := swpK_any hkok _ _ _ w1 hat1
  clear hkern hkok hb1 hat1 HB0
  go_wp2_with fail
  refine Calls.mono HSW.out ?_
  rintro e w2 ⟨K, a, b, c, rfl, hat2, hpk, hg2⟩
  obtain ⟨oa, pa, qa, oc, pc, qc, rfl, rfl, rfl, m1, m2, m3⟩ := hat2.spell
  have HAT : Hid (∀ W, Gw w2 W → KernAt W (.slice oa K.L.length oc) (.slice pa K.O.length pc) (.slice qa K.P.length qc) K) := fun W hg => hat2.gw hg
  have HPK : Hid (PK K) := hpk
  have HG2 : Hid (Gw w w2) := Gw.trans HG1.out hg2
  have hk3 := Blk.new w2 #[.slice oa K.L.length oc, .slice pa K.O.length pc, .slice qa K.P.length qc] 27
  have HK3 : Hid (Blk (w2.alloc (.cells #[.slice oa K.L.length oc, .slice pa K.O.length pc, .slice qa K.P.length qc] 27)) w2.heap.size #[.slice oa K.L.length oc, .slice pa K.O.length pc, .slice qa K.P.length qc] 27) := hk3
  have HG3 : Hid (Gw w2 (w2.alloc (.cells #[.slice oa K.L.length oc, .slice pa K.O.length pc, .slice qa K.P.length qc] 27))) := Gw.new w2 _
  have k3c := hk3.cell
  have k3l := hk3.lt
  unfold maxLen at m1 m2 m3
  clear hat2 hpk hg2 hk3 HSW
  go_wp2_with fail
  generalize (w2.alloc (.cells #[.slice oa K.L.length oc, .slice pa K.O.length pc, .slice qa K.P.length qc] 27)) = w3 at *
  refine Calls.mono (plive_any K p _ _ _ w3 (HAT.out w3 HG3.out)) ?_
  rintro e w4 ⟨rfl, hg34⟩
  have HG4 : Hid (Gw w2 w4) := HG3.out.trans hg34
  have HK4 : Hid _ := Blk.on HK3.out hg34.1 k3l
  have k4c := Blk.cell HK4.out
  have k4l := Blk.lt HK4.out
  clear hg34 k3c k3l
  cases hlv : Pr.live K.P p with
  | false =>
    go_wp2
    go_ret
    exact ⟨rfl, (Gw.trans HG2.out HG4.out).2.2 _ (Nat.le_refl _)⟩
  | true =>
    have HLV : Hid (Pr.live K.P p = true) := hlv
    clear hlv
    go_wp2_with fail
    refine Calls.mono (is_any K.L obj 0 _ _ w4 (HAT.out w4 HG4.out).1) ?_
    rintro e w5 ⟨rfl, rfl⟩
    rw [Pr.sp_is]
    cases hio : isObj K.L obj with
    | false =>
      go_wp2
      go_ret
      exact ⟨rfl, (Gw.trans HG2.out HG4.out).2.2 _ (Nat.le_refl _)⟩
    | true =>
      have HIO : Hid (isObj K.L obj = true) := hio
      clear hio
      by_cases h0 : st < 0
      · go_wp2
        go_ret
        exact ⟨rfl, (Gw.trans HG2.out HG4.out).2.2 _ (Nat.le_refl _)⟩
      · by_cases h1 : 4095 < st
        · go_wp2
          go_ret
          exact ⟨rfl, (Gw.trans HG2.out HG4.out).2.2 _ (Nat.le_refl _)⟩
        · have HOP : Hid _ := popened_any K p obj st _ _ _ w5 (HAT.out w5 HG4.out) HPK.out.bnd
          go_wp2_with fail
          refine Calls.mono HOP.out ?_
          rintro e w6 ⟨hg56, hr⟩
          rcases hr with ⟨hno, rfl⟩ | ⟨k, x, rfl, hx, hxl, -, hr'⟩
          · rw [HLV.out, HIO.out] at hno; cases hno
          · rcases hr' with ⟨hall, rfl⟩ | ⟨at', hat, hfa, -, hr''⟩
            · exact (Pr.not_all HPK.out.many hall).elim
            · have hsl := HPK.out.slots x (List.mem_of_getElem? hx)
              rw [Pr.putR_has hsl.2 hsl.1 (Int.natCast_nonneg _) ⟨by omega, by omega⟩] at hr''
              dsimp only at hr''
              rcases hr'' with ⟨hne, -⟩ | ⟨-, a', b', c', rfl, hki⟩
              · exact (hne rfl).elim
              · have hXp := Pr.opened_proc (k := at') (obj := obj) (l := x.slots.map toT ++ [⟨true, (at' : Int), st⟩]) hx
                have hXo := Pr.opened_open (K := K) (p := k) (k := at') (x := x) (obj := obj) (l := x.slots.map toT ++ [⟨true, (at' : Int), st⟩])
                have hXl := Pr.opened_len (K := K) (p := k) (k := at') (x := x) (obj := obj) (l := x.slots.map toT ++ [⟨true, (at' : Int), st⟩])
                have hXq := Pr.opened_procs (K := K) (p := k) (k := at') (x := x) (obj := obj) (l := x.slots.map toT ++ [⟨true, (at' : Int), st⟩])
                generalize Pr.opened K k x at' obj (x.slots.map toT ++ [⟨true, (at' : Int), st⟩]) = X at *
                have hatx := hki.at fun b hb => hb.2
                obtain ⟨oa', pa', qa', oc', pc', qc', rfl, rfl, rfl, n1, n2, n3⟩ := hatx.spell
                rw [hXq] at hatx n3 ⊢
                obtain ⟨g, o, sl, rfl, -, hc, hcm, hgl, -, -, -, d3, hrow⟩ := hatx.proc hXp
                obtain ⟨g4, o4, rfl, -, hc4, hcm4, hgl4, -, -⟩ := hatx.open hXo
                obtain ⟨g3, o3, sl3, rfl, -, hc3, hcm3, hgl3, -, -, -, -, hrow3⟩ := (HAT.out w6 (HG4.out.trans hg56)).proc hx
                have HX : Hid (K.P[k]? = some x ∧ x.live = true) := ⟨hx, hxl⟩
                have HXP : Hid _ := hXp
                have HXO : Hid (X.O[at']? = some ⟨obj, 0⟩) := hXo
                have HXL : Hid (X.O.length = max K.O.length (at' + 1)) := hXl
                have HFA : Hid (Pr.hadO K.O at' = false) := hfa
                have HG6 : Hid (Gw w2 w6) := HG4.out.trans hg56
                have hkl : k < K.P.length := (List.getElem?_eq_some_iff.1 hx).1
                have hkz : (k : Int) < (K.P.length : Int) := by omega
                have HATX : Hid (∀ W, Gw w6 W → KernAt W (.slice oa' X.L.length oc') (.slice (some ⟨g4, o4, none⟩) X.O.length pc') (.slice (some ⟨g, o, none⟩) K.P.length qc') X) := fun W hg => hatx.gw hg
                have HK6 : Hid _ := Blk.on HK4.out hg56.1 (Blk.lt HK4.out)
                have hk7 := Blk.new w6 #[.slice oa' X.L.length oc', .slice (some ⟨g4, o4, none⟩) X.O.length pc', .slice (some ⟨g, o, none⟩) K.P.length qc'] 27
                have HKX : Hid (Blk (w6.alloc (.cells #[.slice oa' X.L.length oc', .slice (some ⟨g4, o4, none⟩) X.O.length pc', .slice (some ⟨g, o, none⟩) K.P.length qc'] 27)) w6.heap.size #[.slice oa' X.L.length oc', .slice (some ⟨g4, o4, none⟩) X.O.length pc', .slice (some ⟨g, o, none⟩) K.P.length qc'] 27) := hk7
                have HK7 : Hid (Blk (w6.alloc (.cells #[.slice oa' X.L.length oc', .slice (some ⟨g4, o4, none⟩) X.O.length pc', .slice (some ⟨g, o, none⟩) K.P.length qc'] 27)) w2.heap.size #[.slice oa K.L.length oc, .slice pa K.O.length pc, .slice (some ⟨g3, o3, none⟩) K.P.length qc] 27) := Blk.alloc HK6.out _
                have HG67 : Hid (Gw w6 (w6.alloc (.cells #[.slice oa' X.L.length oc', .slice (some ⟨g4, o4, none⟩) X.O.length pc', .slice (some ⟨g, o, none⟩) K.P.length qc'] 27))) := Gw.new _ _
                have k7c := hk7.cell
                have k7l := hk7.lt
                have nn1 : ¬ w6.heap.size = g := by omega
                have HTX : Hid (∀ W, Gw w6 W → Tab W (fun b => b < W.heap.size) (.slice sl.a sl.n sl.c) (x.slots.map toT ++ [⟨true, (at' : Int), st⟩])) := fun W hg => by
                  have h := tab_of (Row.more (Row.on hrow hg.1) fun b hb => Nat.lt_of_lt_of_le hb hg.2.1)
                  rw [Pr.toT_ofT] at h
                  exact h
                have HGX : Hid (∀ W, Gw w6 W → Calls Try.prog 21 #[.slice sl.a sl.n sl.c, .int .i64 (x.slots.length : Int)] W fun e w' => e = .returned (.tuple #[.agg #[.int .i64 (at' : Int), .int .i64 st], .int .i64 0]) ∧ Gw W w') := fun W hg => by
                  have h := rget_any _ (x.slots.length : Int) _ _ W (HTX.out W hg) (fun b hb => hb)
                  have hn := Pr.get_new (x.slots.map toT) (at' : Int) st
                  rw [List.length_map] at hn
                  rw [hn] at h
                  exact h.mono fun e w' hh => ⟨hh.1, Gw.below hh.2⟩
                unfold maxLen at n1 n2 n3 hcm hcm3 hcm4
                clear hatx hki hXp hXo hXl hXq hx hxl hfa hg56 hk7 hrow hrow3 k4c k4l hsl HOP
                go_wp2_with fail
                generalize (w6.alloc (.cells #[.slice oa' X.L.length oc', .slice (some ⟨g4, o4, none⟩) X.O.length pc', .slice (some ⟨g, o, none⟩) K.P.length qc'] 27)) = w7 at *
                refine Calls.mono (HGX.out w7 HG67.out) ?_
                rintro e w8 ⟨rfl, hg78⟩
                have HG68 : Hid (Gw w6 w8) := HG67.out.trans hg78
                have HG8 : Hid (Gw w2 w8) := HG6.out.trans HG68.out
                have HK8 : Hid (Blk w8 w2.heap.size #[.slice oa K.L.length oc, .slice pa K.O.length pc, .slice (some ⟨g3, o3, none⟩) K.P.length qc] 27) := Blk.on HK7.out hg78.1 (Blk.lt HK7.out)
                have HX8 : Hid (Blk w8 w6.heap.size #[.slice oa' X.L.length oc', .slice (some ⟨g4, o4, none⟩) X.O.length pc', .slice (some ⟨g, o, none⟩) K.P.length qc'] 27) := Blk.on HKX.out hg78.1 (Blk.lt HKX.out)
                have k8c := Blk.cell HK8.out
                have k8l := Blk.lt HK8.out
                obtain ⟨g5, o5, sl5, he5, -, -, -, hgl5, -, -, -, d5, hrow5⟩ := (HAT.out w8 HG8.out).proc HX.out.1
                obtain ⟨rfl, rfl⟩ : g3 = g5 ∧ o3 = o5 := by simpa using he5
                have hc9 := Blk.new w8 #[.int .i64 (at' : Int), .int .i64 st] 50
                have HC9 : Hid (Blk (w8.alloc (.cells #[.int .i64 (at' : Int), .int .i64 st] 50)) w8.heap.size #[.int .i64 (at' : Int), .int .i64 st] 50) := hc9
                have HG89 : Hid (Gw w8 (w8.alloc (.cells #[.int .i64 (at' : Int), .int .i64 st] 50))) := Gw.new _ _
                have HGK : Hid (∀ W, Gw w8 W → Calls Try.prog 21 #[.slice sl5.a sl5.n sl5.c, .int .i64 (x.slots.length : Int)] W fun e w' => e = .returned (.tuple #[.agg #[.int .i64 0, .int .i64 0], .int .i64 6]) ∧ Gw W w') := fun W hg => by
                  have h := rget_any _ (x.slots.length : Int) _ _ W (tab_of (Row.more (Row.on hrow5 hg.1) fun b hb => Nat.lt_of_lt_of_le hb hg.2.1)) (fun b hb => hb)
                  have hn := Pr.get_end (x.slots.map toT)
                  rw [List.length_map] at hn
                  rw [hn] at h
                  exact h.mono fun e w' hh => ⟨hh.1, Gw.below hh.2⟩
                have nn2 : ¬ w8.heap.size = g3 := by omega
                clear he5 hc9 hrow5 hg78 k7c k7l d3
                go_wp2_with fail
                generalize (w8.alloc (.cells #[.int .i64 (at' : Int), .int .i64 st] 50)) = w9 at *
                refine Calls.mono (HGK.out w9 HG89.out) ?_
                rintro e w10 ⟨rfl, hg90⟩
                have HG80 : Hid (Gw w8 w10) := HG89.out.trans hg90
                have HC10 : Hid (Blk w10 w8.heap.size #[.int .i64 (at' : Int), .int .i64 st] 50) := Blk.on HC9.out hg90.1 (Blk.lt HC9.out)
                have HK10 : Hid (Blk w10 w2.heap.size #[.slice oa K.L.length oc, .slice pa K.O.length pc, .slice (some ⟨g3, o3, none⟩) K.P.length qc] 27) := Blk.on HK8.out HG80.out.1 k8l
                have HX10 : Hid (Blk w10 w6.heap.size #[.slice oa' X.L.length oc', .slice (some ⟨g4, o4, none⟩) X.O.length pc', .slice (some ⟨g, o, none⟩) K.P.length qc'] 27) := Blk.on HX8.out HG80.out.1 (Blk.lt HX8.out)
                have c10c := Blk.cell HC10.out
                have c10l := Blk.lt HC10.out
                have k10c := Blk.cell HK10.out
                have k10l := Blk.lt HK10.out
                have x10c := Blk.cell HX10.out
                have x10l := Blk.lt HX10.out
                obtain ⟨g6, o6, he6, -, -, -, hgl6, f0, f1⟩ := (HATX.out w10 (HG68.out.trans HG80.out)).open HXO.out
                obtain ⟨rfl, rfl⟩ : g4 = g6 ∧ o4 = o6 := by simpa using he6
                dsimp only at f0 f1
                have hxl1 : (at' : Int) < (X.O.length : Int) := by have := HXL.out; omega
                have hxl2 : ¬ (X.O.length : Int) ≤ (at' : Int) := by omega
                have hat0 : ¬ (at' : Int) < 0 := by omega
                have hq := fun W => eqOpn W obj 0
                have nn3 : ¬ w10.heap.size = g4 := by omega
                have HGF : Hid (Gw w (w10.alloc (.cells #[.int .i64 0, .int .i64 0] 50))) := ((HG2.out.trans HG8.out).trans HG80.out).trans (Gw.new _ _)
                clear he6 hg90 k8c k8l d5
                by_cases hkO : at' < K.O.length
                · obtain ⟨y, hy⟩ : ∃ y, K.O[at']? = some y := ⟨_, List.getElem?_eq_getElem hkO⟩
                  have hyo : y.obj < 0 := by
                    have h := HFA.out
                    unfold Pr.hadO at h
                    rw [hy] at h
                    have := of_decide_eq_false h
                    omega
                  obtain ⟨g7, o7, rfl, -, hc7, hcm7, hgl7, q0, -⟩ := (HAT.out w10 (HG8.out.trans HG80.out)).open hy
                  unfold maxLen at hcm7
                  have nn4 : ¬ w10.heap.size = g7 := by omega
                  have hk1 : (at' : Int) < (K.O.length : Int) := by omega
                  have hk2 : ¬ (K.O.length : Int) ≤ (at' : Int) := by omega
                  clear hy
                  go_wp2
                  go_ret
                  exact ⟨rfl, HGF.out.2.2 _ (Nat.le_refl _)⟩
                · have hk2 : (K.O.length : Int) ≤ (at' : Int) := by omega
                  go_wp2
                  go_ret
                  exact ⟨rfl, HGF.out.2.2 _ (Nat.le_refl _)⟩
end Go.Proofs.Ytdciohinlhbliaa

namespace Go.Proofs.Ytdciohinlhbliaa
open Go.ChangeShapes Go.WideShapes Go.ChangeAt Go.RowKit
open Go.ChangeMaps (open_string shut_string)
set_option maxRecDepth 100000 in
theorem procsOpened_lifted (os : Os) (started : os.Started) (H : Type) (enc : TypeId × Value → H) :
    ReturnsInHanded {} Try.checked os 8 .any (Rows.procsOpenedSpec.pre6 enc Try.prog Try.f8 Rows.procsOpenedRow.domain false) (Rows.procsOpenedSpec.post enc Try.prog Try.f8 false true false false) := by
  refine returnsInHanded_of_change_sized (C := Try.checked) vlaw_own started (by kernel_rfl) Try.func8
    (ChangeSpec.witness6 (enc := enc) (C := Try.checked) false ⟨#[], #[.slice none 0 0, .int .i64 0, .int .i64 0, .int .i64 0], []⟩ 8 (by kernel_rfl) (by kernel_rfl) (by kernel_rfl) (by kernel_rfl)) ?_
  intro W base args ds gs before hval0 hW _ hsz0 _
  have hval : ∀ (j : Nat) t v, Try.f8.params[j]? = some t → args[j]? = some v → Value.okWide Try.prog W .any base t v := hval0
  have hsz : (DataW.weightsEach Try.prog (Try.f8.params.toList ++ Rows.procsOpenedSpec.plain.varTypes Try.prog) (ds ++ gs)).all (· ≤ reachBytes) = true := hsz0
  have hW' := hW
  obtain ⟨p, q, hA0, hV, rfl, hfz, hnd⟩ := hW
  have hA : DataW.TrodAll enc Try.prog W 0 (fun _ => true) true Try.f8.params.toList args.toList ds p := hA0
  rw [Try.params8] at hA hval hsz
  obtain ⟨v0, vs0, d0, ds0, p0, q0, hargs, rfl, rfl, h0, r0⟩ := trodAll_cons hA
  obtain ⟨v1, vs1, d1, ds1, p1, q1, rfl, rfl, rfl, h1, r1⟩ := trodAll_cons r0
  obtain ⟨v2, vs2, d2, ds2, p2, q2, rfl, rfl, rfl, h2, r2⟩ := trodAll_cons r1
  obtain ⟨v3, vs3, d3, ds3, p3, q3, rfl, rfl, rfl, h3, r3⟩ := trodAll_cons r2
  obtain ⟨rfl, rfl, rfl⟩ := trodAll_nil r3
  obtain rfl : args = #[v0, v1, v2, v3] := by cases args; simp_all
  obtain ⟨rfl, rfl⟩ := trodVars_none hV
  have lt0 : ∀ x ∈ p0, x.block < W.heap.size := by obtain ⟨m, hm⟩ := h0; exact DataW.trod_lt m _ _ _ hm
  have lt1 : ∀ x ∈ p1, x.block < W.heap.size := by obtain ⟨m, hm⟩ := h1; exact DataW.trod_lt m _ _ _ hm
  have lt2 : ∀ x ∈ p2, x.block < W.heap.size := by obtain ⟨m, hm⟩ := h2; exact DataW.trod_lt m _ _ _ hm
  have lt3 : ∀ x ∈ p3, x.block < W.heap.size := by obtain ⟨m, hm⟩ := h3; exact DataW.trod_lt m _ _ _ hm
  obtain ⟨l0, hD0⟩ := vopen_bytes (hval 0 22 v0 rfl rfl) h0
  obtain ⟨z1, rfl, _, _, _⟩ := open_int Try.underlying3 (hval 1 3 v1 rfl rfl) h1
  obtain ⟨z2, rfl, _, _, _⟩ := open_int Try.underlying3 (hval 2 3 v2 rfl rfl) h2
  obtain ⟨z3, rfl, _, _, _⟩ := open_int Try.underlying3 (hval 3 3 v3 rfl rfl) h3
  clear hA0 hval0 hsz hsz0
  refine (sopened_any l0 z1 z2 z3 v0 W hD0.1).mono fun e W' ⟨he, bel⟩ => ?_
  subst he
  exact ⟨_, rfl, _, _, _, [], _, [], hW', trodAll_mk1 (shut_bool Try.underlying4 _), trodAll_cons_mk (Below.trod vlaw_laidOut (by kernel_rfl) (of_decide_eq_true (by kernel_rfl)) h0 bel lt0) (trodAll_cons_mk (Below.trod vlaw_laidOut (by kernel_rfl) (of_decide_eq_true (by kernel_rfl)) h1 bel lt1) (trodAll_cons_mk (Below.trod vlaw_laidOut (by kernel_rfl) (of_decide_eq_true (by kernel_rfl)) h2 bel lt2) (trodAll_cons_mk (Below.trod vlaw_laidOut (by kernel_rfl) (of_decide_eq_true (by kernel_rfl)) h3 bel lt3) trodAll_mk0))), rfl, bel.frame _, fun h => by cases h⟩
theorem procsOpened_over : Rows.procsOpenedRow.holds Try.pinned (OpenSpec.ofChange Rows.procsOpenedSpec) :=
  OpenClaim.holds_of_wide 8 Try.f8 rfl rfl rfl rfl rfl rfl rfl ⟨rfl, rfl, rfl, rfl, rfl⟩ rfl rfl rfl rfl rfl (by kernel_rfl) Try.func8 (by kernel_rfl)
    (of_decide_eq_true (by kernel_rfl)) (by unfold Func.isWrapper; first | (rw [if_pos (by decide +kernel)]; kernel_rfl) | (rw [if_neg (by decide +kernel)]; exact ⟨rfl, rfl⟩))
    (fun os started H enc _ => procsOpened_lifted os started H enc)
/-- The statement. -/
theorem procsOpenedHolds : Rows.ProcsOpenedSaid := procsOpened_over
#print axioms procsOpenedHolds
end Go.Proofs.Ytdciohinlhbliaa