/-
  ProcsExit returns true for all bytes, processes and codes, and leaves its arguments alone: gone, it holds nothing. No condition.
-/
import Derived.Test.YtdciohinlhbliaaJQ
import Derived.Test.YtdciohinlhbliaaRows
/-
  rglaw10.ProcsExit, walked.
-/
namespace Go.Proofs.Ytdciohinlhbliaa
open Go.RowKit
open Wp
namespace Pr
theorem exited_at {K : Kn} {k : Nat} {x : Sp.Prc} {code : Int} (h : K.P[k]? = some x) : (exited K k x code).P[k]? = some ⟨false, x.fenced, code, []⟩ := by
  show (K.P.set k _)[k]? = _
  rw [List.getElem?_set, if_pos rfl, if_pos (List.getElem?_eq_some_iff.1 h).1]
theorem exited_ne {K : Kn} {k i : Nat} {x : Sp.Prc} {code : Int} (h : i ≠ k) : (exited K k x code).P[i]? = K.P[i]? := by
  show (K.P.set k _)[i]? = _
  rw [List.getElem?_set, if_neg (fun e => h e.symm)]
theorem exited_len {K : Kn} {k : Nat} {x : Sp.Prc} {code : Int} : (exited K k x code).P.length = K.P.length := List.length_set ..
end Pr
set_option maxRecDepth 1000000 in
set_option maxHeartbeats 16000000 in
theorem sexit_any (l : List UInt8) (p code : Int) (v : Value) (w : World) (hv : Bytes w (fun b => b < w.heap.size) v l) :
    Calls Try.prog 7 #[v, .int .i64 p, .int .i64 code] w fun e w' => e = .returned (.bool true) ∧ Below w.heap.size w w' := by
  have HV0 : Hid _ := hv
  have HA0 : Hid _ := alive10_any w
  clear hv
  go_enter Try.func7, Try.ntmps7
  go_wp2_with fail
  refine Calls.mono HA0.out ?_
  rintro e w0 ⟨rfl, hb0⟩
  have HG0 : Hid (Gw w w0) := Gw.below hb0
  have HB0 : Hid _ := build_any l v w0 (Row.more (Row.on HV0.out HG0.out.1) fun b hb => Nat.lt_of_lt_of_le hb HG0.out.2.1)
  clear hb0 HA0
  go_wp2_with fail
  refine Calls.mono HB0.out ?_
  rintro e w1 ⟨vo, vp, vq, L, O, P, rfl, hkern, hkok, hb1⟩
  have hat1 : KernAt w1 vo vp vq ⟨L, O, P⟩ := ⟨hkern.1.more fun b hb => hb.2, Row.more hkern.2.1 fun b hb => hb.2, procs_more hkern.2.2 fun b hb => hb.2⟩
  have HG1 : Hid (Gw w w1) := Gw.trans HG0.out (Gw.below hb1)
  have HSW : Hid _ := swpK_any hkok _ _ _ w1 hat1
  clear hkern hkok hb1 hat1 HB0
  go_wp2_with fail
  refine Calls.mono HSW.out ?_
  rintro e w2 ⟨K, a, b, c, rfl, hat2, hpk, hg2⟩
  obtain ⟨oa, pa, qa, oc, pc, qc, rfl, rfl, rfl, m1, m2, m3⟩ := hat2.spell
  have HAT : Hid (∀ W, Gw w2 W → KernAt W (.slice oa K.L.length oc) (.slice pa K.O.length pc) (.slice qa K.P.length qc) K) := fun W hg => hat2.gw hg
  have HPK : Hid (PK K) := hpk
  have HG2 : Hid (Gw w w2) := Gw.trans HG1.out hg2
  have hk3 := Blk.new w2 #[.slice oa K.L.length oc, .slice pa K.O.length pc, .slice qa K.P.length qc] 27
  have HK3 : Hid (Blk (w2.alloc (.cells #[.slice oa K.L.length oc, .slice pa K.O.length pc, .slice qa K.P.length qc] 27)) w2.heap.size #[.slice oa K.L.length oc, .slice pa K.O.length pc, .slice qa K.P.length qc] 27) := hk3
  have HG3 : Hid (Gw w2 (w2.alloc (.cells #[.slice oa K.L.length oc, .slice pa K.O.length pc, .slice qa K.P.length qc] 27))) := Gw.new w2 _
  have k3c := hk3.cell
  have k3l := hk3.lt
  unfold maxLen at m1 m2 m3
  clear hat2 hpk hg2 hk3 HSW
  go_wp2_with fail
  generalize (w2.alloc (.cells #[.slice oa K.L.length oc, .slice pa K.O.length pc, .slice qa K.P.length qc] 27)) = w3 at *
  refine Calls.mono (pexit_any K p code _ _ _ w3 (HAT.out w3 HG3.out) HPK.out.bnd) ?_
  rintro e w4 ⟨hg34, hr⟩
  have HG4 : Hid (Gw w2 w4) := HG3.out.trans hg34
  have HK4 : Hid _ := Blk.on HK3.out hg34.1 k3l
  have k4c := Blk.cell HK4.out
  have k4l := Blk.lt HK4.out
  clear hg34 k3c k3l
  rcases hr with ⟨hlv, rfl⟩ | ⟨k, x, rfl, hx, hxl, hr'⟩
  · unfold zeroK
    rcases Pr.live_false hlv with h0 | h0 | ⟨k, x, rfl, hx, hxl⟩
    · go_wp2
      go_ret
      exact ⟨rfl, (((Gw.trans HG2.out HG4.out).trans (Gw.new _ _))).2.2 _ (Nat.le_refl _)⟩
    · have h1 : ¬ p < 0 := by omega
      go_wp2
      go_ret
      exact ⟨rfl, (((Gw.trans HG2.out HG4.out).trans (Gw.new _ _))).2.2 _ (Nat.le_refl _)⟩
    · obtain ⟨g, o, sl, rfl, -, hc, hcm, hgl, d0, -, -, -, -⟩ := (HAT.out w4 HG4.out).proc hx
      have hkl : k < K.P.length := (List.getElem?_eq_some_iff.1 hx).1
      have hkz : ¬ (K.P.length : Int) ≤ (k : Int) := by omega
      rw [hxl] at d0
      unfold maxLen at hcm
      have nn1 : ¬ w4.heap.size = g := by omega
      clear hx hlv
      go_wp2
      go_ret
      exact ⟨rfl, (((Gw.trans HG2.out HG4.out).trans (Gw.new _ _))).2.2 _ (Nat.le_refl _)⟩
  · obtain ⟨g, o, sl, rfl, -, hc, hcm, hgl, d0, d1, d2, d3, hrow⟩ := (HAT.out w4 HG4.out).proc hx
    have hkl : k < K.P.length := (List.getElem?_eq_some_iff.1 hx).1
    have hkz : ¬ (K.P.length : Int) ≤ (k : Int) := by omega
    rw [hxl] at d0
    unfold maxLen at hcm
    have nn1 : ¬ w4.heap.size = g := by omega
    have HX : Hid (K.P[k]? = some x ∧ x.live = true) := ⟨hx, hxl⟩
    clear hx hxl hrow
    rcases hr' with ⟨hcd, rfl⟩ | ⟨hc0, hc1, a', b', c', rfl, hki⟩
    · unfold zeroK
      rcases hcd with h0 | h0
      · go_wp2
        go_ret
        exact ⟨rfl, (((Gw.trans HG2.out HG4.out).trans (Gw.new _ _))).2.2 _ (Nat.le_refl _)⟩
      · have h1 : ¬ code < 0 := by omega
        go_wp2
        go_ret
        exact ⟨rfl, (((Gw.trans HG2.out HG4.out).trans (Gw.new _ _))).2.2 _ (Nat.le_refl _)⟩
    · have h0 : ¬ code < 0 := by omega
      have h1 : ¬ 255 < code := by omega
      have hXk := Pr.exited_at (code := code) HX.out.1
      have hXl := Pr.exited_len (K := K) (k := k) (x := x) (code := code)
      have HXN : Hid (∀ i, i ≠ k → (Pr.exited K k x code).P[i]? = K.P[i]?) := fun i hi => Pr.exited_ne hi
      have hXo : (Pr.exited K k x code).L = K.L := rfl
      generalize Pr.exited K k x code = X at *
      have hatx := hki.at fun b hb => hb.2
      obtain ⟨oa', pa', qa', oc', pc', qc', rfl, rfl, rfl, n1, n2, n3⟩ := hatx.spell
      rw [hXo, hXl] at hatx
      rw [hXo] at n1
      rw [hXl] at n3
      rw [hXo, hXl]
      obtain ⟨g', o', ⟨sa', sn', sc'⟩, rfl, -, hc', hcm', hgl', e0, e1, e2, e3, hrow'⟩ := hatx.proc hXk
      obtain rfl : sn' = 0 := by have := Row.eqNil hrow'; simpa using this
      have HXK : Hid (X.P[k]? = some ⟨false, x.fenced, code, []⟩) := hXk
      have HXO : Hid (X.L = K.L) := hXo
      have HATX : Hid (∀ W, Gw w4 W → KernAt W (.slice oa' K.L.length oc') (.slice pa' X.O.length pc') (.slice (some ⟨g', o', none⟩) K.P.length qc') X) := fun W hg => hatx.gw hg
      have hk5 := Blk.new w4 #[.slice oa' K.L.length oc', .slice pa' X.O.length pc', .slice (some ⟨g', o', none⟩) K.P.length qc'] 27
      have HKX : Hid (Blk (w4.alloc (.cells #[.slice oa' K.L.length oc', .slice pa' X.O.length pc', .slice (some ⟨g', o', none⟩) K.P.length qc'] 27)) w4.heap.size #[.slice oa' K.L.length oc', .slice pa' X.O.length pc', .slice (some ⟨g', o', none⟩) K.P.length qc'] 27) := hk5
      have HG5 : Hid (Gw w4 (w4.alloc (.cells #[.slice oa' K.L.length oc', .slice pa' X.O.length pc', .slice (some ⟨g', o', none⟩) K.P.length qc'] 27))) := Gw.new _ _
      have k5c := hk5.cell
      have k5l := hk5.lt
      unfold maxLen at n1 n2 n3 hcm'
      clear hk5 hatx hki hXk hXl hXo hrow' e0 e1 e2 e3 hc0 hc1
      go_wp2_with fail
      generalize (w4.alloc (.cells #[.slice oa' K.L.length oc', .slice pa' X.O.length pc', .slice (some ⟨g', o', none⟩) K.P.length qc'] 27)) = w5 at *
      refine Calls.mono (plive_any X (k : Int) _ _ _ w5 (HATX.out w5 HG5.out)) ?_
      rintro e w6 ⟨rfl, hg56⟩
      rw [Pr.live_nat HXK.out]
      have HG46 : Hid (Gw w4 w6) := HG5.out.trans hg56
      have HK6 : Hid _ := Blk.on HK4.out HG46.out.1 (Blk.lt HK4.out)
      have HX6 : Hid _ := Blk.on HKX.out hg56.1 k5l
      have k6c := Blk.cell HK6.out
      have k6l := Blk.lt HK6.out
      have x6c := Blk.cell HX6.out
      have x6l := Blk.lt HX6.out
      have hatx := HATX.out w6 HG46.out
      obtain ⟨g1, o1, ⟨sa1, sn1, sc1⟩, he1, -, -, -, hgl6, e0, e1, e2, e3, hrow'⟩ := hatx.proc HXK.out
      obtain ⟨rfl, rfl⟩ : g' = g1 ∧ o' = o1 := by simpa using he1
      obtain rfl : sn1 = 0 := by have := Row.eqNil hrow'; simpa using this
      clear d0 d1 d2 d3 k5c k5l k4c k4l he1 hatx hrow' hg56
      go_wp2_with fail
      go_loopw [96] (fun v wr => ∃ i : Nat, i ≤ K.P.length ∧ v = .int .i64 i ∧ Gw w6 wr) (fun v _ => K.P.length - (intOf v).toNat)
      case atStart => exact ⟨0, Nat.zero_le _, rfl, Gw.refl w6⟩
      case round =>
        obtain ⟨i, hi, rfl, hg⟩ := hrel
        have HG : Hid (Gw w6 wr) := hg
        have hk := Blk.on HK6.out hg.1 (Blk.lt HK6.out)
        have hxb := Blk.on HX6.out hg.1 (Blk.lt HX6.out)
        have kc := hk.cell
        have kl := hk.lt
        have xc := hxb.cell
        have xl := hxb.lt
        have HGX : Hid (Gw w4 wr) := HG46.out.trans hg
        have HGK : Hid (Gw w2 wr) := HG4.out.trans HGX.out
        clear hk hxb hg e0 e1 e2 e3
        by_cases hlt : i < K.P.length
        · obtain ⟨y, hy⟩ : ∃ y, K.P[i]? = some y := ⟨_, List.getElem?_eq_getElem hlt⟩
          have hiz : (i : Int) < (K.P.length : Int) := by omega
          by_cases hik : i = k
          · obtain rfl : k = i := hik.symm
            go_upto_region 14 with fail
            go_region
            go_wp2
            go_roundw
            case rel => exact ⟨k + 1, by omega, by go_num, HG.out.trans (Gw.drew _)⟩
            case measure => simp [intOf]; omega
          · have hne : ((i : Int) != (k : Int)) = true := bne_iff_ne.2 fun e => hik (by omega)
            have hy' : X.P[i]? = some y := by rw [HXN.out i hik]; exact hy
            obtain ⟨g1, o1, ⟨sa, sn, sc⟩, he1, -, hc1, hcm1, hgl1, a0, -, -, a3, hr1⟩ := (HAT.out wr HGK.out).proc hy
            obtain ⟨rfl, rfl⟩ : g = g1 ∧ o = o1 := by simpa using he1
            obtain ⟨g2, o2, ⟨sb, sm, sd⟩, he2, -, hc2, hcm2, hgl2, b0, -, -, b3, hr2⟩ := (HATX.out wr HGX.out).proc hy'
            obtain ⟨rfl, rfl⟩ : g' = g2 ∧ o' = o2 := by simpa using he2
            unfold maxLen at hcm1 hcm2
            have HSM : Hid (∀ W', Gw wr W' → Calls Try.prog 17 #[.slice sa sn sc, .slice sb sm sd] W' fun e w' => e = .returned (.bool true) ∧ Gw wr w') := fun W' hg => by
              refine (same_any (y.slots.map toT) _ _ _ _ W' (tab_of (Row.on hr1 hg.1)) (tab_of (Row.on hr2 hg.1))).mono ?_
              rintro e w' ⟨rfl, h⟩
              exact ⟨rfl, hg.trans (Gw.below h)⟩
            have kc2 := kc 2
            have xc2 := xc 2
            simp at kc2 xc2
            dsimp only at a3 b3
            have hgw : Gw wr wr.drew := Gw.drew _
            have HSM2 : Hid (∀ W', Gw wr W' → Calls Try.prog 17 #[.slice sa sn sc, .slice sb sm sd] W' fun e w' => e = .returned (.bool true) ∧ Gw wr w' ∧ (w'.cell? ⟨w2.heap.size, 2, none⟩ = some (.slice (some ⟨g, o, none⟩) K.P.length qc) ∧ w'.cell? ⟨w4.heap.size, 2, none⟩ = some (.slice (some ⟨g', o', none⟩) K.P.length qc') ∧ w'.cell? ⟨g, o + i * 4, none⟩ = some (.bool y.live) ∧ w'.cell? ⟨g, o + i * 4 + 3, none⟩ = some (.slice sa sn sc) ∧ w'.cell? ⟨g', o' + i * 4, none⟩ = some (.bool y.live) ∧ w'.cell? ⟨g', o' + i * 4 + 3, none⟩ = some (.slice sb sm sd)) ∧ w2.heap.size < w'.heap.size ∧ w4.heap.size < w'.heap.size ∧ g < w'.heap.size ∧ g' < w'.heap.size) := fun W' hg => by
              refine (HSM.out W' hg).mono fun e w' hh => ?_
              have hon := hh.2
              have hz := hon.2.1
              exact ⟨hh.1, hon, ⟨(On.cell hon.1 (b := w2.heap.size) kl).trans kc2, (On.cell hon.1 (b := w4.heap.size) xl).trans xc2, (On.cell hon.1 (b := g) hgl1).trans a0, (On.cell hon.1 (b := g) hgl1).trans a3, (On.cell hon.1 (b := g') hgl2).trans b0, (On.cell hon.1 (b := g') hgl2).trans b3⟩, by omega, by omega, by omega, by omega⟩
            clear he1 he2 hr1 hr2 hy hy' kc xc hik
            go_upto_region 14 with fail
            go_region_held_law (fun w' => w'.cell? ⟨w2.heap.size, 2, none⟩ = some (.slice (some ⟨g, o, none⟩) K.P.length qc) ∧ w'.cell? ⟨w4.heap.size, 2, none⟩ = some (.slice (some ⟨g', o', none⟩) K.P.length qc') ∧ w'.cell? ⟨g, o + i * 4, none⟩ = some (.bool y.live) ∧ w'.cell? ⟨g, o + i * 4 + 3, none⟩ = some (.slice sa sn sc) ∧ w'.cell? ⟨g', o' + i * 4, none⟩ = some (.bool y.live) ∧ w'.cell? ⟨g', o' + i * 4 + 3, none⟩ = some (.slice sb sm sd)) (go_keep) (first
              | ((go_at_call 17; with_reducible (refine Calls.mono (HSM2.out _ hgw) ?_); clear hgw; rintro e W3 ⟨rfl, hgw, ⟨s1, s2, s3, s4, s5, s6⟩, z1, z2, z3, z4⟩)))
            have HGR : Hid (Gw w6 W3) := Gw.trans HG.out hgw
            clear hgw s1 s2 s3 s4 s5 s6 z1 z2 z3 z4 a0 a3 b0 b3 kc2 xc2
            go_wp2
            go_roundw
            case rel => exact ⟨i + 1, by omega, by go_num, HGR.out⟩
            case measure => simp [intOf]; omega
        · obtain rfl : i = K.P.length := by omega
          have HOB : Hid _ := same_objs K.L _ _ _ _ wr (by have h := (HATX.out wr HGX.out).1; rw [HXO.out] at h; exact h) (HAT.out wr HGK.out).1 (fun b hb => hb) (fun b hb => hb)
          go_wp2_with fail
          refine Calls.mono HOB.out ?_
          rintro e W3 ⟨rfl, hb⟩
          have HGF : Hid (Gw w W3) := (HG2.out.trans HGK.out).trans (Gw.below hb)
          clear hb
          go_wp2
          go_ret
          exact ⟨rfl, HGF.out.2.2 _ (Nat.le_refl _)⟩
end Go.Proofs.Ytdciohinlhbliaa

namespace Go.Proofs.Ytdciohinlhbliaa
open Go.ChangeShapes Go.WideShapes Go.ChangeAt Go.RowKit
open Go.ChangeMaps (open_string shut_string)
set_option maxRecDepth 100000 in
theorem procsExit_lifted (os : Os) (started : os.Started) (H : Type) (enc : TypeId × Value → H) :
    ReturnsInHanded {} Try.checked os 7 .any (Rows.procsExitSpec.pre6 enc Try.prog Try.f7 Rows.procsExitRow.domain false) (Rows.procsExitSpec.post enc Try.prog Try.f7 false true false false) := by
  refine returnsInHanded_of_change_sized (C := Try.checked) vlaw_own started (by kernel_rfl) Try.func7
    (ChangeSpec.witness6 (enc := enc) (C := Try.checked) false ⟨#[], #[.slice none 0 0, .int .i64 0, .int .i64 0], []⟩ 8 (by kernel_rfl) (by kernel_rfl) (by kernel_rfl) (by kernel_rfl)) ?_
  intro W base args ds gs before hval0 hW _ hsz0 _
  have hval : ∀ (j : Nat) t v, Try.f7.params[j]? = some t → args[j]? = some v → Value.okWide Try.prog W .any base t v := hval0
  have hsz : (DataW.weightsEach Try.prog (Try.f7.params.toList ++ Rows.procsExitSpec.plain.varTypes Try.prog) (ds ++ gs)).all (· ≤ reachBytes) = true := hsz0
  have hW' := hW
  obtain ⟨p, q, hA0, hV, rfl, hfz, hnd⟩ := hW
  have hA : DataW.TrodAll enc Try.prog W 0 (fun _ => true) true Try.f7.params.toList args.toList ds p := hA0
  rw [Try.params7] at hA hval hsz
  obtain ⟨v0, vs0, d0, ds0, p0, q0, hargs, rfl, rfl, h0, r0⟩ := trodAll_cons hA
  obtain ⟨v1, vs1, d1, ds1, p1, q1, rfl, rfl, rfl, h1, r1⟩ := trodAll_cons r0
  obtain ⟨v2, vs2, d2, ds2, p2, q2, rfl, rfl, rfl, h2, r2⟩ := trodAll_cons r1
  obtain ⟨rfl, rfl, rfl⟩ := trodAll_nil r2
  obtain rfl : args = #[v0, v1, v2] := by cases args; simp_all
  obtain ⟨rfl, rfl⟩ := trodVars_none hV
  have lt0 : ∀ x ∈ p0, x.block < W.heap.size := by obtain ⟨m, hm⟩ := h0; exact DataW.trod_lt m _ _ _ hm
  have lt1 : ∀ x ∈ p1, x.block < W.heap.size := by obtain ⟨m, hm⟩ := h1; exact DataW.trod_lt m _ _ _ hm
  have lt2 : ∀ x ∈ p2, x.block < W.heap.size := by obtain ⟨m, hm⟩ := h2; exact DataW.trod_lt m _ _ _ hm
  obtain ⟨l0, hD0⟩ := vopen_bytes (hval 0 22 v0 rfl rfl) h0
  obtain ⟨z1, rfl, _, _, _⟩ := open_int Try.underlying3 (hval 1 3 v1 rfl rfl) h1
  obtain ⟨z2, rfl, _, _, _⟩ := open_int Try.underlying3 (hval 2 3 v2 rfl rfl) h2
  clear hA0 hval0 hsz hsz0
  refine (sexit_any l0 z1 z2 v0 W hD0.1).mono fun e W' ⟨he, bel⟩ => ?_
  subst he
  exact ⟨_, rfl, _, _, _, [], _, [], hW', trodAll_mk1 (shut_bool Try.underlying4 _), trodAll_cons_mk (Below.trod vlaw_laidOut (by kernel_rfl) (of_decide_eq_true (by kernel_rfl)) h0 bel lt0) (trodAll_cons_mk (Below.trod vlaw_laidOut (by kernel_rfl) (of_decide_eq_true (by kernel_rfl)) h1 bel lt1) (trodAll_cons_mk (Below.trod vlaw_laidOut (by kernel_rfl) (of_decide_eq_true (by kernel_rfl)) h2 bel lt2) trodAll_mk0)), rfl, bel.frame _, fun h => by cases h⟩
theorem procsExit_over : Rows.procsExitRow.holds Try.pinned (OpenSpec.ofChange Rows.procsExitSpec) :=
  OpenClaim.holds_of_wide 7 Try.f7 rfl rfl rfl rfl rfl rfl rfl ⟨rfl, rfl, rfl, rfl, rfl⟩ rfl rfl rfl rfl rfl (by kernel_rfl) Try.func7 (by kernel_rfl)
    (of_decide_eq_true (by kernel_rfl)) (by unfold Func.isWrapper; first | (rw [if_pos (by decide +kernel)]; kernel_rfl) | (rw [if_neg (by decide +kernel)]; exact ⟨rfl, rfl⟩))
    (fun os started H enc _ => procsExit_lifted os started H enc)
/-- The statement. -/
theorem procsExitHolds : Rows.ProcsExitSaid := procsExit_over
#print axioms procsExitHolds
end Go.Proofs.Ytdciohinlhbliaa