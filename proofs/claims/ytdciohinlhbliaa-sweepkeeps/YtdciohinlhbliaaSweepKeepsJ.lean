/-
  SweepKeeps returns true for all bytes of which a kernel is made, and leaves its argument alone: what processes that live on hold is as it was, and all that one can come to in what is left is as it was. No condition.
-/
import Derived.Test.YtdciohinlhbliaaJT
import Derived.Deep.RegionHeld3
import Derived.Test.YtdciohinlhbliaaRows
/-
  rglaw8.SweepKeeps, walked.
-/
namespace Go.Proofs.Ytdciohinlhbliaa
open Go.RowKit Go.Maps
open Wp
set_option maxRecDepth 1000000 in
set_option maxHeartbeats 16000000 in
theorem skeeps_any (l : List UInt8) (v : Value) (w : World) (hv : Bytes w (fun b => b < w.heap.size) v l) :
    Calls Try.prog 5 #[v] w fun e w' => e = .returned (.bool true) ∧ Below w.heap.size w w' := by
  have HV0 : Hid _ := hv
  have HA0 : Hid _ := alive8_any w
  clear hv
  go_enter Try.func5, Try.ntmps5
  go_wp2_with fail
  refine Calls.mono HA0.out ?_
  rintro e w0 ⟨rfl, hb0⟩
  have HG0 : Hid (Gw w w0) := Gw.below hb0
  have HB0 : Hid _ := build_any l v w0 (Row.more (Row.on HV0.out HG0.out.1) fun b hb => Nat.lt_of_lt_of_le hb HG0.out.2.1)
  clear hb0 HA0
  go_wp2_with fail
  refine Calls.mono HB0.out ?_
  rintro e w1 ⟨vo, vp, vq, L, O, P, rfl, hkern, hkok, hb1⟩
  obtain ⟨⟨ts, hts, hrow, hls⟩, hop, ⟨ps, hps, hprow, hsl⟩⟩ := hkern
  obtain ⟨oa, oc, rfl, hom⟩ := Row.form hrow
  obtain ⟨pa, pn, pc, rfl⟩ : ∃ a n c, vp = .slice a n c := by obtain ⟨a, c, e, -⟩ := Row.form hop; exact ⟨_, _, _, e⟩
  obtain ⟨qa, qc, rfl, hqm⟩ := Row.form hprow
  simp only [List.length_map] at hrow hprow hom hqm ⊢
  have hR1 : ∀ b, (w0.heap.size ≤ b ∧ b < w1.heap.size) → b < w1.heap.size := fun b hb => hb.2
  have hat1 : KernAt w1 (.slice oa ts.length oc) (.slice pa pn pc) (.slice qa ps.length qc) ⟨L, O, P⟩ := ⟨⟨ts, hts, hrow.more hR1, fun t ht => (hls t ht).more hR1⟩, Row.more hop hR1, ⟨ps, hps, hprow.more hR1, fun t ht => Row.more (hsl t ht) hR1⟩⟩
  have HAT1 : Hid (KernAt w1 (.slice oa ts.length oc) (.slice pa pn pc) (.slice qa ps.length qc) ⟨L, O, P⟩) := hat1
  have HG1 : Hid (Gw w w1) := Gw.trans HG0.out (Gw.below hb1)
  have HOK : Hid (Sp.KOk L O P) := hkok
  have HRO : Hid (Row w1 (fun b => b < w1.heap.size) 9 (.slice oa ts.length oc) (ts.map objC)) := hrow.more hR1
  have HRP : Hid (Row w1 (fun b => b < w1.heap.size) 4 (.slice qa ps.length qc) (ps.map prcC)) := hprow.more hR1
  have HLS : Hid (∀ t ∈ ts, Lists w1 (fun b => b < w1.heap.size) t) := fun t ht => (hls t ht).more hR1
  have HSL : Hid (∀ t ∈ ps, Row w1 (fun b => b < w1.heap.size) 3 (.slice t.1.a t.1.n t.1.c) (t.2.slots.map sltC)) := fun t ht => Row.more (hsl t ht) hR1
  have HTS : Hid (L = ts.map Prod.snd ∧ P = ps.map Prod.snd) := ⟨hts, hps⟩
  have hk2 := Blk.new w1 #[.slice oa ts.length oc, .slice pa pn pc, .slice qa ps.length qc] 27
  have HK2 : Hid (Blk (w1.alloc (.cells #[.slice oa ts.length oc, .slice pa pn pc, .slice qa ps.length qc] 27)) w1.heap.size #[.slice oa ts.length oc, .slice pa pn pc, .slice qa ps.length qc] 27) := hk2
  have HG2 : Hid (Gw w1 (w1.alloc (.cells #[.slice oa ts.length oc, .slice pa pn pc, .slice qa ps.length qc] 27))) := Gw.new w1 _
  have HSWP : Hid (∀ W, Gw w1 W → Calls Try.prog 14 #[.agg #[.slice oa ts.length oc, .slice pa pn pc, .slice qa ps.length qc]] W fun e w' => ∃ x : Swp, x.ts.map Prod.snd = L ∧ x.O = O ∧ x.ps.map Prod.snd = P ∧ SweepW x W e w') := fun W hg => by
    refine sweep_any L O P _ _ _ W fun W' hb => ?_
    obtain ⟨h1, h2, h3⟩ := HAT1.out.gw (hg.trans (Gw.below hb))
    have hok := HOK.out
    have hl := hok.len
    have hm := hok.many
    have hsm := hok.some
    exact sown_any ⟨L, O, P⟩ _ _ _ _ W' h1 h2 h3 (fun b hb => hb) (fits_of hok.objs hl) (kindOk_of hok.objs) (by show L.length ≤ 1000; omega) (by show O.length ≤ 1000; omega) (by show 1 ≤ P.length ∧ P.length ≤ 1000; omega) (fun p hp => by have := (hok.procs p hp).1; omega)
  clear hk2 hat1 hb1 hkok HB0 hts hrow hls hop hps hprow hsl hR1
  go_wp2_with fail
  generalize (w1.alloc (.cells #[.slice oa ts.length oc, .slice pa pn pc, .slice qa ps.length qc] 27)) = w2 at *
  refine Calls.mono (HSWP.out w2 HG2.out) ?_
  rintro e w3 ⟨x, e1, e2, e3, oa', pa', qa', oc', pc', qc', rfl, h1, h2, h3, h4, h5, hg3⟩
  have hkp := keep_fin x
  have hlt : x.ts.length = ts.length := by have := congrArg List.length (e1.trans HTS.out.1); rw [List.length_map, List.length_map] at this; exact this
  have hlp : x.ps.length = ps.length := by have := congrArg List.length (e3.trans HTS.out.2); rw [List.length_map, List.length_map] at this; exact this
  have HKT : Hid (∀ (i : Nat) (t : Sls × Sp.Ob), x.fin.ts[i]? = some t → ∃ t0, ts[i]? = some t0 ∧ (t.2.kind = 0 ∨ ({ t.2 with peer := 0 } : Sp.Ob) = { t0.2 with peer := 0 })) := fun i t ht => by
    obtain ⟨t1, q1, q2⟩ := hkp.ts i t ht
    have hx : (ts.map Prod.snd)[i]? = some t1.2 := by rw [← HTS.out.1, ← e1, List.getElem?_map, q1]; rfl
    rw [List.getElem?_map] at hx
    cases h0 : ts[i]? with
    | none => rw [h0] at hx; cases hx
    | some t0 =>
      rw [h0] at hx
      have e : t0.2 = t1.2 := by simpa using hx
      exact ⟨t0, rfl, by rw [e]; exact q2⟩
  have HKP : Hid (∀ (i : Nat) (t : Sl × Sp.Prc), x.fin.ps[i]? = some t → ∃ t0, ps[i]? = some t0 ∧ (t.2.live = false ∨ t.2 = t0.2)) := fun i t ht => by
    obtain ⟨t1, q1, q2⟩ := hkp.ps i t ht
    have hx : (ps.map Prod.snd)[i]? = some t1.2 := by rw [← HTS.out.2, ← e3, List.getElem?_map, q1]; rfl
    rw [List.getElem?_map] at hx
    cases h0 : ps[i]? with
    | none => rw [h0] at hx; cases hx
    | some t0 =>
      rw [h0] at hx
      have e : t0.2 = t1.2 := by simpa using hx
      exact ⟨t0, rfl, by rw [e]; exact q2⟩
  have HLN : Hid (x.fin.ts.length ≤ ts.length ∧ x.fin.ps.length ≤ ps.length ∧ 1 ≤ x.fin.ps.length ∧ ts.length ≤ 14) := by
    have hok := HOK.out
    have ht1 := hkp.tl
    have ht2 := hkp.pl
    have hsm := hok.some
    have hl := hok.len
    rw [HTS.out.2, List.length_map] at hsm
    rw [HTS.out.1, List.length_map] at hl
    exact ⟨by omega, by omega, fin_ps (by omega), hl⟩
  have HRK : Hid (∀ k, (reachB x.fin.kn).getD k false = true → ∃ t, x.fin.ts[k]? = some t ∧ t.2.kind ≠ 0) := fun k hk => by
    obtain ⟨o, ho, hne⟩ := reach_kind hk
    have ho' : (x.fin.ts.map Prod.snd)[k]? = some o := ho
    rw [List.getElem?_map] at ho'
    cases h0 : x.fin.ts[k]? with
    | none => rw [h0] at ho'; cases ho'
    | some t => rw [h0] at ho'; cases ho'; exact ⟨t, rfl, hne⟩
  have HKO : Hid (KindOk x.fin.kn.L) := kinds_fin (by rw [e1]; exact kindOk_of HOK.out.objs)
  have HZO : Hid (Row w3 (fun b => b < w3.heap.size) 9 (.slice oa' x.fin.ts.length oc') (x.fin.ts.map objC)) := h1
  have HZQ : Hid (Row w3 (fun b => b < w3.heap.size) 2 (.slice pa' x.fin.O.length pc') (x.fin.O.map opnC)) := h2
  have HZP : Hid (Row w3 (fun b => b < w3.heap.size) 4 (.slice qa' x.fin.ps.length qc') (x.fin.ps.map prcC)) := h3
  have HZL : Hid (∀ t ∈ x.fin.ts, Lists w3 (fun b => b < w3.heap.size) t) := h4
  have HZS : Hid (∀ t ∈ x.fin.ps, Row w3 (fun b => b < w3.heap.size) 3 (.slice t.1.a t.1.n t.1.c) (t.2.slots.map sltC)) := h5
  have hg4 := hg3.trans (Gw.new w3 (.cells #[.slice oa' x.fin.ts.length oc', .slice pa' x.fin.O.length pc', .slice qa' x.fin.ps.length qc'] 27))
  have hkb : Blk (w3.alloc (.cells #[.slice oa' x.fin.ts.length oc', .slice pa' x.fin.O.length pc', .slice qa' x.fin.ps.length qc'] 27)) w1.heap.size #[.slice oa ts.length oc, .slice pa pn pc, .slice qa ps.length qc] 27 := Blk.on HK2.out hg4.1 (Blk.lt HK2.out)
  have hsb := Blk.new w3 #[.slice oa' x.fin.ts.length oc', .slice pa' x.fin.O.length pc', .slice qa' x.fin.ps.length qc'] 27
  have HG23 : Hid (Gw w2 w3) := hg3
  have HKB : Hid _ := hkb
  have HSB : Hid _ := hsb
  have HG34 : Hid (Gw w3 (w3.alloc (.cells #[.slice oa' x.fin.ts.length oc', .slice pa' x.fin.O.length pc', .slice qa' x.fin.ps.length qc'] 27))) := Gw.new w3 _
  have HG24 : Hid (Gw w2 (w3.alloc (.cells #[.slice oa' x.fin.ts.length oc', .slice pa' x.fin.O.length pc', .slice qa' x.fin.ps.length qc'] 27))) := hg4
  have hkc := hkb.cell
  have hkl := hkb.lt
  clear h1 h2 h3 h4 h5 hkp hlt hlp e1 e2 e3 hg3 hg4 hkb hsb HSWP HK2
  generalize x.fin = z at *
  have hz1 : ¬ (ts.length : Int) < (z.ts.length : Int) := by have := HLN.out; omega
  have hz2 : ¬ (ps.length : Int) < (z.ps.length : Int) := by have := HLN.out; omega
  have hz3 : ¬ (z.ps.length : Int) < 1 := by have := HLN.out; omega
  go_wp2_with fail
  generalize (w3.alloc (.cells #[.slice oa' z.ts.length oc', .slice pa' z.O.length pc', .slice qa' z.ps.length qc'] 27)) = w4 at *
  have HHZ : Hid (w1.heap.size < w4.heap.size ∧ w3.heap.size ≤ w4.heap.size ∧ w1.heap.size ≤ w3.heap.size) := ⟨hkl, HG34.out.2.1, Nat.le_trans HG2.out.2.1 HG23.out.2.1⟩
  rename z.ts.length ≤ ts.length => q1
  rename z.ps.length ≤ ps.length => q2
  rename (_ ∧ _) ∧ 1 ≤ (z.ps.length : Int) => q3
  clear hz1 hz2 hz3 q1 q2 q3
  go_loopw [43] (fun v wr => ∃ i : Nat, i ≤ z.ps.length ∧ v = .int .i64 i ∧ Gw w4 wr) (fun v _ => z.ps.length - (intOf v).toNat)
  case atStart => exact ⟨0, Nat.zero_le _, rfl, Gw.refl w4⟩
  case round =>
    obtain ⟨j, hj, rfl, hg⟩ := hrel
    have HG : Hid (Gw w4 wr) := hg
    have hka := Blk.on HKB.out hg.1 hkl
    have ka := hka.cell
    have kal := hka.lt
    by_cases hlt : j < z.ps.length
    · obtain ⟨⟨⟨sa, sn, sc⟩, p⟩, hx⟩ : ∃ x, z.ps[j]? = some x := ⟨_, List.getElem?_eq_getElem hlt⟩
      obtain ⟨⟨⟨sa', sn', sc'⟩, p'⟩, hx', hkp⟩ := HKP.out j _ hx
      have hjl : j < ps.length := (List.getElem?_eq_some_iff.1 hx').1
      obtain ⟨b, o, c, he, hSb, hc, hcm, h5⟩ := (Row.on HZP.out (HG34.out.trans hg).1).some (by rw [List.length_map]; omega)
      obtain ⟨rfl, -, rfl⟩ := Value.slice.inj he
      obtain ⟨b', o', c', he', hSb', hc', hcm', h5'⟩ := (Row.on HRP.out ((HG2.out.trans HG24.out).trans hg).1).some (by rw [List.length_map]; omega)
      obtain ⟨rfl, -, rfl⟩ := Value.slice.inj he'
      have hi := h5 j _ (by rw [List.getElem?_map, hx]; rfl)
      have hi' := h5' j _ (by rw [List.getElem?_map, hx']; rfl)
      have d0 := hi 0 _ rfl
      have d1 := hi 1 _ rfl
      have d2 := hi 2 _ rfl
      have d3 := hi 3 _ rfl
      have f0 := hi' 0 _ rfl
      have f1 := hi' 1 _ rfl
      have f2 := hi' 2 _ rfl
      have f3 := hi' 3 _ rfl
      rw [Nat.add_zero] at d0 f0
      dsimp only at d0 d1 d2 d3 f0 f1 f2 f3 hkp
      rw [List.length_map] at hc hc'
      unfold maxLen at hcm hcm'
      have HSA : Hid (Tab wr (fun b => b < w3.heap.size) (.slice sa sn sc) (p.slots.map toT)) := tab_of (Row.on (HZS.out _ (List.mem_of_getElem? hx)) (HG34.out.trans hg).1)
      have HSBB : Hid (Tab wr (fun b => b < w1.heap.size) (.slice sa' sn' sc') (p'.slots.map toT)) := tab_of (Row.on (HSL.out _ (List.mem_of_getElem? hx')) ((HG2.out.trans HG24.out).trans hg).1)
      have hz1 := hg.2.1
      have hz2 := HHZ.out
      have hbz : b < wr.heap.size := by omega
      have hbz' : b' < wr.heap.size := by omega
      have HSM : Hid (p = p' → ∀ W', Gw wr W' → Calls Try.prog 17 #[.slice sa sn sc, .slice sa' sn' sc'] W' fun e w' => e = .returned (.bool true) ∧ Gw wr w') := fun e W' hg => by
        subst e
        refine (same_any (p.slots.map toT) _ _ _ _ W' (Row.on HSA.out (hg.1.less fun b hb => by omega)) (Row.on HSBB.out (hg.1.less fun b hb => by omega))).mono ?_
        rintro e w' ⟨rfl, h⟩
        exact ⟨rfl, hg.trans (Gw.below h)⟩
      have ka2 := ka 2
      simp at ka2
      have nn1 : ¬ wr.heap.size = b := by omega
      have nn2 : ¬ wr.heap.size = b' := by omega
      have nn3 : ¬ wr.heap.size + 1 = b := by omega
      have nn4 : ¬ wr.heap.size + 1 = b' := by omega
      have nn5 : ¬ wr.heap.size = w1.heap.size := by omega
      clear he h5 he' h5' hx hx' hg hka hi hi' ka hkc hz1 hz2
      by_cases hv : p.live = true
      · obtain rfl : p = p' := hkp.resolve_left (by rw [hv]; simp)
        have HSM2 : Hid _ := HSM.out rfl
        have hfe : (p.fenced != p.fenced) = false := by simp
        rw [hv] at d0 f0
        clear hkp HSM
        go_wp2_with fail
        refine Calls.mono (HSM2.out _ ((Gw.new _ _).trans (Gw.new _ _))) ?_
        rintro e w5 ⟨rfl, hg5⟩
        have HG5 : Hid (Gw w4 w5) := Gw.trans HG.out hg5
        clear hg5 d0 d1 d2 d3 f0 f1 f2 f3
        go_wp2
        go_roundw
        case rel => exact ⟨j + 1, by omega, by go_num, HG5.out⟩
        case measure => simp [intOf]; omega
      · have hv' : p.live = false := by simpa using hv
        rw [hv'] at d0
        clear hkp hv HSM
        go_wp2
        go_roundw
        case rel => exact ⟨j + 1, by omega, by go_num, HG.out.trans ((Gw.new _ _).trans (Gw.new _ _))⟩
        case measure => simp [intOf]; omega
    · obtain rfl : j = z.ps.length := by omega
      have hsa := Blk.on HSB.out hg.1 (Blk.lt HSB.out)
      have sa := hsa.cell
      have sal := hsa.lt
      have hkz : KernAt wr (.slice oa' z.ts.length oc') (.slice pa' z.O.length pc') (.slice qa' z.ps.length qc') z.kn := by
        have : KernAt w3 (.slice oa' z.ts.length oc') (.slice pa' z.O.length pc') (.slice qa' z.ps.length qc') z.kn := ⟨⟨z.ts, rfl, HZO.out, HZL.out⟩, HZQ.out, ⟨z.ps, rfl, HZP.out, HZS.out⟩⟩
        exact this.gw (HG34.out.trans hg)
      have hzl : z.kn.L.length = z.ts.length := by show (z.ts.map Prod.snd).length = _; rw [List.length_map]
      have HSR : Hid _ := sreach_any z.kn _ _ _ _ wr hkz.1 hkz.2.1 hkz.2.2 (fun b hb => hb) (by rw [hzl]; have := HLN.out; omega) HKO.out
      rw [hzl] at HSR
      have hns : (nums (reachB z.kn) z.ts.length).length ≤ z.ts.length := by
        unfold nums
        rw [List.length_map]
        exact Nat.le_trans (List.length_filter_le _ _) (Nat.le_of_eq List.length_range)
      have HNA : Hid (∀ (i : Nat) (c : Int), (nums (reachB z.kn) z.ts.length)[i]? = some c → ∃ k : Nat, c = (k : Int) ∧ (reachB z.kn).getD k false = true) := fun i c h => by
        have hm := List.mem_of_getElem? h
        have hrl : (reachB z.kn).length = z.ts.length := by rw [reachB_len, hzl]
        rw [← hrl, nums_mem] at hm
        obtain ⟨k, rfl⟩ := Int.eq_ofNat_of_zero_le hm.1
        rw [Int.toNat_natCast] at hm
        exact ⟨k, rfl, hm.2⟩
      generalize nums (reachB z.kn) z.ts.length = ns at *
      clear hg hka hkc ka hsa hkz hzl
      go_wp2_with fail
      refine Calls.mono HSR.out ?_
      rintro e w5 ⟨⟨ra, rn, rc⟩, rfl, hm5, hb5⟩
      have hg5 := Gw.below hb5
      have HG5 : Hid (Gw w4 w5) := HG.out.trans hg5
      obtain ⟨a', c', he, hnm, hga⟩ := hm5.form
      rw [List.length_map] at he hnm hga
      obtain ⟨rfl, rfl, rfl⟩ := Value.slice.inj he
      have HM5 : Hid (Mine w5 wr.heap.size 3 1 (.slice ra ns.length rc) (ns.map intC)) := hm5
      have HGA : Hid (1 ≤ ns.length → ∃ g, ra = some ⟨g, 0, none⟩ ∧ wr.heap.size ≤ g ∧ g < w5.heap.size) := hga
      clear hm5 hb5 hga he hnm hg5 HSR sa sal kal
      go_wp2_with fail
      go_loopw [79] (fun v wy => ∃ i : Nat, i ≤ ns.length ∧ v = .int .i64 i ∧ Gw w5 wy) (fun v _ => ns.length - (intOf v).toNat)
      case atStart => exact ⟨0, Nat.zero_le _, rfl, Gw.refl w5⟩
      case round =>
        rename World => wz
        obtain ⟨i, hi, rfl, hg⟩ := hrel
        have HGZ : Hid (Gw w5 wz) := hg
        by_cases hlt : i < ns.length
        · have hg4 : Gw w4 wz := HG5.out.trans hg
          have hka := Blk.on HKB.out hg4.1 (Blk.lt HKB.out)
          have ka := hka.cell
          have kal := hka.lt
          have hsa := Blk.on HSB.out hg4.1 (Blk.lt HSB.out)
          have sa := hsa.cell
          have sal := hsa.lt
          obtain ⟨g, rfl, hg3, hgl⟩ := HGA.out (by omega)
          obtain ⟨c, hc⟩ : ∃ c, ns[i]? = some c := ⟨_, List.getElem?_eq_getElem hlt⟩
          obtain ⟨k, rfl, hk2⟩ := HNA.out i c hc
          obtain ⟨⟨s1, ⟨kd, da, en, tg, pe, qu, pr, lk, up⟩⟩, hx, hne⟩ := HRK.out k hk2
          obtain ⟨⟨s2, ⟨kd', da', en', tg', pe', qu', pr', lk', up'⟩⟩, hx', hkp⟩ := HKT.out k _ hx
          have hkp2 := hkp.resolve_left hne
          simp only [Sp.Ob.mk.injEq] at hkp2
          obtain ⟨rfl, rfl, rfl, rfl, -, rfl, rfl, rfl, rfl⟩ := hkp2
          have hkz : k < z.ts.length := (List.getElem?_eq_some_iff.1 hx).1
          have hkt : k < ts.length := (List.getElem?_eq_some_iff.1 hx').1
          have hmr : Mine wz wr.heap.size 3 1 (.slice (some ⟨g, 0, none⟩) ns.length rc) (ns.map intC) := HM5.out.on hg.1 fun b hb => (HM5.out.lt b hb).2
          have d0 := mine_cell hmr (even_int ns) (i := i) (cs := intC (k : Int)) (by rw [List.getElem?_map, hc]; rfl) (j := 0) rfl
          simp only [Nat.mul_one, Nat.add_zero] at d0
          obtain ⟨cur, hbk, -, hcc, hcm, -, -⟩ := hmr.blk
          have hbl := hbk.lt
          unfold maxLen at hcm
          obtain ⟨b, o, c, he, hSb, hc1, hcm1, h5⟩ := (Row.on HZO.out (HG34.out.trans hg4).1).some (by rw [List.length_map]; omega)
          obtain ⟨rfl, -, rfl⟩ := Value.slice.inj he
          obtain ⟨b', o', c', he', hSb', hc1', hcm1', h5'⟩ := (Row.on HRO.out ((HG2.out.trans HG24.out).trans hg4).1).some (by rw [List.length_map]; omega)
          obtain ⟨rfl, -, rfl⟩ := Value.slice.inj he'
          have hi1 := h5 k _ (by rw [List.getElem?_map, hx]; rfl)
          have hi2 := h5' k _ (by rw [List.getElem?_map, hx']; rfl)
          have a0 := hi1 0 _ rfl
          have a1 := hi1 1 _ rfl
          have a2 := hi1 2 _ rfl
          have a3 := hi1 3 _ rfl
          have a4 := hi1 4 _ rfl
          have a5 := hi1 5 _ rfl
          have a6 := hi1 6 _ rfl
          have a7 := hi1 7 _ rfl
          have a8 := hi1 8 _ rfl
          have b0 := hi2 0 _ rfl
          have b1 := hi2 1 _ rfl
          have b2 := hi2 2 _ rfl
          have b3 := hi2 3 _ rfl
          have b4 := hi2 4 _ rfl
          have b5 := hi2 5 _ rfl
          have b6 := hi2 6 _ rfl
          have b7 := hi2 7 _ rfl
          have b8 := hi2 8 _ rfl
          rw [Nat.add_zero] at a0 b0
          dsimp only at a0 a1 a2 a3 a4 a5 a6 a7 a8 b0 b1 b2 b3 b4 b5 b6 b7 b8
          rw [List.length_map] at hc1 hc1'
          unfold maxLen at hcm1 hcm1'
          have HLA : Hid (∀ W', Gw wz W' → Lists W' (fun b => b < w3.heap.size) (s1, (⟨kd, da, en, tg, 0, qu, pr, lk, up⟩ : Sp.Ob))) := fun W' hg' => by
            have q := HZL.out _ (List.mem_of_getElem? hx)
            have q2 := q.on ((HG34.out.trans hg4).trans hg').1
            exact q2
          have HLB : Hid (∀ W', Gw wz W' → Lists W' (fun b => b < w1.heap.size) (s2, (⟨kd, da, en, tg, 0, qu, pr, lk, up⟩ : Sp.Ob))) := fun W' hg' => by
            have q := HLS.out _ (List.mem_of_getElem? hx')
            have q2 := q.on (((HG2.out.trans HG24.out).trans hg4).trans hg').1
            exact q2
          have hz1 := hg4.2.1
          have hz2 := HHZ.out
          have HSM : Hid (∀ W', Gw wz W' → Calls Try.prog 18 #[.agg (objC (s1, (⟨kd, da, en, tg, 0, qu, pr, lk, up⟩ : Sp.Ob))).toArray, .agg (objC (s2, (⟨kd, da, en, tg, 0, qu, pr, lk, up⟩ : Sp.Ob))).toArray] W' fun e w' => e = .returned (.bool true) ∧ Gw wz w') := fun W' hg' => by
            have hz3 := hg'.2.1
            refine (same_obj s1 s2 _ _ _ W' (HLA.out W' hg') (HLB.out W' hg') (fun b hb => by omega) (fun b hb => by omega)).mono ?_
            rintro e w' ⟨rfl, h⟩
            exact ⟨rfl, hg'.trans (Gw.below h)⟩
          have hbz : b < wz.heap.size := by omega
          have hbz' : b' < wz.heap.size := by omega
          have nk1 : ¬ (ts.length : Int) ≤ (k : Int) := by omega
          have nk2 : ¬ (k : Int) < 0 := by omega
          have ka0 := ka 0
          have sa0 := sa 0
          simp at ka0 sa0
          clear hc hmr hbk hg hka hsa hk2 hg4 hkp hx hx' he h5 he' h5' hi1 hi2 ka sa hz1 hz2 HLA HLB
          go_upto_region 19 with fail
          go_region_held3 (fun w' => w'.cell? ⟨w1.heap.size, 0, none⟩ = some (.slice (some ⟨b', o', none⟩) ts.length oc) ∧ w'.cell? ⟨w3.heap.size, 0, none⟩ = some (.slice (some ⟨b, o, none⟩) z.ts.length oc') ∧ w'.cell? ⟨b, o + k * 9, none⟩ = some (.int .i64 kd) ∧ w'.cell? ⟨b, o + k * 9 + 1, none⟩ = some (.slice s1.d.a s1.d.n s1.d.c) ∧ w'.cell? ⟨b, o + k * 9 + 2, none⟩ = some (.slice s1.e.a s1.e.n s1.e.c) ∧ w'.cell? ⟨b, o + k * 9 + 3, none⟩ = some (.string tg) ∧ w'.cell? ⟨b, o + k * 9 + 4, none⟩ = some (.int .i64 pe) ∧ w'.cell? ⟨b, o + k * 9 + 5, none⟩ = some (.slice s1.q.a s1.q.n s1.q.c) ∧ w'.cell? ⟨b, o + k * 9 + 6, none⟩ = some (.int .i64 pr) ∧ w'.cell? ⟨b, o + k * 9 + 7, none⟩ = some (.int .i64 lk) ∧ w'.cell? ⟨b, o + k * 9 + 8, none⟩ = some (.int .i64 up) ∧ w'.cell? ⟨b', o' + k * 9, none⟩ = some (.int .i64 kd) ∧ w'.cell? ⟨b', o' + k * 9 + 1, none⟩ = some (.slice s2.d.a s2.d.n s2.d.c) ∧ w'.cell? ⟨b', o' + k * 9 + 2, none⟩ = some (.slice s2.e.a s2.e.n s2.e.c) ∧ w'.cell? ⟨b', o' + k * 9 + 3, none⟩ = some (.string tg) ∧ w'.cell? ⟨b', o' + k * 9 + 4, none⟩ = some (.int .i64 pe') ∧ w'.cell? ⟨b', o' + k * 9 + 5, none⟩ = some (.slice s2.q.a s2.q.n s2.q.c) ∧ w'.cell? ⟨b', o' + k * 9 + 6, none⟩ = some (.int .i64 pr) ∧ w'.cell? ⟨b', o' + k * 9 + 7, none⟩ = some (.int .i64 lk) ∧ w'.cell? ⟨b', o' + k * 9 + 8, none⟩ = some (.int .i64 up)) (go_keep) (fail)
          all_goals
            clear a0 a1 a2 a3 a4 a5 a6 a7 a8 b0 b1 b2 b3 b4 b5 b6 b7 b8 ka0 sa0
            go_wp2_with fail
            refine Calls.mono (HSM.out _ (((Gw.new _ _).trans (Gw.new _ _)).trans (Gw.drew _))) ?_
            rintro e w6 ⟨rfl, hg6⟩
            have HG6 : Hid (Gw w5 w6) := Gw.trans HGZ.out hg6
            clear hg6
            go_wp2
            go_roundw
            case rel => exact ⟨i + 1, by omega, by go_num, HG6.out⟩
            case measure => simp [intOf]; omega
        · obtain rfl : i = ns.length := by omega
          clear hg
          go_wp2
          go_ret
          exact ⟨rfl, ((((HG1.out.trans HG2.out).trans HG24.out).trans HG5.out).trans HGZ.out).2.2 _ (Nat.le_refl _)⟩
end Go.Proofs.Ytdciohinlhbliaa

namespace Go.Proofs.Ytdciohinlhbliaa
open Go.ChangeShapes Go.WideShapes Go.ChangeAt Go.RowKit
open Go.ChangeMaps (open_string shut_string)
set_option maxRecDepth 100000 in
theorem sweepKeeps_lifted (os : Os) (started : os.Started) (H : Type) (enc : TypeId × Value → H) :
    ReturnsInHanded {} Try.checked os 5 .any (Rows.sweepKeepsSpec.pre6 enc Try.prog Try.f5 Rows.sweepKeepsRow.domain false) (Rows.sweepKeepsSpec.post enc Try.prog Try.f5 false true false false) := by
  refine returnsInHanded_of_change_sized (C := Try.checked) vlaw_own started (by kernel_rfl) Try.func5
    (ChangeSpec.witness6 (enc := enc) (C := Try.checked) false ⟨#[], #[.slice none 0 0], []⟩ 8 (by kernel_rfl) (by kernel_rfl) (by kernel_rfl) (by kernel_rfl)) ?_
  intro W base args ds gs before hval0 hW _ hsz0 _
  have hval : ∀ (j : Nat) t v, Try.f5.params[j]? = some t → args[j]? = some v → Value.okWide Try.prog W .any base t v := hval0
  have hsz : (DataW.weightsEach Try.prog (Try.f5.params.toList ++ Rows.sweepKeepsSpec.plain.varTypes Try.prog) (ds ++ gs)).all (· ≤ reachBytes) = true := hsz0
  have hW' := hW
  obtain ⟨p, q, hA0, hV, rfl, hfz, hnd⟩ := hW
  have hA : DataW.TrodAll enc Try.prog W 0 (fun _ => true) true Try.f5.params.toList args.toList ds p := hA0
  rw [Try.params5] at hA hval hsz
  obtain ⟨v0, vs0, d0, ds0, p0, q0, hargs, rfl, rfl, h0, r0⟩ := trodAll_cons hA
  obtain ⟨rfl, rfl, rfl⟩ := trodAll_nil r0
  obtain rfl : args = #[v0] := by cases args; simp_all
  obtain ⟨rfl, rfl⟩ := trodVars_none hV
  have lt0 : ∀ x ∈ p0, x.block < W.heap.size := by obtain ⟨m, hm⟩ := h0; exact DataW.trod_lt m _ _ _ hm
  obtain ⟨l0, hD0⟩ := vopen_bytes (hval 0 22 v0 rfl rfl) h0
  clear hA0 hval0 hsz hsz0
  refine (skeeps_any l0 v0 W hD0.1).mono fun e W' ⟨he, bel⟩ => ?_
  subst he
  exact ⟨_, rfl, _, _, _, [], _, [], hW', trodAll_mk1 (shut_bool Try.underlying4 _), trodAll_cons_mk (Below.trod vlaw_laidOut (by kernel_rfl) (of_decide_eq_true (by kernel_rfl)) h0 bel lt0) trodAll_mk0, rfl, bel.frame _, fun h => by cases h⟩
theorem sweepKeeps_over : Rows.sweepKeepsRow.holds Try.pinned (OpenSpec.ofChange Rows.sweepKeepsSpec) :=
  OpenClaim.holds_of_wide 5 Try.f5 rfl rfl rfl rfl rfl rfl rfl ⟨rfl, rfl, rfl, rfl, rfl⟩ rfl rfl rfl rfl rfl (by kernel_rfl) Try.func5 (by kernel_rfl)
    (of_decide_eq_true (by kernel_rfl)) (by unfold Func.isWrapper; first | (rw [if_pos (by decide +kernel)]; kernel_rfl) | (rw [if_neg (by decide +kernel)]; exact ⟨rfl, rfl⟩))
    (fun os started H enc _ => sweepKeeps_lifted os started H enc)
/-- The statement. -/
theorem sweepKeepsHolds : Rows.SweepKeepsSaid := sweepKeeps_over
#print axioms sweepKeepsHolds
end Go.Proofs.Ytdciohinlhbliaa