/-
  Plain facts of Build's kernels, for sweep's laws; how many a map of marks has.
-/
import Derived.Test.YtdciohinlhbliaaJSF
import Derived.Test.YtdciohinlhbliaaJSG
import Derived.Maps.OwnSet
import Derived.Deep.RegionHeldLaw
import Derived.Test.YtdciohinlhbliaaJSC
import Derived.Test.YtdciohinlhbliaaSObj
import Derived.WalkKit
import Derived.ProofKit
import Derived.OpenShut
import Derived.ShutString
import Derived.ChangeOld
import Derived.Deep.Slices
import Derived.SizedLaws
namespace Go.Proofs.Ytdciohinlhbliaa
open Go.RowKit Go.Maps
open Wp
theorem nodup_le {α : Type} [DecidableEq α] : ∀ {K S : List α}, K.Nodup → (∀ x ∈ K, x ∈ S) → K.length ≤ S.length
  | [], _, _, _ => Nat.zero_le _
  | k :: K, S, hn, hs => by
    have hk := hs k List.mem_cons_self
    have hn' := List.nodup_cons.1 hn
    have h := nodup_le (K := K) (S := S.erase k) hn'.2 fun x hx => (List.mem_erase_of_ne (fun e => by subst e; exact hn'.1 hx)).2 (hs x (List.mem_cons_of_mem _ hx))
    rw [List.length_erase_of_mem hk] at h
    have : 0 < S.length := List.length_pos_of_mem hk
    rw [List.length_cons]
    omega
theorem nums_len (ms : List Bool) : (nums ms ms.length).length = cnt ms := by
  unfold nums cnt
  rw [List.length_map]
  have h : ∀ n, n ≤ ms.length → ((List.range n).filter fun k => ms.getD k false).length = (ms.take n).countP id := by
    intro n
    induction n with
    | zero => intro _; rfl
    | succ n ih =>
      intro hn
      obtain ⟨b, hb⟩ : ∃ b, ms[n]? = some b := ⟨_, List.getElem?_eq_getElem (by omega)⟩
      have e : ms.getD n false = b := by rw [List.getD_eq_getElem?_getD, hb]; rfl
      rw [List.range_succ, List.filter_append, List.length_append, ih (by omega), List.take_add_one, hb, List.countP_append]
      congr 1
      cases b with
      | false => rw [List.filter_cons_of_neg (p := fun k => ms.getD k false) (by rw [e]; decide)]; rfl
      | true => rw [List.filter_cons_of_pos (p := fun k => ms.getD k false) e]; rfl
  have := h ms.length (Nat.le_refl _)
  rw [List.take_length] at this
  exact this
theorem nums_mem (ms : List Bool) (c : Int) : c ∈ nums ms ms.length ↔ 0 ≤ c ∧ ms.getD c.toNat false = true := by
  unfold nums
  rw [List.mem_map]
  constructor
  · rintro ⟨n, hn, rfl⟩
    have := (List.mem_filter.1 hn).2
    exact ⟨Int.natCast_nonneg n, by simpa using this⟩
  · rintro ⟨h0, h1⟩
    obtain ⟨n, rfl⟩ := Int.eq_ofNat_of_zero_le h0
    rw [Int.toNat_natCast] at h1
    exact ⟨n, List.mem_filter.2 ⟨List.mem_range.2 (getD_lt h1), h1⟩, rfl⟩
theorem nums_nodup (ms : List Bool) : (nums ms ms.length).Nodup := by
  unfold nums
  exact List.Pairwise.map (R := fun a b : Nat => a ≠ b) _ (fun a b h e => h (Int.ofNat.inj e)) (List.Pairwise.filter _ List.nodup_range)
/-- How many a map of marks has. -/
theorem MapB.size {w : World} {g : Nat} {ms : List Bool} (h : MapB w g (cnt ms) ms) (ty : TypeId) : (Builtin.len_ #[29] ty #[.map (some g)]).run Try.prog w = .ok (.int .i64 (cnt ms : Nat)) w := by
  obtain ⟨ks, ⟨D, hD, hat⟩, hks⟩ := h
  have hle := hD.size_le
  obtain ⟨es, rfl⟩ := hD.isMap
  rw [hD.len Try.underlying29 ty]
  have hge : cnt ms ≤ es.length := by
    have h1 : ∀ c ∈ (nums ms ms.length).map (fun c => Lit.int .i64 c), c ∈ es.map Prod.fst := fun k hk => by
      obtain ⟨c, hc, rfl⟩ := List.mem_map.1 hk
      have hc' : c ∈ ks := (hks c).2 ((nums_mem ms c).1 hc)
      have ha := hat c
      rw [decide_eq_true hc'] at ha
      have hh : Maps.has (DataW.map es : DataW Unit) (.int .i64 c) = true := by
        cases hx : Maps.has (DataW.map es : DataW Unit) (.int .i64 c) with
        | true => rfl
        | false => rw [Maps.atKey_of_not_has hx] at ha; cases ha
      rw [Maps.has_eq, List.any_eq_true] at hh
      obtain ⟨p, hp, hs⟩ := hh
      exact List.mem_map.2 ⟨p, hp, WideAt.sameKey_eq hs⟩
    haveI : DecidableEq Lit := fun a b => Classical.propDecidable _
    have hnd : ((nums ms ms.length).map fun c => Lit.int .i64 c).Nodup := List.Pairwise.map (R := fun a b : Int => a ≠ b) _ (fun a b h e => h (by cases e; rfl)) (nums_nodup ms)
    have h2 := nodup_le hnd h1
    rw [List.length_map, List.length_map, nums_len] at h2
    exact h2
  have : Maps.size (DataW.map es : DataW Unit) = es.length := rfl
  rw [this] at hle ⊢
  rw [show es.length = cnt ms by omega]
theorem kindOk_of {L : List Sp.Ob} (h : Sp.TOk L) : KindOk L := fun o ho => by
  obtain ⟨i, hi, rfl⟩ := List.getElem_of_mem ho
  have := h.all i _ (List.getElem?_eq_getElem hi)
  exact ⟨this.noents, this.noqueue⟩
theorem fits_of {L : List Sp.Ob} (h : Sp.TOk L) (hl : L.length ≤ 14) : ∀ o ∈ L, Fits o := fun o ho => by
  obtain ⟨i, hi, rfl⟩ := List.getElem_of_mem ho
  have ho := h.all i _ (List.getElem?_eq_getElem hi)
  have h1 := ho.data
  have h2 := ho.many
  have h3 := ho.queue
  exact ⟨by omega, by omega, by omega, fun m hm => by rw [ho.mdata m hm]; decide⟩
theorem fit_of {x : Swp} (h : Sp.KOk (x.ts.map Prod.snd) x.O (x.ps.map Prod.snd)) : Fit x := by
  have hts : ∀ t ∈ x.ts, ∃ i : Nat, (x.ts.map Prod.snd)[i]? = some t.2 := fun t ht => by
    obtain ⟨i, hi, rfl⟩ := List.getElem_of_mem ht
    exact ⟨i, by rw [List.getElem?_map, List.getElem?_eq_getElem hi]; rfl⟩
  have hps : ∀ t ∈ x.ps, Sp.PrcOk x.O.length t.2 := fun t ht => h.procs _ (List.mem_map_of_mem ht)
  have h1 := h.len
  have h2 := h.many
  have h3 := h.some
  rw [List.length_map] at h1 h3
  refine ⟨⟨?_, by omega⟩, by omega, by omega, fun t ht => by have := (hps t ht).1; omega, fun t ht => ?_, fun t ht s hs => ?_, fun t ht m hm => ?_, fun o ho hk => ?_, fun y hy => ?_⟩
  · obtain ⟨o, ho, -⟩ := h.objs.root
    have := (List.getElem?_eq_some_iff.1 ho).1
    rw [List.length_map] at this
    omega
  · obtain ⟨i, hi⟩ := hts t ht
    have := (h.objs.all i _ hi).queue
    omega
  · have := (hps t ht).2.1 s hs
    exact ⟨this.2.1, by have := this.2.2.1; omega⟩
  · have := h.queues t.2 (List.mem_map_of_mem ht) m hm
    rcases this.2 with q | q
    · exact ⟨q.2.1, by have := q.2.2.1; omega⟩
    · rw [q.2.1]; exact ⟨by decide, by decide⟩
  · obtain ⟨i, hi, rfl⟩ := List.getElem_of_mem ho
    obtain ⟨p, op, e1, e2, -, -, -⟩ := (h.objs.all i _ (List.getElem?_eq_getElem hi)).peer hk
    have := (List.getElem?_eq_some_iff.1 e2).1
    exact Or.inr ⟨by rw [e1]; omega, by rw [e1]; omega⟩
  · have := (h.opens y hy).1
    omega
/-- What Sweep leaves is a kernel. -/
theorem SweepW.kern {x : Swp} {w w' : World} {e : Ending} (h : SweepW x w e w') : ∃ vo vp vq, e = .returned (.agg #[vo, vp, vq]) ∧ Kern w' (fun b => b < w'.heap.size) vo vp vq x.fin.kn.L x.fin.kn.O x.fin.kn.P ∧ Gw w w' := by
  obtain ⟨oa, pa, qa, oc, pc, qc, e1, h1, h2, h3, h4, h5, h6⟩ := h
  exact ⟨_, _, _, e1, ⟨⟨x.fin.ts, rfl, h1, h4⟩, h2, ⟨x.fin.ps, rfl, h3, h5⟩⟩, h6⟩
theorem OwnW.kern {L : List Sp.Ob} {O : List Sp.Opn} {P : List Sp.Prc} {w w' : World} {e : Ending} (h : OwnW L O P w e w') : ∃ vo vp vq, e = .returned (.agg #[vo, vp, vq]) ∧ Kern w' (fun b => b < w'.heap.size) vo vp vq L O P ∧ Gw w w' := by
  obtain ⟨S, g1, c1, pa, c2, g3, c3, x, e1, hsw, hS, hL, hO, hP, hb⟩ := h
  have hob := hsw.objs
  have hpr := hsw.prcs
  rw [hL] at hob
  rw [hP] at hpr
  refine ⟨_, _, _, e1, ⟨hob.more fun b hb => hb.1, ?_, procs_more hpr fun b hb => hb.1⟩, Gw.below hb⟩
  rw [← hO]
  exact (hsw.op.row (even_opn _)).more fun b hb => hb.2
end Go.Proofs.Ytdciohinlhbliaa


/-
  rglaw8.SweepTells, walked.
-/
namespace Go.Proofs.Ytdciohinlhbliaa
open Go.RowKit Go.Maps
open Wp
/-- A kernel lies there. -/
def KernAt (w : World) (a b c : Value) (K : Kn) : Prop := Kern w (fun b => b < w.heap.size) a b c K.L K.O K.P
theorem KernAt.gw {w w' : World} {a b c : Value} {K : Kn} (h : KernAt w a b c K) (hg : Gw w w') : KernAt w' a b c K := by
  obtain ⟨h1, h2, h3⟩ := h
  have hm : ∀ b, b < w.heap.size → b < w'.heap.size := fun b hb => Nat.lt_of_lt_of_le hb hg.2.1
  exact ⟨(h1.on hg.1).more hm, (Row.on h2 hg.1).more hm, procs_more (procs_on h3 hg.1) hm⟩
theorem nums_pair (ms : List Bool) (n : Nat) : (nums ms n).Pairwise fun a b => a < b := by
  unfold nums
  exact List.Pairwise.map (R := fun a b : Nat => a < b) _ (fun a b h => Int.ofNat_lt.2 h) (List.Pairwise.filter _ List.pairwise_lt_range)
set_option maxRecDepth 1000000 in
set_option maxHeartbeats 16000000 in
theorem stells8_any (l : List UInt8) (v : Value) (w : World) (hv : Bytes w (fun b => b < w.heap.size) v l) :
    Calls Try.prog 3 #[v] w fun e w' => e = .returned (.bool true) ∧ Below w.heap.size w w' := by
  have HB0 : Hid _ := build_any l v w hv
  clear hv
  go_enter Try.func3, Try.ntmps3
  go_wp2_with fail
  refine Calls.mono HB0.out ?_
  rintro e w1 ⟨vo, vp, vq, L, O, P, rfl, hkern, hkok, hb1⟩
  obtain ⟨oa, on, oc, rfl⟩ : ∃ a n c, vo = .slice a n c := by obtain ⟨a, c, e, -⟩ := hkern.1.form; exact ⟨_, _, _, e⟩
  obtain ⟨pa, pn, pc, rfl⟩ : ∃ a n c, vp = .slice a n c := by obtain ⟨a, c, e, -⟩ := Row.form hkern.2.1; exact ⟨_, _, _, e⟩
  obtain ⟨qa, qn, qc, rfl⟩ : ∃ a n c, vq = .slice a n c := by obtain ⟨ts, -, h, -⟩ := hkern.2.2; obtain ⟨a, c, e, -⟩ := Row.form h; exact ⟨_, _, _, e⟩
  have hat1 : KernAt w1 (.slice oa on oc) (.slice pa pn pc) (.slice qa qn qc) ⟨L, O, P⟩ := ⟨hkern.1.more fun b hb => hb.2, Row.more hkern.2.1 fun b hb => hb.2, procs_more hkern.2.2 fun b hb => hb.2⟩
  have HAT1 : Hid (KernAt w1 (.slice oa on oc) (.slice pa pn pc) (.slice qa qn qc) ⟨L, O, P⟩) := hat1
  have HG1 : Hid (Gw w w1) := Gw.below hb1
  have HOK : Hid (Sp.KOk L O P) := hkok
  have HL : Hid (L.length ≤ 1000) := by have := hkok.len; unfold Hid; omega
  clear hkern hat1 hb1 hkok HB0
  have hk2 := Blk.new w1 #[.slice oa on oc, .slice pa pn pc, .slice qa qn qc] 27
  have HK2 : Hid (Blk (w1.alloc (.cells #[.slice oa on oc, .slice pa pn pc, .slice qa qn qc] 27)) w1.heap.size #[.slice oa on oc, .slice pa pn pc, .slice qa qn qc] 27) := hk2
  have HG2 : Hid (Gw w1 (w1.alloc (.cells #[.slice oa on oc, .slice pa pn pc, .slice qa qn qc] 27))) := Gw.new w1 _
  have HAT : Hid (∀ W, Gw w1 W → KernAt W (.slice oa on oc) (.slice pa pn pc) (.slice qa qn qc) ⟨L, O, P⟩) := fun W hg => HAT1.out.gw hg
  have HRE : Hid (∀ W, Gw w1 W → Calls Try.prog 10 #[.agg #[.slice oa on oc, .slice pa pn pc, .slice qa qn qc]] W (ReachW ⟨L, O, P⟩ W)) := fun W hg => by
    obtain ⟨h1, h2, h3⟩ := HAT.out W hg
    exact rreach_any ⟨L, O, P⟩ (.slice oa on oc) (.slice pa pn pc) (.slice qa qn qc) _ W h1 h2 h3 (fun b hb => hb) HL.out
  have HSR : Hid (∀ W, Gw w1 W → Calls Try.prog 11 #[.agg #[.slice oa on oc, .slice pa pn pc, .slice qa qn qc]] W fun e w' => ∃ r : Sl, e = .returned (.slice r.a r.n r.c) ∧ Mine w' W.heap.size 3 1 (.slice r.a r.n r.c) ((nums (reachB ⟨L, O, P⟩) L.length).map intC) ∧ Below W.heap.size W w') := fun W hg => by
    obtain ⟨h1, h2, h3⟩ := HAT.out W hg
    exact sreach_any ⟨L, O, P⟩ (.slice oa on oc) (.slice pa pn pc) (.slice qa qn qc) _ W h1 h2 h3 (fun b hb => hb) HL.out (kindOk_of HOK.out.objs)
  clear hk2
  go_wp2_with fail
  generalize (w1.alloc (.cells #[.slice oa on oc, .slice pa pn pc, .slice qa qn qc] 27)) = w2 at *
  refine Calls.mono (HRE.out w2 HG2.out) ?_
  rintro e w3 ⟨gh, rfl, hgh, hmp, hb3⟩
  have hg3 : Gw w1 w3 := Gw.trans HG2.out (Gw.below hb3)
  have HG3 : Hid (Gw w1 w3) := hg3
  have HMP3 : Hid (MapB w3 gh (cnt (reachB ⟨L, O, P⟩)) (reachB ⟨L, O, P⟩)) := hmp
  have HK3 : Hid (Blk w3 w1.heap.size #[.slice oa on oc, .slice pa pn pc, .slice qa qn qc] 27) := HK2.out.below hb3 HK2.out.lt
  have k3c := HK3.out.cell
  have k3l := HK3.out.lt
  clear hb3 hmp hg3
  go_wp2_with fail
  refine Calls.mono (HSR.out w3 HG3.out) ?_
  rintro e w4 ⟨⟨ra, rn, rc⟩, rfl, hm4, hb4⟩
  have hg34 := Gw.below hb4
  have HG4 : Hid (Gw w1 w4) := HG3.out.trans hg34
  have HMP : Hid (MapB w4 gh (cnt (reachB ⟨L, O, P⟩)) (reachB ⟨L, O, P⟩)) := HMP3.out.by hg34.1 HMP3.out.lt
  have HK4 : Hid (Blk w4 w1.heap.size #[.slice oa on oc, .slice pa pn pc, .slice qa qn qc] 27) := HK3.out.on hg34.1 k3l
  have hrl : (reachB ⟨L, O, P⟩).length = L.length := reachB_len _
  have hns : (nums (reachB ⟨L, O, P⟩) L.length).length = cnt (reachB ⟨L, O, P⟩) := by rw [← hrl]; exact nums_len _
  have HNA : Hid (∀ (i : Nat) (c : Int), (nums (reachB ⟨L, O, P⟩) L.length)[i]? = some c → ∃ k : Nat, c = (k : Int) ∧ k ≤ 1000 ∧ (reachB ⟨L, O, P⟩).getD k false = true) := fun i c h => by
    have hm := List.mem_of_getElem? h
    rw [← hrl, nums_mem] at hm
    obtain ⟨k, rfl⟩ := Int.eq_ofNat_of_zero_le hm.1
    rw [Int.toNat_natCast] at hm
    exact ⟨k, rfl, by have := getD_lt hm.2; have := HL.out; omega, hm.2⟩
  have HNL : Hid (∀ (i : Nat) (c c' : Int), (nums (reachB ⟨L, O, P⟩) L.length)[i]? = some c' → (nums (reachB ⟨L, O, P⟩) L.length)[i + 1]? = some c → c' < c) := fun i c c' h h' => by
    obtain ⟨h1, e1⟩ := List.getElem?_eq_some_iff.1 h
    obtain ⟨h2, e2⟩ := List.getElem?_eq_some_iff.1 h'
    rw [← e1, ← e2]
    exact List.pairwise_iff_getElem.1 (nums_pair _ _) i (i + 1) h1 h2 (by omega)
  have hsize := fun (W : World) (hg : Gw w4 W) (ty : TypeId) => (HMP.out.by hg.1 HMP.out.lt).size ty
  have HSIZE : Hid _ := hsize
  have HMPW : Hid (∀ W, Gw w4 W → ∀ k : Nat, k ≤ 1000 → (Instr.lookup 29 (.map (some gh)) (.int .i64 (k : Int)) false).run Try.prog W = .ok (.bool ((reachB ⟨L, O, P⟩).getD k false)) W) := fun W hg k hk => (HMP.out.by hg.1 HMP.out.lt).look_nat k (by omega)
  generalize reachB ⟨L, O, P⟩ = ms at *
  have HCN : Hid (cnt ms ≤ 1000) := by have := cnt_len ms; have := HL.out; unfold Hid; omega
  generalize nums ms L.length = ns at *
  generalize cnt ms = N at *
  obtain ⟨a', c', he, hnm, hga⟩ := hm4.form
  rw [List.length_map] at he hnm hga
  obtain ⟨rfl, rfl, rfl⟩ := Value.slice.inj he
  rw [hns] at hm4 hga ⊢
  have HM4 : Hid (Mine w4 w3.heap.size 3 1 (.slice ra N rc) (ns.map intC)) := hm4
  have HNS : Hid (ns.length = N) := hns
  have HGA : Hid (1 ≤ N → ∃ g, ra = some ⟨g, 0, none⟩ ∧ w3.heap.size ≤ g ∧ g < w4.heap.size) := hga
  clear hm4 hb4 hg34 hga he hnm hsize hrl hns k3c
  go_wp2_with fail
  go_loopw [5, 15] (fun s5 s15 wr => ∃ i : Nat, i ≤ N ∧ s5 = .int .i64 i ∧ s15 = .int .i64 i ∧ Gw w4 wr) (fun _ s15 _ => N - (intOf s15).toNat)
  case atStart => exact ⟨0, Nat.zero_le _, rfl, rfl, Gw.refl w4⟩
  case round =>
    obtain ⟨i, hi, rfl, rfl, hg⟩ := hrel
    have HGR : Hid (Gw w4 wr) := hg
    have hkr := HK4.out.on hg.1 (HK4.out.lt)
    have kc := hkr.cell
    have kl := hkr.lt
    by_cases hlt : i < N
    · obtain ⟨g, rfl, hg3, hgl⟩ := HGA.out (by omega)
      obtain ⟨c, hc⟩ : ∃ c, ns[i]? = some c := ⟨_, List.getElem?_eq_getElem (by have := HNS.out; omega)⟩
      have HC : Hid (ns[i]? = some c) := hc
      obtain ⟨k, rfl, hk1, hk2⟩ := HNA.out i c hc
      have hmr : Mine wr w3.heap.size 3 1 (.slice (some ⟨g, 0, none⟩) N rc) (ns.map intC) := HM4.out.on hg.1 fun b hb => (HM4.out.lt b hb).2
      have d0 := mine_cell hmr (even_int ns) (i := i) (cs := intC (k : Int)) (by rw [List.getElem?_map, hc]; rfl) (j := 0) rfl
      simp only [Nat.mul_one, Nat.add_zero] at d0
      obtain ⟨cur, hbk, -, hcc, hcm, -, -⟩ := hmr.blk
      have hbl := hbk.lt
      unfold maxLen at hcm
      have hlook := HMPW.out wr hg k hk1
      rw [hk2] at hlook
      clear hc hmr hbk hg hkr hk2
      by_cases hi0 : i = 0
      · have hz : ¬ (0 : Int) < (i : Int) := by omega
        clear hi0
        go_wp2
        go_roundw
        case rel => exact ⟨i + 1, by omega, by go_num, by go_num, HGR.out⟩
        case measure => simp [intOf]; omega
      · have hz : (0 : Int) < (i : Int) := by omega
        obtain ⟨j, rfl⟩ : ∃ j, i = j + 1 := ⟨i - 1, by omega⟩
        obtain ⟨c2, hc2⟩ : ∃ c, ns[j]? = some c := ⟨_, List.getElem?_eq_getElem (by have := HNS.out; omega)⟩
        have hlt2 : ¬ (k : Int) ≤ c2 := by have := HNL.out j (k : Int) c2 hc2 HC.out; omega
        have HC2 : Hid (ns[j]? = some c2) := hc2
        have HSW : Hid _ := HSR.out wr (Gw.trans HG4.out HGR.out)
        clear hi0 hc2
        go_wp2_with fail
        refine Calls.mono HSW.out ?_
        rintro e w5 ⟨⟨sa, sn, sc⟩, rfl, hm5, hb5⟩
        obtain ⟨a', c', he, -, hga⟩ := hm5.form
        simp only [List.length_map] at he hga
        obtain ⟨rfl, rfl, rfl⟩ := Value.slice.inj he
        rw [HNS.out] at hm5 hga ⊢
        obtain ⟨g5, rfl, -, -⟩ := hga (by omega)
        have f0 := mine_cell hm5 (even_int ns) (i := j) (cs := intC c2) (by rw [List.getElem?_map, HC2.out]; rfl) (j := 0) rfl
        simp only [Nat.mul_one, Nat.add_zero] at f0
        obtain ⟨cur, hbk, -, hcc5, hcm5, -, -⟩ := hm5.blk
        have hbl5 := hbk.lt
        unfold maxLen at hcm5
        have HG5 : Hid (Gw w4 w5) := Gw.trans HGR.out (Gw.below hb5)
        have hjN : (j : Int) < (N : Int) := by omega
        clear hm5 hb5 he hga hbk d0 hlook kc HSW
        go_wp2
        go_roundw
        case rel => exact ⟨j + 1 + 1, by omega, by go_num, by go_num, HG5.out⟩
        case measure => simp [intOf]; omega
    · obtain rfl : i = N := by omega
      clear hg hkr
      obtain ⟨KF, hKF⟩ : ∃ KF : Kn, ∀ x : Swp, x.kn = ⟨L, O, P⟩ → x.fin.kn = KF := by
        refine ⟨(⟨L.map fun o => (sl0, o), O, P.map fun p => (⟨none, 0, 0⟩, p)⟩ : Swp).fin.kn, fun x hx => Swp.fin_kn (hx.trans ?_)⟩
        unfold Swp.kn
        simp [List.map_map, Function.comp_def]
      have HKC : Hid (∀ W, Gw w4 W → (W.cell? ⟨w1.heap.size, 0, none⟩ = some (.slice oa on oc) ∧ W.cell? ⟨w1.heap.size, 1, none⟩ = some (.slice pa pn pc) ∧ W.cell? ⟨w1.heap.size, 2, none⟩ = some (.slice qa qn qc)) ∧ w1.heap.size < W.heap.size) := fun W hg => by
        have hb := HK4.out.on hg.1 HK4.out.lt
        exact ⟨⟨hb.cell 0, hb.cell 1, hb.cell 2⟩, hb.lt⟩
      have HOW0 : Hid (∀ W, Gw w1 W → Calls Try.prog 13 #[.agg #[.slice oa on oc, .slice pa pn pc, .slice qa qn qc]] W (OwnW L O P W)) := fun W hg => by
        obtain ⟨h1, h2, h3⟩ := HAT.out W hg
        have hok := HOK.out
        have hl := hok.len
        have hm := hok.many
        have hsm := hok.some
        exact sown_any ⟨L, O, P⟩ _ _ _ _ W h1 h2 h3 (fun b hb => hb) (fits_of hok.objs hl) (kindOk_of hok.objs) HL.out (by show O.length ≤ 1000; omega) (by show 1 ≤ P.length ∧ P.length ≤ 1000; omega) (fun p hp => by have := (hok.procs p hp).1; omega)
      have HOWN : Hid (∀ W, Gw w4 W → Calls Try.prog 13 #[.agg #[.slice oa on oc, .slice pa pn pc, .slice qa qn qc]] W fun e w' => ∃ a b c, e = .returned (.agg #[a, b, c]) ∧ KernAt w' a b c ⟨L, O, P⟩ ∧ Gw w4 w' ∧ (w'.cell? ⟨w1.heap.size, 0, none⟩ = some (.slice oa on oc) ∧ w'.cell? ⟨w1.heap.size, 1, none⟩ = some (.slice pa pn pc) ∧ w'.cell? ⟨w1.heap.size, 2, none⟩ = some (.slice qa qn qc)) ∧ w1.heap.size < w'.heap.size) := fun W hg => by
        refine (HOW0.out W (Gw.trans HG4.out hg)).mono fun e w' h => ?_
        obtain ⟨a, b, c, e1, h1, h2⟩ := h.kern
        exact ⟨a, b, c, e1, h1, hg.trans h2, HKC.out w' (hg.trans h2)⟩
      have HSK1 : Hid (∀ W, Gw w4 W → ∀ a b c, KernAt W a b c ⟨L, O, P⟩ → Calls Try.prog 12 #[.agg #[a, b, c], .agg #[.slice oa on oc, .slice pa pn pc, .slice qa qn qc]] W fun e w' => e = .returned (.bool true) ∧ Gw w4 w' ∧ (w'.cell? ⟨w1.heap.size, 0, none⟩ = some (.slice oa on oc) ∧ w'.cell? ⟨w1.heap.size, 1, none⟩ = some (.slice pa pn pc) ∧ w'.cell? ⟨w1.heap.size, 2, none⟩ = some (.slice qa qn qc)) ∧ w1.heap.size < w'.heap.size) := fun W hg a b c h => by
        refine (same_kernel ⟨L, O, P⟩ _ _ _ _ _ _ _ _ W h (HAT.out W (Gw.trans HG4.out hg)) (fun b hb => hb) (fun b hb => hb)).mono fun e w' h' => ?_
        exact ⟨h'.1, hg.trans (Gw.below h'.2), HKC.out w' (hg.trans (Gw.below h'.2))⟩
      have HSWP : Hid (∀ W, Gw w4 W → Calls Try.prog 14 #[.agg #[.slice oa on oc, .slice pa pn pc, .slice qa qn qc]] W fun e w' => ∃ a b c, e = .returned (.agg #[a, b, c]) ∧ KernAt w' a b c KF ∧ Gw w4 w' ∧ (w'.cell? ⟨w1.heap.size, 0, none⟩ = some (.slice oa on oc) ∧ w'.cell? ⟨w1.heap.size, 1, none⟩ = some (.slice pa pn pc) ∧ w'.cell? ⟨w1.heap.size, 2, none⟩ = some (.slice qa qn qc)) ∧ w1.heap.size < w'.heap.size) := fun W hg => by
        refine (sweep_any L O P _ _ _ W fun W' hb => HOW0.out W' ((Gw.trans HG4.out hg).trans (Gw.below hb))).mono fun e w' h => ?_
        obtain ⟨x, e1, e2, e3, hx⟩ := h
        obtain ⟨a, b, c, e4, h1, h2⟩ := hx.kern
        have hk := hKF x (by unfold Swp.kn; rw [e1, e2, e3])
        refine ⟨a, b, c, e4, ?_, hg.trans h2, HKC.out w' (hg.trans h2)⟩
        unfold KernAt
        rw [← hk]
        exact h1
      have HRSW : Hid (∀ W, Gw w4 W → Calls Try.prog 15 #[.agg #[.slice oa on oc, .slice pa pn pc, .slice qa qn qc]] W fun e w' => ∃ a b c, e = .returned (.agg #[a, b, c]) ∧ KernAt w' a b c KF ∧ Gw W w' ∧ Gw w4 w' ∧ (w'.cell? ⟨w1.heap.size, 0, none⟩ = some (.slice oa on oc) ∧ w'.cell? ⟨w1.heap.size, 1, none⟩ = some (.slice pa pn pc) ∧ w'.cell? ⟨w1.heap.size, 2, none⟩ = some (.slice qa qn qc)) ∧ w1.heap.size < w'.heap.size) := fun W hg => by
        obtain ⟨⟨ts, hts, hrow, hls⟩, h2, ⟨ps, hps, hprow, hsl⟩⟩ := HAT.out W (Gw.trans HG4.out hg)
        dsimp only at hts h2 hps
        obtain rfl : on = ts.length := by have := Row.eqNil hrow; rw [List.length_map] at this; exact this
        obtain rfl : pn = O.length := by have := Row.eqNil h2; rw [List.length_map] at this; exact this
        obtain rfl : qn = ps.length := by have := Row.eqNil hprow; rw [List.length_map] at this; exact this
        have hok := HOK.out
        refine (rsweep_any ⟨ts, O, ps⟩ oa pa qa oc pc qc _ W hrow h2 hprow hls hsl (fun b hb => hb) (fit_of (by rw [← hts, ← hps]; exact hok))).mono fun e w' h => ?_
        obtain ⟨a, b, c, e4, h1, h2⟩ := h.kern
        have hk := hKF ⟨ts, O, ps⟩ (by unfold Swp.kn; rw [← hts, ← hps])
        refine ⟨a, b, c, e4, ?_, h2, hg.trans h2, HKC.out w' (hg.trans h2)⟩
        unfold KernAt
        rw [← hk]
        exact h1
      have HSK2 : Hid (∀ W, Gw w4 W → ∀ a b c a' b' c', KernAt W a b c KF → KernAt W a' b' c' KF → Calls Try.prog 12 #[.agg #[a, b, c], .agg #[a', b', c']] W fun e w' => e = .returned (.bool true) ∧ Gw w4 w' ∧ (w'.cell? ⟨w1.heap.size, 0, none⟩ = some (.slice oa on oc) ∧ w'.cell? ⟨w1.heap.size, 1, none⟩ = some (.slice pa pn pc) ∧ w'.cell? ⟨w1.heap.size, 2, none⟩ = some (.slice qa qn qc)) ∧ w1.heap.size < w'.heap.size) := fun W hg a b c a' b' c' h h' => by
        refine (same_kernel KF _ _ _ _ _ _ _ _ W h h' (fun b hb => hb) (fun b hb => hb)).mono fun e w' hh => ?_
        exact ⟨hh.1, hg.trans (Gw.below hh.2), HKC.out w' (hg.trans (Gw.below hh.2))⟩
      have hgw : Gw w4 wr.drew := Gw.trans HGR.out (Gw.drew wr)
      have hsz := HSIZE.out wr.drew hgw
      have kc0 := kc 0
      have kc1 := kc 1
      have kc2 := kc 2
      simp at kc0 kc1 kc2
      clear hKF kc
      go_upto_region 11 with fail
      go_region_held_law (fun w' => w'.cell? ⟨w1.heap.size, 0, none⟩ = some (.slice oa on oc) ∧ w'.cell? ⟨w1.heap.size, 1, none⟩ = some (.slice pa pn pc) ∧ w'.cell? ⟨w1.heap.size, 2, none⟩ = some (.slice qa qn qc)) (go_keep) (first
        | ((go_at_call 13; with_reducible (refine Calls.mono (HOWN.out _ hgw) ?_); clear hgw; rintro e W1 ⟨va, vb, vc, rfl, hka, hgw, ⟨hs0, hs1, hs2⟩, hgl⟩))
        | ((go_at_call 14; with_reducible (refine Calls.mono (HSWP.out _ hgw) ?_); clear hgw; rintro e W3 ⟨vd, ve, vf, rfl, hkb, hgw, ⟨hs0, hs1, hs2⟩, hgl⟩))
        | ((go_at_call 15; with_reducible (refine Calls.mono (HRSW.out _ hgw) ?_); clear hgw; rintro e W4 ⟨vg, vh, vi, rfl, hkc, hgn, hgw, ⟨hs0, hs1, hs2⟩, hgl⟩; have hkd := hkb.gw hgn))
        | ((go_at_call 12; with_reducible (refine Calls.mono (HSK2.out _ hgw _ _ _ _ _ _ hkd hkc) ?_); clear hgw; rintro e W5 ⟨rfl, hgw, ⟨hs0, hs1, hs2⟩, hgl⟩))
        | ((go_at_call 12; with_reducible (refine Calls.mono (HSK1.out _ hgw _ _ _ hka) ?_); clear hgw; rintro e W2 ⟨rfl, hgw, ⟨hs0, hs1, hs2⟩, hgl⟩)))
      all_goals
        go_wp2
        go_ret
        exact ⟨rfl, ((Gw.trans HG1.out HG4.out).trans hgw).2.2 _ (Nat.le_refl _)⟩
end Go.Proofs.Ytdciohinlhbliaa


/-
  rglaw8.alive, walked: a closed run.
-/
namespace Go.Proofs.Ytdciohinlhbliaa
open Go.RowKit
open Wp
theorem row_blk {w : World} {g k : Nat} {t : TypeId} {css : List (List Value)} (h : Blk w g css.flatten.toArray t) (hE : Even k css) (hm : css.length ≤ maxLen) : Row w (fun b => b = g) k (.slice (some ⟨g, 0, none⟩) css.length css.length) css :=
  Or.inr ⟨g, 0, css.length, rfl, rfl, Nat.le_refl _, hm, fun i cs hi j u hj => by
    rw [h.cell]
    have := flatten_at hE i cs hi j u hj
    simpa using this⟩
def a8o (k : Int) (l : Int) : Sls × Sp.Ob := (sl0, ⟨k, [], [], ⟨#[]⟩, 0, [], 0, l, 0⟩)
def a8ts : List (Sls × Sp.Ob) := [a8o 2 1, a8o 1 0, a8o 1 0]
def a8O : List Sp.Opn := [⟨2, 0⟩, ⟨1, 0⟩]
def a8s : List Sp.Slt := [⟨true, 1, 0⟩]
def a8ps (g : Nat) : List (Sl × Sp.Prc) := [(⟨some ⟨g, 0, none⟩, 1, 1⟩, ⟨true, false, 0, a8s⟩)]
def a8 (g : Nat) : Swp := ⟨a8ts, a8O, a8ps g⟩
def a8K : Kn := ⟨a8ts.map Prod.snd, a8O, [⟨true, false, 0, a8s⟩]⟩
theorem a8_reach : (nums (reachB a8K) 3).length = 2 := by kernel_rfl
theorem a8_fin : (a8 0).fin.kn.L.length = 2 ∧ (a8 0).fin.kn.O = [⟨-1, 0⟩, ⟨1, 0⟩] := by
  constructor
  · kernel_rfl
  · kernel_rfl
set_option maxRecDepth 1000000 in
set_option maxHeartbeats 16000000 in
theorem alive8_any (w : World) : Calls Try.prog 16 #[] w fun e w' => e = .returned (.bool true) ∧ Below w.heap.size w w' := by
  go_enter Try.func16, Try.ntmps16
  go_wp2_with fail
  have z1 : (w.alloc (.cells #[.int .i64 2, .slice none 0 0, .slice none 0 0, .string ⟨#[]⟩, .int .i64 0, .slice none 0 0, .int .i64 0, .int .i64 1, .int .i64 0, .int .i64 1, .slice none 0 0, .slice none 0 0, .string ⟨#[]⟩, .int .i64 0, .slice none 0 0, .int .i64 0, .int .i64 0, .int .i64 0, .int .i64 1, .slice none 0 0, .slice none 0 0, .string ⟨#[]⟩, .int .i64 0, .slice none 0 0, .int .i64 0, .int .i64 0, .int .i64 0] 40)).heap.size = w.heap.size + 1 := by simp
  have z2 : ((w.alloc (.cells #[.int .i64 2, .slice none 0 0, .slice none 0 0, .string ⟨#[]⟩, .int .i64 0, .slice none 0 0, .int .i64 0, .int .i64 1, .int .i64 0, .int .i64 1, .slice none 0 0, .slice none 0 0, .string ⟨#[]⟩, .int .i64 0, .slice none 0 0, .int .i64 0, .int .i64 0, .int .i64 0, .int .i64 1, .slice none 0 0, .slice none 0 0, .string ⟨#[]⟩, .int .i64 0, .slice none 0 0, .int .i64 0, .int .i64 0, .int .i64 0] 40)).alloc (.cells #[.int .i64 2, .int .i64 0, .int .i64 1, .int .i64 0] 54)).heap.size = w.heap.size + 1 + 1 := by simp
  have z3 : (((w.alloc (.cells #[.int .i64 2, .slice none 0 0, .slice none 0 0, .string ⟨#[]⟩, .int .i64 0, .slice none 0 0, .int .i64 0, .int .i64 1, .int .i64 0, .int .i64 1, .slice none 0 0, .slice none 0 0, .string ⟨#[]⟩, .int .i64 0, .slice none 0 0, .int .i64 0, .int .i64 0, .int .i64 0, .int .i64 1, .slice none 0 0, .slice none 0 0, .string ⟨#[]⟩, .int .i64 0, .slice none 0 0, .int .i64 0, .int .i64 0, .int .i64 0] 40)).alloc (.cells #[.int .i64 2, .int .i64 0, .int .i64 1, .int .i64 0] 54)).alloc (.cells #[.bool true, .int .i64 1, .int .i64 0] 87)).heap.size = w.heap.size + 1 + 1 + 1 := by simp
  have z4 : ((((w.alloc (.cells #[.int .i64 2, .slice none 0 0, .slice none 0 0, .string ⟨#[]⟩, .int .i64 0, .slice none 0 0, .int .i64 0, .int .i64 1, .int .i64 0, .int .i64 1, .slice none 0 0, .slice none 0 0, .string ⟨#[]⟩, .int .i64 0, .slice none 0 0, .int .i64 0, .int .i64 0, .int .i64 0, .int .i64 1, .slice none 0 0, .slice none 0 0, .string ⟨#[]⟩, .int .i64 0, .slice none 0 0, .int .i64 0, .int .i64 0, .int .i64 0] 40)).alloc (.cells #[.int .i64 2, .int .i64 0, .int .i64 1, .int .i64 0] 54)).alloc (.cells #[.bool true, .int .i64 1, .int .i64 0] 87)).alloc (.cells #[.bool true, .bool false, .int .i64 0, .slice (some ⟨w.heap.size + 1 + 1, 0, none⟩) 1 1] 43)).heap.size = w.heap.size + 1 + 1 + 1 + 1 := by simp
  have hg5 : Gw w (((((w.alloc (.cells #[.int .i64 2, .slice none 0 0, .slice none 0 0, .string ⟨#[]⟩, .int .i64 0, .slice none 0 0, .int .i64 0, .int .i64 1, .int .i64 0, .int .i64 1, .slice none 0 0, .slice none 0 0, .string ⟨#[]⟩, .int .i64 0, .slice none 0 0, .int .i64 0, .int .i64 0, .int .i64 0, .int .i64 1, .slice none 0 0, .slice none 0 0, .string ⟨#[]⟩, .int .i64 0, .slice none 0 0, .int .i64 0, .int .i64 0, .int .i64 0] 40)).alloc (.cells #[.int .i64 2, .int .i64 0, .int .i64 1, .int .i64 0] 54)).alloc (.cells #[.bool true, .int .i64 1, .int .i64 0] 87)).alloc (.cells #[.bool true, .bool false, .int .i64 0, .slice (some ⟨w.heap.size + 1 + 1, 0, none⟩) 1 1] 43)).alloc (.cells #[.slice (some ⟨w.heap.size, 0, none⟩) 3 3, .slice (some ⟨w.heap.size + 1, 0, none⟩) 2 2, .slice (some ⟨w.heap.size + 1 + 1 + 1, 0, none⟩) 1 1] 27)) := ((((Gw.new w _).trans (Gw.new _ _)).trans (Gw.new _ _)).trans (Gw.new _ _)).trans (Gw.new _ _)
  have b0 : Blk (((((w.alloc (.cells #[.int .i64 2, .slice none 0 0, .slice none 0 0, .string ⟨#[]⟩, .int .i64 0, .slice none 0 0, .int .i64 0, .int .i64 1, .int .i64 0, .int .i64 1, .slice none 0 0, .slice none 0 0, .string ⟨#[]⟩, .int .i64 0, .slice none 0 0, .int .i64 0, .int .i64 0, .int .i64 0, .int .i64 1, .slice none 0 0, .slice none 0 0, .string ⟨#[]⟩, .int .i64 0, .slice none 0 0, .int .i64 0, .int .i64 0, .int .i64 0] 40)).alloc (.cells #[.int .i64 2, .int .i64 0, .int .i64 1, .int .i64 0] 54)).alloc (.cells #[.bool true, .int .i64 1, .int .i64 0] 87)).alloc (.cells #[.bool true, .bool false, .int .i64 0, .slice (some ⟨w.heap.size + 1 + 1, 0, none⟩) 1 1] 43)).alloc (.cells #[.slice (some ⟨w.heap.size, 0, none⟩) 3 3, .slice (some ⟨w.heap.size + 1, 0, none⟩) 2 2, .slice (some ⟨w.heap.size + 1 + 1 + 1, 0, none⟩) 1 1] 27)) w.heap.size (a8ts.map objC).flatten.toArray 40 := ((((Blk.new w _ 40).alloc _).alloc _).alloc _).alloc _
  have b1 : Blk (((((w.alloc (.cells #[.int .i64 2, .slice none 0 0, .slice none 0 0, .string ⟨#[]⟩, .int .i64 0, .slice none 0 0, .int .i64 0, .int .i64 1, .int .i64 0, .int .i64 1, .slice none 0 0, .slice none 0 0, .string ⟨#[]⟩, .int .i64 0, .slice none 0 0, .int .i64 0, .int .i64 0, .int .i64 0, .int .i64 1, .slice none 0 0, .slice none 0 0, .string ⟨#[]⟩, .int .i64 0, .slice none 0 0, .int .i64 0, .int .i64 0, .int .i64 0] 40)).alloc (.cells #[.int .i64 2, .int .i64 0, .int .i64 1, .int .i64 0] 54)).alloc (.cells #[.bool true, .int .i64 1, .int .i64 0] 87)).alloc (.cells #[.bool true, .bool false, .int .i64 0, .slice (some ⟨w.heap.size + 1 + 1, 0, none⟩) 1 1] 43)).alloc (.cells #[.slice (some ⟨w.heap.size, 0, none⟩) 3 3, .slice (some ⟨w.heap.size + 1, 0, none⟩) 2 2, .slice (some ⟨w.heap.size + 1 + 1 + 1, 0, none⟩) 1 1] 27)) (w.heap.size + 1) (a8O.map opnC).flatten.toArray 54 := by have h := Blk.new (w.alloc (.cells #[.int .i64 2, .slice none 0 0, .slice none 0 0, .string ⟨#[]⟩, .int .i64 0, .slice none 0 0, .int .i64 0, .int .i64 1, .int .i64 0, .int .i64 1, .slice none 0 0, .slice none 0 0, .string ⟨#[]⟩, .int .i64 0, .slice none 0 0, .int .i64 0, .int .i64 0, .int .i64 0, .int .i64 1, .slice none 0 0, .slice none 0 0, .string ⟨#[]⟩, .int .i64 0, .slice none 0 0, .int .i64 0, .int .i64 0, .int .i64 0] 40)) (a8O.map opnC).flatten.toArray 54; rw [z1] at h; exact ((h.alloc _).alloc _).alloc _
  have b2 : Blk (((((w.alloc (.cells #[.int .i64 2, .slice none 0 0, .slice none 0 0, .string ⟨#[]⟩, .int .i64 0, .slice none 0 0, .int .i64 0, .int .i64 1, .int .i64 0, .int .i64 1, .slice none 0 0, .slice none 0 0, .string ⟨#[]⟩, .int .i64 0, .slice none 0 0, .int .i64 0, .int .i64 0, .int .i64 0, .int .i64 1, .slice none 0 0, .slice none 0 0, .string ⟨#[]⟩, .int .i64 0, .slice none 0 0, .int .i64 0, .int .i64 0, .int .i64 0] 40)).alloc (.cells #[.int .i64 2, .int .i64 0, .int .i64 1, .int .i64 0] 54)).alloc (.cells #[.bool true, .int .i64 1, .int .i64 0] 87)).alloc (.cells #[.bool true, .bool false, .int .i64 0, .slice (some ⟨w.heap.size + 1 + 1, 0, none⟩) 1 1] 43)).alloc (.cells #[.slice (some ⟨w.heap.size, 0, none⟩) 3 3, .slice (some ⟨w.heap.size + 1, 0, none⟩) 2 2, .slice (some ⟨w.heap.size + 1 + 1 + 1, 0, none⟩) 1 1] 27)) (w.heap.size + 1 + 1) (a8s.map sltC).flatten.toArray 87 := by have h := Blk.new ((w.alloc (.cells #[.int .i64 2, .slice none 0 0, .slice none 0 0, .string ⟨#[]⟩, .int .i64 0, .slice none 0 0, .int .i64 0, .int .i64 1, .int .i64 0, .int .i64 1, .slice none 0 0, .slice none 0 0, .string ⟨#[]⟩, .int .i64 0, .slice none 0 0, .int .i64 0, .int .i64 0, .int .i64 0, .int .i64 1, .slice none 0 0, .slice none 0 0, .string ⟨#[]⟩, .int .i64 0, .slice none 0 0, .int .i64 0, .int .i64 0, .int .i64 0] 40)).alloc (.cells #[.int .i64 2, .int .i64 0, .int .i64 1, .int .i64 0] 54)) (a8s.map sltC).flatten.toArray 87; rw [z2] at h; exact (h.alloc _).alloc _
  have b3 : Blk (((((w.alloc (.cells #[.int .i64 2, .slice none 0 0, .slice none 0 0, .string ⟨#[]⟩, .int .i64 0, .slice none 0 0, .int .i64 0, .int .i64 1, .int .i64 0, .int .i64 1, .slice none 0 0, .slice none 0 0, .string ⟨#[]⟩, .int .i64 0, .slice none 0 0, .int .i64 0, .int .i64 0, .int .i64 0, .int .i64 1, .slice none 0 0, .slice none 0 0, .string ⟨#[]⟩, .int .i64 0, .slice none 0 0, .int .i64 0, .int .i64 0, .int .i64 0] 40)).alloc (.cells #[.int .i64 2, .int .i64 0, .int .i64 1, .int .i64 0] 54)).alloc (.cells #[.bool true, .int .i64 1, .int .i64 0] 87)).alloc (.cells #[.bool true, .bool false, .int .i64 0, .slice (some ⟨w.heap.size + 1 + 1, 0, none⟩) 1 1] 43)).alloc (.cells #[.slice (some ⟨w.heap.size, 0, none⟩) 3 3, .slice (some ⟨w.heap.size + 1, 0, none⟩) 2 2, .slice (some ⟨w.heap.size + 1 + 1 + 1, 0, none⟩) 1 1] 27)) (w.heap.size + 1 + 1 + 1) ((a8ps (w.heap.size + 1 + 1)).map prcC).flatten.toArray 43 := by have h := Blk.new (((w.alloc (.cells #[.int .i64 2, .slice none 0 0, .slice none 0 0, .string ⟨#[]⟩, .int .i64 0, .slice none 0 0, .int .i64 0, .int .i64 1, .int .i64 0, .int .i64 1, .slice none 0 0, .slice none 0 0, .string ⟨#[]⟩, .int .i64 0, .slice none 0 0, .int .i64 0, .int .i64 0, .int .i64 0, .int .i64 1, .slice none 0 0, .slice none 0 0, .string ⟨#[]⟩, .int .i64 0, .slice none 0 0, .int .i64 0, .int .i64 0, .int .i64 0] 40)).alloc (.cells #[.int .i64 2, .int .i64 0, .int .i64 1, .int .i64 0] 54)).alloc (.cells #[.bool true, .int .i64 1, .int .i64 0] 87)) ((a8ps (w.heap.size + 1 + 1)).map prcC).flatten.toArray 43; rw [z3] at h; exact h.alloc _
  have b4 : Blk (((((w.alloc (.cells #[.int .i64 2, .slice none 0 0, .slice none 0 0, .string ⟨#[]⟩, .int .i64 0, .slice none 0 0, .int .i64 0, .int .i64 1, .int .i64 0, .int .i64 1, .slice none 0 0, .slice none 0 0, .string ⟨#[]⟩, .int .i64 0, .slice none 0 0, .int .i64 0, .int .i64 0, .int .i64 0, .int .i64 1, .slice none 0 0, .slice none 0 0, .string ⟨#[]⟩, .int .i64 0, .slice none 0 0, .int .i64 0, .int .i64 0, .int .i64 0] 40)).alloc (.cells #[.int .i64 2, .int .i64 0, .int .i64 1, .int .i64 0] 54)).alloc (.cells #[.bool true, .int .i64 1, .int .i64 0] 87)).alloc (.cells #[.bool true, .bool false, .int .i64 0, .slice (some ⟨w.heap.size + 1 + 1, 0, none⟩) 1 1] 43)).alloc (.cells #[.slice (some ⟨w.heap.size, 0, none⟩) 3 3, .slice (some ⟨w.heap.size + 1, 0, none⟩) 2 2, .slice (some ⟨w.heap.size + 1 + 1 + 1, 0, none⟩) 1 1] 27)) (w.heap.size + 1 + 1 + 1 + 1) #[.slice (some ⟨w.heap.size, 0, none⟩) 3 3, .slice (some ⟨w.heap.size + 1, 0, none⟩) 2 2, .slice (some ⟨w.heap.size + 1 + 1 + 1, 0, none⟩) 1 1] 27 := by have h := Blk.new ((((w.alloc (.cells #[.int .i64 2, .slice none 0 0, .slice none 0 0, .string ⟨#[]⟩, .int .i64 0, .slice none 0 0, .int .i64 0, .int .i64 1, .int .i64 0, .int .i64 1, .slice none 0 0, .slice none 0 0, .string ⟨#[]⟩, .int .i64 0, .slice none 0 0, .int .i64 0, .int .i64 0, .int .i64 0, .int .i64 1, .slice none 0 0, .slice none 0 0, .string ⟨#[]⟩, .int .i64 0, .slice none 0 0, .int .i64 0, .int .i64 0, .int .i64 0] 40)).alloc (.cells #[.int .i64 2, .int .i64 0, .int .i64 1, .int .i64 0] 54)).alloc (.cells #[.bool true, .int .i64 1, .int .i64 0] 87)).alloc (.cells #[.bool true, .bool false, .int .i64 0, .slice (some ⟨w.heap.size + 1 + 1, 0, none⟩) 1 1] 43)) #[.slice (some ⟨w.heap.size, 0, none⟩) 3 3, .slice (some ⟨w.heap.size + 1, 0, none⟩) 2 2, .slice (some ⟨w.heap.size + 1 + 1 + 1, 0, none⟩) 1 1] 27; rw [z4] at h; exact h
  have hat : KernAt (((((w.alloc (.cells #[.int .i64 2, .slice none 0 0, .slice none 0 0, .string ⟨#[]⟩, .int .i64 0, .slice none 0 0, .int .i64 0, .int .i64 1, .int .i64 0, .int .i64 1, .slice none 0 0, .slice none 0 0, .string ⟨#[]⟩, .int .i64 0, .slice none 0 0, .int .i64 0, .int .i64 0, .int .i64 0, .int .i64 1, .slice none 0 0, .slice none 0 0, .string ⟨#[]⟩, .int .i64 0, .slice none 0 0, .int .i64 0, .int .i64 0, .int .i64 0] 40)).alloc (.cells #[.int .i64 2, .int .i64 0, .int .i64 1, .int .i64 0] 54)).alloc (.cells #[.bool true, .int .i64 1, .int .i64 0] 87)).alloc (.cells #[.bool true, .bool false, .int .i64 0, .slice (some ⟨w.heap.size + 1 + 1, 0, none⟩) 1 1] 43)).alloc (.cells #[.slice (some ⟨w.heap.size, 0, none⟩) 3 3, .slice (some ⟨w.heap.size + 1, 0, none⟩) 2 2, .slice (some ⟨w.heap.size + 1 + 1 + 1, 0, none⟩) 1 1] 27)) (.slice (some ⟨w.heap.size, 0, none⟩) 3 3) (.slice (some ⟨w.heap.size + 1, 0, none⟩) 2 2) (.slice (some ⟨w.heap.size + 1 + 1 + 1, 0, none⟩) 1 1) a8K := by
    have hl := b4.lt
    refine ⟨⟨a8ts, rfl, (row_blk b0 (even_obj _) (by decide)).more fun b hb => by have : b = w.heap.size := hb; omega, fun t ht => ?_⟩, (row_blk b1 (even_opn _) (by decide)).more fun b hb => by have : b = w.heap.size + 1 := hb; omega, ⟨a8ps (w.heap.size + 1 + 1), rfl, (row_blk b3 (even_prc _) (by unfold maxLen; simp [a8ps])).more fun b hb => by have : b = w.heap.size + 1 + 1 + 1 := hb; omega, fun t ht => ?_⟩⟩
    · have e : t.1 = sl0 ∧ t.2.data = [] ∧ t.2.ents = [] ∧ t.2.queue = [] := by
        simp only [a8ts, a8o, List.mem_cons, List.not_mem_nil, or_false] at ht
        rcases ht with rfl | rfl | rfl <;> exact ⟨rfl, rfl, rfl, rfl⟩
      obtain ⟨s, o⟩ := t
      dsimp only at e
      obtain ⟨rfl, e1, e2, e3⟩ := e
      refine ⟨?_, ?_, [], e3, Row.nil _ _ _ _ _, fun t ht => by cases ht⟩
      · unfold Bytes
        dsimp only
        rw [e1]
        exact Row.nil _ _ _ _ _
      · unfold Ents
        dsimp only
        rw [e2]
        exact Row.nil _ _ _ _ _
    · simp only [a8ps, List.mem_cons, List.not_mem_nil, or_false] at ht
      subst ht
      exact (row_blk b2 (even_slt _) (by decide)).more fun b hb => by have : b = w.heap.size + 1 + 1 := hb; omega
  have HAT : Hid _ := hat
  have HG5 : Hid _ := hg5
  have HB4 : Hid _ := b4
  clear hat hg5 b0 b1 b2 b3 b4 z1 z2 z3 z4
  generalize (((((w.alloc (.cells #[.int .i64 2, .slice none 0 0, .slice none 0 0, .string ⟨#[]⟩, .int .i64 0, .slice none 0 0, .int .i64 0, .int .i64 1, .int .i64 0, .int .i64 1, .slice none 0 0, .slice none 0 0, .string ⟨#[]⟩, .int .i64 0, .slice none 0 0, .int .i64 0, .int .i64 0, .int .i64 0, .int .i64 1, .slice none 0 0, .slice none 0 0, .string ⟨#[]⟩, .int .i64 0, .slice none 0 0, .int .i64 0, .int .i64 0, .int .i64 0] 40)).alloc (.cells #[.int .i64 2, .int .i64 0, .int .i64 1, .int .i64 0] 54)).alloc (.cells #[.bool true, .int .i64 1, .int .i64 0] 87)).alloc (.cells #[.bool true, .bool false, .int .i64 0, .slice (some ⟨w.heap.size + 1 + 1, 0, none⟩) 1 1] 43)).alloc (.cells #[.slice (some ⟨w.heap.size, 0, none⟩) 3 3, .slice (some ⟨w.heap.size + 1, 0, none⟩) 2 2, .slice (some ⟨w.heap.size + 1 + 1 + 1, 0, none⟩) 1 1] 27)) = w5 at *
  have HOW0 : Hid (∀ W, Gw w5 W → Calls Try.prog 13 #[.agg #[.slice (some ⟨w.heap.size, 0, none⟩) 3 3, .slice (some ⟨w.heap.size + 1, 0, none⟩) 2 2, .slice (some ⟨w.heap.size + 1 + 1 + 1, 0, none⟩) 1 1]] W (OwnW a8K.L a8K.O a8K.P W)) := fun W hg => by
    obtain ⟨h1, h2, h3⟩ := KernAt.gw HAT.out hg
    have hz : ∀ o ∈ a8K.L, o.data = [] ∧ o.ents = [] ∧ o.queue = [] := fun o ho => by
      simp only [a8K, a8ts, a8o, List.map_cons, List.map_nil, List.mem_cons, List.not_mem_nil, or_false] at ho
      rcases ho with rfl | rfl | rfl <;> exact ⟨rfl, rfl, rfl⟩
    refine sown_any a8K _ _ _ _ W h1 h2 h3 (fun b hb => hb) (fun o ho => ?_) (fun o ho => ?_) (by decide) (by decide) ⟨by decide, by decide⟩ (fun p hp => ?_)
    · obtain ⟨e1, e2, e3⟩ := hz o ho
      unfold Fits
      rw [e1, e2, e3]
      exact ⟨by decide, by decide, by decide, fun m hm => by cases hm⟩
    · obtain ⟨e1, e2, e3⟩ := hz o ho
      exact ⟨fun _ => e2, fun _ => e3⟩
    · simp only [a8K, List.mem_cons, List.not_mem_nil, or_false] at hp
      subst hp
      decide
  have HSWP : Hid (Calls Try.prog 14 #[.agg #[.slice (some ⟨w.heap.size, 0, none⟩) 3 3, .slice (some ⟨w.heap.size + 1, 0, none⟩) 2 2, .slice (some ⟨w.heap.size + 1 + 1 + 1, 0, none⟩) 1 1]] w5 fun e w' => ∃ a b c, e = .returned (.agg #[a, b, c]) ∧ KernAt w' a b c (a8 0).fin.kn ∧ Gw w5 w') := by
    refine (sweep_any a8K.L a8K.O a8K.P _ _ _ w5 fun W' hb => HOW0.out W' (Gw.below hb)).mono fun e w' h => ?_
    obtain ⟨x, e1, e2, e3, hx⟩ := h
    obtain ⟨a, b, c, e4, h1, h2⟩ := hx.kern
    have hk : x.fin.kn = (a8 0).fin.kn := Swp.fin_kn (by unfold Swp.kn; rw [e1, e2, e3]; rfl)
    refine ⟨a, b, c, e4, ?_, h2⟩
    unfold KernAt
    rw [← hk]
    exact h1
  have hkl := Blk.lt HB4.out
  refine Calls.mono HSWP.out ?_
  rintro e w6 ⟨a, b, c, rfl, hk6, hg6⟩
  obtain ⟨oa, oc, rfl, -⟩ := hk6.1.form
  have hO := hk6.2.1
  rw [a8_fin.2] at hO
  obtain ⟨pb, po, pc, rfl, hpb, hpl, hpm, hp5⟩ := hO.some (by decide)
  obtain ⟨qa, qn, qc, rfl⟩ : ∃ a n c', c = .slice a n c' := by obtain ⟨ts, -, h, -⟩ := hk6.2.2; obtain ⟨a, c', e, -⟩ := Row.form h; exact ⟨_, _, _, e⟩
  rw [a8_fin.1]
  have p0 := hp5 0 _ rfl 0 _ rfl
  have p1 := hp5 1 _ rfl 0 _ rfl
  simp at p0 p1 hpl
  have hk5 := Blk.on HB4.out hg6.1 hkl
  have k5c := hk5.cell
  have k5l := hk5.lt
  have HG6 : Hid (Gw w5 w6) := hg6
  have HSR : Hid (∀ W, Gw w5 W → Calls Try.prog 11 #[.agg #[.slice (some ⟨w.heap.size, 0, none⟩) 3 3, .slice (some ⟨w.heap.size + 1, 0, none⟩) 2 2, .slice (some ⟨w.heap.size + 1 + 1 + 1, 0, none⟩) 1 1]] W fun e w' => ∃ a c, e = .returned (.slice a 2 c) ∧ Gw w5 w') := fun W hg => by
    obtain ⟨h1, h2, h3⟩ := KernAt.gw HAT.out hg
    refine (sreach_any a8K _ _ _ _ W h1 h2 h3 (fun b hb => hb) (by decide) (fun o ho => ?_)).mono fun e w' h => ?_
    · simp only [a8K, a8ts, a8o, List.map_cons, List.map_nil, List.mem_cons, List.not_mem_nil, or_false] at ho
      rcases ho with rfl | rfl | rfl <;> exact ⟨fun _ => rfl, fun _ => rfl⟩
    · obtain ⟨r, rfl, hm, hb⟩ := h
      obtain ⟨a, c, e, -, -⟩ := hm.form
      rw [List.length_map, show (nums (reachB a8K) a8K.L.length).length = 2 from a8_reach] at e
      exact ⟨a, c, by rw [e], hg.trans (Gw.below hb)⟩
  have HOWN : Hid (∀ W, Gw w5 W → Calls Try.prog 13 #[.agg #[.slice (some ⟨w.heap.size, 0, none⟩) 3 3, .slice (some ⟨w.heap.size + 1, 0, none⟩) 2 2, .slice (some ⟨w.heap.size + 1 + 1 + 1, 0, none⟩) 1 1]] W fun e w' => ∃ a c0 b c, e = .returned (.agg #[.slice a 3 c0, b, c]) ∧ Gw w5 w') := fun W hg => by
    refine (HOW0.out W hg).mono fun e w' h => ?_
    obtain ⟨a, b, c, e1, h1, h2⟩ := h.kern
    obtain ⟨oa, oc, rfl, -⟩ := h1.1.form
    exact ⟨oa, oc, b, c, e1, hg.trans h2⟩
  have hfield := fun (a b c : Value) (w : World) => (by kernel_rfl : (Instr.field 27 (.agg #[a, b, c]) 0).run Try.prog w = .ok a w)
  clear hk6 hg6 hO hp5 hk5
  go_wp2_with fail
  refine Calls.mono (HSR.out _ (Gw.trans HG6.out (Gw.new w6 _))) ?_
  rintro e w7 ⟨ra, rc, rfl, hg7⟩
  have HG7 : Hid (Gw w5 w7) := hg7
  have hk7 := Blk.on HB4.out hg7.1 hkl
  have k7c := hk7.cell
  have k7l := hk7.lt
  clear hg7 hk7 k5c p0 p1
  go_wp2_with fail
  refine Calls.mono (HOWN.out w7 HG7.out) ?_
  rintro e w8 ⟨va, vc, vb, vd, rfl, hg8⟩
  have HG8 : Hid (Gw w5 w8) := hg8
  clear hg8 k7c
  go_wp2
  go_ret
  exact ⟨rfl, (Gw.trans HG5.out HG8.out).2.2 _ (Nat.le_refl _)⟩
end Go.Proofs.Ytdciohinlhbliaa

/-
  What Sweep keeps, plainly.
-/
namespace Go.Proofs.Ytdciohinlhbliaa
open Go.RowKit
namespace Wp
/-- Each object is none, or as it was but for its other end; each process is none, or as it was. -/
structure Keep (x y : Swp) : Prop where
  tl : y.ts.length ≤ x.ts.length
  ol : y.O.length ≤ x.O.length
  pl : y.ps.length ≤ x.ps.length
  ts : ∀ (i : Nat) (t : Sls × Sp.Ob), y.ts[i]? = some t → ∃ t0, x.ts[i]? = some t0 ∧ (t.2.kind = 0 ∨ ({ t.2 with peer := 0 } : Sp.Ob) = { t0.2 with peer := 0 })
  ps : ∀ (i : Nat) (t : Sl × Sp.Prc), y.ps[i]? = some t → ∃ t0, x.ps[i]? = some t0 ∧ (t.2.live = false ∨ t.2 = t0.2)
theorem Keep.refl (x : Swp) : Keep x x := ⟨Nat.le_refl _, Nat.le_refl _, Nat.le_refl _, fun _ t h => ⟨t, h, Or.inr rfl⟩, fun _ t h => ⟨t, h, Or.inr rfl⟩⟩
theorem Keep.trans {x y z : Swp} (h : Keep x y) (h' : Keep y z) : Keep x z := by
  refine ⟨Nat.le_trans h'.tl h.tl, Nat.le_trans h'.ol h.ol, Nat.le_trans h'.pl h.pl, fun i t ht => ?_, fun i t ht => ?_⟩
  · obtain ⟨t1, e1, q1⟩ := h'.ts i t ht
    obtain ⟨t0, e0, q0⟩ := h.ts i t1 e1
    refine ⟨t0, e0, ?_⟩
    rcases q1 with q1 | q1
    · exact Or.inl q1
    · rcases q0 with q0 | q0
      · exact Or.inl (by have := congrArg Sp.Ob.kind q1; exact this.trans q0)
      · exact Or.inr (q1.trans q0)
  · obtain ⟨t1, e1, q1⟩ := h'.ps i t ht
    obtain ⟨t0, e0, q0⟩ := h.ps i t1 e1
    refine ⟨t0, e0, ?_⟩
    rcases q1 with q1 | q1
    · exact Or.inl q1
    · rcases q0 with q0 | q0
      · exact Or.inl (by rw [q1]; exact q0)
      · exact Or.inr (q1.trans q0)
theorem keep_rnd (x : Swp) : Keep x x.rnd := by
  obtain ⟨l1, l2, l3⟩ := x.rnd_lens
  refine ⟨Nat.le_of_eq l1, Nat.le_of_eq l2, Nat.le_of_eq l3, fun i t ht => ?_, fun i t ht => ?_⟩
  · have ht' : (x.ts.mapIdx (fo (reachB x.kn) x.ts.length))[i]? = some t := ht
    rw [List.getElem?_mapIdx] at ht'
    cases h0 : x.ts[i]? with
    | none => rw [h0] at ht'; cases ht'
    | some t0 =>
      rw [h0] at ht'
      cases ht'
      refine ⟨t0, rfl, ?_⟩
      rcases fo_cases (reachB x.kn) x.ts.length i t0 with e | e | e <;> rw [e]
      · exact Or.inl rfl
      · exact Or.inr rfl
      · exact Or.inr rfl
  · have ht' : (x.ps.mapIdx (ep x.kn1))[i]? = some t := ht
    rw [List.getElem?_mapIdx] at ht'
    cases h0 : x.ps[i]? with
    | none => rw [h0] at ht'; cases ht'
    | some t0 =>
      rw [h0] at ht'
      cases ht'
      refine ⟨t0, rfl, ?_⟩
      rcases ep_cases x.kn1 i t0 with e | e <;> rw [e]
      · exact Or.inl rfl
      · exact Or.inr rfl
theorem keep_allN : ∀ (n : Nat) (x : Swp), Keep x (Swp.allN n x)
  | 0, x => keep_rnd x
  | n + 1, x => by
    unfold Swp.allN
    split
    · exact (keep_rnd x).trans (keep_allN n x.rnd)
    · exact keep_rnd x
theorem keep_cut (x : Swp) : Keep x x.cut := by
  have e1 : x.cut.ts = x.ts.take (trimN (obG x.ts) 1 x.ts.length) := rfl
  have e2 : x.cut.O = x.O.take (trimN (opG x.O) 0 x.O.length) := rfl
  have e3 : x.cut.ps = (x.ps.mapIdx (fp x.knE)).take (trimN (prG x.knE x.ps) 1 x.ps.length) := rfl
  refine ⟨by rw [e1, List.length_take]; omega, by rw [e2, List.length_take]; omega, by rw [e3, List.length_take, List.length_mapIdx]; omega, fun i t ht => ?_, fun i t ht => ?_⟩
  · rw [e1, List.getElem?_take] at ht
    split at ht
    · exact ⟨t, ht, Or.inr rfl⟩
    · cases ht
  · rw [e3, List.getElem?_take] at ht
    split at ht
    · rw [List.getElem?_mapIdx] at ht
      cases h0 : x.ps[i]? with
      | none => rw [h0] at ht; cases ht
      | some t0 =>
        rw [h0] at ht
        cases ht
        refine ⟨t0, rfl, ?_⟩
        unfold fp
        split
        · exact Or.inl rfl
        · exact Or.inr rfl
    · cases ht
theorem keep_fin (x : Swp) : Keep x x.fin := (keep_allN x.live x).trans (keep_cut _)
theorem kinds_allN : ∀ (n : Nat) (x : Swp), KindOk (x.ts.map Prod.snd) → KindOk ((Swp.allN n x).ts.map Prod.snd)
  | 0, _, h => Swp.rnd_kinds h
  | n + 1, x, h => by
    unfold Swp.allN
    split
    · exact kinds_allN n x.rnd (Swp.rnd_kinds h)
    · exact Swp.rnd_kinds h
theorem kinds_fin {x : Swp} (h : KindOk (x.ts.map Prod.snd)) : KindOk (x.fin.ts.map Prod.snd) := fun o ho => by
  obtain ⟨t, ht, rfl⟩ := List.mem_map.1 ho
  exact kinds_allN x.live x h t.2 (List.mem_map_of_mem (List.mem_of_mem_take (show t ∈ x.all.ts.take _ from ht)))
theorem trimN_ge {G : Nat → Bool} {stay : Nat} : ∀ {n : Nat}, stay ≤ n → stay ≤ trimN G stay n
  | 0, h => by unfold trimN; exact h
  | n + 1, h => by
    unfold trimN
    split
    · rename_i h1
      exact trimN_ge h1.1
    · exact h
theorem allN_ps : ∀ (n : Nat) (x : Swp), (Swp.allN n x).ps.length = x.ps.length
  | 0, x => x.rnd_lens.2.2
  | n + 1, x => by
    unfold Swp.allN
    split
    · rw [allN_ps n x.rnd]; exact x.rnd_lens.2.2
    · exact x.rnd_lens.2.2
theorem fin_ps {x : Swp} (h : 1 ≤ x.ps.length) : 1 ≤ x.fin.ps.length := by
  have hl : x.all.ps.length = x.ps.length := allN_ps _ x
  have e3 : x.fin.ps = (x.all.ps.mapIdx (fp x.all.knE)).take (trimN (prG x.all.knE x.all.ps) 1 x.all.ps.length) := rfl
  have := trimN_ge (G := prG x.all.knE x.all.ps) (stay := 1) (n := x.all.ps.length) (by omega)
  rw [e3, List.length_take, List.length_mapIdx]
  omega
/-- What one can come to is an object. -/
theorem come_obj {K : Kn} {n : Nat} (h : Come K n) : isObj K.L (n : Int) = true :=
  h.2 (fun n => isObj K.L (n : Int) = true) ⟨fun _ _ hr => (rootB_iff.1 hr).1, fun _ _ _ _ _ _ hx => (nextB_iff.1 hx).1⟩
theorem reach_kind {K : Kn} {n : Nat} (h : (reachB K).getD n false = true) : ∃ o, K.L[n]? = some o ∧ o.kind ≠ 0 := by
  have hn : n < K.L.length := by have := getD_lt h; rw [reachB_len] at this; exact this
  have ho := come_obj ((reachB_iff K hn).1 h)
  unfold isObj at ho
  rw [if_pos (by omega), Int.toNat_natCast] at ho
  cases hx : K.L[n]? with
  | none => rw [hx] at ho; cases ho
  | some o => rw [hx] at ho; exact ⟨o, rfl, by simpa using ho⟩
end Wp
end Go.Proofs.Ytdciohinlhbliaa


/-
  Arguments opened: bytes, as they lie there.
-/
namespace Go.Proofs.Ytdciohinlhbliaa
open Go.ChangeShapes Go.WideShapes Go.ChangeAt Go.RowKit Go.Deep
theorem Try.vcellsByte : Try.prog.cellsOf 5 = 1 := by kernel_rfl
theorem vblock_lt {w : World} {a : Addr} {v : Value} (h : w.cell? a = some v) : a.block < w.heap.size := by
  rcases Nat.lt_or_ge a.block w.heap.size with h' | h'
  · exact h'
  · simp [World.cell?, Array.getElem?_eq_none h'] at h
section
variable {H : Type} {enc : TypeId × Value → H} {W : World}
set_option maxRecDepth 100000 in
theorem vopen_bytes {base b0 : Nat} {held : Bool} {r : Reach} {v : Value} {d : DataW H} {q : List MemPlace} {sp : Nat → Bool}
    (hv : Value.okWide Try.prog W r b0 22 v) (h : DataW.Trod enc Try.prog W base sp held 22 v d q) :
    ∃ l : List UInt8, Bytes W (fun x => x < W.heap.size) v l ∧ (l = [] ∨ ∃ es spare, d = .slice es spare ∧ es.length = l.length) := by
  obtain ⟨a1, len1, cap1, rfl⟩ := okWide_slice Try.underlying22 hv
  obtain ⟨fuel, hf⟩ := h
  rcases open_ints Try.underlying22 Try.underlying5 Try.vcellsByte hf with ⟨hcs, hx⟩ | ⟨a, len, cap, zs, hcs, _, hl, hm, hz, hx, hcell, hwz⟩
  · simp [Value.cells] at hcs
    obtain ⟨rfl, rfl, rfl⟩ := hcs
    exact ⟨[], Row.nil _ _ _ _ _, Or.inl rfl⟩
  · simp [Value.cells] at hcs
    obtain ⟨rfl, rfl, rfl⟩ := hcs
    have hlm : len1 ≤ zs.length := by rw [hz]; split <;> omega
    by_cases h0 : len1 = 0
    · subst h0; exact ⟨[], Row.nil _ _ _ _ _, Or.inl rfl⟩
    obtain ⟨ab, ao, spot⟩ := a
    have hspot : spot = none := by simpa [Addr.add] using World.cell?_spot (hcell 0 (by omega))
    subst hspot
    simp only [Addr.add_lit] at hcell
    have hlt : ab < W.heap.size := vblock_lt (hcell 0 (by omega))
    refine ⟨(zs.take len1).map fun z => UInt8.ofNat z.toNat, Or.inr ⟨ab, ao, cap1, by simp; omega, hlt, by simp; omega, hm, ?_⟩, Or.inr ⟨_, _, (Prod.mk.inj hx).1, by simp [lits]⟩⟩
    intro i cs hi j u hj
    rw [List.getElem?_map, List.getElem?_map] at hi
    by_cases hil : i < len1
    · have e : zs[i]? = some (zs.getD i 0) := by rw [List.getD_eq_getElem?_getD, List.getElem?_eq_getElem (by omega)]; rfl
      rw [List.getElem?_take_of_lt hil, e] at hi
      simp only [Option.map_some, Option.some.injEq] at hi
      have hb : 0 ≤ zs.getD i 0 ∧ zs.getD i 0 < 256 := by
        have := range_u8 hwz i
        rw [List.getD_eq_getElem?_getD]
        omega
      subst hi
      have hc := hcell i (by omega)
      generalize zs.getD i 0 = z at hb hc hj
      match j, hj with
      | 0, hj =>
        simp [byteC] at hj
        subst hj
        rw [Nat.mul_one, Nat.add_zero, hc]
        congr 2
        omega
      | j + 1, hj => simp [byteC] at hj
    · rw [List.getElem?_eq_none (by simp; omega)] at hi
      cases hi
end
theorem vlaw_own : ownKnob Try.prog.godebug = none := by kernel_rfl
theorem vlaw_laidOut : laidOutB Try.prog = true := by kernel_rfl
end Go.Proofs.Ytdciohinlhbliaa