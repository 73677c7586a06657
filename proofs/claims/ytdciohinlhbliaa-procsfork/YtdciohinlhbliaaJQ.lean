
/-
  Plain facts of Build's kernels, for sweep's laws; how many a map of marks has.
-/
import Derived.Test.YtdciohinlhbliaaJSF
import Derived.Test.YtdciohinlhbliaaJSG
import Derived.Maps.OwnSet
import Derived.Deep.RegionHeldLaw
import Derived.Test.YtdciohinlhbliaaJSC
import Derived.Test.YtdciohinlhbliaaSObj
import Derived.WalkKit
import Derived.ProofKit
import Derived.OpenShut
import Derived.ShutString
import Derived.ChangeOld
import Derived.Deep.Slices
import Derived.SizedLaws
import Derived.Laws.CopyOwn
import Derived.Deep.RegionHeld3
import Derived.Test.YtdciohinlhbliaaSWalkL
import Derived.Test.YtdciohinlhbliaaRMake
namespace Go.Proofs.Ytdciohinlhbliaa
open Go.RowKit Go.Maps
open Wp
theorem nodup_le {α : Type} [DecidableEq α] : ∀ {K S : List α}, K.Nodup → (∀ x ∈ K, x ∈ S) → K.length ≤ S.length
  | [], _, _, _ => Nat.zero_le _
  | k :: K, S, hn, hs => by
    have hk := hs k List.mem_cons_self
    have hn' := List.nodup_cons.1 hn
    have h := nodup_le (K := K) (S := S.erase k) hn'.2 fun x hx => (List.mem_erase_of_ne (fun e => by subst e; exact hn'.1 hx)).2 (hs x (List.mem_cons_of_mem _ hx))
    rw [List.length_erase_of_mem hk] at h
    have : 0 < S.length := List.length_pos_of_mem hk
    rw [List.length_cons]
    omega
theorem nums_len (ms : List Bool) : (nums ms ms.length).length = cnt ms := by
  unfold nums cnt
  rw [List.length_map]
  have h : ∀ n, n ≤ ms.length → ((List.range n).filter fun k => ms.getD k false).length = (ms.take n).countP id := by
    intro n
    induction n with
    | zero => intro _; rfl
    | succ n ih =>
      intro hn
      obtain ⟨b, hb⟩ : ∃ b, ms[n]? = some b := ⟨_, List.getElem?_eq_getElem (by omega)⟩
      have e : ms.getD n false = b := by rw [List.getD_eq_getElem?_getD, hb]; rfl
      rw [List.range_succ, List.filter_append, List.length_append, ih (by omega), List.take_add_one, hb, List.countP_append]
      congr 1
      cases b with
      | false => rw [List.filter_cons_of_neg (p := fun k => ms.getD k false) (by rw [e]; decide)]; rfl
      | true => rw [List.filter_cons_of_pos (p := fun k => ms.getD k false) e]; rfl
  have := h ms.length (Nat.le_refl _)
  rw [List.take_length] at this
  exact this
theorem nums_mem (ms : List Bool) (c : Int) : c ∈ nums ms ms.length ↔ 0 ≤ c ∧ ms.getD c.toNat false = true := by
  unfold nums
  rw [List.mem_map]
  constructor
  · rintro ⟨n, hn, rfl⟩
    have := (List.mem_filter.1 hn).2
    exact ⟨Int.natCast_nonneg n, by simpa using this⟩
  · rintro ⟨h0, h1⟩
    obtain ⟨n, rfl⟩ := Int.eq_ofNat_of_zero_le h0
    rw [Int.toNat_natCast] at h1
    exact ⟨n, List.mem_filter.2 ⟨List.mem_range.2 (getD_lt h1), h1⟩, rfl⟩
theorem nums_nodup (ms : List Bool) : (nums ms ms.length).Nodup := by
  unfold nums
  exact List.Pairwise.map (R := fun a b : Nat => a ≠ b) _ (fun a b h e => h (Int.ofNat.inj e)) (List.Pairwise.filter _ List.nodup_range)
/-- How many a map of marks has. -/
theorem MapB.size {w : World} {g : Nat} {ms : List Bool} (h : MapB w g (cnt ms) ms) (ty : TypeId) : (Builtin.len_ #[29] ty #[.map (some g)]).run Try.prog w = .ok (.int .i64 (cnt ms : Nat)) w := by
  obtain ⟨ks, ⟨D, hD, hat⟩, hks⟩ := h
  have hle := hD.size_le
  obtain ⟨es, rfl⟩ := hD.isMap
  rw [hD.len Try.underlying29 ty]
  have hge : cnt ms ≤ es.length := by
    have h1 : ∀ c ∈ (nums ms ms.length).map (fun c => Lit.int .i64 c), c ∈ es.map Prod.fst := fun k hk => by
      obtain ⟨c, hc, rfl⟩ := List.mem_map.1 hk
      have hc' : c ∈ ks := (hks c).2 ((nums_mem ms c).1 hc)
      have ha := hat c
      rw [decide_eq_true hc'] at ha
      have hh : Maps.has (DataW.map es : DataW Unit) (.int .i64 c) = true := by
        cases hx : Maps.has (DataW.map es : DataW Unit) (.int .i64 c) with
        | true => rfl
        | false => rw [Maps.atKey_of_not_has hx] at ha; cases ha
      rw [Maps.has_eq, List.any_eq_true] at hh
      obtain ⟨p, hp, hs⟩ := hh
      exact List.mem_map.2 ⟨p, hp, WideAt.sameKey_eq hs⟩
    haveI : DecidableEq Lit := fun a b => Classical.propDecidable _
    have hnd : ((nums ms ms.length).map fun c => Lit.int .i64 c).Nodup := List.Pairwise.map (R := fun a b : Int => a ≠ b) _ (fun a b h e => h (by cases e; rfl)) (nums_nodup ms)
    have h2 := nodup_le hnd h1
    rw [List.length_map, List.length_map, nums_len] at h2
    exact h2
  have : Maps.size (DataW.map es : DataW Unit) = es.length := rfl
  rw [this] at hle ⊢
  rw [show es.length = cnt ms by omega]
theorem kindOk_of {L : List Sp.Ob} (h : Sp.TOk L) : KindOk L := fun o ho => by
  obtain ⟨i, hi, rfl⟩ := List.getElem_of_mem ho
  have := h.all i _ (List.getElem?_eq_getElem hi)
  exact ⟨this.noents, this.noqueue⟩
theorem fits_of {L : List Sp.Ob} (h : Sp.TOk L) (hl : L.length ≤ 14) : ∀ o ∈ L, Fits o := fun o ho => by
  obtain ⟨i, hi, rfl⟩ := List.getElem_of_mem ho
  have ho := h.all i _ (List.getElem?_eq_getElem hi)
  have h1 := ho.data
  have h2 := ho.many
  have h3 := ho.queue
  exact ⟨by omega, by omega, by omega, fun m hm => by rw [ho.mdata m hm]; decide⟩
theorem fit_of {x : Swp} (h : Sp.KOk (x.ts.map Prod.snd) x.O (x.ps.map Prod.snd)) : Fit x := by
  have hts : ∀ t ∈ x.ts, ∃ i : Nat, (x.ts.map Prod.snd)[i]? = some t.2 := fun t ht => by
    obtain ⟨i, hi, rfl⟩ := List.getElem_of_mem ht
    exact ⟨i, by rw [List.getElem?_map, List.getElem?_eq_getElem hi]; rfl⟩
  have hps : ∀ t ∈ x.ps, Sp.PrcOk x.O.length t.2 := fun t ht => h.procs _ (List.mem_map_of_mem ht)
  have h1 := h.len
  have h2 := h.many
  have h3 := h.some
  rw [List.length_map] at h1 h3
  refine ⟨⟨?_, by omega⟩, by omega, by omega, fun t ht => by have := (hps t ht).1; omega, fun t ht => ?_, fun t ht s hs => ?_, fun t ht m hm => ?_, fun o ho hk => ?_, fun y hy => ?_⟩
  · obtain ⟨o, ho, -⟩ := h.objs.root
    have := (List.getElem?_eq_some_iff.1 ho).1
    rw [List.length_map] at this
    omega
  · obtain ⟨i, hi⟩ := hts t ht
    have := (h.objs.all i _ hi).queue
    omega
  · have := (hps t ht).2.1 s hs
    exact ⟨this.2.1, by have := this.2.2.1; omega⟩
  · have := h.queues t.2 (List.mem_map_of_mem ht) m hm
    rcases this.2 with q | q
    · exact ⟨q.2.1, by have := q.2.2.1; omega⟩
    · rw [q.2.1]; exact ⟨by decide, by decide⟩
  · obtain ⟨i, hi, rfl⟩ := List.getElem_of_mem ho
    obtain ⟨p, op, e1, e2, -, -, -⟩ := (h.objs.all i _ (List.getElem?_eq_getElem hi)).peer hk
    have := (List.getElem?_eq_some_iff.1 e2).1
    exact Or.inr ⟨by rw [e1]; omega, by rw [e1]; omega⟩
  · have := (h.opens y hy).1
    omega
/-- What Sweep leaves is a kernel. -/
theorem SweepW.kern {x : Swp} {w w' : World} {e : Ending} (h : SweepW x w e w') : ∃ vo vp vq, e = .returned (.agg #[vo, vp, vq]) ∧ Kern w' (fun b => b < w'.heap.size) vo vp vq x.fin.kn.L x.fin.kn.O x.fin.kn.P ∧ Gw w w' := by
  obtain ⟨oa, pa, qa, oc, pc, qc, e1, h1, h2, h3, h4, h5, h6⟩ := h
  exact ⟨_, _, _, e1, ⟨⟨x.fin.ts, rfl, h1, h4⟩, h2, ⟨x.fin.ps, rfl, h3, h5⟩⟩, h6⟩
theorem OwnW.kern {L : List Sp.Ob} {O : List Sp.Opn} {P : List Sp.Prc} {w w' : World} {e : Ending} (h : OwnW L O P w e w') : ∃ vo vp vq, e = .returned (.agg #[vo, vp, vq]) ∧ Kern w' (fun b => b < w'.heap.size) vo vp vq L O P ∧ Gw w w' := by
  obtain ⟨S, g1, c1, pa, c2, g3, c3, x, e1, hsw, hS, hL, hO, hP, hb⟩ := h
  have hob := hsw.objs
  have hpr := hsw.prcs
  rw [hL] at hob
  rw [hP] at hpr
  refine ⟨_, _, _, e1, ⟨hob.more fun b hb => hb.1, ?_, procs_more hpr fun b hb => hb.1⟩, Gw.below hb⟩
  rw [← hO]
  exact (hsw.op.row (even_opn _)).more fun b hb => hb.2
end Go.Proofs.Ytdciohinlhbliaa


/-
  rglaw8.SweepTells, walked.
-/
namespace Go.Proofs.Ytdciohinlhbliaa
open Go.RowKit Go.Maps
open Wp
/-- A kernel lies there. -/
def KernAt (w : World) (a b c : Value) (K : Kn) : Prop := Kern w (fun b => b < w.heap.size) a b c K.L K.O K.P
theorem KernAt.gw {w w' : World} {a b c : Value} {K : Kn} (h : KernAt w a b c K) (hg : Gw w w') : KernAt w' a b c K := by
  obtain ⟨h1, h2, h3⟩ := h
  have hm : ∀ b, b < w.heap.size → b < w'.heap.size := fun b hb => Nat.lt_of_lt_of_le hb hg.2.1
  exact ⟨(h1.on hg.1).more hm, (Row.on h2 hg.1).more hm, procs_more (procs_on h3 hg.1) hm⟩
end Go.Proofs.Ytdciohinlhbliaa


/-
  What Sweep keeps, plainly.
-/
namespace Go.Proofs.Ytdciohinlhbliaa
open Go.RowKit
namespace Wp
/-- Each object is none, or as it was but for its other end; each process is none, or as it was. -/
structure Keep (x y : Swp) : Prop where
  tl : y.ts.length ≤ x.ts.length
  ol : y.O.length ≤ x.O.length
  pl : y.ps.length ≤ x.ps.length
  ts : ∀ (i : Nat) (t : Sls × Sp.Ob), y.ts[i]? = some t → ∃ t0, x.ts[i]? = some t0 ∧ (t.2.kind = 0 ∨ ({ t.2 with peer := 0 } : Sp.Ob) = { t0.2 with peer := 0 })
  ps : ∀ (i : Nat) (t : Sl × Sp.Prc), y.ps[i]? = some t → ∃ t0, x.ps[i]? = some t0 ∧ (t.2.live = false ∨ t.2 = t0.2)
theorem Keep.refl (x : Swp) : Keep x x := ⟨Nat.le_refl _, Nat.le_refl _, Nat.le_refl _, fun _ t h => ⟨t, h, Or.inr rfl⟩, fun _ t h => ⟨t, h, Or.inr rfl⟩⟩
theorem Keep.trans {x y z : Swp} (h : Keep x y) (h' : Keep y z) : Keep x z := by
  refine ⟨Nat.le_trans h'.tl h.tl, Nat.le_trans h'.ol h.ol, Nat.le_trans h'.pl h.pl, fun i t ht => ?_, fun i t ht => ?_⟩
  · obtain ⟨t1, e1, q1⟩ := h'.ts i t ht
    obtain ⟨t0, e0, q0⟩ := h.ts i t1 e1
    refine ⟨t0, e0, ?_⟩
    rcases q1 with q1 | q1
    · exact Or.inl q1
    · rcases q0 with q0 | q0
      · exact Or.inl (by have := congrArg Sp.Ob.kind q1; exact this.trans q0)
      · exact Or.inr (q1.trans q0)
  · obtain ⟨t1, e1, q1⟩ := h'.ps i t ht
    obtain ⟨t0, e0, q0⟩ := h.ps i t1 e1
    refine ⟨t0, e0, ?_⟩
    rcases q1 with q1 | q1
    · exact Or.inl q1
    · rcases q0 with q0 | q0
      · exact Or.inl (by rw [q1]; exact q0)
      · exact Or.inr (q1.trans q0)
theorem keep_rnd (x : Swp) : Keep x x.rnd := by
  obtain ⟨l1, l2, l3⟩ := x.rnd_lens
  refine ⟨Nat.le_of_eq l1, Nat.le_of_eq l2, Nat.le_of_eq l3, fun i t ht => ?_, fun i t ht => ?_⟩
  · have ht' : (x.ts.mapIdx (fo (reachB x.kn) x.ts.length))[i]? = some t := ht
    rw [List.getElem?_mapIdx] at ht'
    cases h0 : x.ts[i]? with
    | none => rw [h0] at ht'; cases ht'
    | some t0 =>
      rw [h0] at ht'
      cases ht'
      refine ⟨t0, rfl, ?_⟩
      rcases fo_cases (reachB x.kn) x.ts.length i t0 with e | e | e <;> rw [e]
      · exact Or.inl rfl
      · exact Or.inr rfl
      · exact Or.inr rfl
  · have ht' : (x.ps.mapIdx (ep x.kn1))[i]? = some t := ht
    rw [List.getElem?_mapIdx] at ht'
    cases h0 : x.ps[i]? with
    | none => rw [h0] at ht'; cases ht'
    | some t0 =>
      rw [h0] at ht'
      cases ht'
      refine ⟨t0, rfl, ?_⟩
      rcases ep_cases x.kn1 i t0 with e | e <;> rw [e]
      · exact Or.inl rfl
      · exact Or.inr rfl
theorem keep_allN : ∀ (n : Nat) (x : Swp), Keep x (Swp.allN n x)
  | 0, x => keep_rnd x
  | n + 1, x => by
    unfold Swp.allN
    split
    · exact (keep_rnd x).trans (keep_allN n x.rnd)
    · exact keep_rnd x
theorem keep_cut (x : Swp) : Keep x x.cut := by
  have e1 : x.cut.ts = x.ts.take (trimN (obG x.ts) 1 x.ts.length) := rfl
  have e2 : x.cut.O = x.O.take (trimN (opG x.O) 0 x.O.length) := rfl
  have e3 : x.cut.ps = (x.ps.mapIdx (fp x.knE)).take (trimN (prG x.knE x.ps) 1 x.ps.length) := rfl
  refine ⟨by rw [e1, List.length_take]; omega, by rw [e2, List.length_take]; omega, by rw [e3, List.length_take, List.length_mapIdx]; omega, fun i t ht => ?_, fun i t ht => ?_⟩
  · rw [e1, List.getElem?_take] at ht
    split at ht
    · exact ⟨t, ht, Or.inr rfl⟩
    · cases ht
  · rw [e3, List.getElem?_take] at ht
    split at ht
    · rw [List.getElem?_mapIdx] at ht
      cases h0 : x.ps[i]? with
      | none => rw [h0] at ht; cases ht
      | some t0 =>
        rw [h0] at ht
        cases ht
        refine ⟨t0, rfl, ?_⟩
        unfold fp
        split
        · exact Or.inl rfl
        · exact Or.inr rfl
    · cases ht
theorem keep_fin (x : Swp) : Keep x x.fin := (keep_allN x.live x).trans (keep_cut _)
theorem kinds_allN : ∀ (n : Nat) (x : Swp), KindOk (x.ts.map Prod.snd) → KindOk ((Swp.allN n x).ts.map Prod.snd)
  | 0, _, h => Swp.rnd_kinds h
  | n + 1, x, h => by
    unfold Swp.allN
    split
    · exact kinds_allN n x.rnd (Swp.rnd_kinds h)
    · exact Swp.rnd_kinds h
theorem kinds_fin {x : Swp} (h : KindOk (x.ts.map Prod.snd)) : KindOk (x.fin.ts.map Prod.snd) := fun o ho => by
  obtain ⟨t, ht, rfl⟩ := List.mem_map.1 ho
  exact kinds_allN x.live x h t.2 (List.mem_map_of_mem (List.mem_of_mem_take (show t ∈ x.all.ts.take _ from ht)))
theorem trimN_ge {G : Nat → Bool} {stay : Nat} : ∀ {n : Nat}, stay ≤ n → stay ≤ trimN G stay n
  | 0, h => by unfold trimN; exact h
  | n + 1, h => by
    unfold trimN
    split
    · rename_i h1
      exact trimN_ge h1.1
    · exact h
theorem allN_ps : ∀ (n : Nat) (x : Swp), (Swp.allN n x).ps.length = x.ps.length
  | 0, x => x.rnd_lens.2.2
  | n + 1, x => by
    unfold Swp.allN
    split
    · rw [allN_ps n x.rnd]; exact x.rnd_lens.2.2
    · exact x.rnd_lens.2.2
theorem fin_ps {x : Swp} (h : 1 ≤ x.ps.length) : 1 ≤ x.fin.ps.length := by
  have hl : x.all.ps.length = x.ps.length := allN_ps _ x
  have e3 : x.fin.ps = (x.all.ps.mapIdx (fp x.all.knE)).take (trimN (prG x.all.knE x.all.ps) 1 x.all.ps.length) := rfl
  have := trimN_ge (G := prG x.all.knE x.all.ps) (stay := 1) (n := x.all.ps.length) (by omega)
  rw [e3, List.length_take, List.length_mapIdx]
  omega
end Wp
end Go.Proofs.Ytdciohinlhbliaa


/-
  What is left by Sweep is left by it again, plainly.
-/
namespace Go.Proofs.Ytdciohinlhbliaa
open Go.RowKit
namespace Wp
theorem isObj_at {L : List Sp.Ob} {n : Nat} : isObj L (n : Int) = true ↔ ∃ o, L[n]? = some o ∧ o.kind ≠ 0 := by
  unfold isObj
  rw [if_pos (by omega), Int.toNat_natCast]
  cases L[n]? with
  | none => simp
  | some o => simp
theorem mem_at {α : Type} {l : List α} {x : α} (h : x ∈ l) : ∃ i : Nat, l[i]? = some x := List.getElem?_of_mem h
theorem at_snd {α β : Type} {l : List (α × β)} {i : Nat} {x : β} : (l.map Prod.snd)[i]? = some x ↔ ∃ t, l[i]? = some t ∧ t.2 = x := by
  rw [List.getElem?_map]
  cases l[i]? with
  | none => simp
  | some t => simp
theorem fo_at (x : Swp) {i : Nat} {o : Sp.Ob} (h : (x.ts1.map Prod.snd)[i]? = some o) : ∃ t, x.ts[i]? = some t ∧ o = (fo (reachB x.kn) x.ts.length i t).2 := by
  obtain ⟨t1, h1, rfl⟩ := at_snd.1 h
  unfold Swp.ts1 at h1
  rw [List.getElem?_mapIdx] at h1
  cases ht : x.ts[i]? with
  | none => rw [ht] at h1; cases h1
  | some t => rw [ht] at h1; cases h1; exact ⟨t, rfl, rfl⟩
end Wp
end Go.Proofs.Ytdciohinlhbliaa


/-
  rglaw8.alive, walked: a closed run.
-/
namespace Go.Proofs.Ytdciohinlhbliaa
open Go.RowKit
open Wp
theorem row_blk {w : World} {g k : Nat} {t : TypeId} {css : List (List Value)} (h : Blk w g css.flatten.toArray t) (hE : Even k css) (hm : css.length ≤ maxLen) : Row w (fun b => b = g) k (.slice (some ⟨g, 0, none⟩) css.length css.length) css :=
  Or.inr ⟨g, 0, css.length, rfl, rfl, Nat.le_refl _, hm, fun i cs hi j u hj => by
    rw [h.cell]
    have := flatten_at hE i cs hi j u hj
    simpa using this⟩
def a8o (k : Int) (l : Int) : Sls × Sp.Ob := (sl0, ⟨k, [], [], ⟨#[]⟩, 0, [], 0, l, 0⟩)
def a8ts : List (Sls × Sp.Ob) := [a8o 2 1, a8o 1 0, a8o 1 0]
def a8O : List Sp.Opn := [⟨2, 0⟩, ⟨1, 0⟩]
def a8s : List Sp.Slt := [⟨true, 1, 0⟩]
def a8ps (g : Nat) : List (Sl × Sp.Prc) := [(⟨some ⟨g, 0, none⟩, 1, 1⟩, ⟨true, false, 0, a8s⟩)]
def a8 (g : Nat) : Swp := ⟨a8ts, a8O, a8ps g⟩
end Go.Proofs.Ytdciohinlhbliaa


/-
  rglaw8.SweepTwice, walked.
-/
namespace Go.Proofs.Ytdciohinlhbliaa
open Go.RowKit Go.Maps
open Wp
namespace Wp
theorem fin_all (Q : Sp.Ob → Prop) (h0 : Q obZ0) (h1 : ∀ o : Sp.Ob, Q o → Q { o with peer := -1 }) {x : Swp} (h : ∀ o ∈ x.kn.L, Q o) : ∀ o ∈ x.fin.kn.L, Q o := by
  have hr : ∀ y : Swp, (∀ o ∈ y.kn.L, Q o) → ∀ o ∈ y.rnd.kn.L, Q o := fun y hy o ho => by
    obtain ⟨i, hi⟩ := mem_at ho
    obtain ⟨t, ht, rfl⟩ := fo_at y hi
    have := hy t.2 (List.mem_map_of_mem (List.mem_of_getElem? ht))
    rcases fo_cases (reachB y.kn) y.ts.length i t with e | e | e <;> rw [e]
    · exact h0
    · exact h1 _ this
    · exact this
  have ha : ∀ (n : Nat) (y : Swp), (∀ o ∈ y.kn.L, Q o) → ∀ o ∈ (Swp.allN n y).kn.L, Q o := fun n => by
    induction n with
    | zero => exact hr
    | succ n ih =>
      intro y hy
      unfold Swp.allN
      split
      · exact ih _ (hr y hy)
      · exact hr y hy
  intro o ho
  obtain ⟨t, ht, rfl⟩ := List.mem_map.1 (show o ∈ (x.all.ts.take _).map Prod.snd from ho)
  exact ha x.live x h t.2 (List.mem_map_of_mem (List.mem_of_mem_take ht))
theorem fin_prc (R : Sp.Prc → Prop) (h0 : R prcZ0.2) {x : Swp} (h : ∀ p ∈ x.kn.P, R p) : ∀ p ∈ x.fin.kn.P, R p := by
  have hr : ∀ y : Swp, (∀ p ∈ y.kn.P, R p) → ∀ p ∈ y.rnd.kn.P, R p := fun y hy p hp => by
    obtain ⟨t, ht, rfl⟩ := List.mem_map.1 (show p ∈ (y.ps.mapIdx (ep y.kn1)).map Prod.snd from hp)
    obtain ⟨i, hi, rfl⟩ := List.mem_mapIdx.1 ht
    have := hy y.ps[i].2 (List.mem_map_of_mem (List.getElem_mem hi))
    rcases ep_cases y.kn1 i y.ps[i] with e | e <;> rw [e]
    · exact h0
    · exact this
  have ha : ∀ (n : Nat) (y : Swp), (∀ p ∈ y.kn.P, R p) → ∀ p ∈ (Swp.allN n y).kn.P, R p := fun n => by
    induction n with
    | zero => exact hr
    | succ n ih =>
      intro y hy
      unfold Swp.allN
      split
      · exact ih _ (hr y hy)
      · exact hr y hy
  intro p hp
  obtain ⟨t, ht, rfl⟩ := List.mem_map.1 (show p ∈ ((x.all.ps.mapIdx (fp x.all.knE)).take _).map Prod.snd from hp)
  obtain ⟨i, hi, rfl⟩ := List.mem_mapIdx.1 (List.mem_of_mem_take ht)
  have := ha x.live x h x.all.ps[i].2 (List.mem_map_of_mem (List.getElem_mem hi))
  unfold fp
  split
  · exact h0
  · exact this
end Wp
end Go.Proofs.Ytdciohinlhbliaa


/-
  Arguments opened: bytes, as they lie there.
-/
namespace Go.Proofs.Ytdciohinlhbliaa
open Go.ChangeShapes Go.WideShapes Go.ChangeAt Go.RowKit Go.Deep
theorem Try.vcellsByte : Try.prog.cellsOf 5 = 1 := by kernel_rfl
theorem vblock_lt {w : World} {a : Addr} {v : Value} (h : w.cell? a = some v) : a.block < w.heap.size := by
  rcases Nat.lt_or_ge a.block w.heap.size with h' | h'
  · exact h'
  · simp [World.cell?, Array.getElem?_eq_none h'] at h
section
variable {H : Type} {enc : TypeId × Value → H} {W : World}
set_option maxRecDepth 100000 in
theorem vopen_bytes {base b0 : Nat} {held : Bool} {r : Reach} {v : Value} {d : DataW H} {q : List MemPlace} {sp : Nat → Bool}
    (hv : Value.okWide Try.prog W r b0 22 v) (h : DataW.Trod enc Try.prog W base sp held 22 v d q) :
    ∃ l : List UInt8, Bytes W (fun x => x < W.heap.size) v l ∧ (l = [] ∨ ∃ es spare, d = .slice es spare ∧ es.length = l.length) := by
  obtain ⟨a1, len1, cap1, rfl⟩ := okWide_slice Try.underlying22 hv
  obtain ⟨fuel, hf⟩ := h
  rcases open_ints Try.underlying22 Try.underlying5 Try.vcellsByte hf with ⟨hcs, hx⟩ | ⟨a, len, cap, zs, hcs, _, hl, hm, hz, hx, hcell, hwz⟩
  · simp [Value.cells] at hcs
    obtain ⟨rfl, rfl, rfl⟩ := hcs
    exact ⟨[], Row.nil _ _ _ _ _, Or.inl rfl⟩
  · simp [Value.cells] at hcs
    obtain ⟨rfl, rfl, rfl⟩ := hcs
    have hlm : len1 ≤ zs.length := by rw [hz]; split <;> omega
    by_cases h0 : len1 = 0
    · subst h0; exact ⟨[], Row.nil _ _ _ _ _, Or.inl rfl⟩
    obtain ⟨ab, ao, spot⟩ := a
    have hspot : spot = none := by simpa [Addr.add] using World.cell?_spot (hcell 0 (by omega))
    subst hspot
    simp only [Addr.add_lit] at hcell
    have hlt : ab < W.heap.size := vblock_lt (hcell 0 (by omega))
    refine ⟨(zs.take len1).map fun z => UInt8.ofNat z.toNat, Or.inr ⟨ab, ao, cap1, by simp; omega, hlt, by simp; omega, hm, ?_⟩, Or.inr ⟨_, _, (Prod.mk.inj hx).1, by simp [lits]⟩⟩
    intro i cs hi j u hj
    rw [List.getElem?_map, List.getElem?_map] at hi
    by_cases hil : i < len1
    · have e : zs[i]? = some (zs.getD i 0) := by rw [List.getD_eq_getElem?_getD, List.getElem?_eq_getElem (by omega)]; rfl
      rw [List.getElem?_take_of_lt hil, e] at hi
      simp only [Option.map_some, Option.some.injEq] at hi
      have hb : 0 ≤ zs.getD i 0 ∧ zs.getD i 0 < 256 := by
        have := range_u8 hwz i
        rw [List.getD_eq_getElem?_getD]
        omega
      subst hi
      have hc := hcell i (by omega)
      generalize zs.getD i 0 = z at hb hc hj
      match j, hj with
      | 0, hj =>
        simp [byteC] at hj
        subst hj
        rw [Nat.mul_one, Nat.add_zero, hc]
        congr 2
        omega
      | j + 1, hj => simp [byteC] at hj
    · rw [List.getElem?_eq_none (by simp; omega)] at hi
      cases hi
end
theorem vlaw_own : ownKnob Try.prog.godebug = none := by kernel_rfl
theorem vlaw_laidOut : laidOutB Try.prog = true := by kernel_rfl
end Go.Proofs.Ytdciohinlhbliaa
namespace Go.Proofs.Ytdciohinlhbliaa
open Go.RowKit
open Wp
namespace Pr
def live (P : List Sp.Prc) (p : Int) : Bool := if 0 ≤ p then (match P[p.toNat]? with | some x => x.live | none => false) else false
theorem live_nat {P : List Sp.Prc} {k : Nat} {x : Sp.Prc} (h : P[k]? = some x) : live P (k : Int) = x.live := by
  unfold live
  rw [if_pos (by omega), Int.toNat_natCast, h]
theorem live_not {P : List Sp.Prc} {p : Int} (h : ¬ (0 ≤ p ∧ p < (P.length : Int))) : live P p = false := by
  unfold live
  by_cases h0 : 0 ≤ p
  · rw [if_pos h0, List.getElem?_eq_none (by omega)]
  · rw [if_neg h0]
theorem live_some {P : List Sp.Prc} {p : Int} (h : live P p = true) : ∃ (k : Nat) (x : Sp.Prc), p = k ∧ P[k]? = some x ∧ x.live = true := by
  unfold live at h
  by_cases h0 : 0 ≤ p
  · rw [if_pos h0] at h
    cases hx : P[p.toNat]? with
    | none => rw [hx] at h; cases h
    | some x => rw [hx] at h; exact ⟨p.toNat, x, by omega, hx, h⟩
  · rw [if_neg h0] at h; cases h
end Pr
/-- The kernel's three rows, spelled. -/
theorem KernAt.spell {w : World} {a b c : Value} {K : Kn} (h : KernAt w a b c K) : ∃ (oa pa qa : Option Addr) (oc pc qc : Nat), a = .slice oa K.L.length oc ∧ b = .slice pa K.O.length pc ∧ c = .slice qa K.P.length qc ∧ K.L.length ≤ maxLen ∧ K.O.length ≤ maxLen ∧ K.P.length ≤ maxLen := by
  obtain ⟨h1, h2, ps, hp, h3, -⟩ := h
  obtain ⟨oa, oc, e1, m1⟩ := h1.form
  obtain ⟨pa, pc, e2, m2⟩ := Row.form h2
  obtain ⟨qa, qc, e3, m3⟩ := Row.form h3
  rw [List.length_map] at e2 m2 e3 m3
  have e : K.P.length = ps.length := by rw [hp, List.length_map]
  exact ⟨oa, pa, qa, oc, pc, qc, e1, e2, by rw [e]; exact e3, m1, m2, by rw [e]; exact m3⟩
/-- A process's cells. -/
theorem KernAt.proc {w : World} {a b : Value} {qa : Option Addr} {n qc : Nat} {K : Kn} (h : KernAt w a b (.slice qa n qc) K) {k : Nat} {x : Sp.Prc} (hx : K.P[k]? = some x) : ∃ (g o : Nat) (sl : Sl), qa = some ⟨g, o, none⟩ ∧ n = K.P.length ∧ n ≤ qc ∧ qc ≤ maxLen ∧ g < w.heap.size ∧ w.cell? ⟨g, o + k * 4, none⟩ = some (.bool x.live) ∧ w.cell? ⟨g, o + k * 4 + 1, none⟩ = some (.bool x.fenced) ∧ w.cell? ⟨g, o + k * 4 + 2, none⟩ = some (.int .i64 x.code) ∧ w.cell? ⟨g, o + k * 4 + 3, none⟩ = some (.slice sl.a sl.n sl.c) ∧ Row w (fun b => b < w.heap.size) 3 (.slice sl.a sl.n sl.c) (x.slots.map sltC) := by
  obtain ⟨-, -, ps, hp, h3, h4⟩ := h
  rw [hp, List.getElem?_map] at hx
  cases ht : ps[k]? with
  | none => rw [ht] at hx; cases hx
  | some t =>
    rw [ht] at hx
    have hx' : t.2 = x := by simpa using hx
    subst hx'
    have hk := (List.getElem?_eq_some_iff.1 ht).1
    obtain ⟨g, o, c', he, hS, hc, hm, h5⟩ := Row.some h3 (by rw [List.length_map]; omega)
    obtain ⟨rfl, rfl, rfl⟩ := Value.slice.inj he
    rw [List.length_map] at hc ⊢
    have hi := h5 k (prcC t) (by rw [List.getElem?_map, ht]; rfl)
    have e : K.P.length = ps.length := by rw [hp, List.length_map]
    exact ⟨g, o, t.1, rfl, e.symm, hc, hm, hS, by simpa using hi 0 _ rfl, hi 1 _ rfl, hi 2 _ rfl, hi 3 _ rfl, h4 t (List.mem_of_getElem? ht)⟩
set_option maxRecDepth 1000000 in
set_option maxHeartbeats 4000000 in
theorem plive_any (K : Kn) (p : Int) (a b c : Value) (w : World) (h : KernAt w a b c K) :
    Calls Try.prog 25 #[.agg #[a, b, c], .int .i64 p] w fun e w' => e = .returned (.bool (Pr.live K.P p)) ∧ Gw w w' := by
  obtain ⟨oa, pa, qa, oc, pc, qc, rfl, rfl, rfl, h1, h2, h3⟩ := h.spell
  have HA : Hid (KernAt w (.slice oa K.L.length oc) (.slice pa K.O.length pc) (.slice qa K.P.length qc) K) := h
  unfold maxLen at h1 h2 h3
  clear h
  by_cases h0 : 0 ≤ p
  · obtain ⟨k, rfl⟩ := Int.eq_ofNat_of_zero_le h0
    by_cases hk : k < K.P.length
    · obtain ⟨x, hx⟩ : ∃ x, K.P[k]? = some x := ⟨_, List.getElem?_eq_getElem hk⟩
      obtain ⟨g, o, sl, rfl, -, hc, hcm, hg, d0, -⟩ := HA.out.proc hx
      rw [Pr.live_nat hx]
      unfold maxLen at hcm
      clear hx
      have hkz : (k : Int) < (K.P.length : Int) := by omega
      go_enter Try.func25, Try.ntmps25
      go_wp2
      go_ret
      exact ⟨rfl, Gw.new _ _⟩
    · rw [Pr.live_not (by omega)]
      have hkz : ¬ (k : Int) < (K.P.length : Int) := by omega
      go_enter Try.func25, Try.ntmps25
      go_wp2
      go_ret
      exact ⟨rfl, Gw.new _ _⟩
  · rw [Pr.live_not (by omega)]
    go_enter Try.func25, Try.ntmps25
    go_wp2
    go_ret
    exact ⟨rfl, Gw.new _ _⟩
set_option maxRecDepth 1000000 in
set_option maxHeartbeats 4000000 in
theorem pobj_any (L : List Sp.Ob) (k : Int) (v : Value) (S : Nat → Prop) (w : World) (hv : Objs w S v L) :
    Calls Try.prog 55 #[v, .int .i64 k] w fun e w' => e = .returned (.bool (isObj L k)) ∧ w' = w := by
  by_cases h0 : 0 ≤ k
  · obtain ⟨n, rfl⟩ := Int.eq_ofNat_of_zero_le h0
    by_cases h1 : n < L.length
    · have hx : L[n]? = some L[n] := List.getElem?_eq_getElem h1
      have HE : Hid (Wp.isObj L (n : Int) = (L[n].kind != 0)) := by unfold Hid Wp.isObj; rw [if_pos (by omega), Int.toNat_natCast, hx]
      obtain ⟨b, o, c, s, rfl, hb, hc, hm, -, c0, -⟩ := hv.open hx
      generalize L[n] = x at *
      unfold maxLen at hm
      rw [HE.out]
      clear hv hx HE
      go_enter Try.func55, Try.ntmps55
      go_wp2
      go_ret
      exact ⟨rfl, rfl⟩
    · have HE : Hid (Wp.isObj L (n : Int) = false) := by
        unfold Hid Wp.isObj
        rw [if_pos (by omega), Int.toNat_natCast, List.getElem?_eq_none (by omega)]
      obtain ⟨a, c, rfl, -⟩ := hv.form
      rw [HE.out]
      clear hv HE
      go_enter Try.func55, Try.ntmps55
      go_wp2
      go_ret
      exact ⟨rfl, rfl⟩
  · have HE : Hid (Wp.isObj L k = false) := by unfold Hid Wp.isObj; rw [if_neg h0]
    rw [HE.out]
    obtain ⟨a, c, rfl, -⟩ := hv.form
    clear hv HE
    go_enter Try.func55, Try.ntmps55
    go_wp2
    go_ret
    exact ⟨rfl, rfl⟩
end Go.Proofs.Ytdciohinlhbliaa


/-
  procs.isKnown, the closures of Fork and Opened, procs.lowest, walked.
-/
namespace Go.Proofs.Ytdciohinlhbliaa
open Go.RowKit
open Wp
theorem held_drop {L : List Sp.Ob} {k : Nat} {x : Sp.Ob} {p : Int} (hx : L[k]? = some x) : heldB (L.drop k) p = (heldO p x || heldB (L.drop (k + 1)) p) := by
  obtain ⟨hk, rfl⟩ := List.getElem?_eq_some_iff.1 hx
  unfold heldB
  rw [List.drop_eq_getElem_cons hk, List.any_cons]
theorem knownF_any (s : Sls) (x : Sp.Ob) (p : Int) (gp : Nat) (w : World) (hp : w.cell? ⟨gp, 0, none⟩ = some (.int .i64 p)) (hl : gp < w.heap.size) :
    Calls Try.prog 74 #[.agg (objC (s, x)).toArray, .pointer (some ⟨gp, 0, none⟩)] w fun e w' => e = .returned (.bool (heldO p x)) ∧ Below w.heap.size w w' := by
  rw [objV_eq]
  unfold heldO
  by_cases h5 : x.kind = 5
  · by_cases hq : x.proc = p
    · have e1 : (x.kind == 5 && x.proc == p) = true := by simp [h5, hq]
      rw [e1]
      go_enter Try.func74, Try.ntmps74
      go_wp2
      go_ret
      exact ⟨rfl, (Below.refl _ _).alloc (Nat.le_refl _) _⟩
    · have e1 : (x.kind == 5 && x.proc == p) = false := by simp [hq]
      rw [e1]
      go_enter Try.func74, Try.ntmps74
      go_wp2
      go_ret
      exact ⟨by simp [hq], (Below.refl _ _).alloc (Nat.le_refl _) _⟩
  · have e1 : (x.kind == 5 && x.proc == p) = false := by simp [h5]
    rw [e1]
    go_enter Try.func74, Try.ntmps74
    go_wp2
    go_ret
    exact ⟨rfl, (Below.refl _ _).alloc (Nat.le_refl _) _⟩
theorem enters_knownF : Enters Try.prog 74 := enters_of Try.func74 (by kernel_rfl) rfl
theorem idxK_any (L : List Sp.Ob) (p : Int) (gp : Nat) (v : Value) (S : Nat → Prop) (w : World) (hv : Objs w S v L) (hS : ∀ b, S b → b < w.heap.size) (hp : Blk w gp #[.int .i64 p] 3) :
    Calls Try.prog 75 #[v, .func (.func 74) #[] #[.pointer (some ⟨gp, 0, none⟩)]] w fun e w' => ∃ j : Int, e = .returned (.int .i64 j) ∧ decide (0 ≤ j) = heldB L p ∧ Below w.heap.size w w' := by
  obtain ⟨a, c, rfl, hm⟩ := hv.form
  have HV : Hid (Objs w S (.slice a L.length c) L) := hv
  have HS : Hid (∀ b, S b → b < w.heap.size) := hS
  have HP : Hid (Blk w gp #[.int .i64 p] 3) := hp
  have eg := enters_knownF
  unfold maxLen at hm
  clear hv hS hp
  unfold Enters at eg
  go_enter Try.func75, Try.ntmps75
  go_wp2
  go_loopw [8] (fun i wr => ∃ k : Nat, k ≤ L.length ∧ i = .int .i64 k ∧ Below w.heap.size w wr ∧ heldB L p = heldB (L.drop k) p) (fun i _ => L.length - (intOf i).toNat)
  case atStart => exact ⟨0, Nat.zero_le _, rfl, Below.refl _ _, by rw [List.drop_zero]⟩
  case round =>
    obtain ⟨k, hk, rfl, hB, hF⟩ := hrel
    have HF : Hid (heldB L p = heldB (L.drop k) p) := hF
    clear hF
    by_cases hlt : k < L.length
    · have hx : L[k]? = some L[k] := List.getElem?_eq_getElem hlt
      obtain ⟨b, o, c', s, he, hSb, h3, h4, -, c0, c1, c2, c3, c4, c5, c6, c7, c8⟩ := (HV.out.on ((On.of hB).less HS.out)).open hx
      obtain ⟨rfl, -, rfl⟩ := Value.slice.inj he
      have HD : Hid (heldB (L.drop k) p = _) := held_drop hx
      have hkb := HP.out.below hB HP.out.lt
      have HC := knownF_any s L[k] p gp wr (hkb.cell 0) hkb.lt
      rw [objV_eq] at HC
      have HCC : Hid _ := HC
      clear hx he HC hkb
      generalize L[k] = x at *
      unfold maxLen at h4
      go_wp2_with fail
      refine Calls.mono HCC.out ?_
      rintro e w2 ⟨rfl, hb2⟩
      have hB2 := hB.trans (hb2.mono hB.size)
      have HE : Hid (heldB L p = (heldO p x || heldB (L.drop (k + 1)) p)) := HF.out.trans HD.out
      clear HD HF hb2 hB c0 c1 c2 c3 c4 c5 c6 c7 c8 HCC
      cases hz : heldO p x with
      | true =>
        have HN : Hid (heldB L p = true) := by unfold Hid; rw [HE.out, hz]; rfl
        clear HE hz
        go_wp2
        go_ret
        exact ⟨k, rfl, by rw [HN.out]; simp, hB2⟩
      | false =>
        have HN : Hid (heldB L p = heldB (L.drop (k + 1)) p) := by unfold Hid; rw [HE.out, hz]; rfl
        clear HE hz
        go_wp2
        exact ⟨⟨k + 1, by omega, by go_num, hB2, HN.out⟩, by simp [intOf]; omega⟩
    · obtain rfl : k = L.length := by omega
      have HN : Hid (heldB L p = false) := by unfold Hid; rw [HF.out, List.drop_length]; rfl
      clear HF
      go_wp2
      go_ret
      exact ⟨-1, rfl, by rw [HN.out]; simp, hB⟩
theorem hasK_any (L : List Sp.Ob) (p : Int) (gp : Nat) (v : Value) (S : Nat → Prop) (w : World) (hv : Objs w S v L) (hS : ∀ b, S b → b < w.heap.size) (hp : Blk w gp #[.int .i64 p] 3) :
    Calls Try.prog 73 #[v, .func (.func 74) #[] #[.pointer (some ⟨gp, 0, none⟩)]] w fun e w' => e = .returned (.bool (heldB L p)) ∧ Below w.heap.size w w' := by
  have HI : Hid _ := idxK_any L p gp v S w hv hS hp
  clear hv hS hp
  go_enter Try.func73, Try.ntmps73
  go_wp2_with fail
  refine Calls.mono HI.out ?_
  rintro e w2 ⟨j, rfl, hj, hb2⟩
  have HJ : Hid (decide (0 ≤ j) = heldB L p) := hj
  clear hj
  go_wp2
  go_ret
  rw [← HJ.out]
  exact ⟨rfl, hb2⟩
theorem pknown_any (L : List Sp.Ob) (p : Int) (v : Value) (S : Nat → Prop) (w : World) (hv : Objs w S v L) (hS : ∀ b, S b → b < w.heap.size) :
    Calls Try.prog 51 #[v, .int .i64 p] w fun e w' => e = .returned (.bool (heldB L p)) ∧ Gw w w' := by
  have HK : Hid _ := hasK_any L p w.heap.size v S (w.alloc (.cells #[.int .i64 p] 3)) (hv.on ((On.alloc w _).less hS)) (fun b hb => by have := hS b hb; simp; omega) (Blk.new w _ _)
  clear hv hS
  go_enter Try.func51, Try.ntmps51
  go_wp2_with fail
  refine Calls.mono HK.out ?_
  rintro e w2 ⟨rfl, hb2⟩
  have HG : Hid (Gw w w2) := (Gw.new w _).trans (Gw.below hb2)
  clear hb2 HK
  go_wp2
  go_ret
  exact ⟨rfl, HG.out⟩
/-- Opened's function: is an open file of that number had? -/
theorem openedF_any (K : Kn) (k g : Nat) (a b c : Value) (w : World) (h : KernAt w a b c K) (hk : Blk w g #[a, b, c] 27) :
    Calls Try.prog 56 #[.int .i64 (k : Int), .pointer (some ⟨g, 0, none⟩)] w fun e w' => e = .returned (.bool (match K.O[k]? with | some x => decide (0 ≤ x.obj) | none => false)) ∧ w' = w := by
  obtain ⟨oa, pa, qa, oc, pc, qc, rfl, rfl, rfl, h1, h2, h3⟩ := h.spell
  have kc1 : w.cell? ⟨g, 1, none⟩ = some (.slice pa K.O.length pc) := hk.cell 1
  have kl := hk.lt
  unfold maxLen at h1 h2 h3
  by_cases hlt : k < K.O.length
  · obtain ⟨x, hx⟩ : ∃ x, K.O[k]? = some x := ⟨_, List.getElem?_eq_getElem hlt⟩
    obtain ⟨b, o, c', he, hSb, hc, hcm, h5⟩ := Row.some h.2.1 (by rw [List.length_map]; omega)
    obtain ⟨rfl, -, rfl⟩ := Value.slice.inj he
    have d0 := h5 k (opnC x) (by rw [List.getElem?_map, hx]; rfl) 0 _ rfl
    rw [Nat.add_zero] at d0
    rw [List.length_map] at hc
    unfold maxLen at hcm
    rw [hx]
    dsimp only
    clear h hk he h5 hx
    have hlz : (k : Int) < (K.O.length : Int) := by omega
    go_enter Try.func56, Try.ntmps56
    go_wp2
    go_ret
    exact ⟨by simp, rfl⟩
  · rw [List.getElem?_eq_none (by omega)]
    dsimp only
    clear h hk
    have hlz : ¬ (k : Int) < (K.O.length : Int) := by omega
    go_enter Try.func56, Try.ntmps56
    go_wp2
    go_ret
    exact ⟨rfl, rfl⟩
/-- Fork's function: does a process of that number live, or is it known? -/
theorem forkF_any (K : Kn) (k g : Nat) (a b c : Value) (w : World) (h : KernAt w a b c K) (hk : Blk w g #[a, b, c] 27) :
    Calls Try.prog 50 #[.int .i64 (k : Int), .pointer (some ⟨g, 0, none⟩)] w fun e w' => e = .returned (.bool (Pr.live K.P k || heldB K.L k)) ∧ Gw w w' := by
  have HL : Hid _ := plive_any K (k : Int) a b c w h
  have HK : Hid (KernAt w a b c K) := h
  have HB : Hid (Blk w g #[a, b, c] 27) := hk
  have k0 : w.cell? ⟨g, 0, none⟩ = some a := hk.cell 0
  have k1 : w.cell? ⟨g, 1, none⟩ = some b := hk.cell 1
  have k2 : w.cell? ⟨g, 2, none⟩ = some c := hk.cell 2
  have kl := hk.lt
  clear h hk
  go_enter Try.func50, Try.ntmps50
  go_wp2_with fail
  refine Calls.mono HL.out ?_
  rintro e w2 ⟨rfl, hg⟩
  have HG : Hid (Gw w w2) := hg
  have hb2 := HB.out.on hg.1 kl
  have m0 : w2.cell? ⟨g, 0, none⟩ = some a := hb2.cell 0
  have ml := hb2.lt
  have HKN : Hid (Calls Try.prog 51 #[a, .int .i64 (k : Int)] w2 fun e w' => e = .returned (.bool (heldB K.L k)) ∧ Gw w2 w') := pknown_any K.L k a _ w2 (HK.out.gw hg).1 (fun b hb => hb)
  clear hg hb2 k0 k1 k2 HL
  cases hlv : Pr.live K.P k with
  | true =>
    go_wp2
    go_ret
    exact ⟨by rw [hlv]; rfl, HG.out⟩
  | false =>
    go_wp2_with fail
    refine Calls.mono HKN.out ?_
    rintro e w3 ⟨rfl, hg3⟩
    have HG3 : Hid (Gw w w3) := HG.out.trans hg3
    clear hg3
    go_wp2
    go_ret
    exact ⟨by rw [hlv]; rfl, HG3.out⟩
end Go.Proofs.Ytdciohinlhbliaa


/-
  procs.lowest, walked, for whatever function; procs.laid of open files and of processes.
-/
namespace Go.Proofs.Ytdciohinlhbliaa
open Go.RowKit
open Wp
set_option maxRecDepth 100000 in
set_option maxHeartbeats 2000000 in
theorem plow_any (m : Nat) (hm : m ≤ 100) (n : Nat) (caps : Array Value) (T : Nat → Bool) (w : World) (eg : Enters Try.prog n) (hC : ∀ (k : Nat) (W : World), k < m → Gw w W → Calls Try.prog n (#[.int .i64 (k : Int)] ++ caps) W fun e w' => e = .returned (.bool (T k)) ∧ Gw W w') :
    Calls Try.prog 52 #[.int .i64 (m : Int), .func (.func n) #[] caps] w fun e w' => Gw w w' ∧ ((∃ k : Nat, k < m ∧ T k = false ∧ (∀ j, j < k → T j = true) ∧ e = .returned (.tuple #[.int .i64 (k : Int), .int .i64 0])) ∨ ((∀ j, j < m → T j = true) ∧ e = .returned (.tuple #[.int .i64 0, .int .i64 15]))) := by
  have HC : Hid (∀ (k : Nat) (W : World), k < m → Gw w W → Calls Try.prog n (#[.int .i64 (k : Int)] ++ caps) W fun e w' => e = .returned (.bool (T k)) ∧ Gw W w') := hC
  unfold Enters at eg
  clear hC
  go_enter Try.func52, Try.ntmps52
  go_wp2
  go_loopw [8] (fun s8 wr => ∃ k : Nat, k ≤ m ∧ s8 = .int .i64 k ∧ Gw w wr ∧ ∀ j, j < k → T j = true) (fun s8 _ => m - (intOf s8).toNat)
  case atStart => exact ⟨0, Nat.zero_le _, rfl, Gw.refl w, fun j hj => by omega⟩
  case round =>
    obtain ⟨k, hk, rfl, hg, hT⟩ := hrel
    have HG : Hid (Gw w wr) := hg
    have HT : Hid (∀ j, j < k → T j = true) := hT
    by_cases hlt : k < m
    · have HCK : Hid _ := HC.out k wr hlt hg
      have hkz : (k : Int) < (m : Int) := by omega
      clear hg hT
      obtain ⟨b, hb⟩ : ∃ b, T k = b := ⟨_, rfl⟩
      have HB : Hid (T k = b) := hb
      rw [hb] at HCK
      clear hb
      cases b with
      | true =>
        go_wp2_with fail
        refine Calls.mono HCK.out ?_
        rintro e w4 ⟨rfl, hg4⟩
        have HG4 : Hid (Gw w w4) := HG.out.trans hg4
        clear hg4
        go_wp2
        exact ⟨⟨k + 1, by omega, by go_num, HG4.out, fun j hj => by
          rcases Nat.lt_or_ge j k with h1 | h1
          · exact HT.out j h1
          · rw [show j = k by omega]; exact HB.out⟩, by simp [intOf]; omega⟩
      | false =>
        go_wp2_with fail
        refine Calls.mono HCK.out ?_
        rintro e w4 ⟨rfl, hg4⟩
        have HG4 : Hid (Gw w w4) := HG.out.trans hg4
        clear hg4
        go_wp2
        go_ret2
        exact ⟨HG4.out, Or.inl ⟨k, hlt, HB.out, HT.out, rfl⟩⟩
    · obtain rfl : k = m := by omega
      clear hg hT
      go_wp2
      go_ret2
      exact ⟨HG.out, Or.inr ⟨HT.out, rfl⟩⟩
end Go.Proofs.Ytdciohinlhbliaa


/-
  copy into a row of one's own, cells of whatever size; procs.laid of open files and of processes, walked.
-/
namespace Go.Proofs.Ytdciohinlhbliaa
open Go.RowKit
open Wp
section
variable {P : Program}
theorem run_copy_k (w : World) (dT sT ty elem : TypeId) (k g dLen dCap : Nat) (a : Addr) (sLen sCap : Nat) (cur : Array Value) (t : TypeId) (cs : List Value)
    (hu : P.underlying dT = some (.slice elem)) (hs : (P.info? elem).map (·.size) = some k)
    (hg : w.heap[g]? = some (.cells cur t (0, 0))) (hn : Nat.min sLen dLen * k = cs.length)
    (hsrc : ∀ j v, cs[j]? = some v → w.cell? (a.add j) = some v) (hfit : cs.length ≤ cur.size) (h1 : ∀ v ∈ cs, v.oneCell' = true) :
    (Builtin.copy_ #[dT, sT] ty #[.slice (some ⟨g, 0, none⟩) dLen dCap, .slice (some a) sLen sCap]).run P w =
      .ok (goInt (Nat.min sLen dLen)) (w.setRow g (cs ++ cur.toList.drop cs.length).toArray) := by
  have hl := run_loadCells_list (P := P) w a cs hsrc
  have hst := run_storeCells_at P g 0 t cs 0 cur w hg (by simpa using hfit) h1
  simp only [Nat.add_zero, List.take_zero, List.nil_append, Nat.zero_add] at hst
  cases hq : P.info? elem with
  | none => simp [hq] at hs
  | some i =>
    have hi : i.size = k := by simpa [hq] using hs
    have hn' : min sLen dLen * k = cs.length := hn
    simp [Builtin.copy_, run_underlying hu, Builtin.lenOf, Builtin.firstCells, sizeOf, typeInfo, hq, hi, hn', hl, hst]
theorem run_copy_zero (w : World) (dT sT ty elem : TypeId) (k : Nat) (d a : Option Addr) (dLen dCap sCap : Nat) (hu : P.underlying dT = some (.slice elem)) (hs : (P.info? elem).map (·.size) = some k) :
    (Builtin.copy_ #[dT, sT] ty #[.slice d dLen dCap, .slice a 0 sCap]).run P w = .ok (goInt 0) w := by
  cases hq : P.info? elem with
  | none => simp [hq] at hs
  | some i =>
    have hl : ∀ (x : Addr), (loadCells x 0).run P w = .ok #[] w := fun x => by simpa using run_loadCells_list (P := P) w x [] (by simp)
    cases d <;> cases a <;> simp [Builtin.copy_, run_underlying hu, Builtin.lenOf, Builtin.firstCells, sizeOf, typeInfo, hq, storeCells, hl]
theorem drop_flatten {k : Nat} {css : List (List Value)} (hE : Even k css) (j : Nat) (hj : j ≤ css.length) : css.flatten.drop (j * k) = (css.drop j).flatten := by
  have e : css = css.take j ++ css.drop j := (List.take_append_drop j css).symm
  have ht : Even k (css.take j) := fun x hx => hE x (List.mem_of_mem_take hx)
  have hl : (css.take j).flatten.length = j * k := by
    have := ht.flatten
    rw [this, List.length_take, Nat.min_eq_left hj]
  have h2 : css.flatten = (css.take j).flatten ++ (css.drop j).flatten := by rw [← List.flatten_append, ← e]
  rw [h2, ← hl, List.drop_left]
theorem wpList_copy_mine {w : World} {ops : Array Oper} {rest : List Oper} {o : Oper} {a : Act} {Q : Exit → Act → World → Prop} (hgd : o.guard = none) (d s : Operand) (dT sT : TypeId)
    (ho : o.op = .call { callee := .builtin .copy, args := #[d, s], argTypes := #[dT, sT] }) (elem : TypeId) (hu : P.underlying dT = some (.slice elem)) (k : Nat) (hk : 0 < k) (hsz : (P.info? elem).map (·.size) = some k)
    (base g n c : Nat) (e : TypeId) (css : List (List Value)) (hd : a.eval d = .slice (some ⟨g, 0, none⟩) n c) (hM : Mine w base e k (.slice (some ⟨g, 0, none⟩) n c) css) (hE : Even k css)
    (sp : Option Addr) (sLen sCap : Nat) (hs : a.eval s = .slice sp sLen sCap) (S : Nat → Prop) (dss : List (List Value)) (hR : Row w S k (.slice sp sLen sCap) dss) (hE' : Even k dss) (h1 : Ones dss) (hle : dss.length ≤ css.length)
    (h : ∀ w', Mine w' base e k (.slice (some ⟨g, 0, none⟩) n c) (dss ++ css.drop dss.length) → On (fun b => b ≠ g) w w' → w'.heap.size = w.heap.size → (∀ B, B ≤ g → Below B w w') → wpList P ops Q rest (a.put o.dst (goInt dss.length)) w') :
    wpList P ops Q (o :: rest) a w := by
  obtain ⟨ra, rc, re, -⟩ := Row.form hR
  obtain ⟨-, hsl, -⟩ := Value.slice.inj re
  subst hsl
  refine wpList_plain hgd fun K hK => ?_
  unfold Oper.wp
  rcases Nat.eq_zero_or_pos dss.length with h0 | hpos
  · obtain rfl : dss = [] := List.eq_nil_of_length_eq_zero h0
    have hrun := run_copy_zero (P := P) w dT sT o.type elem k (some ⟨g, 0, none⟩) sp n c sCap hu hsz
    simp only [List.length_nil] at hs
    simp [execOp, ho, resolve, invoke, builtin, hd, hs, hrun, Result.andThen]
    exact hK _ _ (h w hM (fun b hb => rfl) rfl fun B hB => Below.refl B w)
  · obtain ⟨b, off, c', he, hS, hc, hm, h5⟩ := Row.some hR (by omega)
    obtain ⟨rfl, -, rfl⟩ := Value.slice.inj he
    rcases hM.2 with ⟨hn, -⟩ | ⟨g', cap, cur, hv, hb, hg, q1, q2, q3, q4⟩
    · cases hn
    · cases hv
      have hfl := hE'.flatten
      have hfc := hE.flatten
      have hmul : dss.length * k ≤ css.length * k := Nat.mul_le_mul_right k hle
      have hmul2 : css.length * k ≤ c * k := Nat.mul_le_mul_right k q1
      have hfl' : dss.flatten.length = dss.length * k := hfl
      have hrun := run_copy_k (P := P) w dT sT o.type elem k g css.length c ⟨b, off, none⟩ dss.length sCap cur e dss.flatten hu hsz hg (by rw [hfl']; congr 1; exact Nat.min_eq_left hle) (Row.src hk hE' h5) (by rw [hfl', q3]; omega) (fun v hv => by
        obtain ⟨cs, hcs, hv⟩ := List.mem_flatten.1 hv
        exact h1 cs hcs v hv)
      have hmin : Nat.min dss.length css.length = dss.length := Nat.min_eq_left hle
      rw [hmin] at hrun
      obtain ⟨F, hF⟩ : ∃ F, F = dss.flatten := ⟨_, rfl⟩
      have hFl : F.length = dss.length * k := by rw [hF]; exact hfl'
      rw [← hF] at hrun
      obtain ⟨R, hR2⟩ : ∃ R, R = F ++ cur.toList.drop F.length := ⟨_, rfl⟩
      rw [← hR2] at hrun
      simp [execOp, ho, resolve, invoke, builtin, hd, hs, hrun, Result.andThen]
      refine hK _ _ (h _ ⟨?_, Or.inr ⟨g, c, R.toArray, ?_, hb, setRow_heap w g cur _ e _ hg, ?_, q2, ?_, ?_⟩⟩ (fun b hb => setRow_other w g b _ hb) (by simp [World.setRow]) fun B hB => below_setRow (Below.refl B w) hB _)
      · rw [List.flatten_append, List.length_append, List.length_append, List.length_drop, hfl']
        have hd2 : Even k (css.drop dss.length) := fun x hx => hE x (List.mem_of_mem_drop hx)
        have : (css.drop dss.length).flatten.length = (css.drop dss.length).length * k := hd2.flatten
        rw [this, List.length_drop, ← Nat.add_mul]
      · rw [List.length_append, List.length_drop]
        congr 1
        omega
      · rw [List.length_append, List.length_drop]; omega
      · have hcl : cur.toList.length = c * k := by rw [Array.length_toList, q3]
        show R.length = c * k
        rw [hR2, List.length_append, List.length_drop]
        omega
      · have hln : (dss ++ css.drop dss.length).length = css.length := by rw [List.length_append, List.length_drop]; omega
        rw [hln, hR2, List.flatten_append, ← hF]
        show (F ++ List.drop F.length cur.toList).take (css.length * k) = _
        rw [List.take_append, List.take_of_length_le (by omega), ← List.drop_take, q4, hFl, drop_flatten hE _ hle]
end

namespace Pr
/-- A list with x at k, longer if it must be. -/
def laid {α : Type} (l : List α) (z : α) (k : Nat) (x : α) : List α := (l ++ List.replicate (max l.length (k + 1) - l.length) z).set k x
theorem laid_len {α : Type} (l : List α) (z : α) (k : Nat) (x : α) : (laid l z k x).length = max l.length (k + 1) := by
  unfold laid
  rw [List.length_set, List.length_append, List.length_replicate]
  omega
theorem laid_get {α : Type} (l : List α) (z : α) (k i : Nat) (x : α) : (laid l z k x)[i]? = if i = k then some x else if i < l.length then l[i]? else if i < k then some z else none := by
  unfold laid
  rw [List.getElem?_set]
  by_cases h : k = i
  · subst h
    rw [if_pos rfl, if_pos rfl, if_pos (by rw [List.length_append, List.length_replicate]; omega)]
  · rw [if_neg h, if_neg (fun e => h e.symm), List.getElem?_append]
    split
    · rfl
    · rw [List.getElem?_replicate]
      by_cases h2 : i < k
      · rw [if_pos h2, if_pos (by omega)]
      · rw [if_neg h2, if_neg (by omega)]
end Pr

set_option maxRecDepth 100000 in
set_option maxHeartbeats 2000000 in
theorem plaidO_any (O : List Sp.Opn) (k : Nat) (x : Sp.Opn) (v : Value) (S : Nat → Prop) (w : World) (hv : Row w S 2 v (O.map opnC)) (hS : ∀ b, S b → b < w.heap.size) (hO : O.length ≤ 1000) (hk : k ≤ 1000) :
    Calls Try.prog 58 #[v, .int .i64 (k : Int), .agg (opnC x).toArray] w fun e w' => ∃ g : Nat, e = .returned (.slice (some ⟨g, 0, none⟩) (max O.length (k + 1)) (max O.length (k + 1))) ∧ Mine w' w.heap.size 54 2 (.slice (some ⟨g, 0, none⟩) (max O.length (k + 1)) (max O.length (k + 1))) ((Pr.laid O (⟨0, 0⟩ : Sp.Opn) k x).map opnC) ∧ Gw w w' := by
  obtain ⟨a, c, rfl, hm⟩ := Row.form hv
  rw [List.length_map] at hv hm ⊢
  obtain ⟨i0, hi, hz0, hz1, hz2⟩ := info_parts Try.infoOpen
  have hsz : (Try.prog.info? 54).map (·.size) = some 2 := by rw [hi]; simp [hz1]
  have HSZ : Hid _ := hsz
  have HV : Hid (Row w S 2 (.slice a O.length c) (O.map opnC)) := hv
  have HS : Hid (∀ b, S b → b < w.heap.size) := hS
  obtain ⟨N, hN⟩ : ∃ N, N = max O.length (k + 1) := ⟨_, rfl⟩
  rw [← hN]
  have HNN : Hid (N = max O.length (k + 1)) := hN
  have hNk : k < N := by omega
  have hNO : O.length ≤ N := by omega
  have hNm : N ≤ 1001 := by omega
  have HPL : Hid (Pr.laid O (⟨0, 0⟩ : Sp.Opn) k x = (O ++ List.replicate (N - O.length) (⟨0, 0⟩ : Sp.Opn)).set k x) := by unfold Hid Pr.laid; rw [← hN]
  have HZC : Hid (O.map opnC ++ List.replicate (N - O.length) [.int .i64 0, .int .i64 0] = (O ++ List.replicate (N - O.length) (⟨0, 0⟩ : Sp.Opn)).map opnC) := by unfold Hid; rw [List.map_append, List.map_replicate]; rfl
  generalize Pr.laid O (⟨0, 0⟩ : Sp.Opn) k x = R at *
  clear hv hS hsz hm hN
  show Calls Try.prog 58 #[_, .int .i64 (k : Int), .agg #[.int .i64 x.obj, .int .i64 x.pos]] w _
  go_enter Try.func58, Try.ntmps58
  go_wp2_with (refine wpList_make_full _ rfl _ _ _ rfl (w.heap.size) 54 i0 (.agg #[.int .i64 0, .int .i64 0]) 2 Try.underlying24 hi hz0 hz1 .i64 .i64 _ _ N rfl rfl ?a0 ?a0' ?a1 ?a2 ?a3 ?_)
  case a0 => have := HNN.out; omega
  case a0' => have := HNN.out; omega
  case a1 => rw [hz2]; omega
  case a2 => unfold maxLen; omega
  case a3 => simp
  intro w2 ho hg
  have hzz : (w.alloc (.cells #[.int .i64 x.obj, .int .i64 x.pos] 54)).heap.size = w.heap.size + 1 := by simp
  try rw [hzz] at ho
  have HM2 : Hid (Mine w2 w.heap.size 54 2 (.slice (some ⟨w.heap.size + 1, 0, none⟩) N N) (List.replicate N [.int .i64 0, .int .i64 0])) := Mine.made (by decide) rfl ho
  have HB2 : Hid (Below (w.heap.size + 1) (w.alloc (.cells #[.int .i64 x.obj, .int .i64 x.pos] 54)) w2) := by have := below_none hg; rw [hzz] at this; exact this
  have HX2 : Hid (Blk w2 w.heap.size #[.int .i64 x.obj, .int .i64 x.pos] 54) := (Blk.new w _ _).below HB2.out (by simp)
  have HG2 : Hid (Gw w w2) := (Gw.new w _).trans (Gw.below (by rw [hzz]; exact HB2.out))
  clear ho hg hzz
  have hR0 : Row w2 S 2 (.slice a O.length c) (O.map opnC) := Row.on HV.out (HG2.out.1.less HS.out)
  go_wp2_with (refine wpList_copy_mine rfl _ _ _ _ rfl 54 Try.underlying24 2 (by decide) HSZ.out w.heap.size (w.heap.size + 1) N N 54 _ rfl HM2.out ?e1 _ _ _ rfl S (O.map opnC) hR0 (even_opn _) (ones_opn _) ?e2 ?_)
  case e1 => exact fun cs hcs => by rw [(List.mem_replicate.1 hcs).2]; rfl
  case e2 => rw [List.length_map, List.length_replicate]; omega
  intro w3 hm3 ho3 hs3 hb3
  rw [HZC.out] at hm3
  have HM3 : Hid (Mine w3 w.heap.size 54 2 (.slice (some ⟨w.heap.size + 1, 0, none⟩) N N) ((O ++ List.replicate (N - O.length) (⟨0, 0⟩ : Sp.Opn)).map opnC)) := hm3
  have HG3 : Hid (Gw w w3) := ⟨HG2.out.1.trans fun b hb => ho3 b (by omega), by have := HG2.out.2.1; omega, fun B hB => (HG2.out.2.2 B hB).trans (hb3 B (by omega))⟩
  have hx3 : Blk w3 w.heap.size #[.int .i64 x.obj, .int .i64 x.pos] 54 := HX2.out.on ho3 (by omega)
  have xc := hx3.cell
  have xl := hx3.lt
  have x0 : w3.cell? ⟨w.heap.size, 0, none⟩ = some (.int .i64 x.obj) := xc 0
  have x1 : w3.cell? ⟨w.heap.size, 1, none⟩ = some (.int .i64 x.pos) := xc 1
  obtain ⟨cur, hbk, -, -, -, hcs, -⟩ := HM3.out.blk
  obtain ⟨y, hy⟩ : ∃ y, (O ++ List.replicate (N - O.length) (⟨0, 0⟩ : Sp.Opn))[k]? = some y := ⟨_, List.getElem?_eq_getElem (by rw [List.length_append, List.length_replicate]; omega)⟩
  have d0 := mine_cell HM3.out (even_opn _) (i := k) (cs := opnC y) (by rw [List.getElem?_map, hy]; rfl) (j := 0) rfl
  have d1 := mine_cell HM3.out (even_opn _) (i := k) (cs := opnC y) (by rw [List.getElem?_map, hy]; rfl) (j := 1) rfl
  simp only [Nat.add_zero] at d0
  have f0 := hbk.free (k * 2)
  have f1 := hbk.free (k * 2 + 1)
  have hcl := hbk.lt
  clear hm3 ho3 hs3 hb3 hR0 hx3 xc hbk hy
  go_wp2_with fail
  go_ret
  obtain ⟨q1, q2, q3⟩ := HM3.out.two (even_opn _) k (by rw [List.length_map, List.length_append, List.length_replicate]; omega) (.int .i64 x.obj) (.int .i64 x.pos) _ rfl
  refine ⟨_, rfl, by rw [HPL.out, List.map_set]; exact q1, HG3.out.1.trans fun b hb => q2 b (by omega), by rw [q3]; exact HG3.out.2.1, fun B hB => ?_⟩
  exact ((HG3.out.2.2 B hB).setCell (by show B ≤ w.heap.size + 1; omega) _).setCell (by show B ≤ w.heap.size + 1; omega) _
set_option maxRecDepth 100000 in
set_option maxHeartbeats 2000000 in
theorem plaidP_any (O : List (Sl × Sp.Prc)) (k : Nat) (x : Sl × Sp.Prc) (v : Value) (S : Nat → Prop) (w : World) (hv : Row w S 4 v (O.map prcC)) (hS : ∀ b, S b → b < w.heap.size) (hO : O.length ≤ 1000) (hk : k ≤ 1000) :
    Calls Try.prog 54 #[v, .int .i64 (k : Int), .agg (prcC x).toArray] w fun e w' => ∃ g : Nat, e = .returned (.slice (some ⟨g, 0, none⟩) (max O.length (k + 1)) (max O.length (k + 1))) ∧ Mine w' w.heap.size 43 4 (.slice (some ⟨g, 0, none⟩) (max O.length (k + 1)) (max O.length (k + 1))) ((Pr.laid O prcZ0 k x).map prcC) ∧ Gw w w' := by
  obtain ⟨a, c, rfl, hm⟩ := Row.form hv
  rw [List.length_map] at hv hm ⊢
  obtain ⟨i0, hi, hz0, hz1, hz2⟩ := info_parts Try.infoProc
  have hsz : (Try.prog.info? 43).map (·.size) = some 4 := by rw [hi]; simp [hz1]
  have HSZ : Hid _ := hsz
  have HV : Hid (Row w S 4 (.slice a O.length c) (O.map prcC)) := hv
  have HS : Hid (∀ b, S b → b < w.heap.size) := hS
  obtain ⟨N, hN⟩ : ∃ N, N = max O.length (k + 1) := ⟨_, rfl⟩
  rw [← hN]
  have HNN : Hid (N = max O.length (k + 1)) := hN
  have hNk : k < N := by omega
  have hNO : O.length ≤ N := by omega
  have hNm : N ≤ 1001 := by omega
  have HPL : Hid (Pr.laid O prcZ0 k x = (O ++ List.replicate (N - O.length) prcZ0).set k x) := by unfold Hid Pr.laid; rw [← hN]
  have HZC : Hid (O.map prcC ++ List.replicate (N - O.length) [.bool false, .bool false, .int .i64 0, .slice none 0 0] = (O ++ List.replicate (N - O.length) prcZ0).map prcC) := by unfold Hid; rw [List.map_append, List.map_replicate]; rfl
  generalize Pr.laid O prcZ0 k x = R at *
  clear hv hS hsz hm hN
  show Calls Try.prog 54 #[_, .int .i64 (k : Int), .agg #[.bool x.2.live, .bool x.2.fenced, .int .i64 x.2.code, .slice x.1.a x.1.n x.1.c]] w _
  go_enter Try.func54, Try.ntmps54
  go_wp2_with (refine wpList_make_full _ rfl _ _ _ rfl (w.heap.size) 43 i0 (.agg #[.bool false, .bool false, .int .i64 0, .slice none 0 0]) 4 Try.underlying25 hi hz0 hz1 .i64 .i64 _ _ N rfl rfl ?a0 ?a0' ?a1 ?a2 ?a3 ?_)
  case a0 => have := HNN.out; omega
  case a0' => have := HNN.out; omega
  case a1 => rw [hz2]; omega
  case a2 => unfold maxLen; omega
  case a3 => simp
  intro w2 ho hg
  have hzz : (w.alloc (.cells #[.bool x.2.live, .bool x.2.fenced, .int .i64 x.2.code, .slice x.1.a x.1.n x.1.c] 43)).heap.size = w.heap.size + 1 := by simp
  try rw [hzz] at ho
  have HM2 : Hid (Mine w2 w.heap.size 43 4 (.slice (some ⟨w.heap.size + 1, 0, none⟩) N N) (List.replicate N [.bool false, .bool false, .int .i64 0, .slice none 0 0])) := Mine.made (by decide) rfl ho
  have HB2 : Hid (Below (w.heap.size + 1) (w.alloc (.cells #[.bool x.2.live, .bool x.2.fenced, .int .i64 x.2.code, .slice x.1.a x.1.n x.1.c] 43)) w2) := by have := below_none hg; rw [hzz] at this; exact this
  have HX2 : Hid (Blk w2 w.heap.size #[.bool x.2.live, .bool x.2.fenced, .int .i64 x.2.code, .slice x.1.a x.1.n x.1.c] 43) := (Blk.new w _ _).below HB2.out (by simp)
  have HG2 : Hid (Gw w w2) := (Gw.new w _).trans (Gw.below (by rw [hzz]; exact HB2.out))
  clear ho hg hzz
  have hR0 : Row w2 S 4 (.slice a O.length c) (O.map prcC) := Row.on HV.out (HG2.out.1.less HS.out)
  go_wp2_with (refine wpList_copy_mine rfl _ _ _ _ rfl 43 Try.underlying25 4 (by decide) HSZ.out w.heap.size (w.heap.size + 1) N N 43 _ rfl HM2.out ?e1 _ _ _ rfl S (O.map prcC) hR0 (even_prc _) (ones_prc _) ?e2 ?_)
  case e1 => exact fun cs hcs => by rw [(List.mem_replicate.1 hcs).2]; rfl
  case e2 => rw [List.length_map, List.length_replicate]; omega
  intro w3 hm3 ho3 hs3 hb3
  rw [HZC.out] at hm3
  have HM3 : Hid (Mine w3 w.heap.size 43 4 (.slice (some ⟨w.heap.size + 1, 0, none⟩) N N) ((O ++ List.replicate (N - O.length) prcZ0).map prcC)) := hm3
  have HG3 : Hid (Gw w w3) := ⟨HG2.out.1.trans fun b hb => ho3 b (by omega), by have := HG2.out.2.1; omega, fun B hB => (HG2.out.2.2 B hB).trans (hb3 B (by omega))⟩
  have hx3 : Blk w3 w.heap.size #[.bool x.2.live, .bool x.2.fenced, .int .i64 x.2.code, .slice x.1.a x.1.n x.1.c] 43 := HX2.out.on ho3 (by omega)
  have xc := hx3.cell
  have xl := hx3.lt
  have x0 : w3.cell? ⟨w.heap.size, 0, none⟩ = some (.bool x.2.live) := xc 0
  have x1 : w3.cell? ⟨w.heap.size, 1, none⟩ = some (.bool x.2.fenced) := xc 1
  have x2 : w3.cell? ⟨w.heap.size, 2, none⟩ = some (.int .i64 x.2.code) := xc 2
  have x3 : w3.cell? ⟨w.heap.size, 3, none⟩ = some (.slice x.1.a x.1.n x.1.c) := xc 3
  obtain ⟨cur, hbk, -, -, -, hcs, -⟩ := HM3.out.blk
  obtain ⟨y, hy⟩ : ∃ y, (O ++ List.replicate (N - O.length) prcZ0)[k]? = some y := ⟨_, List.getElem?_eq_getElem (by rw [List.length_append, List.length_replicate]; omega)⟩
  have d0 := mine_cell HM3.out (even_prc _) (i := k) (cs := prcC y) (by rw [List.getElem?_map, hy]; rfl) (j := 0) rfl
  have d1 := mine_cell HM3.out (even_prc _) (i := k) (cs := prcC y) (by rw [List.getElem?_map, hy]; rfl) (j := 1) rfl
  simp only [Nat.add_zero] at d0
  have d2 := mine_cell HM3.out (even_prc _) (i := k) (cs := prcC y) (by rw [List.getElem?_map, hy]; rfl) (j := 2) rfl
  have d3 := mine_cell HM3.out (even_prc _) (i := k) (cs := prcC y) (by rw [List.getElem?_map, hy]; rfl) (j := 3) rfl
  have f0 := hbk.free (k * 4)
  have f1 := hbk.free (k * 4 + 1)
  have f2 := hbk.free (k * 4 + 2)
  have f3 := hbk.free (k * 4 + 3)
  have hcl := hbk.lt
  clear hm3 ho3 hs3 hb3 hR0 hx3 xc hbk hy
  go_wp2_with fail
  go_ret
  obtain ⟨q1, q2, q3, q4⟩ := HM3.out.four (even_prc _) k (by rw [List.length_map, List.length_append, List.length_replicate]; omega) (.bool x.2.live) (.bool x.2.fenced) (.int .i64 x.2.code) (.slice x.1.a x.1.n x.1.c) _ rfl
  exact ⟨_, rfl, by rw [HPL.out, List.map_set]; exact q1, HG3.out.1.trans fun b hb => q2 b (by omega), by rw [q3]; exact HG3.out.2.1, fun B hB => (HG3.out.2.2 B hB).trans (q4 B (by omega))⟩
end Go.Proofs.Ytdciohinlhbliaa


/-
  procs.Opened, walked.
-/
namespace Go.Proofs.Ytdciohinlhbliaa
open Go.RowKit
open Wp
theorem Blk.three {w : World} {g : Nat} {t : TypeId} {x0 x1 x2 : Value} (h : Blk w g #[x0, x1, x2] t) (c0 c1 c2 : Value) : Blk (((w.setCell ⟨g, 0, none⟩ c0).setCell ⟨g, 1, none⟩ c1).setCell ⟨g, 2, none⟩ c2) g #[c0, c1, c2] t := ((h.set 0 _).set 1 _).set 2 _
theorem own_at {b g n c : Nat} (h : (Value.slice (some ⟨g, 0, none⟩) n c).ownBlock = some b) : b = g := by
  simp [Value.ownBlock] at h
  exact h.symm
theorem enters_openedF : Enters Try.prog 56 := enters_of Try.func56 (by kernel_rfl) rfl
theorem putR_fd {l : List Tb.Slt} {op rt : Int} : ∃ (l' : List Tb.Slt) (fd er : Int), Tb.putR l op rt = (l', fd, er) := ⟨_, _, _, rfl⟩
def zeroK : Value := .agg #[.slice none 0 0, .slice none 0 0, .slice none 0 0]
namespace Pr
def ofT (x : Tb.Slt) : Sp.Slt := ⟨x.has, x.op, x.rt⟩
/-- Is an open file of that number had? -/
def hadO (O : List Sp.Opn) (k : Nat) : Bool := match O[k]? with | some x => decide (0 ≤ x.obj) | none => false
/-- A kernel in which one more is open. -/
def opened (K : Kn) (p : Nat) (x : Sp.Prc) (k : Nat) (obj : Int) (l : List Tb.Slt) : Kn := ⟨K.L, laid K.O ⟨0, 0⟩ k ⟨obj, 0⟩, K.P.set p { x with slots := l.map ofT }⟩
end Pr
/-- A kernel lies in blocks of S. -/
def KernIn (w : World) (S : Nat → Prop) (a b c : Value) (K : Kn) : Prop := Kern w S a b c K.L K.O K.P
theorem KernIn.at {w : World} {S : Nat → Prop} {a b c : Value} {K : Kn} (h : KernIn w S a b c K) (hS : ∀ b, S b → b < w.heap.size) : KernAt w a b c K :=
  ⟨h.1.more hS, Row.more h.2.1 hS, procs_more h.2.2 hS⟩
theorem KernIn.on {w w' : World} {S : Nat → Prop} {a b c : Value} {K : Kn} (h : KernIn w S a b c K) (ho : On S w w') : KernIn w' S a b c K :=
  ⟨h.1.on ho, Row.on h.2.1 ho, procs_on h.2.2 ho⟩
/-- What is asked of kernels. -/
structure Bnd (K : Kn) : Prop where
  fits : ∀ o ∈ K.L, Fits o
  kinds : KindOk K.L
  objs : K.L.length ≤ 1000
  opens : K.O.length ≤ 1000
  procs : 1 ≤ K.P.length ∧ K.P.length ≤ 1000
  slots : ∀ p ∈ K.P, p.slots.length ≤ 1000
/-- What Opened answers. -/
def OpenedW (K : Kn) (p obj rt : Int) (w : World) (e : Ending) (w' : World) : Prop :=
  Gw w w' ∧ (((Pr.live K.P p && isObj K.L obj) = false ∧ e = .returned (.tuple #[zeroK, .int .i64 0, .int .i64 6])) ∨
    ∃ (k : Nat) (x : Sp.Prc), p = (k : Int) ∧ K.P[k]? = some x ∧ x.live = true ∧ isObj K.L obj = true ∧
      (((∀ j, j < 60 → Pr.hadO K.O j = true) ∧ e = .returned (.tuple #[zeroK, .int .i64 0, .int .i64 15])) ∨
        ∃ at' : Nat, at' < 60 ∧ Pr.hadO K.O at' = false ∧ (∀ j, j < at' → Pr.hadO K.O j = true) ∧
          (((Tb.putR (x.slots.map toT) at' rt).2.2 ≠ 0 ∧ e = .returned (.tuple #[zeroK, .int .i64 0, .int .i64 (Tb.putR (x.slots.map toT) at' rt).2.2])) ∨
            ((Tb.putR (x.slots.map toT) at' rt).2.2 = 0 ∧ ∃ a b c, e = .returned (.tuple #[.agg #[a, b, c], .int .i64 (Tb.putR (x.slots.map toT) at' rt).2.1, .int .i64 0]) ∧ KernIn w' (fun b => w.heap.size ≤ b ∧ b < w'.heap.size) a b c (Pr.opened K k x at' obj (Tb.putR (x.slots.map toT) at' rt).1)))))
set_option maxRecDepth 1000000 in
set_option maxHeartbeats 8000000 in
theorem popened_any (K : Kn) (p obj rt : Int) (a b c : Value) (w : World) (h : KernAt w a b c K) (hb : Bnd K) :
    Calls Try.prog 27 #[.agg #[a, b, c], .int .i64 p, .int .i64 obj, .int .i64 rt] w (OpenedW K p obj rt w) := by
  obtain ⟨oa, pa, qa, oc, pc, qc, rfl, rfl, rfl, m1, m2, m3⟩ := h.spell
  have HBD : Hid (Bnd K) := hb
  have hg0 := (Gw.new w (.cells #[.slice oa K.L.length oc, .slice pa K.O.length pc, .slice qa K.P.length qc] 27)).trans (Gw.new _ (.cells #[.slice none 0 0, .slice none 0 0, .slice none 0 0] 27))
  have hk0 : Blk ((w.alloc (.cells #[.slice oa K.L.length oc, .slice pa K.O.length pc, .slice qa K.P.length qc] 27)).alloc (.cells #[.slice none 0 0, .slice none 0 0, .slice none 0 0] 27)) w.heap.size #[.slice oa K.L.length oc, .slice pa K.O.length pc, .slice qa K.P.length qc] 27 := (Blk.new w _ _).alloc _
  have hr0 := blk_new1w w (.cells #[.slice oa K.L.length oc, .slice pa K.O.length pc, .slice qa K.P.length qc] 27) #[.slice none 0 0, .slice none 0 0, .slice none 0 0] 27
  have HKT : Hid (∀ W, Gw w W → KernAt W (.slice oa K.L.length oc) (.slice pa K.O.length pc) (.slice qa K.P.length qc) K) := fun W hg => h.gw hg
  have HG0 : Hid (Gw w ((w.alloc (.cells #[.slice oa K.L.length oc, .slice pa K.O.length pc, .slice qa K.P.length qc] 27)).alloc (.cells #[.slice none 0 0, .slice none 0 0, .slice none 0 0] 27))) := hg0
  have HK0 : Hid _ := hk0
  have HR0 : Hid _ := hr0
  have HLV : Hid _ := plive_any K p _ _ _ _ (h.gw hg0)
  unfold maxLen at m1 m2 m3
  have k00 := hk0.cell
  have kl0 := hk0.lt
  have c0 : ((w.alloc (.cells #[.slice oa K.L.length oc, .slice pa K.O.length pc, .slice qa K.P.length qc] 27)).alloc (.cells #[.slice none 0 0, .slice none 0 0, .slice none 0 0] 27)).cell? ⟨w.heap.size, 0, none⟩ = some (.slice oa K.L.length oc) := k00 0
  have c1 : ((w.alloc (.cells #[.slice oa K.L.length oc, .slice pa K.O.length pc, .slice qa K.P.length qc] 27)).alloc (.cells #[.slice none 0 0, .slice none 0 0, .slice none 0 0] 27)).cell? ⟨w.heap.size, 1, none⟩ = some (.slice pa K.O.length pc) := k00 1
  have c2 : ((w.alloc (.cells #[.slice oa K.L.length oc, .slice pa K.O.length pc, .slice qa K.P.length qc] 27)).alloc (.cells #[.slice none 0 0, .slice none 0 0, .slice none 0 0] 27)).cell? ⟨w.heap.size, 2, none⟩ = some (.slice qa K.P.length qc) := k00 2
  clear h hb hg0 hk0 hr0 k00
  go_enter Try.func27, Try.ntmps27
  go_wp2_with fail
  generalize ((w.alloc (.cells #[.slice oa K.L.length oc, .slice pa K.O.length pc, .slice qa K.P.length qc] 27)).alloc (.cells #[.slice none 0 0, .slice none 0 0, .slice none 0 0] 27)) = w0 at *
  refine Calls.mono HLV.out ?_
  rintro e w1 ⟨rfl, hg1⟩
  have HG1 : Hid (Gw w w1) := Gw.trans HG0.out hg1
  have hk1 := Blk.on HK0.out hg1.1 kl0
  have hr1 := Blk.on HR0.out hg1.1 (Blk.lt HR0.out)
  have HK1 : Hid _ := hk1
  have HR1 : Hid _ := hr1
  have k1c := hk1.cell
  have k1l := hk1.lt
  have r1c := hr1.cell
  have r1f := hr1.free
  have r1l := hr1.lt
  clear hg1 hk1 hr1 c0 c1 c2 HLV
  cases hlv : Pr.live K.P p with
  | false =>
    go_wp2_with fail
    have hfc := (Blk.three HR1.out (.slice none 0 0) (.slice none 0 0) (.slice none 0 0)).cell
    refine bodyPost_ret (v := .tuple #[zeroK, .int .i64 0, .int .i64 6]) (by simp [results, Try.results27, go_sem, zeroK, hfc]) rfl ⟨?_, Or.inl ⟨by rw [hlv]; rfl, rfl⟩⟩
    exact ((HG1.out.set (by omega) 0 _).set (by omega) 1 _).set (by omega) 2 _
  | true =>
    have HOB : Hid _ := pobj_any K.L obj _ _ w1 (HKT.out w1 HG1.out).1
    obtain ⟨k, x, rfl, hx, hxl⟩ := Pr.live_some hlv
    have HX : Hid (K.P[k]? = some x ∧ x.live = true) := ⟨hx, hxl⟩
    have HLV2 : Hid (Pr.live K.P (k : Int) = true) := hlv
    clear hx hxl hlv
    go_wp2_with fail
    refine Calls.mono HOB.out ?_
    rintro e w' ⟨rfl, rfl⟩
    cases hob : isObj K.L obj with
    | false =>
      go_wp2_with fail
      have hfc := (Blk.three HR1.out (.slice none 0 0) (.slice none 0 0) (.slice none 0 0)).cell
      refine bodyPost_ret (v := .tuple #[zeroK, .int .i64 0, .int .i64 6]) (by simp [results, Try.results27, go_sem, zeroK, hfc]) rfl ⟨?_, Or.inl ⟨by rw [hob, Bool.and_false], rfl⟩⟩
      exact ((HG1.out.set (by omega) 0 _).set (by omega) 1 _).set (by omega) 2 _
    | true =>
      have HOBT : Hid (isObj K.L obj = true) := hob
      have HLOW : Hid _ := plow_any 60 (by omega) 56 #[.pointer (some ⟨w.heap.size, 0, none⟩)] (Pr.hadO K.O) w' enters_openedF fun j W hj hg => (openedF_any K j w.heap.size _ _ _ W (HKT.out W (HG1.out.trans hg)) (Blk.on HK1.out hg.1 k1l)).mono fun e w'' hh => ⟨hh.1, by rw [hh.2]; exact Gw.refl W⟩
      clear hob HOB
      go_wp2_with fail
      refine Calls.mono HLOW.out ?_
      rintro e w2 ⟨hg2, hr⟩
      have HG2 : Hid (Gw w w2) := HG1.out.trans hg2
      have hr2 := Blk.on HR1.out hg2.1 r1l
      have hk2 := Blk.on HK1.out hg2.1 k1l
      have HR2 : Hid _ := hr2
      have HK2 : Hid _ := hk2
      have r2c := hr2.cell
      have r2f := hr2.free
      have r2l := hr2.lt
      have k2c := hk2.cell
      have k2l := hk2.lt
      clear hg2 hr2 hk2 r1c r1f r1l k1c k1l HLOW
      rcases hr with ⟨at', hat, hf, hall, rfl⟩ | ⟨hall, rfl⟩
      · have HAT : Hid (Pr.hadO K.O at' = false ∧ ∀ j, j < at' → Pr.hadO K.O j = true) := ⟨hf, hall⟩
        obtain ⟨g, o, sl, rfl, -, hc, hcm, hgl, d0, d1, d2, d3, hrow⟩ := (HKT.out w2 HG2.out).proc HX.out.1
        have hkl : k < K.P.length := (List.getElem?_eq_some_iff.1 HX.out.1).1
        have hkz : (k : Int) < (K.P.length : Int) := by omega
        have hsl : x.slots.length ≤ 1000 := HBD.out.slots x (List.mem_of_getElem? HX.out.1)
        have HPUT : Hid _ := tput_any (x.slots.map toT) (at' : Int) rt (.slice sl.a sl.n sl.c) _ w2 (tab_of hrow) (fun b hb => hb) (by rw [List.length_map]; omega)
        obtain ⟨l', fd, er, hput⟩ := putR_fd (l := x.slots.map toT) (op := (at' : Int)) (rt := rt)
        have HPR : Hid (Tb.putR (x.slots.map toT) at' rt = (l', fd, er)) := hput
        rw [hput] at HPUT
        unfold maxLen at hcm
        clear hf hall hput hrow hsl d0 d1 d2
        go_wp2_with fail
        refine Calls.mono HPUT.out ?_
        rintro e w3 ⟨v', rfl, ht3, hb3⟩
        have hg3 := Gw.below hb3
        have HG3 : Hid (Gw w w3) := HG2.out.trans hg3
        have hr3 := Blk.on HR2.out hg3.1 r2l
        have hk3 := Blk.on HK2.out hg3.1 k2l
        have HR3 : Hid _ := hr3
        have HK3 : Hid _ := hk3
        have HT3 : Hid (Tab w3 (fun b => w2.heap.size ≤ b ∧ b < w3.heap.size) v' l') := ht3
        have r3c := hr3.cell
        have r3f := hr3.free
        have r3l := hr3.lt
        have k3c := hk3.cell
        have k3l := hk3.lt
        clear hg3 hb3 ht3 hr3 hk3 r2c r2f r2l k2c k2l HPUT d3 hgl
        by_cases her : er = 0
        · subst her
          obtain ⟨sa, scap, rfl, -⟩ := Tab.form HT3.out
          obtain ⟨q1, q2, q3⟩ := HKT.out w3 HG3.out
          have HOWN : Hid _ := sown_any K _ _ _ _ w3 q1 q2 q3 (fun b hb => hb) HBD.out.fits HBD.out.kinds HBD.out.objs HBD.out.opens HBD.out.procs HBD.out.slots
          clear q1 q2 q3
          go_wp2_with fail
          refine Calls.mono HOWN.out ?_
          rintro e w4 ⟨S, g1, c1, pa', c2, g3, c3, y, rfl, hsw, hSl, hL, hO, hP, hb4⟩
          have hg4 := Gw.below hb4
          have hg5 := hg4.trans (Gw.new w4 (.cells #[.slice (some ⟨g1, 0, none⟩) y.ts.length c1, .slice pa' y.O.length c2, .slice (some ⟨g3, 0, none⟩) y.ps.length c3] 27))
          have hsw5 := hsw.alloc (.cells #[.slice (some ⟨g1, 0, none⟩) y.ts.length c1, .slice pa' y.O.length c2, .slice (some ⟨g3, 0, none⟩) y.ps.length c3] 27)
          have hbx5 := Blk.new w4 #[.slice (some ⟨g1, 0, none⟩) y.ts.length c1, .slice pa' y.O.length c2, .slice (some ⟨g3, 0, none⟩) y.ps.length c3] 27
          have HLO : Hid (∀ g, (g = g1 ∨ g = g3) → w3.heap.size ≤ g ∧ g < w4.heap.size) := fun g hg => by
            rcases hg with hh | hh <;> rw [hh]
            · exact hsw.ob.lt g1 rfl
            · exact hsw.pr.lt g3 rfl
          have HE : Hid (y.ts.map Prod.snd = K.L ∧ y.O = K.O ∧ y.ps.map Prod.snd = K.P) := ⟨hL, hO, hP⟩
          have HSW5 : Hid _ := hsw5
          have HLOW2 : Hid (∀ b, S b → w3.heap.size ≤ b ∧ b < w4.heap.size ∧ b ≠ g3) := fun b hb => ⟨hSl b hb, (hsw.low b hb).1, (hsw.low b hb).2.2.2⟩
          have HBX5 : Hid _ := hbx5
          have HG5 : Hid (Gw w3 (w4.alloc (.cells #[.slice (some ⟨g1, 0, none⟩) y.ts.length c1, .slice pa' y.O.length c2, .slice (some ⟨g3, 0, none⟩) y.ps.length c3] 27))) := hg5
          have hld := plaidO_any y.O at' ⟨obj, 0⟩ (.slice pa' y.O.length c2) _ (w4.alloc (.cells #[.slice (some ⟨g1, 0, none⟩) y.ts.length c1, .slice pa' y.O.length c2, .slice (some ⟨g3, 0, none⟩) y.ps.length c3] 27)) (hsw5.op.row (even_opn _)) (fun b hb => hb.2) (by rw [hO]; exact HBD.out.opens) (by omega)
          rw [show (opnC ⟨obj, 0⟩).toArray = #[.int .i64 obj, .int .i64 0] from rfl] at hld
          have HLD : Hid _ := hld
          have hpl : y.ps.length = K.P.length := by rw [← hP, List.length_map]
          have HPL : Hid (y.ps.length = K.P.length) := hpl
          have hkl2 : (k : Int) < (y.ps.length : Int) := by omega
          have hzz : (w4.alloc (.cells #[.slice (some ⟨g1, 0, none⟩) y.ts.length c1, .slice pa' y.O.length c2, .slice (some ⟨g3, 0, none⟩) y.ps.length c3] 27)).heap.size = w4.heap.size + 1 := by simp
          have HZZ : Hid _ := hzz
          have b5c := hbx5.cell
          have b5l := hbx5.lt
          clear hsw hSl hL hO hP hb4 hg4 hg5 hsw5 hbx5 HOWN hzz hld hpl
          go_wp2_with fail
          generalize (w4.alloc (.cells #[.slice (some ⟨g1, 0, none⟩) y.ts.length c1, .slice pa' y.O.length c2, .slice (some ⟨g3, 0, none⟩) y.ps.length c3] 27)) = w5 at *
          refine Calls.mono HLD.out ?_
          rintro e w6 ⟨gl, rfl, hm6, hg6⟩
          obtain ⟨n1, n2⟩ := HLO.out g1 (Or.inl rfl)
          obtain ⟨n3, n4⟩ := HLO.out g3 (Or.inr rfl)
          have n5 := HZZ.out
          have n6 := hg6.2.1
          have hlg := (hm6.lt gl rfl).1
          have hop6 := (hm6.lt gl rfl).2
          have HM6 : Hid _ := hm6
          have HG6 : Hid (Gw w5 w6) := hg6
          have ho6 : On (fun b => b < w5.heap.size) w5 w6 := hg6.1
          have HPR6 : Hid (Mine w6 w3.heap.size 43 4 (.slice (some ⟨g3, 0, none⟩) y.ps.length c3) (y.ps.map prcC)) := HSW5.out.pr.on ho6 fun b hb => by have := own_at hb; omega
          have HOB6 : Hid (Mine w6 w3.heap.size 40 9 (.slice (some ⟨g1, 0, none⟩) y.ts.length c1) (y.ts.map objC)) := HSW5.out.ob.on ho6 fun b hb => by have := own_at hb; omega
          have HLS6 : Hid (∀ t ∈ y.ts, Lists w6 S t) := fun t ht => (HSW5.out.lists t ht).on (ho6.less fun b hb => (HSW5.out.low b hb).1)
          have HSL6 : Hid (∀ t ∈ y.ps, Row w6 S 3 (.slice t.1.a t.1.n t.1.c) (t.2.slots.map sltC)) := fun t ht => Row.on (HSW5.out.slots t ht) (ho6.less fun b hb => (HSW5.out.low b hb).1)
          have HT6 : Hid (Tab w6 (fun b => w2.heap.size ≤ b ∧ b < w3.heap.size) (.slice sa l'.length scap) l') := Row.on (Row.on HT3.out (HG5.out.1.less fun b hb => hb.2)) (ho6.less fun b hb => by have := HG5.out.2.1; omega)
          have hbx6 := Blk.on HBX5.out ho6 b5l
          have HBX6 : Hid _ := hbx6
          have b6c := hbx6.cell
          have b6f := hbx6.free
          have b6l := hbx6.lt
          have hr6 := (Blk.on HR3.out HG5.out.1 r3l).on ho6 (by have := HG5.out.2.1; omega)
          have HR6 : Hid _ := hr6
          have r6c := hr6.cell
          have r6f := hr6.free
          have r6l := hr6.lt
          obtain ⟨⟨sl2, x2⟩, hy⟩ : ∃ t, y.ps[k]? = some t := ⟨_, List.getElem?_eq_getElem (by omega)⟩
          obtain ⟨cur, hbk, -, hcc, hcm3, hcs, -⟩ := HPR6.out.blk
          have p3 := mine_cell HPR6.out (even_prc _) (i := k) (cs := prcC (sl2, x2)) (by rw [List.getElem?_map, hy]; rfl) (j := 3) rfl
          have f3 := hbk.free (k * 4 + 3)
          have HY : Hid (y.ps[k]? = some (sl2, x2)) := hy
          unfold maxLen at hcm3
          have nn1 : ¬ w4.heap.size = g3 := by omega
          have nn2 : ¬ g3 = w4.heap.size := by omega
          have nn3 : ¬ w.heap.size + 1 = g3 := by omega
          have nn4 : ¬ g3 = w.heap.size + 1 := by omega
          have nn5 : ¬ w.heap.size + 1 = w4.heap.size := by omega
          have nn6 : ¬ w4.heap.size = w.heap.size + 1 := by omega
          clear hm6 hg6 ho6 hbx6 hr6 hy hbk b5c b5l r3c r3f k3c k3l HLD
          go_wp2_with fail
          clear b6c b6f r6c r6f p3 f3 nn1 nn2 nn3 nn4 nn5 nn6
          have hx2 : x2 = x := by
            have h1 := HX.out.1
            rw [← HE.out.2.2, List.getElem?_map, HY.out] at h1
            simpa using h1
          have HX2 : Hid (x2 = x) := hx2
          clear hx2
          have hGH : w.heap.size + 1 < w3.heap.size := r3l
          have o7 : On (fun b => b ≠ w4.heap.size) w6 (w6.setCell ⟨w4.heap.size, 1, none⟩ (.slice (some ⟨gl, 0, none⟩) (max y.O.length (at' + 1)) (max y.O.length (at' + 1)))) := On.set w6 ⟨w4.heap.size, 1, none⟩ _
          have hm7 := (HPR6.out.on o7 fun b hb => by have := own_at hb; omega).set (even_prc _) k 3 (prcC (sl2, x2)) (.slice sa l'.length scap) (by rw [List.getElem?_map, HY.out]; rfl) (by omega)
          have o8 : On (fun b => b ≠ g3) (w6.setCell ⟨w4.heap.size, 1, none⟩ (.slice (some ⟨gl, 0, none⟩) (max y.O.length (at' + 1)) (max y.O.length (at' + 1)))) ((w6.setCell ⟨w4.heap.size, 1, none⟩ (.slice (some ⟨gl, 0, none⟩) (max y.O.length (at' + 1)) (max y.O.length (at' + 1)))).setCell ⟨g3, k * 4 + 3, none⟩ (.slice sa l'.length scap)) := On.set _ ⟨g3, k * 4 + 3, none⟩ _
          have hr8 : Blk ((w6.setCell ⟨w4.heap.size, 1, none⟩ (.slice (some ⟨gl, 0, none⟩) (max y.O.length (at' + 1)) (max y.O.length (at' + 1)))).setCell ⟨g3, k * 4 + 3, none⟩ (.slice sa l'.length scap)) (w.heap.size + 1) #[.slice none 0 0, .slice none 0 0, .slice none 0 0] 27 := (Blk.other HR6.out (by show w.heap.size + 1 ≠ w4.heap.size; omega) _).other (by show w.heap.size + 1 ≠ g3; omega) _
          have hfc := (hr8.three (.slice (some ⟨g1, 0, none⟩) y.ts.length c1) (.slice (some ⟨gl, 0, none⟩) (max y.O.length (at' + 1)) (max y.O.length (at' + 1))) (.slice (some ⟨g3, 0, none⟩) y.ps.length c3)).cell
          have hg36 : Gw w3 w6 := HG5.out.trans HG6.out
          refine bodyPost_ret (v := .tuple #[.agg #[.slice (some ⟨g1, 0, none⟩) y.ts.length c1, .slice (some ⟨gl, 0, none⟩) (max y.O.length (at' + 1)) (max y.O.length (at' + 1)), .slice (some ⟨g3, 0, none⟩) y.ps.length c3], .int .i64 fd, .int .i64 0]) (by simp [results, Try.results27, go_sem, hfc]) rfl ?_
          clear hfc
          have hgw : Gw w (((((w6.setCell ⟨w4.heap.size, 1, none⟩ (.slice (some ⟨gl, 0, none⟩) (max y.O.length (at' + 1)) (max y.O.length (at' + 1)))).setCell ⟨g3, k * 4 + 3, none⟩ (.slice sa l'.length scap)).setCell ⟨w.heap.size + 1, 0, none⟩ (.slice (some ⟨g1, 0, none⟩) y.ts.length c1)).setCell ⟨w.heap.size + 1, 1, none⟩ (.slice (some ⟨gl, 0, none⟩) (max y.O.length (at' + 1)) (max y.O.length (at' + 1)))).setCell ⟨w.heap.size + 1, 2, none⟩ (.slice (some ⟨g3, 0, none⟩) y.ps.length c3)) :=
            (((((HG3.out.trans hg36).set (by omega) 1 _).set (by omega) _ _).set (by omega) 0 _).set (by omega) 1 _).set (by omega) 2 _
          have o9 : On (fun b => b ≠ w.heap.size + 1) ((w6.setCell ⟨w4.heap.size, 1, none⟩ (.slice (some ⟨gl, 0, none⟩) (max y.O.length (at' + 1)) (max y.O.length (at' + 1)))).setCell ⟨g3, k * 4 + 3, none⟩ (.slice sa l'.length scap)) (((((w6.setCell ⟨w4.heap.size, 1, none⟩ (.slice (some ⟨gl, 0, none⟩) (max y.O.length (at' + 1)) (max y.O.length (at' + 1)))).setCell ⟨g3, k * 4 + 3, none⟩ (.slice sa l'.length scap)).setCell ⟨w.heap.size + 1, 0, none⟩ (.slice (some ⟨g1, 0, none⟩) y.ts.length c1)).setCell ⟨w.heap.size + 1, 1, none⟩ (.slice (some ⟨gl, 0, none⟩) (max y.O.length (at' + 1)) (max y.O.length (at' + 1)))).setCell ⟨w.heap.size + 1, 2, none⟩ (.slice (some ⟨g3, 0, none⟩) y.ps.length c3)) := ((On.set _ ⟨w.heap.size + 1, 0, none⟩ _).trans (On.set _ ⟨w.heap.size + 1, 1, none⟩ _)).trans (On.set _ ⟨w.heap.size + 1, 2, none⟩ _)
          have hz9 : (((((w6.setCell ⟨w4.heap.size, 1, none⟩ (.slice (some ⟨gl, 0, none⟩) (max y.O.length (at' + 1)) (max y.O.length (at' + 1)))).setCell ⟨g3, k * 4 + 3, none⟩ (.slice sa l'.length scap)).setCell ⟨w.heap.size + 1, 0, none⟩ (.slice (some ⟨g1, 0, none⟩) y.ts.length c1)).setCell ⟨w.heap.size + 1, 1, none⟩ (.slice (some ⟨gl, 0, none⟩) (max y.O.length (at' + 1)) (max y.O.length (at' + 1)))).setCell ⟨w.heap.size + 1, 2, none⟩ (.slice (some ⟨g3, 0, none⟩) y.ps.length c3)).heap.size = w6.heap.size := by simp
          generalize hW8 : ((w6.setCell ⟨w4.heap.size, 1, none⟩ (.slice (some ⟨gl, 0, none⟩) (max y.O.length (at' + 1)) (max y.O.length (at' + 1)))).setCell ⟨g3, k * 4 + 3, none⟩ (.slice sa l'.length scap)) = W8 at *
          generalize hW9 : (((W8.setCell ⟨w.heap.size + 1, 0, none⟩ (.slice (some ⟨g1, 0, none⟩) y.ts.length c1)).setCell ⟨w.heap.size + 1, 1, none⟩ (.slice (some ⟨gl, 0, none⟩) (max y.O.length (at' + 1)) (max y.O.length (at' + 1)))).setCell ⟨w.heap.size + 1, 2, none⟩ (.slice (some ⟨g3, 0, none⟩) y.ps.length c3)) = W9 at *
          have o69 : On (fun b => b ≠ w4.heap.size ∧ b ≠ g3 ∧ b ≠ w.heap.size + 1) w6 W9 := ((o7.less fun b hb => hb.1).trans (o8.less fun b hb => hb.2.1)).trans (o9.less fun b hb => hb.2.2)
          refine ⟨hgw, Or.inr ⟨k, x, rfl, HX.out.1, HX.out.2, HOBT.out, Or.inr ⟨at', hat, HAT.out.1, HAT.out.2, Or.inr ⟨by rw [HPR.out], _, _, _, by rw [HPR.out], ?_⟩⟩⟩⟩
          rw [HPR.out]
          have hlow : ∀ b, S b → b ≠ w4.heap.size ∧ b ≠ g3 ∧ b ≠ w.heap.size + 1 := fun b hb => by
            obtain ⟨h1, h2, h3⟩ := HLOW2.out b hb
            exact ⟨by omega, h3, by omega⟩
          have hz3 : w.heap.size ≤ w3.heap.size := HG3.out.2.1
          have hlow9 : ∀ b, S b → w.heap.size ≤ b ∧ b < W9.heap.size := fun b hb => by
            have := HLOW2.out b hb
            omega
          have ap := HSW5.out.apart.2.2
          have hr2l : w.heap.size + 1 < w2.heap.size := Blk.lt HR2.out
          refine ⟨⟨y.ts, HE.out.1.symm, ?_, fun t ht => ?_⟩, ?_, ⟨y.ps.set k (⟨sa, l'.length, scap⟩, { x with slots := l'.map Pr.ofT }), ?_, ?_, fun t ht => ?_⟩⟩
          · exact (Row.on (HOB6.out.rowOwn (even_obj _)) (o69.less fun b hb => by have := own_at hb; exact ⟨by omega, by omega, by omega⟩)).more fun b hb => by have := own_at hb; omega
          · exact ((HLS6.out t ht).on (o69.less hlow)).more hlow9
          · show Row W9 _ 2 _ ((Pr.laid K.O ⟨0, 0⟩ at' ⟨obj, 0⟩).map opnC)
            rw [← HE.out.2.1]
            exact (Row.on (Mine.rowOwn HM6.out (even_opn _)) (o69.less fun b hb => by have := own_at hb; exact ⟨by omega, by omega, by omega⟩)).more fun b hb => by have := own_at hb; omega
          · show K.P.set k _ = _
            rw [List.map_set, HE.out.2.2]
          · have e9 : (y.ps.map prcC).set k ((prcC (sl2, x2)).set 3 (.slice sa l'.length scap)) = (y.ps.set k (⟨sa, l'.length, scap⟩, { x with slots := l'.map Pr.ofT })).map prcC := by
              rw [List.map_set, HX2.out]
              rfl
            rw [e9] at hm7
            exact (Row.on (hm7.rowOwn (even_prc _)) (o9.less fun b hb => by have := own_at hb; omega)).more fun b hb => by have := own_at hb; omega
          · rcases List.mem_or_eq_of_mem_set ht with h1 | h1
            · exact (Row.on (HSL6.out t h1) (o69.less hlow)).more hlow9
            · rw [h1]
              have e8 : (l'.map Pr.ofT).map sltC = l'.map tC := by rw [List.map_map]; rfl
              show Row W9 _ 3 (.slice sa l'.length scap) ((l'.map Pr.ofT).map sltC)
              rw [e8]
              exact (Row.on HT6.out (o69.less fun b hb => ⟨by omega, by omega, by omega⟩)).more fun b hb => by omega
        · go_wp2_with fail
          have hfc := (Blk.three HR3.out (.slice none 0 0) (.slice none 0 0) (.slice none 0 0)).cell
          refine bodyPost_ret (v := .tuple #[zeroK, .int .i64 0, .int .i64 er]) (by simp [results, Try.results27, go_sem, zeroK, hfc]) rfl ⟨?_, Or.inr ⟨k, x, rfl, HX.out.1, HX.out.2, HOBT.out, Or.inr ⟨at', hat, HAT.out.1, HAT.out.2, Or.inl ⟨by rw [HPR.out]; exact her, by rw [HPR.out]⟩⟩⟩⟩
          exact ((HG3.out.set (by omega) 0 _).set (by omega) 1 _).set (by omega) 2 _
      · have HALL : Hid (∀ j, j < 60 → Pr.hadO K.O j = true) := hall
        clear hall
        go_wp2_with fail
        have hfc := (Blk.three HR2.out (.slice none 0 0) (.slice none 0 0) (.slice none 0 0)).cell
        refine bodyPost_ret (v := .tuple #[zeroK, .int .i64 0, .int .i64 15]) (by simp [results, Try.results27, go_sem, zeroK, hfc]) rfl ⟨?_, Or.inr ⟨k, x, rfl, HX.out.1, HX.out.2, HOBT.out, Or.inl ⟨HALL.out, rfl⟩⟩⟩
        exact ((HG2.out.set (by omega) 0 _).set (by omega) 1 _).set (by omega) 2 _
end Go.Proofs.Ytdciohinlhbliaa


/-
  procs.Exit, walked.
-/
namespace Go.Proofs.Ytdciohinlhbliaa
open Go.RowKit
open Wp
namespace Pr
def exited (K : Kn) (p : Nat) (x : Sp.Prc) (code : Int) : Kn := ⟨K.L, K.O, K.P.set p ⟨false, x.fenced, code, []⟩⟩
end Pr
/-- What Exit answers. -/
def ExitW (K : Kn) (p code : Int) (w : World) (e : Ending) (w' : World) : Prop :=
  Gw w w' ∧ ((Pr.live K.P p = false ∧ e = .returned (.tuple #[zeroK, .int .i64 6])) ∨
    ∃ (k : Nat) (x : Sp.Prc), p = (k : Int) ∧ K.P[k]? = some x ∧ x.live = true ∧
      (((code < 0 ∨ 255 < code) ∧ e = .returned (.tuple #[zeroK, .int .i64 3])) ∨
        (0 ≤ code ∧ code ≤ 255 ∧ ∃ a b c, e = .returned (.tuple #[.agg #[a, b, c], .int .i64 0]) ∧ KernIn w' (fun b => w.heap.size ≤ b ∧ b < w'.heap.size) a b c (Pr.exited K k x code))))
set_option maxRecDepth 1000000 in
set_option maxHeartbeats 8000000 in
theorem pexit_any (K : Kn) (p code : Int) (a b c : Value) (w : World) (h : KernAt w a b c K) (hb : Bnd K) :
    Calls Try.prog 24 #[.agg #[a, b, c], .int .i64 p, .int .i64 code] w (ExitW K p code w) := by
  obtain ⟨oa, pa, qa, oc, pc, qc, rfl, rfl, rfl, m1, m2, m3⟩ := h.spell
  have HBD : Hid (Bnd K) := hb
  have hg0 := (Gw.new w (.cells #[.slice oa K.L.length oc, .slice pa K.O.length pc, .slice qa K.P.length qc] 27)).trans (Gw.new _ (.cells #[.slice none 0 0, .slice none 0 0, .slice none 0 0] 27))
  have hk0 : Blk ((w.alloc (.cells #[.slice oa K.L.length oc, .slice pa K.O.length pc, .slice qa K.P.length qc] 27)).alloc (.cells #[.slice none 0 0, .slice none 0 0, .slice none 0 0] 27)) w.heap.size #[.slice oa K.L.length oc, .slice pa K.O.length pc, .slice qa K.P.length qc] 27 := (Blk.new w _ _).alloc _
  have hr0 := blk_new1w w (.cells #[.slice oa K.L.length oc, .slice pa K.O.length pc, .slice qa K.P.length qc] 27) #[.slice none 0 0, .slice none 0 0, .slice none 0 0] 27
  have HKT : Hid (∀ W, Gw w W → KernAt W (.slice oa K.L.length oc) (.slice pa K.O.length pc) (.slice qa K.P.length qc) K) := fun W hg => h.gw hg
  have HG0 : Hid (Gw w ((w.alloc (.cells #[.slice oa K.L.length oc, .slice pa K.O.length pc, .slice qa K.P.length qc] 27)).alloc (.cells #[.slice none 0 0, .slice none 0 0, .slice none 0 0] 27))) := hg0
  have HK0 : Hid _ := hk0
  have HR0 : Hid _ := hr0
  have HLV : Hid _ := plive_any K p _ _ _ _ (h.gw hg0)
  unfold maxLen at m1 m2 m3
  have k00 := hk0.cell
  have kl0 := hk0.lt
  have c0 : ((w.alloc (.cells #[.slice oa K.L.length oc, .slice pa K.O.length pc, .slice qa K.P.length qc] 27)).alloc (.cells #[.slice none 0 0, .slice none 0 0, .slice none 0 0] 27)).cell? ⟨w.heap.size, 0, none⟩ = some (.slice oa K.L.length oc) := k00 0
  have c1 : ((w.alloc (.cells #[.slice oa K.L.length oc, .slice pa K.O.length pc, .slice qa K.P.length qc] 27)).alloc (.cells #[.slice none 0 0, .slice none 0 0, .slice none 0 0] 27)).cell? ⟨w.heap.size, 1, none⟩ = some (.slice pa K.O.length pc) := k00 1
  have c2 : ((w.alloc (.cells #[.slice oa K.L.length oc, .slice pa K.O.length pc, .slice qa K.P.length qc] 27)).alloc (.cells #[.slice none 0 0, .slice none 0 0, .slice none 0 0] 27)).cell? ⟨w.heap.size, 2, none⟩ = some (.slice qa K.P.length qc) := k00 2
  clear h hb hg0 hk0 hr0 k00
  go_enter Try.func24, Try.ntmps24
  go_wp2_with fail
  generalize ((w.alloc (.cells #[.slice oa K.L.length oc, .slice pa K.O.length pc, .slice qa K.P.length qc] 27)).alloc (.cells #[.slice none 0 0, .slice none 0 0, .slice none 0 0] 27)) = w0 at *
  refine Calls.mono HLV.out ?_
  rintro e w1 ⟨rfl, hg1⟩
  have HG1 : Hid (Gw w w1) := Gw.trans HG0.out hg1
  have hk1 := Blk.on HK0.out hg1.1 kl0
  have hr1 := Blk.on HR0.out hg1.1 (Blk.lt HR0.out)
  have HK1 : Hid _ := hk1
  have HR1 : Hid _ := hr1
  have k1c := hk1.cell
  have k1l := hk1.lt
  have r1c := hr1.cell
  have r1f := hr1.free
  have r1l := hr1.lt
  clear hg1 hk1 hr1 c0 c1 c2 HLV
  cases hlv : Pr.live K.P p with
  | false =>
    go_wp2_with fail
    have hfc := (Blk.three HR1.out (.slice none 0 0) (.slice none 0 0) (.slice none 0 0)).cell
    refine bodyPost_ret (v := .tuple #[zeroK, .int .i64 6]) (by simp [results, Try.results24, go_sem, zeroK, hfc]) rfl ⟨?_, Or.inl ⟨hlv, rfl⟩⟩
    exact ((HG1.out.set (by omega) 0 _).set (by omega) 1 _).set (by omega) 2 _
  | true =>
    obtain ⟨k, x, rfl, hx, hxl⟩ := Pr.live_some hlv
    have HX : Hid (K.P[k]? = some x ∧ x.live = true) := ⟨hx, hxl⟩
    clear hx hxl hlv
    by_cases hc0 : code < 0
    · go_wp2_with fail
      have hfc := (Blk.three HR1.out (.slice none 0 0) (.slice none 0 0) (.slice none 0 0)).cell
      refine bodyPost_ret (v := .tuple #[zeroK, .int .i64 3]) (by simp [results, Try.results24, go_sem, zeroK, hfc]) rfl ⟨?_, Or.inr ⟨k, x, rfl, HX.out.1, HX.out.2, Or.inl ⟨Or.inl hc0, rfl⟩⟩⟩
      exact ((HG1.out.set (by omega) 0 _).set (by omega) 1 _).set (by omega) 2 _
    · by_cases hc1 : 255 < code
      · go_wp2_with fail
        have hfc := (Blk.three HR1.out (.slice none 0 0) (.slice none 0 0) (.slice none 0 0)).cell
        refine bodyPost_ret (v := .tuple #[zeroK, .int .i64 3]) (by simp [results, Try.results24, go_sem, zeroK, hfc]) rfl ⟨?_, Or.inr ⟨k, x, rfl, HX.out.1, HX.out.2, Or.inl ⟨Or.inr hc1, rfl⟩⟩⟩
        exact ((HG1.out.set (by omega) 0 _).set (by omega) 1 _).set (by omega) 2 _
      · obtain ⟨q1, q2, q3⟩ := HKT.out w1 HG1.out
        have HOWN : Hid _ := sown_any K _ _ _ _ w1 q1 q2 q3 (fun b hb => hb) HBD.out.fits HBD.out.kinds HBD.out.objs HBD.out.opens HBD.out.procs HBD.out.slots
        clear q1 q2 q3
        go_wp2_with fail
        refine Calls.mono HOWN.out ?_
        rintro e w4 ⟨S, g1, c1, pa', c2, g3, c3, y, rfl, hsw, hSl, hL, hO, hP, hb4⟩
        have hg4 := Gw.below hb4
        have hg5 := hg4.trans (Gw.new w4 (.cells #[.slice (some ⟨g1, 0, none⟩) y.ts.length c1, .slice pa' y.O.length c2, .slice (some ⟨g3, 0, none⟩) y.ps.length c3] 27))
        have hsw5 := hsw.alloc (.cells #[.slice (some ⟨g1, 0, none⟩) y.ts.length c1, .slice pa' y.O.length c2, .slice (some ⟨g3, 0, none⟩) y.ps.length c3] 27)
        have hbx5 := Blk.new w4 #[.slice (some ⟨g1, 0, none⟩) y.ts.length c1, .slice pa' y.O.length c2, .slice (some ⟨g3, 0, none⟩) y.ps.length c3] 27
        have HLO : Hid (∀ g, (g = g1 ∨ g = g3) → w1.heap.size ≤ g ∧ g < w4.heap.size) := fun g hg => by
          rcases hg with hh | hh <;> rw [hh]
          · exact hsw.ob.lt g1 rfl
          · exact hsw.pr.lt g3 rfl
        have HLOP : Hid (∀ g, (Value.slice pa' y.O.length c2).ownBlock = some g → w1.heap.size ≤ g ∧ g < w4.heap.size ∧ g ≠ g3) := fun g hg => ⟨(hsw.op.lt g hg).1, (hsw.op.lt g hg).2, fun e => hsw.apart.2.1 (by rw [← e]; exact hsw.op.blockAt hg)⟩
        have HE : Hid (y.ts.map Prod.snd = K.L ∧ y.O = K.O ∧ y.ps.map Prod.snd = K.P) := ⟨hL, hO, hP⟩
        have HLOW2 : Hid (∀ b, S b → w1.heap.size ≤ b ∧ b < w4.heap.size ∧ b ≠ g3) := fun b hb => ⟨hSl b hb, (hsw.low b hb).1, (hsw.low b hb).2.2.2⟩
        have HSW5 : Hid _ := hsw5
        have HBX5 : Hid _ := hbx5
        have HG5 : Hid (Gw w1 (w4.alloc (.cells #[.slice (some ⟨g1, 0, none⟩) y.ts.length c1, .slice pa' y.O.length c2, .slice (some ⟨g3, 0, none⟩) y.ps.length c3] 27))) := hg5
        have hpl : y.ps.length = K.P.length := by rw [← hP, List.length_map]
        have hkk : k < K.P.length := (List.getElem?_eq_some_iff.1 HX.out.1).1
        have hkl2 : (k : Int) < (y.ps.length : Int) := by omega
        obtain ⟨⟨sl2, x2⟩, hy⟩ : ∃ t, y.ps[k]? = some t := ⟨_, List.getElem?_eq_getElem (by omega)⟩
        obtain ⟨cur, hbk, -, hcc, hcm3, hcs, -⟩ := hsw5.pr.blk
        have p0 := mine_cell hsw5.pr (even_prc _) (i := k) (cs := prcC (sl2, x2)) (by rw [List.getElem?_map, hy]; rfl) (j := 0) rfl
        have p1 := mine_cell hsw5.pr (even_prc _) (i := k) (cs := prcC (sl2, x2)) (by rw [List.getElem?_map, hy]; rfl) (j := 1) rfl
        have p2 := mine_cell hsw5.pr (even_prc _) (i := k) (cs := prcC (sl2, x2)) (by rw [List.getElem?_map, hy]; rfl) (j := 2) rfl
        have p3 := mine_cell hsw5.pr (even_prc _) (i := k) (cs := prcC (sl2, x2)) (by rw [List.getElem?_map, hy]; rfl) (j := 3) rfl
        simp only [Nat.add_zero] at p0
        have f0 := hbk.free (k * 4)
        have f1 := hbk.free (k * 4 + 1)
        have f2 := hbk.free (k * 4 + 2)
        have f3 := hbk.free (k * 4 + 3)
        have HY : Hid (y.ps[k]? = some (sl2, x2)) := hy
        unfold maxLen at hcm3
        obtain ⟨n1, n2⟩ := HLO.out g1 (Or.inl rfl)
        obtain ⟨n3, n4⟩ := HLO.out g3 (Or.inr rfl)
        have hzz : (w4.alloc (.cells #[.slice (some ⟨g1, 0, none⟩) y.ts.length c1, .slice pa' y.O.length c2, .slice (some ⟨g3, 0, none⟩) y.ps.length c3] 27)).heap.size = w4.heap.size + 1 := by simp
        have HZZ : Hid _ := hzz
        have hr5 := Blk.on HR1.out hg5.1 r1l
        have HR5 : Hid _ := hr5
        have r5c := hr5.cell
        have r5f := hr5.free
        have r5l := hr5.lt
        have b5c := hbx5.cell
        have b5l := hbx5.lt
        have nn1 : ¬ w4.heap.size = g3 := by omega
        have nn2 : ¬ g3 = w4.heap.size := by omega
        have nn3 : ¬ w.heap.size + 1 = g3 := by omega
        have nn4 : ¬ g3 = w.heap.size + 1 := by omega
        have nn5 : ¬ w.heap.size + 1 = w4.heap.size := by omega
        have nn6 : ¬ w4.heap.size = w.heap.size + 1 := by omega
        have b52 : (w4.alloc (.cells #[.slice (some ⟨g1, 0, none⟩) y.ts.length c1, .slice pa' y.O.length c2, .slice (some ⟨g3, 0, none⟩) y.ps.length c3] 27)).cell? ⟨w4.heap.size, 2, none⟩ = some (.slice (some ⟨g3, 0, none⟩) y.ps.length c3) := b5c 2
        clear hsw hSl hL hO hP hb4 hg4 hg5 hsw5 hbx5 HOWN hzz hpl hy hbk hr5 r1c r1f r1l k1c k1l
        go_upto_region 6 with fail
        generalize (w4.alloc (.cells #[.slice (some ⟨g1, 0, none⟩) y.ts.length c1, .slice pa' y.O.length c2, .slice (some ⟨g3, 0, none⟩) y.ps.length c3] 27)) = w5 at *
        go_region
        all_goals
          clear f0 f1 f2 f3 p0 p1 p2 p3 b52
          have hx2 : x2 = x := by
            have h1 := HX.out.1
            rw [← HE.out.2.2, List.getElem?_map, HY.out] at h1
            simpa using h1
          have HX2 : Hid (x2 = x) := hx2
          have hGH : w.heap.size + 1 < w1.heap.size := Blk.lt HR1.out
          have hyl : k < y.ps.length := (List.getElem?_eq_some_iff.1 HY.out).1
          obtain ⟨hm8, o8, z8, B8⟩ := HSW5.out.pr.four (even_prc _) k (by rw [List.length_map]; omega) (.bool false) (.bool x2.fenced) (.int .i64 code) (.slice none 0 0) _ rfl
          have HM8 : Hid (Mine (((((w5.setCell ⟨g3, k * 4, none⟩ (.bool false)).setCell ⟨g3, k * 4 + 1, none⟩ (.bool x2.fenced)).setCell ⟨g3, k * 4 + 2, none⟩ (.int .i64 code)).setCell ⟨g3, k * 4 + 3, none⟩ (.slice none 0 0)).drew) w1.heap.size 43 4 (.slice (some ⟨g3, 0, none⟩) y.ps.length c3) ((y.ps.map prcC).set k [.bool false, .bool x2.fenced, .int .i64 code, .slice none 0 0])) := hm8.on (fun b hb => rfl : On (fun _ => True) _ _) fun _ _ => trivial
          have O8 : Hid (On (fun b => b ≠ g3) w5 (((((w5.setCell ⟨g3, k * 4, none⟩ (.bool false)).setCell ⟨g3, k * 4 + 1, none⟩ (.bool x2.fenced)).setCell ⟨g3, k * 4 + 2, none⟩ (.int .i64 code)).setCell ⟨g3, k * 4 + 3, none⟩ (.slice none 0 0)).drew)) := fun b hb => o8 b hb
          have Z8 : Hid ((((((w5.setCell ⟨g3, k * 4, none⟩ (.bool false)).setCell ⟨g3, k * 4 + 1, none⟩ (.bool x2.fenced)).setCell ⟨g3, k * 4 + 2, none⟩ (.int .i64 code)).setCell ⟨g3, k * 4 + 3, none⟩ (.slice none 0 0)).drew).heap.size = w5.heap.size) := z8
          have HR8 : Hid (Blk (((((w5.setCell ⟨g3, k * 4, none⟩ (.bool false)).setCell ⟨g3, k * 4 + 1, none⟩ (.bool x2.fenced)).setCell ⟨g3, k * 4 + 2, none⟩ (.int .i64 code)).setCell ⟨g3, k * 4 + 3, none⟩ (.slice none 0 0)).drew) (w.heap.size + 1) #[.slice none 0 0, .slice none 0 0, .slice none 0 0] 27) := Blk.on HR5.out O8.out (by omega)
          have HB8 : Hid (Blk (((((w5.setCell ⟨g3, k * 4, none⟩ (.bool false)).setCell ⟨g3, k * 4 + 1, none⟩ (.bool x2.fenced)).setCell ⟨g3, k * 4 + 2, none⟩ (.int .i64 code)).setCell ⟨g3, k * 4 + 3, none⟩ (.slice none 0 0)).drew) w4.heap.size #[(.slice (some ⟨g1, 0, none⟩) y.ts.length c1), (.slice pa' y.O.length c2), (.slice (some ⟨g3, 0, none⟩) y.ps.length c3)] 27) := Blk.on HBX5.out O8.out (by omega)
          have hG8 : Gw w1 (((((w5.setCell ⟨g3, k * 4, none⟩ (.bool false)).setCell ⟨g3, k * 4 + 1, none⟩ (.bool x2.fenced)).setCell ⟨g3, k * 4 + 2, none⟩ (.int .i64 code)).setCell ⟨g3, k * 4 + 3, none⟩ (.slice none 0 0)).drew) := ((((HG5.out.set (by omega) _ _).set (by omega) _ _).set (by omega) _ _).set (by omega) _ _).trans (Gw.drew _)
          have HG8 : Hid (Gw w1 (((((w5.setCell ⟨g3, k * 4, none⟩ (.bool false)).setCell ⟨g3, k * 4 + 1, none⟩ (.bool x2.fenced)).setCell ⟨g3, k * 4 + 2, none⟩ (.int .i64 code)).setCell ⟨g3, k * 4 + 3, none⟩ (.slice none 0 0)).drew)) := hG8
          clear hx2 hm8 o8 z8 B8 hG8 r5c r5f b5c
          generalize hW8 : (((((w5.setCell ⟨g3, k * 4, none⟩ (.bool false)).setCell ⟨g3, k * 4 + 1, none⟩ (.bool x2.fenced)).setCell ⟨g3, k * 4 + 2, none⟩ (.int .i64 code)).setCell ⟨g3, k * 4 + 3, none⟩ (.slice none 0 0)).drew) = W8 at *
          clear hW8
          have b8c := HB8.out.cell
          have b8l : w4.heap.size < W8.heap.size := Blk.lt HB8.out
          have r8c := HR8.out.cell
          have r8f := Blk.free HR8.out
          have r8l : w.heap.size + 1 < W8.heap.size := Blk.lt HR8.out
          go_wp2_with fail
          have hfc := (Blk.three HR8.out (.slice (some ⟨g1, 0, none⟩) y.ts.length c1) (.slice pa' y.O.length c2) (.slice (some ⟨g3, 0, none⟩) y.ps.length c3)).cell
          refine bodyPost_ret (v := .tuple #[.agg #[(.slice (some ⟨g1, 0, none⟩) y.ts.length c1), (.slice pa' y.O.length c2), (.slice (some ⟨g3, 0, none⟩) y.ps.length c3)], .int .i64 0]) (by simp [results, Try.results24, go_sem, hfc]) rfl ?_
          clear hfc b8c r8c r8f
          have hgw : Gw w (((W8.setCell ⟨w.heap.size + 1, 0, none⟩ (.slice (some ⟨g1, 0, none⟩) y.ts.length c1)).setCell ⟨w.heap.size + 1, 1, none⟩ (.slice pa' y.O.length c2)).setCell ⟨w.heap.size + 1, 2, none⟩ (.slice (some ⟨g3, 0, none⟩) y.ps.length c3)) := (((HG1.out.trans HG8.out).set (by omega) 0 _).set (by omega) 1 _).set (by omega) 2 _
          have o9 : On (fun b => b ≠ w.heap.size + 1) W8 (((W8.setCell ⟨w.heap.size + 1, 0, none⟩ (.slice (some ⟨g1, 0, none⟩) y.ts.length c1)).setCell ⟨w.heap.size + 1, 1, none⟩ (.slice pa' y.O.length c2)).setCell ⟨w.heap.size + 1, 2, none⟩ (.slice (some ⟨g3, 0, none⟩) y.ps.length c3)) := ((On.set _ ⟨w.heap.size + 1, 0, none⟩ _).trans (On.set _ ⟨w.heap.size + 1, 1, none⟩ _)).trans (On.set _ ⟨w.heap.size + 1, 2, none⟩ _)
          have hz9 : (((W8.setCell ⟨w.heap.size + 1, 0, none⟩ (.slice (some ⟨g1, 0, none⟩) y.ts.length c1)).setCell ⟨w.heap.size + 1, 1, none⟩ (.slice pa' y.O.length c2)).setCell ⟨w.heap.size + 1, 2, none⟩ (.slice (some ⟨g3, 0, none⟩) y.ps.length c3)).heap.size = W8.heap.size := by simp
          generalize hW9 : (((W8.setCell ⟨w.heap.size + 1, 0, none⟩ (.slice (some ⟨g1, 0, none⟩) y.ts.length c1)).setCell ⟨w.heap.size + 1, 1, none⟩ (.slice pa' y.O.length c2)).setCell ⟨w.heap.size + 1, 2, none⟩ (.slice (some ⟨g3, 0, none⟩) y.ps.length c3)) = W9 at *
          clear hW9
          have o59 : On (fun b => b ≠ g3 ∧ b ≠ w.heap.size + 1) w5 W9 := (O8.out.less fun b hb => hb.1).trans (o9.less fun b hb => hb.2)
          have z8 := Z8.out
          have z5 := HZZ.out
          have ap := HSW5.out.apart.2.2
          have hz3 : w.heap.size ≤ w1.heap.size := HG1.out.2.1
          refine ⟨hgw, Or.inr ⟨k, x, rfl, HX.out.1, HX.out.2, Or.inr ⟨by omega, by omega, _, _, _, rfl, ?_⟩⟩⟩
          refine ⟨⟨y.ts, HE.out.1.symm, ?_, fun t ht => ?_⟩, ?_, ⟨y.ps.set k (⟨none, 0, 0⟩, ⟨false, x.fenced, code, []⟩), ?_, ?_, fun t ht => ?_⟩⟩
          · exact (Row.on (HSW5.out.ob.rowOwn (even_obj _)) (o59.less fun b hb => by have := own_at hb; exact ⟨by omega, by omega⟩)).more fun b hb => by have := own_at hb; omega
          · exact ((HSW5.out.lists t ht).on (o59.less fun b hb => by have := HLOW2.out b hb; exact ⟨this.2.2, by omega⟩)).more fun b hb => by have := HLOW2.out b hb; omega
          · show Row W9 _ 2 _ (K.O.map opnC)
            rw [← HE.out.2.1]
            exact (Row.on (HSW5.out.op.rowOwn (even_opn _)) (o59.less fun b hb => by have := HLOP.out b hb; exact ⟨this.2.2, by omega⟩)).more fun b hb => by have := HLOP.out b hb; omega
          · show K.P.set k _ = _
            rw [List.map_set, HE.out.2.2]
          · have e9 : (y.ps.map prcC).set k [.bool false, .bool x2.fenced, .int .i64 code, .slice none 0 0] = (y.ps.set k (⟨none, 0, 0⟩, ⟨false, x.fenced, code, []⟩)).map prcC := by
              rw [List.map_set, HX2.out]
              rfl
            have hm := HM8.out
            rw [e9] at hm
            exact (Row.on (Mine.rowOwn hm (even_prc _)) (o9.less fun b hb => by have := own_at hb; omega)).more fun b hb => by have := own_at hb; omega
          · rcases List.mem_or_eq_of_mem_set ht with h1 | h1
            · exact (Row.on (HSW5.out.slots t h1) (o59.less fun b hb => by have := HLOW2.out b hb; exact ⟨this.2.2, by omega⟩)).more fun b hb => by have := HLOW2.out b hb; omega
            · rw [h1]
              exact Row.nil _ _ _ _ _
end Go.Proofs.Ytdciohinlhbliaa


/-
  store.Make where a number is free, walked; both ways of it.
-/
namespace Go.Proofs.Ytdciohinlhbliaa
open Go.RowKit
open Wp
theorem freeFrom_some : ∀ (L : List Sp.Ob) (i : Nat), Sp.freeFrom L i = -1 ∨ ∃ k : Nat, Sp.freeFrom L i = ((i + k : Nat) : Int) ∧ k < L.length
  | [], _ => Or.inl rfl
  | o :: t, i => by
    unfold Sp.freeFrom
    split
    · exact Or.inr ⟨0, by simp, by simp⟩
    · rcases freeFrom_some t (i + 1) with h | ⟨k, h, hk⟩
      · exact Or.inl h
      · exact Or.inr ⟨k + 1, by rw [h]; congr 1; omega, by simp; omega⟩
namespace Pr
/-- What Make makes: its number, and the objects. -/
def madeAt (L : List Sp.Ob) : Nat := if Sp.freeFrom L 0 = -1 then L.length else (Sp.freeFrom L 0).toNat
def madeL (L : List Sp.Ob) (o : Sp.Ob) : List Sp.Ob := if Sp.freeFrom L 0 = -1 then L ++ [o] else L.set (Sp.freeFrom L 0).toNat o
end Pr
set_option maxRecDepth 100000 in
set_option maxHeartbeats 4000000 in
theorem make_set (L : List Sp.Ob) (s : Sls) (o : Sp.Ob) (v : Value) (S : Nat → Prop) (w : World) (hv : Objs w S v L) (hS : ∀ b, S b → b < w.heap.size) (hf : ∀ o ∈ L, Fits o) (hn : L.length ≤ 1000) (k : Nat) (hfree : Sp.freeFrom L 0 = (k : Int)) (hk : k < L.length) (ho : Lists w S (s, o)) (hfo : Fits o) :
    Calls Try.prog 53 #[v, .agg (objC (s, o)).toArray] w fun e w' => ∃ v', e = .returned (.tuple #[v', .int .i64 (k : Int), .int .i64 0]) ∧ Objs w' (fun b => w.heap.size ≤ b ∧ b < w'.heap.size) v' (L.set k o) ∧ Below w.heap.size w w' := by
  have HI : Hid (∀ W, Below w.heap.size w W → Calls Try.prog 75 #[v, .func (.func 76) #[] #[]] W fun e w' => e = .returned (.int .i64 (k : Int)) ∧ Below W.heap.size W w') := fun W hW => by
    have := idxO_any L v S W (hv.on ((On.of hW).less hS)) (fun b hb => Nat.lt_of_lt_of_le (hS b hb) hW.size)
    rw [hfree] at this
    exact this
  have HO : Hid (∀ W, Below w.heap.size w W → Calls Try.prog 37 #[v] W fun e w' => e = .returned (.slice (some ⟨W.heap.size, 0, none⟩) L.length L.length) ∧ ∃ (ts : List (Sls × Sp.Ob)) (m : Nat → Nat), L = ts.map Prod.snd ∧ Mine w' W.heap.size 40 9 (.slice (some ⟨W.heap.size, 0, none⟩) L.length L.length) (ts.map objC) ∧ OwnAll w' (W.heap.size + 1) ts m ∧ Below W.heap.size W w') := fun W hW => own_any L v S W (hv.on ((On.of hW).less hS)) (fun b hb => Nat.lt_of_lt_of_le (hS b hb) hW.size) hf (by omega)
  have HOO : Hid (∀ W, Below w.heap.size w W → Calls Try.prog 68 #[.agg (objC (s, o)).toArray] W fun e w' => ∃ s' : Sls, e = .returned (.agg (objC (s', o)).toArray) ∧ OwnL w' W.heap.size w'.heap.size (s', o) ∧ Below W.heap.size W w') := fun W hW => ownObject_any s o S W (ho.on ((On.of hW).less hS)) (fun b hb => Nat.lt_of_lt_of_le (hS b hb) hW.size) hfo
  obtain ⟨a, c, rfl, -⟩ := hv.form
  clear hv hS hf ho hfo hfree
  simp only [objV_eq] at HOO ⊢
  have hk0 : ¬ (k : Int) < 0 := by omega
  have hkz : (k : Int) < (L.length : Int) := by omega
  go_enter Try.func53, Try.ntmps53
  go_wp2_with fail
  refine Calls.mono (HI.out _ ((Below.refl _ _).alloc (Nat.le_refl _) _)) ?_
  rintro e w2 ⟨rfl, hb2⟩
  have HB2 : Hid (Below w.heap.size w w2) := ((Below.refl _ _).alloc (Nat.le_refl _) _).trans (hb2.mono (by simp))
  have box2 : Blk w2 w.heap.size #[.int .i64 o.kind, .slice s.d.a s.d.n s.d.c, .slice s.e.a s.e.n s.e.c, .string o.target, .int .i64 o.peer, .slice s.q.a s.q.n s.q.c, .int .i64 o.proc, .int .i64 o.links, .int .i64 o.up] 40 := (Blk.new w _ _).below hb2 (by simp)
  have HBO : Hid _ := box2
  clear hb2 HI box2
  go_wp2_with fail
  refine Calls.mono (HO.out _ HB2.out) ?_
  rintro e w3 ⟨rfl, ts, m, hL, hM, hA, hb3⟩
  have HB3 : Hid (Below w.heap.size w w3) := HB2.out.trans (hb3.mono HB2.out.size)
  have hbox3 := Blk.below HBO.out hb3 (Blk.lt HBO.out)
  have c3 := hbox3.cell
  have hz23 : w.heap.size < w2.heap.size := Blk.lt HBO.out
  have HL : Hid _ := hL
  have HM : Hid (Mine w3 w2.heap.size 40 9 (.slice (some ⟨w2.heap.size, 0, none⟩) L.length L.length) (ts.map objC)) := hM
  have HA : Hid (OwnAll w3 (w2.heap.size + 1) ts m) := hA
  clear hb3 hbox3 hL hM hA HBO HO
  go_wp2_with fail
  refine Calls.mono (HOO.out _ HB3.out) ?_
  rintro e w4 ⟨s4, rfl, hL4, hb4⟩
  have HB4 : Hid (Below w.heap.size w w4) := HB3.out.trans (hb4.mono HB3.out.size)
  have hm4 : Mine w4 w2.heap.size 40 9 (.slice (some ⟨w2.heap.size, 0, none⟩) L.length L.length) (ts.map objC) := HM.out.on (On.of hb4) fun g hg => (HM.out.lt g hg).2
  have HM4 : Hid _ := hm4
  have HA4 : Hid (OwnAll w4 (w2.heap.size + 1) ts m) := HA.out.on ((On.of hb4).less fun b hb => hb.2) hb4.size
  have HL4 : Hid (Lists w4 (fun b => w3.heap.size ≤ b ∧ b < w4.heap.size) (s4, o)) := hL4.lists
  have hz34 : w3.heap.size ≤ w4.heap.size := hb4.size
  have hz24 : w2.heap.size < w3.heap.size := (HM.out.lt _ rfl).2
  have hlt : ts.length = L.length := by rw [HL.out, List.length_map]
  obtain ⟨t, ht⟩ : ∃ t, ts[k]? = some t := ⟨_, List.getElem?_eq_getElem (by omega)⟩
  obtain ⟨cur, hbk, -, -, -, hcs, -⟩ := hm4.blk
  have q0 := mine_cell hm4 (even_obj _) (i := k) (cs := objC t) (by rw [List.getElem?_map, ht]; rfl) (j := 0) rfl
  have q1 := mine_cell hm4 (even_obj _) (i := k) (cs := objC t) (by rw [List.getElem?_map, ht]; rfl) (j := 1) rfl
  have q2 := mine_cell hm4 (even_obj _) (i := k) (cs := objC t) (by rw [List.getElem?_map, ht]; rfl) (j := 2) rfl
  have q3 := mine_cell hm4 (even_obj _) (i := k) (cs := objC t) (by rw [List.getElem?_map, ht]; rfl) (j := 3) rfl
  have q4 := mine_cell hm4 (even_obj _) (i := k) (cs := objC t) (by rw [List.getElem?_map, ht]; rfl) (j := 4) rfl
  have q5 := mine_cell hm4 (even_obj _) (i := k) (cs := objC t) (by rw [List.getElem?_map, ht]; rfl) (j := 5) rfl
  have q6 := mine_cell hm4 (even_obj _) (i := k) (cs := objC t) (by rw [List.getElem?_map, ht]; rfl) (j := 6) rfl
  have q7 := mine_cell hm4 (even_obj _) (i := k) (cs := objC t) (by rw [List.getElem?_map, ht]; rfl) (j := 7) rfl
  have q8 := mine_cell hm4 (even_obj _) (i := k) (cs := objC t) (by rw [List.getElem?_map, ht]; rfl) (j := 8) rfl
  simp only [Nat.add_zero] at q0
  have f0 := hbk.free (k * 9)
  have f1 := hbk.free (k * 9 + 1)
  have f2 := hbk.free (k * 9 + 2)
  have f3 := hbk.free (k * 9 + 3)
  have f4 := hbk.free (k * 9 + 4)
  have f5 := hbk.free (k * 9 + 5)
  have f6 := hbk.free (k * 9 + 6)
  have f7 := hbk.free (k * 9 + 7)
  have f8 := hbk.free (k * 9 + 8)
  have HLT : Hid (ts.length = L.length) := hlt
  clear hb4 hL4 HM HA HB3 HOO c3 hm4 hbk ht hlt
  go_wp2_with fail
  go_ret3
  obtain ⟨r1, r2, r3⟩ := Mine.nine HM4.out (even_obj _) k (by rw [List.length_map, HLT.out]; exact hk) (.int .i64 o.kind) (.slice s4.d.a s4.d.n s4.d.c) (.slice s4.e.a s4.e.n s4.e.c) (.string o.target) (.int .i64 o.peer) (.slice s4.q.a s4.q.n s4.q.c) (.int .i64 o.proc) (.int .i64 o.links) (.int .i64 o.up) _ rfl
  refine ⟨_, rfl, ⟨ts.set k (s4, o), by rw [List.map_set, HL.out], ?_, fun t ht => ?_⟩, ?_⟩
  · rw [show (ts.set k (s4, o)).map objC = (ts.map objC).set k (objC (s4, o)) from List.map_set ..]
    exact (r1.row (fun cs hcs => by
      rcases List.mem_or_eq_of_mem_set hcs with h1 | h1
      · exact even_obj _ cs h1
      · rw [h1]; rfl)).more fun b hb => ⟨by omega, hb.2⟩
  · rcases List.mem_or_eq_of_mem_set ht with h1 | h1
    · exact ((ownAll_lists HA4.out t h1).on (r2.less fun b hb => by show b ≠ w2.heap.size; omega)).more fun b hb => ⟨by omega, by rw [r3]; exact hb.2⟩
    · rw [h1]
      exact (HL4.out.on (r2.less fun b hb => by show b ≠ w2.heap.size; omega)).more fun b hb => ⟨by omega, by rw [r3]; exact hb.2⟩
  · exact ((((((((HB4.out.setCell (by show w.heap.size ≤ w2.heap.size; omega) _).setCell (by show w.heap.size ≤ w2.heap.size; omega) _).setCell (by show w.heap.size ≤ w2.heap.size; omega) _).setCell (by show w.heap.size ≤ w2.heap.size; omega) _).setCell (by show w.heap.size ≤ w2.heap.size; omega) _).setCell (by show w.heap.size ≤ w2.heap.size; omega) _).setCell (by show w.heap.size ≤ w2.heap.size; omega) _).setCell (by show w.heap.size ≤ w2.heap.size; omega) _).setCell (by show w.heap.size ≤ w2.heap.size; omega) _
theorem make_any (L : List Sp.Ob) (s : Sls) (o : Sp.Ob) (v : Value) (S : Nat → Prop) (w : World) (hv : Objs w S v L) (hS : ∀ b, S b → b < w.heap.size) (hf : ∀ o ∈ L, Fits o) (hn : L.length < 40) (ho : Lists w S (s, o)) (hfo : Fits o) :
    Calls Try.prog 53 #[v, .agg (objC (s, o)).toArray] w fun e w' => ∃ v', e = .returned (.tuple #[v', .int .i64 (Pr.madeAt L : Nat), .int .i64 0]) ∧ Objs w' (fun b => w.heap.size ≤ b ∧ b < w'.heap.size) v' (Pr.madeL L o) ∧ Below w.heap.size w w' := by
  unfold Pr.madeAt Pr.madeL
  rcases freeFrom_some L 0 with h | ⟨k, h, hk⟩
  · rw [if_pos h, if_pos h]
    exact make_app L s o v S w hv hS hf hn h ho hfo
  · rw [Nat.zero_add] at h
    have hne : ¬ Sp.freeFrom L 0 = -1 := by rw [h]; omega
    rw [if_neg hne, if_neg hne, h, Int.toNat_natCast]
    exact make_set L s o v S w hv hS hf (by omega) k h hk ho hfo
end Go.Proofs.Ytdciohinlhbliaa

/-
  procs.Fork, walked.
-/
namespace Go.Proofs.Ytdciohinlhbliaa
open Go.RowKit
open Wp
namespace Pr
def kid (c : Nat) : Sp.Ob := ⟨5, [], [], ⟨#[]⟩, -1, [], c, 0, 0⟩
/-- A kernel in which a process is one more. -/
def forked (K : Kn) (c : Nat) (x : Sp.Prc) : Kn := ⟨madeL K.L (kid c), K.O, laid K.P ⟨false, false, 0, []⟩ c ⟨true, x.fenced, 0, x.slots⟩⟩
def taken (K : Kn) (j : Nat) : Bool := live K.P j || heldB K.L j
theorem laid_map {α β : Type} (f : α → β) (l : List α) (z : α) (k : Nat) (x : α) : (laid l z k x).map f = laid (l.map f) (f z) k (f x) := by
  unfold laid
  rw [List.map_set, List.map_append, List.map_replicate, List.length_map]
theorem madeL_len (L : List Sp.Ob) (o : Sp.Ob) : (madeL L o).length ≤ L.length + 1 := by
  unfold madeL
  split
  · simp
  · simp
theorem madeL_mem {L : List Sp.Ob} {o x : Sp.Ob} (h : x ∈ madeL L o) : x ∈ L ∨ x = o := by
  unfold madeL at h
  split at h
  · rcases List.mem_append.1 h with h | h
    · exact Or.inl h
    · exact Or.inr (by simpa using h)
  · exact List.mem_or_eq_of_mem_set h
theorem madeL_at (L : List Sp.Ob) (o : Sp.Ob) : (madeL L o)[madeAt L]? = some o := by
  unfold madeL madeAt
  rcases freeFrom_some L 0 with h | ⟨k, h, hk⟩
  · rw [if_pos h, if_pos h]; simp
  · rw [Nat.zero_add] at h
    have hne : ¬ Sp.freeFrom L 0 = -1 := by rw [h]; omega
    rw [if_neg hne, if_neg hne, h, Int.toNat_natCast, List.getElem?_set, if_pos rfl, if_pos hk]
theorem laid_mem {α : Type} {l : List α} {z : α} {k : Nat} {x y : α} (h : y ∈ laid l z k x) : y ∈ l ∨ y = z ∨ y = x := by
  unfold laid at h
  rcases List.mem_or_eq_of_mem_set h with h | h
  · rcases List.mem_append.1 h with h | h
    · exact Or.inl h
    · exact Or.inr (Or.inl (List.mem_replicate.1 h).2)
  · exact Or.inr (Or.inr h)
end Pr
theorem KernIn.more {w : World} {S S' : Nat → Prop} {a b c : Value} {K : Kn} (h : KernIn w S a b c K) (hS : ∀ b, S b → S' b) : KernIn w S' a b c K :=
  ⟨h.1.more hS, Row.more h.2.1 hS, procs_more h.2.2 hS⟩
/-- What Fork answers. -/
def ForkW (K : Kn) (p : Int) (w : World) (e : Ending) (w' : World) : Prop :=
  Gw w w' ∧ ((Pr.live K.P p = false ∧ e = .returned (.tuple #[zeroK, .int .i64 0, .int .i64 0, .int .i64 6])) ∨
    ((Pr.live K.P p = true ∧ ∀ j, j < 8 → Pr.taken K j = true) ∧ e = .returned (.tuple #[zeroK, .int .i64 0, .int .i64 0, .int .i64 15])) ∨
    ∃ (k : Nat) (x : Sp.Prc) (c : Nat), p = (k : Int) ∧ K.P[k]? = some x ∧ x.live = true ∧ c < 8 ∧ Pr.taken K c = false ∧ (∀ j, j < c → Pr.taken K j = true) ∧
      (((∀ j, j < 60 → Pr.hadO K.O j = true) ∧ e = .returned (.tuple #[zeroK, .int .i64 0, .int .i64 0, .int .i64 15])) ∨
        ∃ at' : Nat, at' < 60 ∧ Pr.hadO K.O at' = false ∧ (∀ j, j < at' → Pr.hadO K.O j = true) ∧
          (((Tb.putR (x.slots.map toT) at' 3200).2.2 ≠ 0 ∧ e = .returned (.tuple #[zeroK, .int .i64 0, .int .i64 0, .int .i64 (Tb.putR (x.slots.map toT) at' 3200).2.2])) ∨
            ((Tb.putR (x.slots.map toT) at' 3200).2.2 = 0 ∧ ∃ a b c', e = .returned (.tuple #[.agg #[a, b, c'], .int .i64 c, .int .i64 (Tb.putR (x.slots.map toT) at' 3200).2.1, .int .i64 0]) ∧ KernIn w' (fun b => w.heap.size ≤ b ∧ b < w'.heap.size) a b c' (Pr.opened (Pr.forked K c x) k x at' (Pr.madeAt K.L) (Tb.putR (x.slots.map toT) at' 3200).1)))))
theorem enters_forkF : Enters Try.prog 50 := enters_of Try.func50 (by kernel_rfl) rfl
set_option maxRecDepth 1000000 in
set_option maxHeartbeats 8000000 in
theorem pfork_any (K : Kn) (p : Int) (a b c : Value) (w : World) (h : KernAt w a b c K) (hb : Bnd K) (h40 : K.L.length < 40) :
    Calls Try.prog 20 #[.agg #[a, b, c], .int .i64 p] w (ForkW K p w) := by
  obtain ⟨oa, pa, qa, oc, pc, qc, rfl, rfl, rfl, m1, m2, m3⟩ := h.spell
  have HBD : Hid (Bnd K) := hb
  have hg0 := (Gw.new w (.cells #[.slice oa K.L.length oc, .slice pa K.O.length pc, .slice qa K.P.length qc] 27)).trans (Gw.new _ (.cells #[.slice none 0 0, .slice none 0 0, .slice none 0 0] 27))
  have hk0 : Blk ((w.alloc (.cells #[.slice oa K.L.length oc, .slice pa K.O.length pc, .slice qa K.P.length qc] 27)).alloc (.cells #[.slice none 0 0, .slice none 0 0, .slice none 0 0] 27)) w.heap.size #[.slice oa K.L.length oc, .slice pa K.O.length pc, .slice qa K.P.length qc] 27 := (Blk.new w _ _).alloc _
  have hr0 := blk_new1w w (.cells #[.slice oa K.L.length oc, .slice pa K.O.length pc, .slice qa K.P.length qc] 27) #[.slice none 0 0, .slice none 0 0, .slice none 0 0] 27
  have HKT : Hid (∀ W, Gw w W → KernAt W (.slice oa K.L.length oc) (.slice pa K.O.length pc) (.slice qa K.P.length qc) K) := fun W hg => h.gw hg
  have HG0 : Hid (Gw w ((w.alloc (.cells #[.slice oa K.L.length oc, .slice pa K.O.length pc, .slice qa K.P.length qc] 27)).alloc (.cells #[.slice none 0 0, .slice none 0 0, .slice none 0 0] 27))) := hg0
  have HK0 : Hid _ := hk0
  have HR0 : Hid _ := hr0
  have HLV : Hid _ := plive_any K p _ _ _ _ (h.gw hg0)
  unfold maxLen at m1 m2 m3
  have k00 := hk0.cell
  have kl0 := hk0.lt
  have c0 : ((w.alloc (.cells #[.slice oa K.L.length oc, .slice pa K.O.length pc, .slice qa K.P.length qc] 27)).alloc (.cells #[.slice none 0 0, .slice none 0 0, .slice none 0 0] 27)).cell? ⟨w.heap.size, 0, none⟩ = some (.slice oa K.L.length oc) := k00 0
  have c1 : ((w.alloc (.cells #[.slice oa K.L.length oc, .slice pa K.O.length pc, .slice qa K.P.length qc] 27)).alloc (.cells #[.slice none 0 0, .slice none 0 0, .slice none 0 0] 27)).cell? ⟨w.heap.size, 1, none⟩ = some (.slice pa K.O.length pc) := k00 1
  have c2 : ((w.alloc (.cells #[.slice oa K.L.length oc, .slice pa K.O.length pc, .slice qa K.P.length qc] 27)).alloc (.cells #[.slice none 0 0, .slice none 0 0, .slice none 0 0] 27)).cell? ⟨w.heap.size, 2, none⟩ = some (.slice qa K.P.length qc) := k00 2
  clear h hb hg0 hk0 hr0 k00
  go_enter Try.func20, Try.ntmps20
  go_wp2_with fail
  generalize ((w.alloc (.cells #[.slice oa K.L.length oc, .slice pa K.O.length pc, .slice qa K.P.length qc] 27)).alloc (.cells #[.slice none 0 0, .slice none 0 0, .slice none 0 0] 27)) = w0 at *
  refine Calls.mono HLV.out ?_
  rintro e w1 ⟨rfl, hg1⟩
  have HG1 : Hid (Gw w w1) := Gw.trans HG0.out hg1
  have hk1 := Blk.on HK0.out hg1.1 kl0
  have hr1 := Blk.on HR0.out hg1.1 (Blk.lt HR0.out)
  have HK1 : Hid _ := hk1
  have HR1 : Hid _ := hr1
  have k1c := hk1.cell
  have k1l := hk1.lt
  have r1c := hr1.cell
  have r1f := hr1.free
  have r1l := hr1.lt
  clear hg1 hk1 hr1 c0 c1 c2 HLV
  cases hlv : Pr.live K.P p with
  | false =>
    go_wp2_with fail
    have hfc := (Blk.three HR1.out (.slice none 0 0) (.slice none 0 0) (.slice none 0 0)).cell
    refine bodyPost_ret (v := .tuple #[zeroK, .int .i64 0, .int .i64 0, .int .i64 6]) (by simp [results, Try.results20, go_sem, zeroK, hfc]) rfl ⟨?_, Or.inl ⟨hlv, rfl⟩⟩
    exact ((HG1.out.set (by omega) 0 _).set (by omega) 1 _).set (by omega) 2 _
  | true =>
    obtain ⟨k, x, rfl, hx, hxl⟩ := Pr.live_some hlv
    have HX : Hid (K.P[k]? = some x ∧ x.live = true) := ⟨hx, hxl⟩
    have HLOW : Hid _ := plow_any 8 (by omega) 50 #[.pointer (some ⟨w.heap.size, 0, none⟩)] (Pr.taken K) w1 enters_forkF fun j W hj hg => (forkF_any K j w.heap.size _ _ _ W (HKT.out W (HG1.out.trans hg)) (Blk.on HK1.out hg.1 k1l)).mono fun e w'' hh => hh
    clear hx hxl hlv
    go_wp2_with fail
    refine Calls.mono HLOW.out ?_
    rintro e w2 ⟨hg2, hr⟩
    have HG2 : Hid (Gw w w2) := HG1.out.trans hg2
    have hr2 := Blk.on HR1.out hg2.1 r1l
    have hk2 := Blk.on HK1.out hg2.1 k1l
    have HR2 : Hid _ := hr2
    have HK2 : Hid _ := hk2
    have r2c := hr2.cell
    have r2f := hr2.free
    have r2l := hr2.lt
    have k2c := hk2.cell
    have k2l := hk2.lt
    clear hg2 hr2 hk2 r1c r1f r1l k1c k1l HLOW
    rcases hr with ⟨ch, hch, hf, hall, rfl⟩ | ⟨hall, rfl⟩
    · have HCH : Hid (Pr.taken K ch = false ∧ ∀ j, j < ch → Pr.taken K j = true) := ⟨hf, hall⟩
      have hmk := make_any K.L sl0 (Pr.kid ch) (.slice oa K.L.length oc) _ w2 (HKT.out w2 HG2.out).1 (fun b hb => hb) HBD.out.fits h40 ⟨Row.nil _ _ _ _ _, Row.nil _ _ _ _ _, ⟨[], rfl, Row.nil _ _ _ _ _, fun t ht => by cases ht⟩⟩ (by unfold Fits Pr.kid; simp)
      rw [show (objC (sl0, Pr.kid ch)).toArray = #[.int .i64 5, .slice none 0 0, .slice none 0 0, .string ⟨#[]⟩, .int .i64 (-1), .slice none 0 0, .int .i64 ch, .int .i64 0, .int .i64 0] from rfl] at hmk
      have HMK : Hid _ := hmk
      clear hf hall hmk
      go_wp2_with fail
      refine Calls.mono HMK.out ?_
      rintro e w5 ⟨v5, rfl, hob5, hb5⟩
      obtain ⟨na, nc, rfl, hnm⟩ := hob5.form
      have hg25 := Gw.below hb5
      have HG5 : Hid (Gw w w5) := HG2.out.trans hg25
      have hz25 := hg25.2.1
      have hk5 := Blk.on HK2.out hg25.1 k2l
      have hr5 := Blk.on HR2.out hg25.1 r2l
      have HK5 : Hid _ := hk5
      have HR5 : Hid _ := hr5
      have HOB5 : Hid _ := hob5
      obtain ⟨-, hop0, ps, hps, hprow, hsl⟩ := HKT.out w (Gw.refl w)
      have HOP0 : Hid _ := hop0
      have HPS : Hid (K.P = ps.map Prod.snd) := hps
      have HPROW : Hid _ := hprow
      have HSL : Hid _ := hsl
      have hpl : K.P.length = ps.length := by rw [hps, List.length_map]
      have hkk : k < K.P.length := (List.getElem?_eq_some_iff.1 HX.out.1).1
      have hkz : (k : Int) < (K.P.length : Int) := by omega
      obtain ⟨⟨sl, x0⟩, hy⟩ : ∃ t, ps[k]? = some t := ⟨_, List.getElem?_eq_getElem (by omega)⟩
      have hx0 : x0 = x := by
        have h1 := HX.out.1
        rw [hps, List.getElem?_map, hy] at h1
        simpa using h1
      subst hx0
      have HY : Hid (ps[k]? = some (sl, x0)) := hy
      have hpr5 := Row.on hprow HG5.out.1
      obtain ⟨g, o, c', he, hSb, hc, hcm, h5⟩ := Row.some hpr5 (by rw [List.length_map]; omega)
      obtain ⟨rfl, -, rfl⟩ := Value.slice.inj he
      have hi := h5 k _ (by rw [List.getElem?_map, hy]; rfl)
      have d0 := hi 0 _ rfl
      have d1 := hi 1 _ rfl
      have d2 := hi 2 _ rfl
      have d3 := hi 3 _ rfl
      simp only [Nat.add_zero] at d0
      dsimp only at d0 d1 d2 d3
      rw [List.length_map] at hc
      rw [← hpl] at hc
      unfold maxLen at hcm hnm
      have k5c := hk5.cell
      have k5f := hk5.free
      have k5l := hk5.lt
      have hgl : g < w.heap.size := hSb
      have nn1 : ¬ w5.heap.size = w.heap.size := by omega
      have nn2 : ¬ w.heap.size = w5.heap.size := by omega
      have hon7 : On (fun b => b < w.heap.size) w ((w5.setCell ⟨w.heap.size, 0, none⟩ (.slice na (Pr.madeL K.L (Pr.kid ch)).length nc)).alloc (.cells #[.bool x0.live, .bool x0.fenced, .int .i64 x0.code, .slice sl.a sl.n sl.c] 43)) := (HG5.out.1.trans ((On.set _ ⟨w.heap.size, 0, none⟩ _).less fun b hb => by show b ≠ w.heap.size; omega)).trans ((On.alloc _ _).less fun b hb => by have := HG5.out.2.1; simp; omega)
      have hld := plaidP_any ps ch (sl, ⟨true, x0.fenced, 0, x0.slots⟩) (.slice (some ⟨g, o, none⟩) K.P.length qc) (fun b => b < w.heap.size) ((w5.setCell ⟨w.heap.size, 0, none⟩ (.slice na (Pr.madeL K.L (Pr.kid ch)).length nc)).alloc (.cells #[.bool x0.live, .bool x0.fenced, .int .i64 x0.code, .slice sl.a sl.n sl.c] 43)) (Row.on hprow hon7) (fun b hb => by simp; have := HG5.out.2.1; omega) (by rw [← hpl]; exact HBD.out.procs.2) (by omega)
      rw [show (prcC (sl, (⟨true, x0.fenced, 0, x0.slots⟩ : Sp.Prc))).toArray = #[.bool true, .bool x0.fenced, .int .i64 0, .slice sl.a sl.n sl.c] from rfl, ← hpl] at hld
      have HLD : Hid _ := hld
      have HON7 : Hid _ := hon7
      clear hob5 hb5 hg25 hk5 hr5 hop0 hps hprow hsl hpl hy hpr5 he h5 hi hon7 hld r2c r2f r2l k2c k2l HMK
      have hbx7 : Blk ((w5.setCell ⟨w.heap.size, 0, none⟩ (.slice na (Pr.madeL K.L (Pr.kid ch)).length nc)).alloc (.cells #[.bool x0.live, .bool x0.fenced, .int .i64 x0.code, .slice sl.a sl.n sl.c] 43)) w.heap.size #[(.slice na (Pr.madeL K.L (Pr.kid ch)).length nc), .slice pa K.O.length pc, .slice (some ⟨g, o, none⟩) K.P.length qc] 27 := (Blk.set HK5.out 0 _).alloc _
      have hr7 : Blk ((w5.setCell ⟨w.heap.size, 0, none⟩ (.slice na (Pr.madeL K.L (Pr.kid ch)).length nc)).alloc (.cells #[.bool x0.live, .bool x0.fenced, .int .i64 x0.code, .slice sl.a sl.n sl.c] 43)) (w.heap.size + 1) #[.slice none 0 0, .slice none 0 0, .slice none 0 0] 27 := (Blk.other HR5.out (by show w.heap.size + 1 ≠ w.heap.size; omega) _).alloc _
      have hp7 : Blk ((w5.setCell ⟨w.heap.size, 0, none⟩ (.slice na (Pr.madeL K.L (Pr.kid ch)).length nc)).alloc (.cells #[.bool x0.live, .bool x0.fenced, .int .i64 x0.code, .slice sl.a sl.n sl.c] 43)) w5.heap.size #[.bool x0.live, .bool x0.fenced, .int .i64 x0.code, .slice sl.a sl.n sl.c] 43 := by
        have := Blk.new (w5.setCell ⟨w.heap.size, 0, none⟩ (.slice na (Pr.madeL K.L (Pr.kid ch)).length nc)) #[.bool x0.live, .bool x0.fenced, .int .i64 x0.code, .slice sl.a sl.n sl.c] 43
        rw [show (w5.setCell ⟨w.heap.size, 0, none⟩ (.slice na (Pr.madeL K.L (Pr.kid ch)).length nc)).heap.size = w5.heap.size by simp] at this
        exact this
      have hg7 : Gw w ((w5.setCell ⟨w.heap.size, 0, none⟩ (.slice na (Pr.madeL K.L (Pr.kid ch)).length nc)).alloc (.cells #[.bool x0.live, .bool x0.fenced, .int .i64 x0.code, .slice sl.a sl.n sl.c] 43)) := (HG5.out.set (by omega) 0 _).trans (Gw.new _ _)
      have hon57 : On (fun b => b < w5.heap.size ∧ b ≠ w.heap.size) w5 ((w5.setCell ⟨w.heap.size, 0, none⟩ (.slice na (Pr.madeL K.L (Pr.kid ch)).length nc)).alloc (.cells #[.bool x0.live, .bool x0.fenced, .int .i64 x0.code, .slice sl.a sl.n sl.c] 43)) := ((On.set _ ⟨w.heap.size, 0, none⟩ _).less fun b hb => by show b ≠ w.heap.size; omega).trans ((On.alloc _ _).less fun b hb => by simp; omega)
      have hz7 : ((w5.setCell ⟨w.heap.size, 0, none⟩ (.slice na (Pr.madeL K.L (Pr.kid ch)).length nc)).alloc (.cells #[.bool x0.live, .bool x0.fenced, .int .i64 x0.code, .slice sl.a sl.n sl.c] 43)).heap.size = w5.heap.size + 1 := by simp
      have HBX7 : Hid _ := hbx7
      have HR7 : Hid _ := hr7
      have HP7 : Hid _ := hp7
      have HG7 : Hid (Gw w ((w5.setCell ⟨w.heap.size, 0, none⟩ (.slice na (Pr.madeL K.L (Pr.kid ch)).length nc)).alloc (.cells #[.bool x0.live, .bool x0.fenced, .int .i64 x0.code, .slice sl.a sl.n sl.c] 43))) := hg7
      have HON57 : Hid _ := hon57
      have HZ7 : Hid _ := hz7
      clear hbx7 hr7 hp7 hg7 hon57 hz7
      go_wp2_with fail
      generalize ((w5.setCell ⟨w.heap.size, 0, none⟩ (.slice na (Pr.madeL K.L (Pr.kid ch)).length nc)).alloc (.cells #[.bool x0.live, .bool x0.fenced, .int .i64 x0.code, .slice sl.a sl.n sl.c] 43)) = w7 at *
      clear d0 d1 d2 d3 k5c k5f
      refine Calls.mono HLD.out ?_
      rintro e w8 ⟨gp, rfl, hm8, hg8⟩
      have hz7 := HZ7.out
      have hz8 := hg8.2.1
      have HM8 : Hid (Mine w8 w7.heap.size 43 4 (.slice (some ⟨gp, 0, none⟩) (max K.P.length (ch + 1)) (max K.P.length (ch + 1))) ((Pr.laid ps prcZ0 ch (sl, ⟨true, x0.fenced, 0, x0.slots⟩)).map prcC)) := hm8
      have HG8 : Hid (Gw w7 w8) := hg8
      have hgp := (hm8.lt gp rfl)
      have hbx8 := Blk.on HBX7.out hg8.1 (by omega)
      have hr8 := Blk.on HR7.out hg8.1 (by have := Blk.lt HR7.out; omega)
      have HBX8 : Hid _ := hbx8
      have HR8 : Hid _ := hr8
      have b8c := hbx8.cell
      have b8f := hbx8.free
      have b8l := hbx8.lt
      have HW9 : Hid (Blk (w8.setCell ⟨w.heap.size, 2, none⟩ (.slice (some ⟨gp, 0, none⟩) (max K.P.length (ch + 1)) (max K.P.length (ch + 1)))) w.heap.size #[(.slice na (Pr.madeL K.L (Pr.kid ch)).length nc), .slice pa K.O.length pc, (.slice (some ⟨gp, 0, none⟩) (max K.P.length (ch + 1)) (max K.P.length (ch + 1)))] 27) := Blk.set HBX8.out 2 _
      clear hm8 hg8 hbx8 hr8 HLD
      have hw2 : w.heap.size + 1 < w2.heap.size := Blk.lt HR2.out
      have on89 : On (fun b => b ≠ w.heap.size) w8 (w8.setCell ⟨w.heap.size, 2, none⟩ (.slice (some ⟨gp, 0, none⟩) (max K.P.length (ch + 1)) (max K.P.length (ch + 1)))) := On.set _ ⟨w.heap.size, 2, none⟩ _
      have hz9 : (w8.setCell ⟨w.heap.size, 2, none⟩ (.slice (some ⟨gp, 0, none⟩) (max K.P.length (ch + 1)) (max K.P.length (ch + 1)))).heap.size = w8.heap.size := by simp
      have hka : KernAt (w8.setCell ⟨w.heap.size, 2, none⟩ (.slice (some ⟨gp, 0, none⟩) (max K.P.length (ch + 1)) (max K.P.length (ch + 1)))) (.slice na (Pr.madeL K.L (Pr.kid ch)).length nc) (.slice pa K.O.length pc) (.slice (some ⟨gp, 0, none⟩) (max K.P.length (ch + 1)) (max K.P.length (ch + 1))) (Pr.forked K ch x0) := by
        refine ⟨?_, ?_, ⟨Pr.laid ps prcZ0 ch (sl, ⟨true, x0.fenced, 0, x0.slots⟩), ?_, ?_, fun t ht => ?_⟩⟩
        · exact ((((Objs.on HOB5.out (On.less HON57.out fun b hb => ⟨hb.2, by omega⟩)).on (HG8.out.1.less fun b hb => by omega)).on (on89.less fun b hb => by show b ≠ w.heap.size; omega))).more fun b hb => by rw [hz9]; omega
        · exact (Row.on (Row.on (Row.on HOP0.out HON7.out) (HG8.out.1.less fun b hb => by omega)) (on89.less fun b hb => by show b ≠ w.heap.size; omega)).more fun b hb => by rw [hz9]; omega
        · show Pr.laid K.P _ ch _ = _
          rw [Pr.laid_map, HPS.out]
          rfl
        · exact (Row.on (Mine.rowOwn HM8.out (even_prc _)) (on89.less fun b hb => by have := own_at hb; show b ≠ w.heap.size; omega)).more fun b hb => by have := own_at hb; rw [hz9]; omega
        · have hold : ∀ t ∈ ps, Row (w8.setCell ⟨w.heap.size, 2, none⟩ (.slice (some ⟨gp, 0, none⟩) (max K.P.length (ch + 1)) (max K.P.length (ch + 1)))) (fun b => b < (w8.setCell ⟨w.heap.size, 2, none⟩ (.slice (some ⟨gp, 0, none⟩) (max K.P.length (ch + 1)) (max K.P.length (ch + 1)))).heap.size) 3 (.slice t.1.a t.1.n t.1.c) (t.2.slots.map sltC) := fun t ht => (Row.on (Row.on (Row.on (HSL.out t ht) HON7.out) (HG8.out.1.less fun b hb => by omega)) (on89.less fun b hb => by show b ≠ w.heap.size; omega)).more fun b hb => by rw [hz9]; omega
          rcases Pr.laid_mem ht with h1 | h1 | h1
          · exact hold t h1
          · rw [h1]; exact Row.nil _ _ _ _ _
          · rw [h1]; exact hold (sl, x0) (List.mem_of_getElem? HY.out)
      have hbd : Bnd (Pr.forked K ch x0) := by
        have hb := HBD.out
        have hx := hb.slots x0 (List.mem_of_getElem? HX.out.1)
        refine ⟨fun o ho => ?_, fun o ho => ?_, ?_, hb.opens, ?_, fun p hp => ?_⟩
        · rcases Pr.madeL_mem ho with h1 | h1
          · exact hb.fits o h1
          · rw [h1]; unfold Fits Pr.kid; simp
        · rcases Pr.madeL_mem ho with h1 | h1
          · exact hb.kinds o h1
          · rw [h1]; exact ⟨fun _ => rfl, fun _ => rfl⟩
        · have := Pr.madeL_len K.L (Pr.kid ch)
          show (Pr.madeL K.L (Pr.kid ch)).length ≤ 1000
          omega
        · show 1 ≤ (Pr.laid K.P _ ch _).length ∧ (Pr.laid K.P _ ch _).length ≤ 1000
          rw [Pr.laid_len]
          have := hb.procs
          omega
        · rcases Pr.laid_mem (show p ∈ Pr.laid K.P _ ch _ from hp) with h1 | h1 | h1
          · exact hb.slots p h1
          · rw [h1]; exact Nat.zero_le _
          · rw [h1]; exact hx
      have hkp : (Pr.forked K ch x0).P[k]? = some x0 := by
        have hne : k ≠ ch := fun e => by
          have h1 := HCH.out.1
          unfold Pr.taken at h1
          rw [← e, Pr.live_nat HX.out.1, HX.out.2] at h1
          cases h1
        show (Pr.laid K.P _ ch _)[k]? = _
        rw [Pr.laid_get, if_neg hne, if_pos hkk]
        exact HX.out.1
      have HKP : Hid ((Pr.forked K ch x0).P[k]? = some x0) := hkp
      have HOP : Hid _ := popened_any (Pr.forked K ch x0) (k : Int) (Pr.madeAt K.L : Int) 3200 _ _ _ _ hka hbd
      have HLB : Hid ((Pr.live (Pr.forked K ch x0).P (k : Int) && isObj (Pr.forked K ch x0).L (Pr.madeAt K.L : Int)) = true) := by
        unfold Hid
        rw [Pr.live_nat hkp, HX.out.2, Bool.true_and]
        exact isObj_at.2 ⟨Pr.kid ch, Pr.madeL_at _ _, by unfold Pr.kid; simp⟩
      clear hka hbd hkp
      go_wp2_with fail
      refine Calls.mono HOP.out ?_
      rintro e w10 ⟨hg10, hr10⟩
      rcases hr10 with ⟨hno, rfl⟩ | ⟨k', x', hk', hx', hl', hob', hr'⟩
      · rw [HLB.out] at hno; cases hno
      · obtain rfl : k = k' := by omega
        obtain rfl : x0 = x' := by
          have := HKP.out.symm.trans hx'
          simpa using this
        have HG10 : Hid (Gw (w8.setCell ⟨w.heap.size, 2, none⟩ (.slice (some ⟨gp, 0, none⟩) (max K.P.length (ch + 1)) (max K.P.length (ch + 1)))) w10) := hg10
        have h910 := hg10.2.1
        rw [hz9] at h910
        have HR10 : Hid (Blk w10 (w.heap.size + 1) #[.slice none 0 0, .slice none 0 0, .slice none 0 0] 27) := ((Blk.on HR8.out on89 (by show w.heap.size + 1 ≠ w.heap.size; omega))).on hg10.1 (by rw [hz9]; have := Blk.lt HR8.out; omega)
        have HB10 : Hid (Blk w10 w.heap.size #[(.slice na (Pr.madeL K.L (Pr.kid ch)).length nc), .slice pa K.O.length pc, (.slice (some ⟨gp, 0, none⟩) (max K.P.length (ch + 1)) (max K.P.length (ch + 1)))] 27) := Blk.on HW9.out hg10.1 (by rw [hz9]; exact b8l)
        have HGA : Hid (Gw w w10) := ((HG7.out.trans HG8.out).set (Nat.le_refl _) 2 _).trans hg10
        have r10c := Blk.cell HR10.out
        have r10f := Blk.free HR10.out
        have r10l := Blk.lt HR10.out
        have b10c := Blk.cell HB10.out
        have b10f := Blk.free HB10.out
        have b10l := Blk.lt HB10.out
        have HZ9 : Hid ((w8.setCell ⟨w.heap.size, 2, none⟩ (.slice (some ⟨gp, 0, none⟩) (max K.P.length (ch + 1)) (max K.P.length (ch + 1)))).heap.size = w8.heap.size) := hz9
        clear hg10 hk' hx' hl' hob' b8c b8f on89 hz9 HOP
        rcases hr' with ⟨hall, rfl⟩ | ⟨at', hat, hfa, hall, hr''⟩
        · have HALL : Hid (∀ j, j < 60 → Pr.hadO K.O j = true) := hall
          clear hall
          unfold zeroK
          go_wp2_with fail
          have hr11 : Blk (((w10.setCell ⟨w.heap.size, 0, none⟩ (.slice none 0 0)).setCell ⟨w.heap.size, 1, none⟩ (.slice none 0 0)).setCell ⟨w.heap.size, 2, none⟩ (.slice none 0 0)) (w.heap.size + 1) #[.slice none 0 0, .slice none 0 0, .slice none 0 0] 27 := Blk.other (Blk.other (Blk.other HR10.out (by show w.heap.size + 1 ≠ w.heap.size; omega) _) (by show w.heap.size + 1 ≠ w.heap.size; omega) _) (by show w.heap.size + 1 ≠ w.heap.size; omega) _
          have hfc := (Blk.three hr11 (.slice none 0 0) (.slice none 0 0) (.slice none 0 0)).cell
          refine bodyPost_ret (v := .tuple #[zeroK, .int .i64 0, .int .i64 0, .int .i64 15]) (by simp [results, Try.results20, go_sem, zeroK, hfc]) rfl ⟨?_, Or.inr (Or.inr ⟨k, x0, ch, rfl, HX.out.1, HX.out.2, hch, HCH.out.1, HCH.out.2, Or.inl ⟨HALL.out, rfl⟩⟩)⟩
          exact (((((HGA.out.set (by omega) 0 _).set (by omega) 1 _).set (by omega) 2 _).set (by omega) 0 _).set (by omega) 1 _).set (by omega) 2 _
        · have HAT : Hid (at' < 60 ∧ Pr.hadO K.O at' = false ∧ ∀ j, j < at' → Pr.hadO K.O j = true) := ⟨hat, hfa, hall⟩
          obtain ⟨l', fd, er, hput⟩ := putR_fd (l := x0.slots.map toT) (op := (at' : Int)) (rt := 3200)
          rw [hput] at hr''
          have HPR : Hid (Tb.putR (x0.slots.map toT) at' 3200 = (l', fd, er)) := hput
          dsimp only at hr''
          clear hat hfa hall hput
          rcases hr'' with ⟨her, rfl⟩ | ⟨rfl, a, b, c, rfl, hki⟩
          · unfold zeroK
            go_wp2_with fail
            have hr11 : Blk (((w10.setCell ⟨w.heap.size, 0, none⟩ (.slice none 0 0)).setCell ⟨w.heap.size, 1, none⟩ (.slice none 0 0)).setCell ⟨w.heap.size, 2, none⟩ (.slice none 0 0)) (w.heap.size + 1) #[.slice none 0 0, .slice none 0 0, .slice none 0 0] 27 := Blk.other (Blk.other (Blk.other HR10.out (by show w.heap.size + 1 ≠ w.heap.size; omega) _) (by show w.heap.size + 1 ≠ w.heap.size; omega) _) (by show w.heap.size + 1 ≠ w.heap.size; omega) _
            have hfc := (Blk.three hr11 (.slice none 0 0) (.slice none 0 0) (.slice none 0 0)).cell
            refine bodyPost_ret (v := .tuple #[zeroK, .int .i64 0, .int .i64 0, .int .i64 er]) (by simp [results, Try.results20, go_sem, zeroK, hfc]) rfl ⟨?_, Or.inr (Or.inr ⟨k, x0, ch, rfl, HX.out.1, HX.out.2, hch, HCH.out.1, HCH.out.2, Or.inr ⟨at', HAT.out.1, HAT.out.2.1, HAT.out.2.2, Or.inl ?_⟩⟩)⟩
            · exact (((((HGA.out.set (by omega) 0 _).set (by omega) 1 _).set (by omega) 2 _).set (by omega) 0 _).set (by omega) 1 _).set (by omega) 2 _
            · rw [HPR.out]; exact ⟨her, rfl⟩
          · have hka := hki.at fun b hb => hb.2
            obtain ⟨oa', pa', qa', oc', pc', qc', rfl, rfl, rfl, m1', m2', m3'⟩ := hka.spell
            generalize (Pr.opened (Pr.forked K ch x0) k x0 at' (Pr.madeAt K.L) l').L.length = n1 at *
            generalize (Pr.opened (Pr.forked K ch x0) k x0 at' (Pr.madeAt K.L) l').O.length = n2 at *
            generalize (Pr.opened (Pr.forked K ch x0) k x0 at' (Pr.madeAt K.L) l').P.length = n3 at *
            have HKI : Hid (KernIn w10 (fun b => (w8.setCell ⟨w.heap.size, 2, none⟩ (.slice (some ⟨gp, 0, none⟩) (max K.P.length (ch + 1)) (max K.P.length (ch + 1)))).heap.size ≤ b ∧ b < w10.heap.size) (.slice oa' n1 oc') (.slice pa' n2 pc') (.slice qa' n3 qc') (Pr.opened (Pr.forked K ch x0) k x0 at' (Pr.madeAt K.L) l')) := hki
            unfold maxLen at m1' m2' m3'
            clear hki hka
            go_wp2_with fail
            have hr11 : Blk (((w10.setCell ⟨w.heap.size, 0, none⟩ (.slice oa' n1 oc')).setCell ⟨w.heap.size, 1, none⟩ (.slice pa' n2 pc')).setCell ⟨w.heap.size, 2, none⟩ (.slice qa' n3 qc')) (w.heap.size + 1) #[.slice none 0 0, .slice none 0 0, .slice none 0 0] 27 := Blk.other (Blk.other (Blk.other HR10.out (by show w.heap.size + 1 ≠ w.heap.size; omega) _) (by show w.heap.size + 1 ≠ w.heap.size; omega) _) (by show w.heap.size + 1 ≠ w.heap.size; omega) _
            have hfc := (Blk.three hr11 (.slice oa' n1 oc') (.slice pa' n2 pc') (.slice qa' n3 qc')).cell
            have hgf : Gw w (((((w10.setCell ⟨w.heap.size, 0, none⟩ (.slice oa' n1 oc')).setCell ⟨w.heap.size, 1, none⟩ (.slice pa' n2 pc')).setCell ⟨w.heap.size, 2, none⟩ (.slice qa' n3 qc')).setCell ⟨w.heap.size + 1, 0, none⟩ (.slice oa' n1 oc')).setCell ⟨w.heap.size + 1, 1, none⟩ (.slice pa' n2 pc') |>.setCell ⟨w.heap.size + 1, 2, none⟩ (.slice qa' n3 qc')) := (((((HGA.out.set (by omega) 0 _).set (by omega) 1 _).set (by omega) 2 _).set (by omega) 0 _).set (by omega) 1 _).set (by omega) 2 _
            have hon : On (fun b => b ≠ w.heap.size ∧ b ≠ w.heap.size + 1) w10 (((((w10.setCell ⟨w.heap.size, 0, none⟩ (.slice oa' n1 oc')).setCell ⟨w.heap.size, 1, none⟩ (.slice pa' n2 pc')).setCell ⟨w.heap.size, 2, none⟩ (.slice qa' n3 qc')).setCell ⟨w.heap.size + 1, 0, none⟩ (.slice oa' n1 oc')).setCell ⟨w.heap.size + 1, 1, none⟩ (.slice pa' n2 pc') |>.setCell ⟨w.heap.size + 1, 2, none⟩ (.slice qa' n3 qc')) := by
              refine ((((((On.set w10 ⟨w.heap.size, 0, none⟩ _).less ?_).trans ((On.set _ ⟨w.heap.size, 1, none⟩ _).less ?_)).trans ((On.set _ ⟨w.heap.size, 2, none⟩ _).less ?_)).trans ((On.set _ ⟨w.heap.size + 1, 0, none⟩ _).less ?_)).trans ((On.set _ ⟨w.heap.size + 1, 1, none⟩ _).less ?_)).trans ((On.set _ ⟨w.heap.size + 1, 2, none⟩ _).less ?_)
              all_goals first | exact fun b hb => hb.1 | exact fun b hb => hb.2
            have hz : (((((w10.setCell ⟨w.heap.size, 0, none⟩ (.slice oa' n1 oc')).setCell ⟨w.heap.size, 1, none⟩ (.slice pa' n2 pc')).setCell ⟨w.heap.size, 2, none⟩ (.slice qa' n3 qc')).setCell ⟨w.heap.size + 1, 0, none⟩ (.slice oa' n1 oc')).setCell ⟨w.heap.size + 1, 1, none⟩ (.slice pa' n2 pc') |>.setCell ⟨w.heap.size + 1, 2, none⟩ (.slice qa' n3 qc')).heap.size = w10.heap.size := by simp
            refine bodyPost_ret (v := .tuple #[.agg #[.slice oa' n1 oc', .slice pa' n2 pc', .slice qa' n3 qc'], .int .i64 ch, .int .i64 fd, .int .i64 0]) (by simp [results, Try.results20, go_sem, hfc]) rfl ⟨hgf, Or.inr (Or.inr ⟨k, x0, ch, rfl, HX.out.1, HX.out.2, hch, HCH.out.1, HCH.out.2, Or.inr ⟨at', HAT.out.1, HAT.out.2.1, HAT.out.2.2, Or.inr ?_⟩⟩)⟩
            rw [HPR.out]
            refine ⟨rfl, _, _, _, rfl, KernIn.more (KernIn.on HKI.out (hon.less fun b hb => ?_)) fun b hb => ?_⟩
            · have h1 := hb.1
              rw [HZ9.out] at h1
              omega
            · have h1 := hb.1
              rw [HZ9.out] at h1
              rw [hz]
              exact ⟨by omega, hb.2⟩
    · have HALL : Hid (∀ j, j < 8 → Pr.taken K j = true) := hall
      clear hall
      go_wp2_with fail
      have hfc := (Blk.three HR2.out (.slice none 0 0) (.slice none 0 0) (.slice none 0 0)).cell
      refine bodyPost_ret (v := .tuple #[zeroK, .int .i64 0, .int .i64 0, .int .i64 15]) (by simp [results, Try.results20, go_sem, zeroK, hfc]) rfl ⟨?_, Or.inr (Or.inl ⟨⟨by rw [Pr.live_nat HX.out.1]; exact HX.out.2, HALL.out⟩, rfl⟩)⟩
      exact ((HG2.out.set (by omega) 0 _).set (by omega) 1 _).set (by omega) 2 _
end Go.Proofs.Ytdciohinlhbliaa

/-
  procs.Boot, walked.
-/
namespace Go.Proofs.Ytdciohinlhbliaa
open Go.RowKit
open Wp
namespace Pr
def rootO : Sp.Ob := ⟨2, [], [], ⟨#[]⟩, -1, [], -1, 1, 0⟩
def boot0 : Kn := ⟨[rootO], [], [⟨true, false, 0, []⟩]⟩
def boot : Kn := ⟨[rootO], [⟨0, 0⟩], [⟨true, false, 0, [⟨true, 0, 4095⟩]⟩]⟩
theorem boot_opened : opened boot0 0 ⟨true, false, 0, []⟩ 0 0 (Tb.putR (([] : List Sp.Slt).map toT) ((0 : Nat) : Int) 4095).1 = boot := by rfl
theorem boot0_bnd : Bnd boot0 := by
  refine ⟨fun o ho => ?_, fun o ho => ?_, by decide, by decide, by decide, fun p hp => ?_⟩
  · obtain rfl : o = rootO := by simpa [boot0] using ho
    unfold Fits rootO; simp
  · obtain rfl : o = rootO := by simpa [boot0] using ho
    exact ⟨fun _ => rfl, fun _ => rfl⟩
  · obtain rfl : p = ⟨true, false, 0, []⟩ := by simpa [boot0] using hp
    decide
end Pr
set_option maxRecDepth 1000000 in
set_option maxHeartbeats 8000000 in
theorem pboot_any (w : World) : Calls Try.prog 49 #[] w fun e w' => Gw w w' ∧ ∃ a b c, e = .returned (.agg #[a, b, c]) ∧ KernIn w' (fun b => w.heap.size ≤ b ∧ b < w'.heap.size) a b c Pr.boot := by
  have HG0 : Hid (Gw w (w.alloc (.cells #[.slice none 0 0, .slice none 0 0, .slice none 0 0] 27))) := Gw.new w _
  have HR0 : Hid (Blk (w.alloc (.cells #[.slice none 0 0, .slice none 0 0, .slice none 0 0] 27)) w.heap.size #[.slice none 0 0, .slice none 0 0, .slice none 0 0] 27) := Blk.new w _ _
  go_enter Try.func49, Try.ntmps49
  go_wp2_with fail
  refine Calls.mono (new_any _) ?_
  rintro e w1 ⟨rfl, hob1, hb1⟩
  have hz : (w.alloc (.cells #[.slice none 0 0, .slice none 0 0, .slice none 0 0] 27)).heap.size = w.heap.size + 1 := by simp
  rw [hz] at hob1 hb1 ⊢
  have hg1 : Gw (w.alloc (.cells #[.slice none 0 0, .slice none 0 0, .slice none 0 0] 27)) w1 := Gw.below (by rw [hz]; exact hb1)
  have HG1 : Hid (Gw w w1) := HG0.out.trans hg1
  have HR1 : Hid (Blk w1 w.heap.size #[.slice none 0 0, .slice none 0 0, .slice none 0 0] 27) := Blk.on HR0.out hg1.1 (Blk.lt HR0.out)
  have hs1 : w.heap.size + 1 ≤ w1.heap.size := by have := hg1.2.1; rw [hz] at this; exact this
  have hz2 : (w1.alloc (.cells #[.bool true, .bool false, .int .i64 0, .slice none 0 0] 43)).heap.size = w1.heap.size + 1 := by simp
  have hz3 : ((w1.alloc (.cells #[.bool true, .bool false, .int .i64 0, .slice none 0 0] 43)).alloc (.cells #[.slice (some ⟨w.heap.size + 1, 0, none⟩) 1 1, .slice none 0 0, .slice (some ⟨w1.heap.size, 0, none⟩) 1 1] 27)).heap.size = w1.heap.size + 2 := by simp
  have hk3 : Blk ((w1.alloc (.cells #[.bool true, .bool false, .int .i64 0, .slice none 0 0] 43)).alloc (.cells #[.slice (some ⟨w.heap.size + 1, 0, none⟩) 1 1, .slice none 0 0, .slice (some ⟨w1.heap.size, 0, none⟩) 1 1] 27)) (w1.heap.size + 1) #[.slice (some ⟨w.heap.size + 1, 0, none⟩) 1 1, .slice none 0 0, .slice (some ⟨w1.heap.size, 0, none⟩) 1 1] 27 := by
    have h := Blk.new (w1.alloc (.cells #[.bool true, .bool false, .int .i64 0, .slice none 0 0] 43)) #[.slice (some ⟨w.heap.size + 1, 0, none⟩) 1 1, .slice none 0 0, .slice (some ⟨w1.heap.size, 0, none⟩) 1 1] 27
    rw [hz2] at h
    exact h
  have hp3 : Blk ((w1.alloc (.cells #[.bool true, .bool false, .int .i64 0, .slice none 0 0] 43)).alloc (.cells #[.slice (some ⟨w.heap.size + 1, 0, none⟩) 1 1, .slice none 0 0, .slice (some ⟨w1.heap.size, 0, none⟩) 1 1] 27)) w1.heap.size #[.bool true, .bool false, .int .i64 0, .slice none 0 0] 43 := (Blk.new w1 _ _).alloc _
  have hg3 : Gw w1 ((w1.alloc (.cells #[.bool true, .bool false, .int .i64 0, .slice none 0 0] 43)).alloc (.cells #[.slice (some ⟨w.heap.size + 1, 0, none⟩) 1 1, .slice none 0 0, .slice (some ⟨w1.heap.size, 0, none⟩) 1 1] 27)) := (Gw.new _ _).trans (Gw.new _ _)
  have hat : KernAt ((w1.alloc (.cells #[.bool true, .bool false, .int .i64 0, .slice none 0 0] 43)).alloc (.cells #[.slice (some ⟨w.heap.size + 1, 0, none⟩) 1 1, .slice none 0 0, .slice (some ⟨w1.heap.size, 0, none⟩) 1 1] 27)) (.slice (some ⟨w.heap.size + 1, 0, none⟩) 1 1) (.slice none 0 0) (.slice (some ⟨w1.heap.size, 0, none⟩) 1 1) Pr.boot0 := by
    refine ⟨(hob1.on (hg3.1.less fun b hb => hb.2)).more fun b hb => by rw [hz3]; omega, Row.nil _ _ _ _ _, [(nilSl, ⟨true, false, 0, []⟩)], rfl, (row_blk (css := [prcC (nilSl, ⟨true, false, 0, []⟩)]) hp3 (even_prc [(nilSl, ⟨true, false, 0, []⟩)]) (by unfold maxLen; simp)).more fun b hb => ?_, fun t ht => ?_⟩
    · have : b = w1.heap.size := hb
      rw [hz3]
      omega
    · obtain rfl : t = (nilSl, ⟨true, false, 0, []⟩) := by simpa using ht
      exact Row.nil _ _ _ _ _
  have HR3 : Hid (Blk ((w1.alloc (.cells #[.bool true, .bool false, .int .i64 0, .slice none 0 0] 43)).alloc (.cells #[.slice (some ⟨w.heap.size + 1, 0, none⟩) 1 1, .slice none 0 0, .slice (some ⟨w1.heap.size, 0, none⟩) 1 1] 27)) w.heap.size #[.slice none 0 0, .slice none 0 0, .slice none 0 0] 27) := Blk.on HR1.out hg3.1 (by omega)
  have HK3 : Hid _ := hk3
  have HG3 : Hid (Gw w ((w1.alloc (.cells #[.bool true, .bool false, .int .i64 0, .slice none 0 0] 43)).alloc (.cells #[.slice (some ⟨w.heap.size + 1, 0, none⟩) 1 1, .slice none 0 0, .slice (some ⟨w1.heap.size, 0, none⟩) 1 1] 27))) := HG1.out.trans hg3
  have HOP : Hid _ := popened_any Pr.boot0 0 0 4095 _ _ _ _ hat Pr.boot0_bnd
  have HZ3 : Hid (((w1.alloc (.cells #[.bool true, .bool false, .int .i64 0, .slice none 0 0] 43)).alloc (.cells #[.slice (some ⟨w.heap.size + 1, 0, none⟩) 1 1, .slice none 0 0, .slice (some ⟨w1.heap.size, 0, none⟩) 1 1] 27)).heap.size = w1.heap.size + 2) := hz3
  have HS1 : Hid (w.heap.size + 1 ≤ w1.heap.size) := hs1
  have k3c := hk3.cell
  have k3l := hk3.lt
  clear hob1 hb1 hg1 hz hz2 hz3 hk3 hp3 hg3 hat
  go_wp2_with fail
  refine Calls.mono HOP.out ?_
  rintro e w4 ⟨hg4, hr⟩
  rcases hr with ⟨hno, -⟩ | ⟨k, x, hk, hx, hxl, -, hr'⟩
  · exact absurd hno (by decide)
  · obtain rfl : k = 0 := by omega
    obtain rfl : x = ⟨true, false, 0, []⟩ := by
      have : Pr.boot0.P[0]? = some ⟨true, false, 0, []⟩ := rfl
      rw [this] at hx
      exact (Option.some.inj hx).symm
    rcases hr' with ⟨hall, -⟩ | ⟨at', hat, hfa, hall, hr''⟩
    · exact absurd (hall 0 (by decide)) (by decide)
    · obtain rfl : at' = 0 := by
        rcases Nat.eq_zero_or_pos at' with h | h
        · exact h
        · exact absurd (hall 0 h) (by decide)
      have hbo := Pr.boot_opened
      have e1 : Tb.putR (([] : List Sp.Slt).map toT) ((0 : Nat) : Int) 4095 = ([⟨true, 0, 4095⟩], 0, 0) := by rfl
      rw [e1] at hbo
      dsimp only at hr'' hbo
      rw [e1] at hr''
      dsimp only at hr''
      rcases hr'' with ⟨hne, -⟩ | ⟨-, a, b, c, rfl, hki⟩
      · exact absurd rfl hne
      · rw [hbo] at hki
        have hka := hki.at fun b hb => hb.2
        obtain ⟨oa', pa', qa', oc', pc', qc', ea, eb, ec, m1', m2', m3'⟩ := hka.spell
        obtain rfl : a = .slice oa' 1 oc' := ea
        obtain rfl : b = .slice pa' 1 pc' := eb
        obtain rfl : c = .slice qa' 1 qc' := ec
        have HKI : Hid _ := hki
        have hk4 := Blk.on HK3.out hg4.1 k3l
        have k4c := hk4.cell
        have k4f := hk4.free
        have k4l := hk4.lt
        have HR4 : Hid (Blk w4 w.heap.size #[.slice none 0 0, .slice none 0 0, .slice none 0 0] 27) := Blk.on HR3.out hg4.1 (Blk.lt HR3.out)
        have hr4 := HR4.out
        have r4c := hr4.cell
        have r4f := hr4.free
        have r4l := hr4.lt
        have HG4 : Hid (Gw w w4) := HG3.out.trans hg4
        clear hxl hk hki hka hk4 hr4 hg4 k3c k3l m1' m2' m3' hx hall hbo e1 hfa hat HOP
        go_wp2_with fail
        have hr5 : Blk (((w4.setCell ⟨w1.heap.size + 1, 0, none⟩ (.slice oa' 1 oc')).setCell ⟨w1.heap.size + 1, 1, none⟩ (.slice pa' 1 pc')).setCell ⟨w1.heap.size + 1, 2, none⟩ (.slice qa' 1 qc')) w.heap.size #[.slice none 0 0, .slice none 0 0, .slice none 0 0] 27 := Blk.other (Blk.other (Blk.other HR4.out (by show w.heap.size ≠ w1.heap.size + 1; omega) _) (by show w.heap.size ≠ w1.heap.size + 1; omega) _) (by show w.heap.size ≠ w1.heap.size + 1; omega) _
        have hfc := (Blk.three hr5 (.slice oa' 1 oc') (.slice pa' 1 pc') (.slice qa' 1 qc')).cell
        have hgf : Gw w ((((((w4.setCell ⟨w1.heap.size + 1, 0, none⟩ (.slice oa' 1 oc')).setCell ⟨w1.heap.size + 1, 1, none⟩ (.slice pa' 1 pc')).setCell ⟨w1.heap.size + 1, 2, none⟩ (.slice qa' 1 qc')).setCell ⟨w.heap.size, 0, none⟩ (.slice oa' 1 oc')).setCell ⟨w.heap.size, 1, none⟩ (.slice pa' 1 pc')).setCell ⟨w.heap.size, 2, none⟩ (.slice qa' 1 qc')) := (((((HG4.out.set (by omega) 0 _).set (by omega) 1 _).set (by omega) 2 _).set (Nat.le_refl _) 0 _).set (Nat.le_refl _) 1 _).set (Nat.le_refl _) 2 _
        have hon : On (fun b => b ≠ w1.heap.size + 1 ∧ b ≠ w.heap.size) w4 ((((((w4.setCell ⟨w1.heap.size + 1, 0, none⟩ (.slice oa' 1 oc')).setCell ⟨w1.heap.size + 1, 1, none⟩ (.slice pa' 1 pc')).setCell ⟨w1.heap.size + 1, 2, none⟩ (.slice qa' 1 qc')).setCell ⟨w.heap.size, 0, none⟩ (.slice oa' 1 oc')).setCell ⟨w.heap.size, 1, none⟩ (.slice pa' 1 pc')).setCell ⟨w.heap.size, 2, none⟩ (.slice qa' 1 qc')) := by
          refine ((((((On.set w4 ⟨w1.heap.size + 1, 0, none⟩ _).less ?_).trans ((On.set _ ⟨w1.heap.size + 1, 1, none⟩ _).less ?_)).trans ((On.set _ ⟨w1.heap.size + 1, 2, none⟩ _).less ?_)).trans ((On.set _ ⟨w.heap.size, 0, none⟩ _).less ?_)).trans ((On.set _ ⟨w.heap.size, 1, none⟩ _).less ?_)).trans ((On.set _ ⟨w.heap.size, 2, none⟩ _).less ?_)
          all_goals first | exact fun b hb => hb.1 | exact fun b hb => hb.2
        have hz : ((((((w4.setCell ⟨w1.heap.size + 1, 0, none⟩ (.slice oa' 1 oc')).setCell ⟨w1.heap.size + 1, 1, none⟩ (.slice pa' 1 pc')).setCell ⟨w1.heap.size + 1, 2, none⟩ (.slice qa' 1 qc')).setCell ⟨w.heap.size, 0, none⟩ (.slice oa' 1 oc')).setCell ⟨w.heap.size, 1, none⟩ (.slice pa' 1 pc')).setCell ⟨w.heap.size, 2, none⟩ (.slice qa' 1 qc')).heap.size = w4.heap.size := by simp
        refine bodyPost_ret (v := .agg #[.slice oa' 1 oc', .slice pa' 1 pc', .slice qa' 1 qc']) (by simp [results, Try.results49, go_sem, hfc]) rfl ⟨hgf, _, _, _, rfl, ?_⟩
        have hz3 := HZ3.out
        have hin := KernIn.on HKI.out (hon.less fun b hb => ⟨by have := hb.1; rw [hz3] at this; omega, by have := hb.1; rw [hz3] at this; omega⟩)
        refine ⟨hin.1.more ?_, Row.more hin.2.1 ?_, procs_more hin.2.2 ?_⟩
        all_goals
          intro b hb
          have h1 := hb.1
          rw [hz3] at h1
          rw [hz]
          exact ⟨by omega, hb.2⟩
end Go.Proofs.Ytdciohinlhbliaa

/-
  rglaw10.alive, walked.
-/
namespace Go.Proofs.Ytdciohinlhbliaa
open Go.RowKit
open Wp
namespace Pr
def forked1 : Kn := opened (forked boot 1 ⟨true, false, 0, [⟨true, 0, 4095⟩]⟩) 0 ⟨true, false, 0, [⟨true, 0, 4095⟩]⟩ 1 1 [⟨true, 0, 4095⟩, ⟨true, 1, 3200⟩]
theorem boot_bnd : Bnd boot := by
  refine ⟨fun o ho => ?_, fun o ho => ?_, by decide, by decide, by decide, fun p hp => ?_⟩
  · obtain rfl : o = rootO := by simpa [boot] using ho
    unfold Fits rootO; simp
  · obtain rfl : o = rootO := by simpa [boot] using ho
    exact ⟨fun _ => rfl, fun _ => rfl⟩
  · obtain rfl : p = ⟨true, false, 0, [⟨true, 0, 4095⟩]⟩ := by simpa [boot] using hp
    decide
end Pr
/-- What Fork answers at the beginning. -/
theorem fork_boot {w w' : World} {e : Ending} (h : ForkW Pr.boot 0 w e w') : Gw w w' ∧ ∃ a b c, e = .returned (.tuple #[.agg #[a, b, c], .int .i64 1, .int .i64 1, .int .i64 0]) ∧ KernIn w' (fun b => w.heap.size ≤ b ∧ b < w'.heap.size) a b c Pr.forked1 := by
  obtain ⟨hg, h | h | ⟨k, x, c, hk, hx, hl, hc, ht, hall, h⟩⟩ := h
  · exact absurd h.1 (by decide)
  · exact absurd (h.1.2 1 (by decide)) (by decide)
  · obtain rfl : k = 0 := by omega
    obtain rfl : x = ⟨true, false, 0, [⟨true, 0, 4095⟩]⟩ := by
      have : Pr.boot.P[0]? = some ⟨true, false, 0, [⟨true, 0, 4095⟩]⟩ := rfl
      rw [this] at hx
      exact (Option.some.inj hx).symm
    obtain rfl : c = 1 := by
      rcases Nat.lt_trichotomy c 1 with h1 | h1 | h1
      · obtain rfl : c = 0 := by omega
        exact absurd ht (by decide)
      · exact h1
      · exact absurd (hall 1 h1) (by decide)
    refine ⟨hg, ?_⟩
    rcases h with ⟨h, -⟩ | ⟨at', hat, hf, hall', h⟩
    · exact absurd (h 1 (by decide)) (by decide)
    · obtain rfl : at' = 1 := by
        rcases Nat.lt_trichotomy at' 1 with h1 | h1 | h1
        · obtain rfl : at' = 0 := by omega
          exact absurd hf (by decide)
        · exact h1
        · exact absurd (hall' 1 h1) (by decide)
      have e1 : Tb.putR (([⟨true, 0, 4095⟩] : List Sp.Slt).map toT) ((1 : Nat) : Int) 3200 = ([⟨true, 0, 4095⟩, ⟨true, 1, 3200⟩], 1, 0) := by rfl
      dsimp only at h
      rw [e1] at h
      rcases h with ⟨h, -⟩ | ⟨-, a, b, c, he, hki⟩
      · exact absurd rfl h
      · exact ⟨a, b, c, he, hki⟩
/-- What Opened answers at the beginning. -/
theorem opened_boot {w w' : World} {e : Ending} (h : OpenedW Pr.boot 0 0 5 w e w') : Gw w w' ∧ ∃ a b c, e = .returned (.tuple #[.agg #[a, b, c], .int .i64 1, .int .i64 0]) ∧ KernIn w' (fun b => w.heap.size ≤ b ∧ b < w'.heap.size) a b c (Pr.opened Pr.boot 0 ⟨true, false, 0, [⟨true, 0, 4095⟩]⟩ 1 0 [⟨true, 0, 4095⟩, ⟨true, 1, 5⟩]) := by
  obtain ⟨hg, h | ⟨k, x, hk, hx, hl, ho, h⟩⟩ := h
  · exact absurd h.1 (by decide)
  · obtain rfl : k = 0 := by omega
    obtain rfl : x = ⟨true, false, 0, [⟨true, 0, 4095⟩]⟩ := by
      have : Pr.boot.P[0]? = some ⟨true, false, 0, [⟨true, 0, 4095⟩]⟩ := rfl
      rw [this] at hx
      exact (Option.some.inj hx).symm
    refine ⟨hg, ?_⟩
    rcases h with ⟨h, -⟩ | ⟨at', hat, hf, hall', h⟩
    · exact absurd (h 1 (by decide)) (by decide)
    · obtain rfl : at' = 1 := by
        rcases Nat.lt_trichotomy at' 1 with h1 | h1 | h1
        · obtain rfl : at' = 0 := by omega
          exact absurd hf (by decide)
        · exact h1
        · exact absurd (hall' 1 h1) (by decide)
      have e1 : Tb.putR (([⟨true, 0, 4095⟩] : List Sp.Slt).map toT) ((1 : Nat) : Int) 5 = ([⟨true, 0, 4095⟩, ⟨true, 1, 5⟩], 1, 0) := by rfl
      dsimp only at h
      rw [e1] at h
      rcases h with ⟨h, -⟩ | ⟨-, a, b, c, he, hki⟩
      · exact absurd rfl h
      · exact ⟨a, b, c, he, hki⟩
/-- What Exit answers there. -/
theorem exit_boot {w w' : World} {e : Ending} (h : ExitW Pr.forked1 1 7 w e w') : Gw w w' ∧ ∃ a b c, e = .returned (.tuple #[.agg #[a, b, c], .int .i64 0]) ∧ KernIn w' (fun b => w.heap.size ≤ b ∧ b < w'.heap.size) a b c (Pr.exited Pr.forked1 1 ⟨true, false, 0, [⟨true, 0, 4095⟩]⟩ 7) := by
  obtain ⟨hg, h | ⟨k, x, hk, hx, hl, h⟩⟩ := h
  · exact absurd h.1 (by decide)
  · obtain rfl : k = 1 := by omega
    obtain rfl : x = ⟨true, false, 0, [⟨true, 0, 4095⟩]⟩ := by
      have : Pr.forked1.P[1]? = some ⟨true, false, 0, [⟨true, 0, 4095⟩]⟩ := rfl
      rw [this] at hx
      exact (Option.some.inj hx).symm
    refine ⟨hg, ?_⟩
    rcases h with ⟨h, -⟩ | ⟨-, -, a, b, c, he, hki⟩
    · exact absurd h (by decide)
    · exact ⟨a, b, c, he, hki⟩
theorem forked1_bnd : Bnd Pr.forked1 := by
  refine ⟨fun o ho => ?_, fun o ho => ?_, by decide, by decide, by decide, fun p hp => ?_⟩
  · have h : o = Pr.rootO ∨ o = Pr.kid 1 := by
      have : Pr.forked1.L = [Pr.rootO, Pr.kid 1] := rfl
      rw [this] at ho
      simpa using ho
    rcases h with rfl | rfl
    · unfold Fits Pr.rootO; simp
    · unfold Fits Pr.kid; simp
  · have h : o = Pr.rootO ∨ o = Pr.kid 1 := by
      have : Pr.forked1.L = [Pr.rootO, Pr.kid 1] := rfl
      rw [this] at ho
      simpa using ho
    rcases h with rfl | rfl
    · exact ⟨fun _ => rfl, fun _ => rfl⟩
    · exact ⟨fun _ => rfl, fun _ => rfl⟩
  · have : Pr.forked1.P = [⟨true, false, 0, [⟨true, 0, 4095⟩, ⟨true, 1, 3200⟩]⟩, ⟨true, false, 0, [⟨true, 0, 4095⟩]⟩] := rfl
    rw [this] at hp
    have h : p = ⟨true, false, 0, [⟨true, 0, 4095⟩, ⟨true, 1, 3200⟩]⟩ ∨ p = ⟨true, false, 0, [⟨true, 0, 4095⟩]⟩ := by simpa using hp
    rcases h with rfl | rfl <;> decide
set_option maxRecDepth 1000000 in
set_option maxHeartbeats 8000000 in
theorem alive10_any (w : World) : Calls Try.prog 19 #[] w fun e w' => e = .returned (.bool true) ∧ Below w.heap.size w w' := by
  go_enter Try.func19, Try.ntmps19
  go_wp2_with fail
  refine Calls.mono (pboot_any w) ?_
  rintro e w1 ⟨hg1, a, b, c, rfl, hk1⟩
  have hat1 := hk1.at fun b hb => hb.2
  obtain ⟨oa, pa, qa, oc, pc, qc, rfl, rfl, rfl, m1, m2, m3⟩ := hat1.spell
  have HG1 : Hid (Gw w w1) := hg1
  have HAT : Hid (∀ W, Gw w1 W → KernAt W (.slice oa 1 oc) (.slice pa 1 pc) (.slice qa 1 qc) Pr.boot) := fun W hg => hat1.gw hg
  have hk2 := Blk.new w1 #[.slice oa 1 oc, .slice pa 1 pc, .slice qa 1 qc] 27
  have HK2 : Hid (Blk (w1.alloc (.cells #[.slice oa 1 oc, .slice pa 1 pc, .slice qa 1 qc] 27)) w1.heap.size #[.slice oa 1 oc, .slice pa 1 pc, .slice qa 1 qc] 27) := hk2
  have HG2 : Hid (Gw w1 (w1.alloc (.cells #[.slice oa 1 oc, .slice pa 1 pc, .slice qa 1 qc] 27))) := Gw.new w1 _
  have k2c := hk2.cell
  have k2l := hk2.lt
  clear hg1 hk1 hat1 hk2 m1 m2 m3
  rw [show Pr.boot.L.length = 1 from rfl, show Pr.boot.O.length = 1 from rfl, show Pr.boot.P.length = 1 from rfl]
  go_wp2_with fail
  generalize (w1.alloc (.cells #[.slice oa 1 oc, .slice pa 1 pc, .slice qa 1 qc] 27)) = w2 at *
  refine Calls.mono (pfork_any Pr.boot 0 _ _ _ w2 (HAT.out w2 HG2.out) Pr.boot_bnd (by decide)) ?_
  rintro e w3 hf3
  obtain ⟨hg3, a, b, c, rfl, hk3⟩ := fork_boot hf3
  have hat3 := hk3.at fun b hb => hb.2
  obtain ⟨oa3, pa3, qa3, oc3, pc3, qc3, ea, eb, ec, m1, m2, m3⟩ := hat3.spell
  obtain rfl : a = .slice oa3 2 oc3 := ea
  obtain rfl : b = .slice pa3 2 pc3 := eb
  obtain rfl : c = .slice qa3 2 qc3 := ec
  have HG3 : Hid (Gw w w3) := (HG1.out.trans HG2.out).trans hg3
  have HG13 : Hid (Gw w1 w3) := HG2.out.trans hg3
  have HK3 : Hid (Blk w3 w1.heap.size #[.slice oa 1 oc, .slice pa 1 pc, .slice qa 1 qc] 27) := Blk.on HK2.out hg3.1 k2l
  have HAX : Hid (∀ W, Gw w3 W → KernAt W (.slice oa3 2 oc3) (.slice pa3 2 pc3) (.slice qa3 2 qc3) Pr.forked1) := fun W hg => hat3.gw hg
  have hk4 := Blk.new w3 #[.slice oa3 2 oc3, .slice pa3 2 pc3, .slice qa3 2 qc3] 27
  have HX4 : Hid (Blk (w3.alloc (.cells #[.slice oa3 2 oc3, .slice pa3 2 pc3, .slice qa3 2 qc3] 27)) w3.heap.size #[.slice oa3 2 oc3, .slice pa3 2 pc3, .slice qa3 2 qc3] 27) := hk4
  have HG34 : Hid (Gw w3 (w3.alloc (.cells #[.slice oa3 2 oc3, .slice pa3 2 pc3, .slice qa3 2 qc3] 27))) := Gw.new _ _
  have k4c := hk4.cell
  have k4l := hk4.lt
  clear hf3 hk3 hg3 hat3 m1 m2 m3 hk4 k2c k2l
  go_wp2_with fail
  generalize (w3.alloc (.cells #[.slice oa3 2 oc3, .slice pa3 2 pc3, .slice qa3 2 qc3] 27)) = w4 at *
  refine Calls.mono (pexit_any Pr.forked1 1 7 _ _ _ w4 (HAX.out w4 HG34.out) forked1_bnd) ?_
  rintro e w5 hf5
  obtain ⟨hg5, a, b, c, rfl, hk5⟩ := exit_boot hf5
  have hat5 := hk5.at fun b hb => hb.2
  obtain ⟨oa5, pa5, qa5, oc5, pc5, qc5, ea, eb, ec, m1, m2, m3⟩ := hat5.spell
  obtain rfl : a = .slice oa5 2 oc5 := ea
  obtain rfl : b = .slice pa5 2 pc5 := eb
  obtain rfl : c = .slice qa5 2 qc5 := ec
  have HG35 : Hid (Gw w3 w5) := HG34.out.trans hg5
  have HX5 : Hid (Blk w5 w3.heap.size #[.slice oa3 2 oc3, .slice pa3 2 pc3, .slice qa3 2 qc3] 27) := Blk.on HX4.out hg5.1 k4l
  have HK5 : Hid (Blk w5 w1.heap.size #[.slice oa 1 oc, .slice pa 1 pc, .slice qa 1 qc] 27) := Blk.on HK3.out HG35.out.1 (Blk.lt HK3.out)
  have HAY : Hid (∀ W, Gw w5 W → KernAt W (.slice oa5 2 oc5) (.slice pa5 2 pc5) (.slice qa5 2 qc5) (Pr.exited Pr.forked1 1 ⟨true, false, 0, [⟨true, 0, 4095⟩]⟩ 7)) := fun W hg => hat5.gw hg
  have hk6 := Blk.new w5 #[.slice oa5 2 oc5, .slice pa5 2 pc5, .slice qa5 2 qc5] 27
  have HY6 : Hid (Blk (w5.alloc (.cells #[.slice oa5 2 oc5, .slice pa5 2 pc5, .slice qa5 2 qc5] 27)) w5.heap.size #[.slice oa5 2 oc5, .slice pa5 2 pc5, .slice qa5 2 qc5] 27) := hk6
  have HG56 : Hid (Gw w5 (w5.alloc (.cells #[.slice oa5 2 oc5, .slice pa5 2 pc5, .slice qa5 2 qc5] 27))) := Gw.new _ _
  have HK6 : Hid (Blk (w5.alloc (.cells #[.slice oa5 2 oc5, .slice pa5 2 pc5, .slice qa5 2 qc5] 27)) w1.heap.size #[.slice oa 1 oc, .slice pa 1 pc, .slice qa 1 qc] 27) := Blk.alloc HK5.out _
  have k6c := Blk.cell HK6.out
  have k6l := Blk.lt HK6.out
  clear hf5 hk5 hg5 hat5 m1 m2 m3 hk6 k4c k4l
  go_wp2_with fail
  generalize (w5.alloc (.cells #[.slice oa5 2 oc5, .slice pa5 2 pc5, .slice qa5 2 qc5] 27)) = w6 at *
  refine Calls.mono (popened_any Pr.boot 0 0 5 _ _ _ w6 (HAT.out w6 ((HG13.out.trans HG35.out).trans HG56.out)) Pr.boot_bnd) ?_
  rintro e w7 hf7
  obtain ⟨hg7, a, b, c, rfl, hk7⟩ := opened_boot hf7
  have hat7 := hk7.at fun b hb => hb.2
  obtain ⟨oa7, pa7, qa7, oc7, pc7, qc7, ea, eb, ec, m1, m2, m3⟩ := hat7.spell
  obtain rfl : a = .slice oa7 1 oc7 := ea
  obtain rfl : b = .slice pa7 2 pc7 := eb
  obtain rfl : c = .slice qa7 1 qc7 := ec
  have HG57 : Hid (Gw w5 w7) := HG56.out.trans hg7
  have HY7 : Hid (Blk w7 w5.heap.size #[.slice oa5 2 oc5, .slice pa5 2 pc5, .slice qa5 2 qc5] 27) := Blk.on HY6.out hg7.1 (Blk.lt HY6.out)
  have HX7 : Hid (Blk w7 w3.heap.size #[.slice oa3 2 oc3, .slice pa3 2 pc3, .slice qa3 2 qc3] 27) := Blk.on HX5.out HG57.out.1 (Blk.lt HX5.out)
  have hk8 := Blk.new w7 #[.slice oa7 1 oc7, .slice pa7 2 pc7, .slice qa7 1 qc7] 27
  have HZ8 : Hid (Blk (w7.alloc (.cells #[.slice oa7 1 oc7, .slice pa7 2 pc7, .slice qa7 1 qc7] 27)) w7.heap.size #[.slice oa7 1 oc7, .slice pa7 2 pc7, .slice qa7 1 qc7] 27) := hk8
  have HG78 : Hid (Gw w7 (w7.alloc (.cells #[.slice oa7 1 oc7, .slice pa7 2 pc7, .slice qa7 1 qc7] 27))) := Gw.new _ _
  have HY8 : Hid (Blk (w7.alloc (.cells #[.slice oa7 1 oc7, .slice pa7 2 pc7, .slice qa7 1 qc7] 27)) w5.heap.size #[.slice oa5 2 oc5, .slice pa5 2 pc5, .slice qa5 2 qc5] 27) := Blk.alloc HY7.out _
  have y8c := Blk.cell HY8.out
  have y8l := Blk.lt HY8.out
  clear hf7 hk7 hg7 hat7 m1 m2 m3 hk8 k6c k6l
  go_wp2_with fail
  generalize (w7.alloc (.cells #[.slice oa7 1 oc7, .slice pa7 2 pc7, .slice qa7 1 qc7] 27)) = w8 at *
  refine Calls.mono (plive_any _ 1 _ _ _ w8 (HAY.out w8 (HG57.out.trans HG78.out))) ?_
  rintro e w9 ⟨rfl, hg9⟩
  rw [show Pr.live (Pr.exited Pr.forked1 1 ⟨true, false, 0, [⟨true, 0, 4095⟩]⟩ 7).P 1 = false from by decide]
  have HG79 : Hid (Gw w7 w9) := HG78.out.trans hg9
  have HY9 : Hid (Blk w9 w5.heap.size #[.slice oa5 2 oc5, .slice pa5 2 pc5, .slice qa5 2 qc5] 27) := Blk.on HY8.out hg9.1 y8l
  have HZ9 : Hid (Blk w9 w7.heap.size #[.slice oa7 1 oc7, .slice pa7 2 pc7, .slice qa7 1 qc7] 27) := Blk.on HZ8.out hg9.1 (Blk.lt HZ8.out)
  have HX9 : Hid (Blk w9 w3.heap.size #[.slice oa3 2 oc3, .slice pa3 2 pc3, .slice qa3 2 qc3] 27) := Blk.on HX7.out HG79.out.1 (Blk.lt HX7.out)
  have x9c := Blk.cell HX9.out
  have x9l := Blk.lt HX9.out
  clear hg9 y8c y8l
  go_wp2_with fail
  refine Calls.mono (plive_any _ 1 _ _ _ w9 (HAX.out w9 ((HG35.out.trans HG57.out).trans HG79.out))) ?_
  rintro e w10 ⟨rfl, hg10⟩
  rw [show Pr.live Pr.forked1.P 1 = true from by decide]
  have HG10 : Hid (Gw w5 w10) := (HG57.out.trans HG79.out).trans hg10
  have hy10 := Blk.on HY9.out hg10.1 (Blk.lt HY9.out)
  have hz10 := Blk.on HZ9.out hg10.1 (Blk.lt HZ9.out)
  have y10c := hy10.cell
  have y10l := hy10.lt
  have z10c := hz10.cell
  have z10l := hz10.lt
  obtain ⟨g, o, sl, rfl, -, hc, hcm, hgl, d0, d1, d2, d3, -⟩ := (HAY.out w10 HG10.out).proc (k := 1) (x := ⟨false, false, 7, []⟩) rfl
  dsimp only at d0 d1 d2 d3
  unfold maxLen at hcm
  clear hg10 hy10 hz10 x9c x9l
  have HGF : Hid (Gw w w10) := (HG3.out.trans HG35.out).trans HG10.out
  go_wp2
  go_ret
  exact ⟨rfl, HGF.out.2.2 _ (Nat.le_refl _)⟩
end Go.Proofs.Ytdciohinlhbliaa

/-
  Kernels of Build's, swept by the document's Sweep: what holds of them.
-/
namespace Go.Proofs.Ytdciohinlhbliaa
open Go.RowKit
open Wp
namespace Wp
theorem fin_first {x : Swp} {t : Sl × Sp.Prc} (h : x.ps[0]? = some t) : x.fin.ps[0]? = some t := by
  have hr : ∀ y : Swp, y.ps[0]? = some t → y.rnd.ps[0]? = some t := fun y hy => by
    show (y.ps.mapIdx (ep y.kn1))[0]? = _
    rw [List.getElem?_mapIdx, hy]
    show some (ep y.kn1 0 t) = _
    unfold ep epB
    simp
  have ha : ∀ (n : Nat) (y : Swp), y.ps[0]? = some t → (Swp.allN n y).ps[0]? = some t := fun n => by
    induction n with
    | zero => exact hr
    | succ n ih =>
      intro y hy
      unfold Swp.allN
      split
      · exact ih _ (hr y hy)
      · exact hr y hy
  have h1 : 1 ≤ x.fin.ps.length := fin_ps (by have := (List.getElem?_eq_some_iff.1 h).1; omega)
  have h2 : x.fin.ps = (x.all.ps.mapIdx (fp x.all.knE)).take (trimN (prG x.all.knE x.all.ps) 1 x.all.ps.length) := rfl
  have h3 := h1
  rw [h2, List.length_take] at h3
  rw [h2, List.getElem?_take, if_pos (by omega), List.getElem?_mapIdx, show x.all.ps[0]? = some t from ha x.live x h]
  show some (fp x.all.knE 0 t) = _
  unfold fp fpB
  simp
end Wp
/-- What holds of Build's kernels, swept. -/
structure PK (K : Kn) : Prop where
  bnd : Bnd K
  len : K.L.length ≤ 14
  slots : ∀ p ∈ K.P, p.slots.length ≤ 4 ∧ ∀ s ∈ p.slots, s.has = true
  first : ∃ x, K.P[0]? = some x ∧ x.live = true
  many : K.O.length ≤ 28
theorem pk_fin {x : Swp} (hok : Sp.KOk (x.ts.map Prod.snd) x.O (x.ps.map Prod.snd)) : PK x.fin.kn := by
  have hkp := keep_fin x
  have ht1 := hkp.tl
  have ht2 := hkp.pl
  have ht3 := hkp.ol
  have hl := hok.len
  have hm := hok.many
  have hsm := hok.some
  rw [List.length_map] at hl hsm
  have hs : ∀ p ∈ x.fin.kn.P, p.slots.length ≤ 4 ∧ ∀ s ∈ p.slots, s.has = true := fin_prc (fun p => p.slots.length ≤ 4 ∧ ∀ s ∈ p.slots, s.has = true) ⟨Nat.zero_le _, fun s hs => by cases hs⟩ fun p hp => ⟨(hok.procs p hp).1, fun s hs => ((hok.procs p hp).2.1 s hs).1⟩
  have e1 : x.fin.kn.L.length = x.fin.ts.length := List.length_map ..
  have e2 : x.fin.kn.O.length = x.fin.O.length := rfl
  have e3 : x.fin.kn.P.length = x.fin.ps.length := List.length_map ..
  have h1 : 1 ≤ x.fin.ps.length := fin_ps (by omega)
  refine ⟨⟨fin_all Fits (by unfold Fits obZ0; simp) (fun o h => h) (fits_of hok.objs hok.len), kinds_fin (kindOk_of hok.objs), by omega, by omega, by omega, fun p hp => by have := (hs p hp).1; omega⟩, by omega, hs, ?_, by omega⟩
  obtain ⟨t, ht⟩ : ∃ t, x.ps[0]? = some t := ⟨_, List.getElem?_eq_getElem (by omega)⟩
  refine ⟨t.2, ?_, hok.first t.2 (by rw [List.getElem?_map, ht]; rfl)⟩
  show (x.fin.ps.map Prod.snd)[0]? = _
  rw [List.getElem?_map, fin_first ht]
  rfl
/-- The document's Sweep of Build's kernels. -/
theorem swpK_any {L : List Sp.Ob} {O : List Sp.Opn} {P : List Sp.Prc} (hok : Sp.KOk L O P) (a b c : Value) (w : World) (h : KernAt w a b c ⟨L, O, P⟩) :
    Calls Try.prog 15 #[.agg #[a, b, c]] w fun e w' => ∃ (K : Kn) (a' b' c' : Value), e = .returned (.agg #[a', b', c']) ∧ KernAt w' a' b' c' K ∧ PK K ∧ Gw w w' := by
  obtain ⟨oa, pa, qa, oc, pc, qc, rfl, rfl, rfl, m1, m2, m3⟩ := h.spell
  obtain ⟨⟨ts, hts, hrow, hls⟩, h2, ⟨ps, hps, hprow, hsl⟩⟩ := h
  dsimp only at hts h2 hps hrow hprow
  subst hts
  subst hps
  rw [List.length_map] at hrow hprow
  show Calls Try.prog 15 #[.agg #[.slice oa (ts.map Prod.snd).length oc, .slice pa O.length pc, .slice qa (ps.map Prod.snd).length qc]] w _
  rw [List.length_map, List.length_map]
  refine (rsweep_any ⟨ts, O, ps⟩ oa pa qa oc pc qc _ w hrow h2 hprow hls hsl (fun b hb => hb) (fit_of hok)).mono fun e w' h => ?_
  obtain ⟨a, b, c, e4, h1, h2⟩ := h.kern
  exact ⟨_, a, b, c, e4, h1, pk_fin hok, h2⟩
end Go.Proofs.Ytdciohinlhbliaa

/-
  Plain facts of slots and of kernels in which one more is open.
-/
namespace Go.Proofs.Ytdciohinlhbliaa
open Go.RowKit
open Wp
namespace Pr
theorem sp_is (L : List Sp.Ob) (k : Int) : Sp.is L k 0 = isObj L k := by
  unfold Sp.is Sp.objAt isObj
  by_cases h : 0 ≤ k
  · rw [if_pos h, if_pos h]
    cases L[k.toNat]? with
    | none => rfl
    | some o =>
      by_cases hk : o.kind = 0
      · simp [Option.filter, hk]
      · simp [Option.filter, hk]
  · rw [if_neg h, if_neg h]
theorem free_none : ∀ (l : List Sp.Slt) (i : Nat), (∀ s ∈ l, s.has = true) → Tb.freeFrom (l.map toT) i = none
  | [], _, _ => rfl
  | x :: t, i, h => by
    show (if (toT x).has = true then Tb.freeFrom (t.map toT) (i + 1) else some i) = none
    rw [if_pos (show (toT x).has = true from h x List.mem_cons_self)]
    exact free_none t (i + 1) fun s hs => h s (List.mem_cons_of_mem _ hs)
theorem putR_has {l : List Sp.Slt} (h : ∀ s ∈ l, s.has = true) (hl : l.length ≤ 4) {op rt : Int} (h0 : 0 ≤ op) (hr : 0 ≤ rt ∧ rt ≤ 4095) : Tb.putR (l.map toT) op rt = (l.map toT ++ [⟨true, op, rt⟩], (l.length : Int), 0) := by
  have hright : Tb.right rt = true := by unfold Tb.right; exact decide_eq_true hr
  rw [putR_app (by rintro (h1 | h1); rw [hright] at h1; cases h1; omega) (free_none l 0 h) (by rw [List.length_map]; omega), List.length_map]
theorem get_new (l : List Tb.Slt) (op rt : Int) : Tb.get (l ++ [⟨true, op, rt⟩]) (l.length : Int) = some ⟨true, op, rt⟩ := by
  rw [Tb.get_nat, List.getElem?_append_right (Nat.le_refl _), Nat.sub_self]
  rfl
theorem get_end (l : List Tb.Slt) : Tb.get l (l.length : Int) = none := by
  rw [Tb.get_nat, List.getElem?_eq_none (Nat.le_refl _)]
  rfl
theorem lastN_has : ∀ l : List Sp.Slt, (∀ s ∈ l, s.has = true) → Tb.lastN (l.map toT) = l.length
  | [], _ => rfl
  | x :: t, h => by
    show (if Tb.lastN (t.map toT) = 0 then (if (toT x).has = true then 1 else 0) else Tb.lastN (t.map toT) + 1) = t.length + 1
    rw [lastN_has t fun s hs => h s (List.mem_cons_of_mem _ hs), if_pos (show (toT x).has = true from h x List.mem_cons_self)]
    split <;> omega
theorem close_new {l : List Sp.Slt} (h : ∀ s ∈ l, s.has = true) (op rt : Int) : Tb.closeR (l.map toT ++ [⟨true, op, rt⟩]) (l.length : Int) = (l.map toT, 0) := by
  have hg := get_new (l.map toT) op rt
  rw [List.length_map] at hg
  have e : (l.map toT ++ [(⟨true, op, rt⟩ : Tb.Slt)]).set (l.length : Int).toNat Tb.none0 = l.map toT ++ [Tb.none0] := by
    rw [Int.toNat_natCast, List.set_append_right _ _ (by rw [List.length_map]; exact Nat.le_refl _), List.length_map, Nat.sub_self]
    rfl
  unfold Tb.closeR
  rw [hg]
  dsimp only
  rw [e]
  unfold Tb.trim
  rw [Tb.lastN_snoc, if_neg (by decide), lastN_has l h, List.take_left' (List.length_map ..)]
theorem toT_ofT (l : List Tb.Slt) : (l.map ofT).map toT = l := by
  rw [List.map_map]
  exact List.map_id' l
theorem opened_proc {K : Kn} {p k : Nat} {x : Sp.Prc} {obj : Int} {l : List Tb.Slt} (h : K.P[p]? = some x) : (opened K p x k obj l).P[p]? = some { x with slots := l.map ofT } := by
  show (K.P.set p _)[p]? = _
  rw [List.getElem?_set, if_pos rfl, if_pos (List.getElem?_eq_some_iff.1 h).1]
theorem opened_open {K : Kn} {p k : Nat} {x : Sp.Prc} {obj : Int} {l : List Tb.Slt} : (opened K p x k obj l).O[k]? = some ⟨obj, 0⟩ := by
  show (laid K.O _ k _)[k]? = _
  rw [laid_get, if_pos rfl]
theorem opened_len {K : Kn} {p k : Nat} {x : Sp.Prc} {obj : Int} {l : List Tb.Slt} : (opened K p x k obj l).O.length = max K.O.length (k + 1) := laid_len ..
theorem opened_procs {K : Kn} {p k : Nat} {x : Sp.Prc} {obj : Int} {l : List Tb.Slt} : (opened K p x k obj l).P.length = K.P.length := List.length_set ..
theorem live_false {P : List Sp.Prc} {p : Int} (h : live P p = false) : p < 0 ∨ (P.length : Int) ≤ p ∨ ∃ (k : Nat) (x : Sp.Prc), p = k ∧ P[k]? = some x ∧ x.live = false := by
  by_cases h0 : 0 ≤ p
  · obtain ⟨k, rfl⟩ := Int.eq_ofNat_of_zero_le h0
    by_cases hk : k < P.length
    · refine Or.inr (Or.inr ⟨k, P[k], rfl, List.getElem?_eq_getElem hk, ?_⟩)
      rw [live_nat (List.getElem?_eq_getElem hk)] at h
      exact h
    · exact Or.inr (Or.inl (by omega))
  · exact Or.inl (by omega)
theorem not_all {O : List Sp.Opn} (hO : O.length ≤ 28) (h : ∀ j, j < 60 → hadO O j = true) : False := by
  have := h 28 (by omega)
  unfold hadO at this
  rw [List.getElem?_eq_none hO] at this
  cases this
end Pr
/-- An open file's cells. -/
theorem KernAt.open {w : World} {a c : Value} {pa : Option Addr} {n pc : Nat} {K : Kn} (h : KernAt w a (.slice pa n pc) c K) {k : Nat} {x : Sp.Opn} (hx : K.O[k]? = some x) : ∃ g o : Nat, pa = some ⟨g, o, none⟩ ∧ n = K.O.length ∧ n ≤ pc ∧ pc ≤ maxLen ∧ g < w.heap.size ∧ w.cell? ⟨g, o + k * 2, none⟩ = some (.int .i64 x.obj) ∧ w.cell? ⟨g, o + k * 2 + 1, none⟩ = some (.int .i64 x.pos) := by
  have hk := (List.getElem?_eq_some_iff.1 hx).1
  obtain ⟨g, o, c', he, hS, hc, hm, h5⟩ := Row.some h.2.1 (by rw [List.length_map]; omega)
  obtain ⟨rfl, rfl, rfl⟩ := Value.slice.inj he
  rw [List.length_map] at hc ⊢
  have hi := h5 k (opnC x) (by rw [List.getElem?_map, hx]; rfl)
  exact ⟨g, o, rfl, rfl, hc, hm, hS, by simpa using hi 0 _ rfl, hi 1 _ rfl⟩
end Go.Proofs.Ytdciohinlhbliaa