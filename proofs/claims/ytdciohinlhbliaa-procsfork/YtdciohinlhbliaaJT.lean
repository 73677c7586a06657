
/-
  Plain facts of Build's kernels, for sweep's laws; how many a map of marks has.
-/
import Derived.Test.YtdciohinlhbliaaJSF
import Derived.Test.YtdciohinlhbliaaJSG
import Derived.Maps.OwnSet
import Derived.Deep.RegionHeldLaw
import Derived.Test.YtdciohinlhbliaaJSC
import Derived.Test.YtdciohinlhbliaaSObj
import Derived.WalkKit
import Derived.ProofKit
import Derived.OpenShut
import Derived.ShutString
import Derived.ChangeOld
import Derived.Deep.Slices
import Derived.SizedLaws
namespace Go.Proofs.Ytdciohinlhbliaa
open Go.RowKit Go.Maps
open Wp
theorem nodup_le {α : Type} [DecidableEq α] : ∀ {K S : List α}, K.Nodup → (∀ x ∈ K, x ∈ S) → K.length ≤ S.length
  | [], _, _, _ => Nat.zero_le _
  | k :: K, S, hn, hs => by
    have hk := hs k List.mem_cons_self
    have hn' := List.nodup_cons.1 hn
    have h := nodup_le (K := K) (S := S.erase k) hn'.2 fun x hx => (List.mem_erase_of_ne (fun e => by subst e; exact hn'.1 hx)).2 (hs x (List.mem_cons_of_mem _ hx))
    rw [List.length_erase_of_mem hk] at h
    have : 0 < S.length := List.length_pos_of_mem hk
    rw [List.length_cons]
    omega
theorem nums_len (ms : List Bool) : (nums ms ms.length).length = cnt ms := by
  unfold nums cnt
  rw [List.length_map]
  have h : ∀ n, n ≤ ms.length → ((List.range n).filter fun k => ms.getD k false).length = (ms.take n).countP id := by
    intro n
    induction n with
    | zero => intro _; rfl
    | succ n ih =>
      intro hn
      obtain ⟨b, hb⟩ : ∃ b, ms[n]? = some b := ⟨_, List.getElem?_eq_getElem (by omega)⟩
      have e : ms.getD n false = b := by rw [List.getD_eq_getElem?_getD, hb]; rfl
      rw [List.range_succ, List.filter_append, List.length_append, ih (by omega), List.take_add_one, hb, List.countP_append]
      congr 1
      cases b with
      | false => rw [List.filter_cons_of_neg (p := fun k => ms.getD k false) (by rw [e]; decide)]; rfl
      | true => rw [List.filter_cons_of_pos (p := fun k => ms.getD k false) e]; rfl
  have := h ms.length (Nat.le_refl _)
  rw [List.take_length] at this
  exact this
theorem nums_mem (ms : List Bool) (c : Int) : c ∈ nums ms ms.length ↔ 0 ≤ c ∧ ms.getD c.toNat false = true := by
  unfold nums
  rw [List.mem_map]
  constructor
  · rintro ⟨n, hn, rfl⟩
    have := (List.mem_filter.1 hn).2
    exact ⟨Int.natCast_nonneg n, by simpa using this⟩
  · rintro ⟨h0, h1⟩
    obtain ⟨n, rfl⟩ := Int.eq_ofNat_of_zero_le h0
    rw [Int.toNat_natCast] at h1
    exact ⟨n, List.mem_filter.2 ⟨List.mem_range.2 (getD_lt h1), h1⟩, rfl⟩
theorem nums_nodup (ms : List Bool) : (nums ms ms.length).Nodup := by
  unfold nums
  exact List.Pairwise.map (R := fun a b : Nat => a ≠ b) _ (fun a b h e => h (Int.ofNat.inj e)) (List.Pairwise.filter _ List.nodup_range)
/-- How many a map of marks has. -/
theorem MapB.size {w : World} {g : Nat} {ms : List Bool} (h : MapB w g (cnt ms) ms) (ty : TypeId) : (Builtin.len_ #[29] ty #[.map (some g)]).run Try.prog w = .ok (.int .i64 (cnt ms : Nat)) w := by
  obtain ⟨ks, ⟨D, hD, hat⟩, hks⟩ := h
  have hle := hD.size_le
  obtain ⟨es, rfl⟩ := hD.isMap
  rw [hD.len Try.underlying29 ty]
  have hge : cnt ms ≤ es.length := by
    have h1 : ∀ c ∈ (nums ms ms.length).map (fun c => Lit.int .i64 c), c ∈ es.map Prod.fst := fun k hk => by
      obtain ⟨c, hc, rfl⟩ := List.mem_map.1 hk
      have hc' : c ∈ ks := (hks c).2 ((nums_mem ms c).1 hc)
      have ha := hat c
      rw [decide_eq_true hc'] at ha
      have hh : Maps.has (DataW.map es : DataW Unit) (.int .i64 c) = true := by
        cases hx : Maps.has (DataW.map es : DataW Unit) (.int .i64 c) with
        | true => rfl
        | false => rw [Maps.atKey_of_not_has hx] at ha; cases ha
      rw [Maps.has_eq, List.any_eq_true] at hh
      obtain ⟨p, hp, hs⟩ := hh
      exact List.mem_map.2 ⟨p, hp, WideAt.sameKey_eq hs⟩
    haveI : DecidableEq Lit := fun a b => Classical.propDecidable _
    have hnd : ((nums ms ms.length).map fun c => Lit.int .i64 c).Nodup := List.Pairwise.map (R := fun a b : Int => a ≠ b) _ (fun a b h e => h (by cases e; rfl)) (nums_nodup ms)
    have h2 := nodup_le hnd h1
    rw [List.length_map, List.length_map, nums_len] at h2
    exact h2
  have : Maps.size (DataW.map es : DataW Unit) = es.length := rfl
  rw [this] at hle ⊢
  rw [show es.length = cnt ms by omega]
theorem kindOk_of {L : List Sp.Ob} (h : Sp.TOk L) : KindOk L := fun o ho => by
  obtain ⟨i, hi, rfl⟩ := List.getElem_of_mem ho
  have := h.all i _ (List.getElem?_eq_getElem hi)
  exact ⟨this.noents, this.noqueue⟩
theorem fits_of {L : List Sp.Ob} (h : Sp.TOk L) (hl : L.length ≤ 14) : ∀ o ∈ L, Fits o := fun o ho => by
  obtain ⟨i, hi, rfl⟩ := List.getElem_of_mem ho
  have ho := h.all i _ (List.getElem?_eq_getElem hi)
  have h1 := ho.data
  have h2 := ho.many
  have h3 := ho.queue
  exact ⟨by omega, by omega, by omega, fun m hm => by rw [ho.mdata m hm]; decide⟩
theorem fit_of {x : Swp} (h : Sp.KOk (x.ts.map Prod.snd) x.O (x.ps.map Prod.snd)) : Fit x := by
  have hts : ∀ t ∈ x.ts, ∃ i : Nat, (x.ts.map Prod.snd)[i]? = some t.2 := fun t ht => by
    obtain ⟨i, hi, rfl⟩ := List.getElem_of_mem ht
    exact ⟨i, by rw [List.getElem?_map, List.getElem?_eq_getElem hi]; rfl⟩
  have hps : ∀ t ∈ x.ps, Sp.PrcOk x.O.length t.2 := fun t ht => h.procs _ (List.mem_map_of_mem ht)
  have h1 := h.len
  have h2 := h.many
  have h3 := h.some
  rw [List.length_map] at h1 h3
  refine ⟨⟨?_, by omega⟩, by omega, by omega, fun t ht => by have := (hps t ht).1; omega, fun t ht => ?_, fun t ht s hs => ?_, fun t ht m hm => ?_, fun o ho hk => ?_, fun y hy => ?_⟩
  · obtain ⟨o, ho, -⟩ := h.objs.root
    have := (List.getElem?_eq_some_iff.1 ho).1
    rw [List.length_map] at this
    omega
  · obtain ⟨i, hi⟩ := hts t ht
    have := (h.objs.all i _ hi).queue
    omega
  · have := (hps t ht).2.1 s hs
    exact ⟨this.2.1, by have := this.2.2.1; omega⟩
  · have := h.queues t.2 (List.mem_map_of_mem ht) m hm
    rcases this.2 with q | q
    · exact ⟨q.2.1, by have := q.2.2.1; omega⟩
    · rw [q.2.1]; exact ⟨by decide, by decide⟩
  · obtain ⟨i, hi, rfl⟩ := List.getElem_of_mem ho
    obtain ⟨p, op, e1, e2, -, -, -⟩ := (h.objs.all i _ (List.getElem?_eq_getElem hi)).peer hk
    have := (List.getElem?_eq_some_iff.1 e2).1
    exact Or.inr ⟨by rw [e1]; omega, by rw [e1]; omega⟩
  · have := (h.opens y hy).1
    omega
/-- What Sweep leaves is a kernel. -/
theorem SweepW.kern {x : Swp} {w w' : World} {e : Ending} (h : SweepW x w e w') : ∃ vo vp vq, e = .returned (.agg #[vo, vp, vq]) ∧ Kern w' (fun b => b < w'.heap.size) vo vp vq x.fin.kn.L x.fin.kn.O x.fin.kn.P ∧ Gw w w' := by
  obtain ⟨oa, pa, qa, oc, pc, qc, e1, h1, h2, h3, h4, h5, h6⟩ := h
  exact ⟨_, _, _, e1, ⟨⟨x.fin.ts, rfl, h1, h4⟩, h2, ⟨x.fin.ps, rfl, h3, h5⟩⟩, h6⟩
theorem OwnW.kern {L : List Sp.Ob} {O : List Sp.Opn} {P : List Sp.Prc} {w w' : World} {e : Ending} (h : OwnW L O P w e w') : ∃ vo vp vq, e = .returned (.agg #[vo, vp, vq]) ∧ Kern w' (fun b => b < w'.heap.size) vo vp vq L O P ∧ Gw w w' := by
  obtain ⟨S, g1, c1, pa, c2, g3, c3, x, e1, hsw, hS, hL, hO, hP, hb⟩ := h
  have hob := hsw.objs
  have hpr := hsw.prcs
  rw [hL] at hob
  rw [hP] at hpr
  refine ⟨_, _, _, e1, ⟨hob.more fun b hb => hb.1, ?_, procs_more hpr fun b hb => hb.1⟩, Gw.below hb⟩
  rw [← hO]
  exact (hsw.op.row (even_opn _)).more fun b hb => hb.2
end Go.Proofs.Ytdciohinlhbliaa


/-
  rglaw8.SweepTells, walked.
-/
namespace Go.Proofs.Ytdciohinlhbliaa
open Go.RowKit Go.Maps
open Wp
/-- A kernel lies there. -/
def KernAt (w : World) (a b c : Value) (K : Kn) : Prop := Kern w (fun b => b < w.heap.size) a b c K.L K.O K.P
theorem KernAt.gw {w w' : World} {a b c : Value} {K : Kn} (h : KernAt w a b c K) (hg : Gw w w') : KernAt w' a b c K := by
  obtain ⟨h1, h2, h3⟩ := h
  have hm : ∀ b, b < w.heap.size → b < w'.heap.size := fun b hb => Nat.lt_of_lt_of_le hb hg.2.1
  exact ⟨(h1.on hg.1).more hm, (Row.on h2 hg.1).more hm, procs_more (procs_on h3 hg.1) hm⟩
end Go.Proofs.Ytdciohinlhbliaa


/-
  What Sweep keeps, plainly.
-/
namespace Go.Proofs.Ytdciohinlhbliaa
open Go.RowKit
namespace Wp
/-- Each object is none, or as it was but for its other end; each process is none, or as it was. -/
structure Keep (x y : Swp) : Prop where
  tl : y.ts.length ≤ x.ts.length
  ol : y.O.length ≤ x.O.length
  pl : y.ps.length ≤ x.ps.length
  ts : ∀ (i : Nat) (t : Sls × Sp.Ob), y.ts[i]? = some t → ∃ t0, x.ts[i]? = some t0 ∧ (t.2.kind = 0 ∨ ({ t.2 with peer := 0 } : Sp.Ob) = { t0.2 with peer := 0 })
  ps : ∀ (i : Nat) (t : Sl × Sp.Prc), y.ps[i]? = some t → ∃ t0, x.ps[i]? = some t0 ∧ (t.2.live = false ∨ t.2 = t0.2)
theorem Keep.refl (x : Swp) : Keep x x := ⟨Nat.le_refl _, Nat.le_refl _, Nat.le_refl _, fun _ t h => ⟨t, h, Or.inr rfl⟩, fun _ t h => ⟨t, h, Or.inr rfl⟩⟩
theorem Keep.trans {x y z : Swp} (h : Keep x y) (h' : Keep y z) : Keep x z := by
  refine ⟨Nat.le_trans h'.tl h.tl, Nat.le_trans h'.ol h.ol, Nat.le_trans h'.pl h.pl, fun i t ht => ?_, fun i t ht => ?_⟩
  · obtain ⟨t1, e1, q1⟩ := h'.ts i t ht
    obtain ⟨t0, e0, q0⟩ := h.ts i t1 e1
    refine ⟨t0, e0, ?_⟩
    rcases q1 with q1 | q1
    · exact Or.inl q1
    · rcases q0 with q0 | q0
      · exact Or.inl (by have := congrArg Sp.Ob.kind q1; exact this.trans q0)
      · exact Or.inr (q1.trans q0)
  · obtain ⟨t1, e1, q1⟩ := h'.ps i t ht
    obtain ⟨t0, e0, q0⟩ := h.ps i t1 e1
    refine ⟨t0, e0, ?_⟩
    rcases q1 with q1 | q1
    · exact Or.inl q1
    · rcases q0 with q0 | q0
      · exact Or.inl (by rw [q1]; exact q0)
      · exact Or.inr (q1.trans q0)
theorem keep_rnd (x : Swp) : Keep x x.rnd := by
  obtain ⟨l1, l2, l3⟩ := x.rnd_lens
  refine ⟨Nat.le_of_eq l1, Nat.le_of_eq l2, Nat.le_of_eq l3, fun i t ht => ?_, fun i t ht => ?_⟩
  · have ht' : (x.ts.mapIdx (fo (reachB x.kn) x.ts.length))[i]? = some t := ht
    rw [List.getElem?_mapIdx] at ht'
    cases h0 : x.ts[i]? with
    | none => rw [h0] at ht'; cases ht'
    | some t0 =>
      rw [h0] at ht'
      cases ht'
      refine ⟨t0, rfl, ?_⟩
      rcases fo_cases (reachB x.kn) x.ts.length i t0 with e | e | e <;> rw [e]
      · exact Or.inl rfl
      · exact Or.inr rfl
      · exact Or.inr rfl
  · have ht' : (x.ps.mapIdx (ep x.kn1))[i]? = some t := ht
    rw [List.getElem?_mapIdx] at ht'
    cases h0 : x.ps[i]? with
    | none => rw [h0] at ht'; cases ht'
    | some t0 =>
      rw [h0] at ht'
      cases ht'
      refine ⟨t0, rfl, ?_⟩
      rcases ep_cases x.kn1 i t0 with e | e <;> rw [e]
      · exact Or.inl rfl
      · exact Or.inr rfl
theorem keep_allN : ∀ (n : Nat) (x : Swp), Keep x (Swp.allN n x)
  | 0, x => keep_rnd x
  | n + 1, x => by
    unfold Swp.allN
    split
    · exact (keep_rnd x).trans (keep_allN n x.rnd)
    · exact keep_rnd x
theorem keep_cut (x : Swp) : Keep x x.cut := by
  have e1 : x.cut.ts = x.ts.take (trimN (obG x.ts) 1 x.ts.length) := rfl
  have e2 : x.cut.O = x.O.take (trimN (opG x.O) 0 x.O.length) := rfl
  have e3 : x.cut.ps = (x.ps.mapIdx (fp x.knE)).take (trimN (prG x.knE x.ps) 1 x.ps.length) := rfl
  refine ⟨by rw [e1, List.length_take]; omega, by rw [e2, List.length_take]; omega, by rw [e3, List.length_take, List.length_mapIdx]; omega, fun i t ht => ?_, fun i t ht => ?_⟩
  · rw [e1, List.getElem?_take] at ht
    split at ht
    · exact ⟨t, ht, Or.inr rfl⟩
    · cases ht
  · rw [e3, List.getElem?_take] at ht
    split at ht
    · rw [List.getElem?_mapIdx] at ht
      cases h0 : x.ps[i]? with
      | none => rw [h0] at ht; cases ht
      | some t0 =>
        rw [h0] at ht
        cases ht
        refine ⟨t0, rfl, ?_⟩
        unfold fp
        split
        · exact Or.inl rfl
        · exact Or.inr rfl
    · cases ht
theorem keep_fin (x : Swp) : Keep x x.fin := (keep_allN x.live x).trans (keep_cut _)
theorem kinds_allN : ∀ (n : Nat) (x : Swp), KindOk (x.ts.map Prod.snd) → KindOk ((Swp.allN n x).ts.map Prod.snd)
  | 0, _, h => Swp.rnd_kinds h
  | n + 1, x, h => by
    unfold Swp.allN
    split
    · exact kinds_allN n x.rnd (Swp.rnd_kinds h)
    · exact Swp.rnd_kinds h
theorem kinds_fin {x : Swp} (h : KindOk (x.ts.map Prod.snd)) : KindOk (x.fin.ts.map Prod.snd) := fun o ho => by
  obtain ⟨t, ht, rfl⟩ := List.mem_map.1 ho
  exact kinds_allN x.live x h t.2 (List.mem_map_of_mem (List.mem_of_mem_take (show t ∈ x.all.ts.take _ from ht)))
theorem trimN_ge {G : Nat → Bool} {stay : Nat} : ∀ {n : Nat}, stay ≤ n → stay ≤ trimN G stay n
  | 0, h => by unfold trimN; exact h
  | n + 1, h => by
    unfold trimN
    split
    · rename_i h1
      exact trimN_ge h1.1
    · exact h
theorem allN_ps : ∀ (n : Nat) (x : Swp), (Swp.allN n x).ps.length = x.ps.length
  | 0, x => x.rnd_lens.2.2
  | n + 1, x => by
    unfold Swp.allN
    split
    · rw [allN_ps n x.rnd]; exact x.rnd_lens.2.2
    · exact x.rnd_lens.2.2
theorem fin_ps {x : Swp} (h : 1 ≤ x.ps.length) : 1 ≤ x.fin.ps.length := by
  have hl : x.all.ps.length = x.ps.length := allN_ps _ x
  have e3 : x.fin.ps = (x.all.ps.mapIdx (fp x.all.knE)).take (trimN (prG x.all.knE x.all.ps) 1 x.all.ps.length) := rfl
  have := trimN_ge (G := prG x.all.knE x.all.ps) (stay := 1) (n := x.all.ps.length) (by omega)
  rw [e3, List.length_take, List.length_mapIdx]
  omega
end Wp
end Go.Proofs.Ytdciohinlhbliaa


/-
  What is left by Sweep is left by it again, plainly.
-/
namespace Go.Proofs.Ytdciohinlhbliaa
open Go.RowKit
namespace Wp
theorem isObj_at {L : List Sp.Ob} {n : Nat} : isObj L (n : Int) = true ↔ ∃ o, L[n]? = some o ∧ o.kind ≠ 0 := by
  unfold isObj
  rw [if_pos (by omega), Int.toNat_natCast]
  cases L[n]? with
  | none => simp
  | some o => simp
theorem mem_at {α : Type} {l : List α} {x : α} (h : x ∈ l) : ∃ i : Nat, l[i]? = some x := List.getElem?_of_mem h
theorem at_snd {α β : Type} {l : List (α × β)} {i : Nat} {x : β} : (l.map Prod.snd)[i]? = some x ↔ ∃ t, l[i]? = some t ∧ t.2 = x := by
  rw [List.getElem?_map]
  cases l[i]? with
  | none => simp
  | some t => simp
theorem fo_at (x : Swp) {i : Nat} {o : Sp.Ob} (h : (x.ts1.map Prod.snd)[i]? = some o) : ∃ t, x.ts[i]? = some t ∧ o = (fo (reachB x.kn) x.ts.length i t).2 := by
  obtain ⟨t1, h1, rfl⟩ := at_snd.1 h
  unfold Swp.ts1 at h1
  rw [List.getElem?_mapIdx] at h1
  cases ht : x.ts[i]? with
  | none => rw [ht] at h1; cases h1
  | some t => rw [ht] at h1; cases h1; exact ⟨t, rfl, rfl⟩
end Wp
end Go.Proofs.Ytdciohinlhbliaa


/-
  rglaw8.alive, walked: a closed run.
-/
namespace Go.Proofs.Ytdciohinlhbliaa
open Go.RowKit
open Wp
theorem row_blk {w : World} {g k : Nat} {t : TypeId} {css : List (List Value)} (h : Blk w g css.flatten.toArray t) (hE : Even k css) (hm : css.length ≤ maxLen) : Row w (fun b => b = g) k (.slice (some ⟨g, 0, none⟩) css.length css.length) css :=
  Or.inr ⟨g, 0, css.length, rfl, rfl, Nat.le_refl _, hm, fun i cs hi j u hj => by
    rw [h.cell]
    have := flatten_at hE i cs hi j u hj
    simpa using this⟩
def a8o (k : Int) (l : Int) : Sls × Sp.Ob := (sl0, ⟨k, [], [], ⟨#[]⟩, 0, [], 0, l, 0⟩)
def a8ts : List (Sls × Sp.Ob) := [a8o 2 1, a8o 1 0, a8o 1 0]
def a8O : List Sp.Opn := [⟨2, 0⟩, ⟨1, 0⟩]
def a8s : List Sp.Slt := [⟨true, 1, 0⟩]
def a8ps (g : Nat) : List (Sl × Sp.Prc) := [(⟨some ⟨g, 0, none⟩, 1, 1⟩, ⟨true, false, 0, a8s⟩)]
def a8 (g : Nat) : Swp := ⟨a8ts, a8O, a8ps g⟩
end Go.Proofs.Ytdciohinlhbliaa


/-
  rglaw8.SweepTwice, walked.
-/
namespace Go.Proofs.Ytdciohinlhbliaa
open Go.RowKit Go.Maps
open Wp
namespace Wp
theorem fin_all (Q : Sp.Ob → Prop) (h0 : Q obZ0) (h1 : ∀ o : Sp.Ob, Q o → Q { o with peer := -1 }) {x : Swp} (h : ∀ o ∈ x.kn.L, Q o) : ∀ o ∈ x.fin.kn.L, Q o := by
  have hr : ∀ y : Swp, (∀ o ∈ y.kn.L, Q o) → ∀ o ∈ y.rnd.kn.L, Q o := fun y hy o ho => by
    obtain ⟨i, hi⟩ := mem_at ho
    obtain ⟨t, ht, rfl⟩ := fo_at y hi
    have := hy t.2 (List.mem_map_of_mem (List.mem_of_getElem? ht))
    rcases fo_cases (reachB y.kn) y.ts.length i t with e | e | e <;> rw [e]
    · exact h0
    · exact h1 _ this
    · exact this
  have ha : ∀ (n : Nat) (y : Swp), (∀ o ∈ y.kn.L, Q o) → ∀ o ∈ (Swp.allN n y).kn.L, Q o := fun n => by
    induction n with
    | zero => exact hr
    | succ n ih =>
      intro y hy
      unfold Swp.allN
      split
      · exact ih _ (hr y hy)
      · exact hr y hy
  intro o ho
  obtain ⟨t, ht, rfl⟩ := List.mem_map.1 (show o ∈ (x.all.ts.take _).map Prod.snd from ho)
  exact ha x.live x h t.2 (List.mem_map_of_mem (List.mem_of_mem_take ht))
theorem fin_prc (R : Sp.Prc → Prop) (h0 : R prcZ0.2) {x : Swp} (h : ∀ p ∈ x.kn.P, R p) : ∀ p ∈ x.fin.kn.P, R p := by
  have hr : ∀ y : Swp, (∀ p ∈ y.kn.P, R p) → ∀ p ∈ y.rnd.kn.P, R p := fun y hy p hp => by
    obtain ⟨t, ht, rfl⟩ := List.mem_map.1 (show p ∈ (y.ps.mapIdx (ep y.kn1)).map Prod.snd from hp)
    obtain ⟨i, hi, rfl⟩ := List.mem_mapIdx.1 ht
    have := hy y.ps[i].2 (List.mem_map_of_mem (List.getElem_mem hi))
    rcases ep_cases y.kn1 i y.ps[i] with e | e <;> rw [e]
    · exact h0
    · exact this
  have ha : ∀ (n : Nat) (y : Swp), (∀ p ∈ y.kn.P, R p) → ∀ p ∈ (Swp.allN n y).kn.P, R p := fun n => by
    induction n with
    | zero => exact hr
    | succ n ih =>
      intro y hy
      unfold Swp.allN
      split
      · exact ih _ (hr y hy)
      · exact hr y hy
  intro p hp
  obtain ⟨t, ht, rfl⟩ := List.mem_map.1 (show p ∈ ((x.all.ps.mapIdx (fp x.all.knE)).take _).map Prod.snd from hp)
  obtain ⟨i, hi, rfl⟩ := List.mem_mapIdx.1 (List.mem_of_mem_take ht)
  have := ha x.live x h x.all.ps[i].2 (List.mem_map_of_mem (List.getElem_mem hi))
  unfold fp
  split
  · exact h0
  · exact this
end Wp
end Go.Proofs.Ytdciohinlhbliaa


/-
  Arguments opened: bytes, as they lie there.
-/
namespace Go.Proofs.Ytdciohinlhbliaa
open Go.ChangeShapes Go.WideShapes Go.ChangeAt Go.RowKit Go.Deep
theorem Try.vcellsByte : Try.prog.cellsOf 5 = 1 := by kernel_rfl
theorem vblock_lt {w : World} {a : Addr} {v : Value} (h : w.cell? a = some v) : a.block < w.heap.size := by
  rcases Nat.lt_or_ge a.block w.heap.size with h' | h'
  · exact h'
  · simp [World.cell?, Array.getElem?_eq_none h'] at h
section
variable {H : Type} {enc : TypeId × Value → H} {W : World}
set_option maxRecDepth 100000 in
theorem vopen_bytes {base b0 : Nat} {held : Bool} {r : Reach} {v : Value} {d : DataW H} {q : List MemPlace} {sp : Nat → Bool}
    (hv : Value.okWide Try.prog W r b0 22 v) (h : DataW.Trod enc Try.prog W base sp held 22 v d q) :
    ∃ l : List UInt8, Bytes W (fun x => x < W.heap.size) v l ∧ (l = [] ∨ ∃ es spare, d = .slice es spare ∧ es.length = l.length) := by
  obtain ⟨a1, len1, cap1, rfl⟩ := okWide_slice Try.underlying22 hv
  obtain ⟨fuel, hf⟩ := h
  rcases open_ints Try.underlying22 Try.underlying5 Try.vcellsByte hf with ⟨hcs, hx⟩ | ⟨a, len, cap, zs, hcs, _, hl, hm, hz, hx, hcell, hwz⟩
  · simp [Value.cells] at hcs
    obtain ⟨rfl, rfl, rfl⟩ := hcs
    exact ⟨[], Row.nil _ _ _ _ _, Or.inl rfl⟩
  · simp [Value.cells] at hcs
    obtain ⟨rfl, rfl, rfl⟩ := hcs
    have hlm : len1 ≤ zs.length := by rw [hz]; split <;> omega
    by_cases h0 : len1 = 0
    · subst h0; exact ⟨[], Row.nil _ _ _ _ _, Or.inl rfl⟩
    obtain ⟨ab, ao, spot⟩ := a
    have hspot : spot = none := by simpa [Addr.add] using World.cell?_spot (hcell 0 (by omega))
    subst hspot
    simp only [Addr.add_lit] at hcell
    have hlt : ab < W.heap.size := vblock_lt (hcell 0 (by omega))
    refine ⟨(zs.take len1).map fun z => UInt8.ofNat z.toNat, Or.inr ⟨ab, ao, cap1, by simp; omega, hlt, by simp; omega, hm, ?_⟩, Or.inr ⟨_, _, (Prod.mk.inj hx).1, by simp [lits]⟩⟩
    intro i cs hi j u hj
    rw [List.getElem?_map, List.getElem?_map] at hi
    by_cases hil : i < len1
    · have e : zs[i]? = some (zs.getD i 0) := by rw [List.getD_eq_getElem?_getD, List.getElem?_eq_getElem (by omega)]; rfl
      rw [List.getElem?_take_of_lt hil, e] at hi
      simp only [Option.map_some, Option.some.injEq] at hi
      have hb : 0 ≤ zs.getD i 0 ∧ zs.getD i 0 < 256 := by
        have := range_u8 hwz i
        rw [List.getD_eq_getElem?_getD]
        omega
      subst hi
      have hc := hcell i (by omega)
      generalize zs.getD i 0 = z at hb hc hj
      match j, hj with
      | 0, hj =>
        simp [byteC] at hj
        subst hj
        rw [Nat.mul_one, Nat.add_zero, hc]
        congr 2
        omega
      | j + 1, hj => simp [byteC] at hj
    · rw [List.getElem?_eq_none (by simp; omega)] at hi
      cases hi
end
theorem vlaw_own : ownKnob Try.prog.godebug = none := by kernel_rfl
theorem vlaw_laidOut : laidOutB Try.prog = true := by kernel_rfl
end Go.Proofs.Ytdciohinlhbliaa
