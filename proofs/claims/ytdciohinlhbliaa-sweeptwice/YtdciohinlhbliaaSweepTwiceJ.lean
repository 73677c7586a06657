/-
  SweepTwice returns true for all bytes of which a kernel is made, and leaves its argument alone: what is left is left by Sweep as it is, and of what is left one can come to all. No condition.
-/
import Derived.Test.YtdciohinlhbliaaJT
import Derived.Deep.RegionHeldLaw
import Derived.Test.YtdciohinlhbliaaRows
/-
  What is left by Sweep is left by it again, plainly.
-/
namespace Go.Proofs.Ytdciohinlhbliaa
open Go.RowKit
namespace Wp
def slotHas (P : List Sp.Prc) (i : Nat) : Bool := P.any fun p => p.live && p.slots.any fun s => s.has && s.op == (i : Int)
def msgIn (o : Sp.Ob) (i : Nat) : Bool := o.queue.any fun m => m.has && m.op == (i : Int)
def msgHas (L : List Sp.Ob) (i : Nat) : Bool := L.any fun o => msgIn o i
theorem hadS_get {i : Nat} : ∀ (xs : List Sp.Slt) (ms : List Bool), i < ms.length → (xs.foldl hadS ms).getD i false = (ms.getD i false || xs.any fun s => s.op == (i : Int))
  | [], ms, _ => by simp
  | x :: xs, ms, hi => by
    rw [List.foldl_cons, hadS_get xs _ (by show i < (setB ms x.op).length; rw [setB_len]; exact hi), show hadS ms x = setB ms x.op from rfl, setB_get hi, List.any_cons, Bool.or_assoc]
theorem hadM_get {i : Nat} : ∀ (xs : List Sp.Msg) (ms : List Bool), i < ms.length → (xs.foldl hadM ms).getD i false = (ms.getD i false || xs.any fun m => m.has && m.op == (i : Int))
  | [], ms, _ => by simp
  | x :: xs, ms, hi => by
    have hl : (hadM ms x).length = ms.length := by
      unfold hadM
      split
      · exact setB_len _ _
      · rfl
    rw [List.foldl_cons, hadM_get xs _ (by rw [hl]; exact hi), List.any_cons]
    unfold hadM
    cases hx : x.has with
    | true => rw [if_pos rfl, setB_get hi, Bool.true_and, Bool.or_assoc]
    | false => rw [if_neg (by decide), Bool.false_and, Bool.false_or]
theorem hadL_get {i : Nat} : ∀ (L : List Sp.Ob) (ms : List Bool), i < ms.length → (L.foldl hadO ms).getD i false = (ms.getD i false || msgHas L i)
  | [], ms, _ => by simp [msgHas]
  | o :: L, ms, hi => by
    rw [List.foldl_cons, hadL_get L _ (by rw [hadO_len]; exact hi), show hadO ms o = o.queue.foldl hadM ms from rfl, hadM_get _ _ hi]
    unfold msgHas msgIn
    rw [List.any_cons, Bool.or_assoc]
theorem heldL_any (f : Sp.Slt → Bool) : ∀ (P : List Sp.Prc), (heldL P).any f = P.any fun p => p.live && p.slots.any fun s => s.has && f s
  | [] => rfl
  | p :: P => by
    have ih := heldL_any f P
    unfold heldL at ih ⊢
    rw [List.flatMap_cons, List.any_append, List.any_cons, ih]
    congr 1
    unfold heldP
    cases p.live with
    | true => rw [if_pos rfl, Bool.true_and, List.any_filter]
    | false => rw [if_neg (by decide), Bool.false_and]; rfl
theorem hadB_get (L : List Sp.Ob) (P : List Sp.Prc) {n i : Nat} (hi : i < n) : (hadB L P n).getD i false = (slotHas P i || msgHas L i) := by
  unfold hadB
  rw [hadL_get _ _ (by rw [hadS_len, List.length_replicate]; exact hi), hadS_get _ _ (by rw [List.length_replicate]; exact hi), rep_false, Bool.false_or, heldL_any]
  rfl
theorem isObj_at {L : List Sp.Ob} {n : Nat} : isObj L (n : Int) = true ↔ ∃ o, L[n]? = some o ∧ o.kind ≠ 0 := by
  unfold isObj
  rw [if_pos (by omega), Int.toNat_natCast]
  cases L[n]? with
  | none => simp
  | some o => simp
theorem mem_at {α : Type} {l : List α} {x : α} (h : x ∈ l) : ∃ i : Nat, l[i]? = some x := List.getElem?_of_mem h
/-- What is kept is come to as before. -/
theorem come_sub {K K' : Kn}
    (hL : ∀ (n : Nat) (o : Sp.Ob), Come K n → K.L[n]? = some o → ∃ o', K'.L[n]? = some o' ∧ o'.kind = o.kind ∧ o'.ents = o.ents ∧ o'.queue = o.queue)
    (hO : ∀ (i : Nat) (x : Sp.Opn), K.O[i]? = some x → 0 ≤ x.obj → (slotHas K.P i = true ∨ ∃ n o, Come K n ∧ K.L[n]? = some o ∧ msgIn o i = true) → K'.O[i]? = some x)
    (hP : ∀ p ∈ K.P, p.live = true → p ∈ K'.P) {n : Nat} (h : Come K n) : Come K' n := by
  have hobj : ∀ n, Come K n → isObj K'.L (n : Int) = true := fun n hc => by
    obtain ⟨o, ho, hk⟩ := isObj_at.1 (come_obj hc)
    obtain ⟨o', ho', e, -, -⟩ := hL n o hc ho
    exact isObj_at.2 ⟨o', ho', by rw [e]; exact hk⟩
  have hlen : ∀ n, Come K n → n < K'.L.length := fun n hc => by
    obtain ⟨o, ho, -⟩ := isObj_at.1 (hobj n hc)
    exact (List.getElem?_eq_some_iff.1 ho).1
  have hlead : ∀ (op : Int) (n : Nat), Come K n → leads K op n = true → (∀ i : Nat, op = (i : Int) → (slotHas K.P i = true ∨ ∃ n o, Come K n ∧ K.L[n]? = some o ∧ msgIn o i = true)) → leads K' op n = true := fun op n hc hl hh => by
    have hob := hobj n hc
    unfold leads at hl ⊢
    by_cases h0 : 0 ≤ op
    · rw [if_pos h0] at hl ⊢
      obtain ⟨i, rfl⟩ := Int.eq_ofNat_of_zero_le h0
      rw [Int.toNat_natCast] at hl ⊢
      cases hx : K.O[i]? with
      | none => rw [hx] at hl; cases hl
      | some x =>
        rw [hx] at hl
        simp only [Bool.and_eq_true, beq_iff_eq] at hl
        rw [hO i x hx (by omega) (hh i rfl)]
        simp only [Bool.and_eq_true, beq_iff_eq]
        exact ⟨hl.1, hob⟩
    · rw [if_neg h0] at hl; cases hl
  refine (h.2 (fun n => Come K n ∧ Come K' n) ⟨fun n hn hr => ?_, fun i n o hii ho hn hx => ?_⟩).2
  · have hc : Come K n := ⟨hn, fun M hM => hM.1 n hn hr⟩
    refine ⟨hc, hlen n hc, fun M hM => hM.1 n (hlen n hc) ?_⟩
    unfold rootB at hr ⊢
    rw [Bool.or_eq_true] at hr ⊢
    rcases hr with hr | hr
    · rw [Bool.and_eq_true] at hr
      have h0 : n = 0 := by simpa using hr.1
      subst h0
      have := hobj 0 hc
      exact Or.inl (by simpa using this)
    · obtain ⟨p, hp, hq⟩ := List.any_eq_true.1 hr
      rw [Bool.and_eq_true] at hq
      obtain ⟨s, hs, hq2⟩ := List.any_eq_true.1 hq.2
      rw [Bool.and_eq_true] at hq2
      refine Or.inr (List.any_eq_true.2 ⟨p, hP p hp hq.1, ?_⟩)
      rw [Bool.and_eq_true]
      refine ⟨hq.1, List.any_eq_true.2 ⟨s, hs, ?_⟩⟩
      rw [Bool.and_eq_true]
      refine ⟨hq2.1, hlead s.op n hc hq2.2 fun i e => Or.inl ?_⟩
      refine List.any_eq_true.2 ⟨p, hp, ?_⟩
      rw [Bool.and_eq_true]
      refine ⟨hq.1, List.any_eq_true.2 ⟨s, hs, ?_⟩⟩
      rw [Bool.and_eq_true]
      exact ⟨hq2.1, by rw [e]; simp⟩
  · obtain ⟨hi, hi'⟩ := hii
    have hc : Come K n := ⟨hn, fun M hM => hM.2 i n o (hi.2 M hM) ho hn hx⟩
    obtain ⟨o', ho', -, he, hq⟩ := hL i o hi ho
    refine ⟨hc, hlen n hc, fun M hM => hM.2 i n o' (hi'.2 M hM) ho' (hlen n hc) ?_⟩
    unfold nextB at hx ⊢
    rw [he, hq]
    rw [Bool.or_eq_true] at hx ⊢
    rcases hx with hx | hx
    · obtain ⟨e, hm, hq2⟩ := List.any_eq_true.1 hx
      rw [Bool.and_eq_true] at hq2
      exact Or.inl (List.any_eq_true.2 ⟨e, hm, by rw [Bool.and_eq_true]; exact ⟨hq2.1, hobj n hc⟩⟩)
    · obtain ⟨m, hm, hq2⟩ := List.any_eq_true.1 hx
      rw [Bool.and_eq_true] at hq2
      refine Or.inr (List.any_eq_true.2 ⟨m, hm, ?_⟩)
      rw [Bool.and_eq_true]
      refine ⟨hq2.1, hlead m.op n hc hq2.2 fun j e => Or.inr ⟨i, o, hi, ho, ?_⟩⟩
      refine List.any_eq_true.2 ⟨m, hm, ?_⟩
      rw [Bool.and_eq_true]
      exact ⟨hq2.1, by rw [e]; simp⟩
/-- Nothing is left to be swept. -/
structure Settled (K : Kn) : Prop where
  come : ∀ (n : Nat) (o : Sp.Ob), K.L[n]? = some o → o.kind ≠ 0 → Come K n
  zero : ∀ o ∈ K.L, o.kind = 0 → o = obZ0
  peer : ∀ o ∈ K.L, o.kind = 4 → 0 ≤ o.peer → o.peer < (K.L.length : Int) → isObj K.L o.peer = true
  opens : ∀ (i : Nat) (x : Sp.Opn), K.O[i]? = some x → (slotHas K.P i || msgHas K.L i) = false → x = opnZ
  procs : ∀ (i : Nat) (p : Sp.Prc), 1 ≤ i → K.P[i]? = some p → p.live = true → heldB K.L (i : Int) = true
/-- Nothing is left to be forgotten, or to be trimmed. -/
structure Trimmed (K : Kn) : Prop where
  dead : ∀ (i : Nat) (p : Sp.Prc), 1 ≤ i → K.P[i]? = some p → p.live = false → heldB K.L (i : Int) = false → p = prcZ0.2
  tl : ∀ n : Nat, 1 ≤ n → K.L.length = n + 1 → ∃ o, K.L[n]? = some o ∧ o.kind ≠ 0
  tO : ∀ n : Nat, K.O.length = n + 1 → ∃ x, K.O[n]? = some x ∧ x.obj ≠ -1
  tP : ∀ n : Nat, 1 ≤ n → K.P.length = n + 1 → ∃ p, K.P[n]? = some p ∧ (p.live = true ∨ heldB K.L (n : Int) = true)
theorem Settled.reach {K : Kn} (h : Settled K) (n : Nat) : (reachB K).getD n false = true ↔ ∃ o, K.L[n]? = some o ∧ o.kind ≠ 0 := by
  refine ⟨reach_kind, fun ⟨o, ho, hk⟩ => ?_⟩
  exact (reachB_iff K (List.getElem?_eq_some_iff.1 ho).1).2 (h.come n o ho hk)
theorem at_snd {α β : Type} {l : List (α × β)} {i : Nat} {x : β} : (l.map Prod.snd)[i]? = some x ↔ ∃ t, l[i]? = some t ∧ t.2 = x := by
  rw [List.getElem?_map]
  cases l[i]? with
  | none => simp
  | some t => simp
/-- A round in which no process ends settles things. -/
theorem rnd_ps {x : Swp} (h : x.more = false) : x.ps.mapIdx (ep x.kn1) = x.ps := by
  have hno : ∀ (k : Nat), k ≤ x.ps.length → anyTo (epB x.kn1) x.ps k = true → x.more = true := fun k => by
    have up : ∀ j, k + j ≤ x.ps.length → anyTo (epB x.kn1) x.ps k = true → anyTo (epB x.kn1) x.ps (k + j) = true := fun j => by
      induction j with
      | zero => exact fun _ h => h
      | succ j ih =>
        intro hk h1
        obtain ⟨t, ht⟩ : ∃ t, x.ps[k + j]? = some t := ⟨_, List.getElem?_eq_getElem (by omega)⟩
        rw [← Nat.add_assoc, anyTo_next ht, ih (by omega) h1, Bool.true_or]
    intro hk h1
    have := up (x.ps.length - k) (by omega) h1
    rw [show k + (x.ps.length - k) = x.ps.length by omega] at this
    exact this
  refine List.ext_getElem? fun i => ?_
  rw [List.getElem?_mapIdx]
  cases ht : x.ps[i]? with
  | none => rfl
  | some t =>
    simp only [Option.map_some]
    unfold ep
    split
    · rename_i he
      have hi := (List.getElem?_eq_some_iff.1 ht).1
      have := hno (i + 1) (by omega) (by rw [anyTo_next ht, he, Bool.or_true])
      rw [h] at this
      cases this
    · rfl
theorem fo_at (x : Swp) {i : Nat} {o : Sp.Ob} (h : (x.ts1.map Prod.snd)[i]? = some o) : ∃ t, x.ts[i]? = some t ∧ o = (fo (reachB x.kn) x.ts.length i t).2 := by
  obtain ⟨t1, h1, rfl⟩ := at_snd.1 h
  unfold Swp.ts1 at h1
  rw [List.getElem?_mapIdx] at h1
  cases ht : x.ts[i]? with
  | none => rw [ht] at h1; cases h1
  | some t => rw [ht] at h1; cases h1; exact ⟨t, rfl, rfl⟩
theorem fo_had {x : Swp} {i : Nat} {t : Sls × Sp.Ob} (ht : x.ts[i]? = some t) : (x.ts1.map Prod.snd)[i]? = some (fo (reachB x.kn) x.ts.length i t).2 := by
  refine at_snd.2 ⟨_, ?_, rfl⟩
  unfold Swp.ts1
  rw [List.getElem?_mapIdx, ht]
  rfl
theorem fo_keeps {m : List Bool} {n i : Nat} {t : Sls × Sp.Ob} (h : m.getD i false = true) : (fo m n i t).2.kind = t.2.kind ∧ (fo m n i t).2.ents = t.2.ents ∧ (fo m n i t).2.queue = t.2.queue ∧ (fo m n i t).2.proc = t.2.proc := by
  unfold fo
  rw [if_neg (by rw [h]; decide)]
  split
  · exact ⟨rfl, rfl, rfl, rfl⟩
  · exact ⟨rfl, rfl, rfl, rfl⟩
theorem rnd_settled {x : Swp} (h : x.more = false) : Settled x.rnd.kn := by
  have eP : x.rnd.kn.P = x.kn.P := by
    show (x.ps.mapIdx (ep x.kn1)).map Prod.snd = x.ps.map Prod.snd
    rw [rnd_ps h]
  have eL : x.rnd.kn.L = x.ts1.map Prod.snd := rfl
  have eO : x.rnd.kn.O = x.O1 := rfl
  have hlen : x.rnd.kn.L.length = x.ts.length := by rw [eL]; unfold Swp.ts1; simp
  have hzero : ∀ (n : Nat) (o : Sp.Ob), x.rnd.kn.L[n]? = some o → o.kind ≠ 0 → (reachB x.kn).getD n false = true := fun n o ho hk => by
    obtain ⟨t, -, rfl⟩ := fo_at x (eL ▸ ho)
    cases hm : (reachB x.kn).getD n false with
    | true => rfl
    | false => exact absurd (by unfold fo; rw [if_pos hm]; rfl) hk
  have hcm : ∀ n, Come x.kn n ↔ (reachB x.kn).getD n false = true := fun n => by
    refine ⟨fun hc => (reachB_iff x.kn hc.1).2 hc, fun hm => (reachB_iff x.kn ?_).1 hm⟩
    have := getD_lt hm
    rwa [reachB_len] at this
  have hkind : ∀ (n : Nat), (reachB x.kn).getD n false = true → ∃ o, x.rnd.kn.L[n]? = some o ∧ o.kind ≠ 0 := fun n hm => by
    obtain ⟨o, ho, hk⟩ := reach_kind hm
    obtain ⟨t, ht, rfl⟩ := at_snd.1 (show (x.ts.map Prod.snd)[n]? = some o from ho)
    exact ⟨_, fo_had ht, by rw [(fo_keeps hm).1]; exact hk⟩
  refine ⟨fun n o ho hk => ?_, fun o ho hk => ?_, fun o ho h4 hp0 hpl => ?_, fun i y hy hf => ?_, fun i p hi hp hl => ?_⟩
  · refine come_sub (fun n o hc ho => ?_) (fun i y hy _ hh => ?_) (fun p hp _ => by rw [eP]; exact hp) ((hcm n).2 (hzero n o ho hk))
    · obtain ⟨t, ht, rfl⟩ := at_snd.1 (show (x.ts.map Prod.snd)[n]? = some o from ho)
      have hf := fo_keeps (n := x.ts.length) (t := t) ((hcm n).1 hc)
      exact ⟨_, fo_had ht, hf.1, hf.2.1, hf.2.2.1⟩
    · have hi : i < x.O.length := (List.getElem?_eq_some_iff.1 (show x.O[i]? = some y from hy)).1
      have hhad : (hadB (x.ts1.map Prod.snd) (x.ps.map Prod.snd) x.O.length).getD i false = true := by
        rw [hadB_get _ _ hi, Bool.or_eq_true]
        rcases hh with hh | ⟨n, o, hc, ho, hm⟩
        · exact Or.inl hh
        · obtain ⟨t, ht, rfl⟩ := at_snd.1 (show (x.ts.map Prod.snd)[n]? = some o from ho)
          refine Or.inr (List.any_eq_true.2 ⟨_, List.mem_of_getElem? (fo_had ht), ?_⟩)
          unfold msgIn at hm ⊢
          rw [(fo_keeps ((hcm n).1 hc)).2.2.1]
          exact hm
      show x.O1[i]? = some y
      unfold Swp.O1
      rw [List.getElem?_mapIdx, show x.O[i]? = some y from hy]
      show some (op _ i y) = some y
      unfold op
      rw [if_neg (by rw [hhad]; decide)]
  · obtain ⟨n, hn⟩ := mem_at (eL ▸ ho)
    obtain ⟨t, ht, rfl⟩ := fo_at x hn
    cases hm : (reachB x.kn).getD n false with
    | false => unfold fo; rw [if_pos hm]
    | true =>
      obtain ⟨o', ho', hk'⟩ := hkind n hm
      rw [eL, hn] at ho'
      cases ho'
      exact absurd hk hk'
  · obtain ⟨n, hn⟩ := mem_at (eL ▸ ho)
    obtain ⟨t, ht, rfl⟩ := fo_at x hn
    rw [hlen] at hpl
    unfold fo at h4 hp0 hpl ⊢
    split at h4
    · exact absurd h4 (by decide)
    · rename_i hm
      rw [if_neg hm] at hp0 hpl ⊢
      split at h4
      · rename_i hf
        rw [if_pos hf] at hp0
        exact absurd hp0 (show ¬ (0 : Int) ≤ -1 by decide)
      · rename_i hf
        rw [if_neg hf] at hp0 hpl ⊢
        have hpm : (reachB x.kn).getD t.2.peer.toNat false = true := by
          cases hq : (reachB x.kn).getD t.2.peer.toNat false with
          | true => rfl
          | false =>
            refine absurd ?_ hf
            unfold foB
            rw [h4, hq]
            simp [hp0, hpl]
        obtain ⟨k, hk⟩ := Int.eq_ofNat_of_zero_le hp0
        rw [hk, Int.toNat_natCast] at hpm
        rw [hk]
        exact isObj_at.2 (hkind k hpm)
  · have hy' : x.O1[i]? = some y := hy
    unfold Swp.O1 at hy'
    rw [List.getElem?_mapIdx] at hy'
    cases hx : x.O[i]? with
    | none => rw [hx] at hy'; cases hy'
    | some x0 =>
      rw [hx] at hy'
      cases hy'
      have hi : i < x.O.length := (List.getElem?_eq_some_iff.1 hx).1
      rw [eP] at hf
      unfold op
      exact if_pos ((hadB_get _ _ hi).trans hf)
  · rw [eP] at hp
    obtain ⟨t, ht, rfl⟩ := at_snd.1 (show (x.ps.map Prod.snd)[i]? = some p from hp)
    have h1 := congrArg (fun l => l[i]?) (rnd_ps h)
    simp only [List.getElem?_mapIdx, ht, Option.map_some, Option.some.injEq] at h1
    have hil : i < x.ps.length := (List.getElem?_eq_some_iff.1 ht).1
    rw [eL, ← known_get (x.ts1.map Prod.snd) hil]
    cases hq : (knownB (x.ts1.map Prod.snd) x.ps.length).getD i false with
    | true => rfl
    | false =>
      have he : epB x.kn1 i t = true := by
        unfold epB Swp.kn1
        rw [hq, hl]
        simp [hi]
      unfold ep at h1
      rw [if_pos he] at h1
      rw [← h1] at hl
      cases hl
theorem trim_drop {G : Nat → Bool} {stay : Nat} : ∀ {n k : Nat}, trimN G stay n ≤ k → k < n → G k = true
  | 0, _, _, h => by omega
  | n + 1, k, h, hk => by
    unfold trimN at h
    split at h
    · rename_i h1
      rcases Nat.lt_or_ge k n with h2 | h2
      · exact trim_drop h h2
      · rw [show k = n by omega]; exact h1.2
    · omega
theorem trim_last {G : Nat → Bool} {stay : Nat} : ∀ {n k : Nat}, trimN G stay n = k + 1 → stay ≤ k → G k = false
  | 0, _, h, _ => by unfold trimN at h; omega
  | n + 1, k, h, hs => by
    unfold trimN at h
    split at h
    · exact trim_last h hs
    · rename_i h1
      obtain rfl : n = k := by omega
      cases hg : G n with
      | false => rfl
      | true => exact absurd ⟨hs, hg⟩ h1
theorem trim_all {G : Nat → Bool} {stay n : Nat} (h : ∀ k, stay ≤ k → n = k + 1 → G k = false) : trimN G stay n = n := by
  cases n with
  | zero => rfl
  | succ k =>
    unfold trimN
    rw [if_neg]
    rintro ⟨h1, h2⟩
    rw [h k h1 rfl] at h2
    cases h2
theorem fp_eq {m : List Bool} {i : Nat} {t : Sl × Sp.Prc} (h : fpB m i t = false) : fp m i t = t := by unfold fp; rw [if_neg (by rw [h]; decide)]
theorem live_keeps {m : List Bool} {i : Nat} {t : Sl × Sp.Prc} (h : t.2.live = true) : fp m i t = t := fp_eq (by unfold fpB; rw [h]; simp)
theorem held_at {L : List Sp.Ob} {p : Int} : heldB L p = true ↔ ∃ o ∈ L, o.kind = 5 ∧ o.proc = p := by
  unfold heldB heldO
  rw [List.any_eq_true]
  constructor
  · rintro ⟨o, ho, h⟩
    rw [Bool.and_eq_true, beq_iff_eq, beq_iff_eq] at h
    exact ⟨o, ho, h⟩
  · rintro ⟨o, ho, h⟩
    exact ⟨o, ho, by rw [Bool.and_eq_true, beq_iff_eq, beq_iff_eq]; exact h⟩
theorem cut_settled {z : Swp} (h : Settled z.kn) : Settled z.cut.kn ∧ Trimmed z.cut.kn := by
  obtain ⟨a, ha⟩ : ∃ a, a = trimN (obG z.ts) 1 z.ts.length := ⟨_, rfl⟩
  obtain ⟨b, hb⟩ : ∃ b, b = trimN (opG z.O) 0 z.O.length := ⟨_, rfl⟩
  obtain ⟨c, hc⟩ : ∃ c, c = trimN (prG z.knE z.ps) 1 z.ps.length := ⟨_, rfl⟩
  have eL : z.cut.kn.L = z.kn.L.take a := by
    show (z.ts.take _).map Prod.snd = (z.ts.map Prod.snd).take a
    rw [← ha, List.map_take]
  have eO : z.cut.kn.O = z.kn.O.take b := by
    show z.O.take _ = z.O.take b
    rw [← hb]
  have eP : z.cut.kn.P = ((z.ps.mapIdx (fp z.knE)).take c).map Prod.snd := by
    show ((z.ps.mapIdx (fp z.knE)).take _).map Prod.snd = _
    rw [← hc]
  have hal : a ≤ z.kn.L.length := by show a ≤ (z.ts.map Prod.snd).length; rw [List.length_map, ha]; exact trimN_le _ _ _
  have hbl : b ≤ z.kn.O.length := by rw [hb]; exact trimN_le _ _ _
  have hcl : c ≤ z.ps.length := by rw [hc]; exact trimN_le _ _ _
  -- what is cut off
  have offL : ∀ (n : Nat) (o : Sp.Ob), z.kn.L[n]? = some o → o.kind ≠ 0 → n < a := fun n o ho hk => by
    obtain ⟨t, ht, rfl⟩ := at_snd.1 (show (z.ts.map Prod.snd)[n]? = some o from ho)
    rcases Nat.lt_or_ge n a with h1 | h1
    · exact h1
    · have := trim_drop (ha ▸ h1) (List.getElem?_eq_some_iff.1 ht).1
      unfold obG at this
      rw [ht] at this
      exact absurd (by simpa using this) hk
  have offO : ∀ (n : Nat) (x : Sp.Opn), z.kn.O[n]? = some x → x.obj ≠ -1 → n < b := fun n x hx hk => by
    rcases Nat.lt_or_ge n b with h1 | h1
    · exact h1
    · have := trim_drop (hb ▸ h1) (List.getElem?_eq_some_iff.1 (show z.O[n]? = some x from hx)).1
      unfold opG at this
      rw [show z.O[n]? = some x from hx] at this
      exact absurd (by simpa using this) hk
  have offP : ∀ (n : Nat) (t : Sl × Sp.Prc), z.ps[n]? = some t → t.2.live = true → n < c := fun n t ht hl => by
    rcases Nat.lt_or_ge n c with h1 | h1
    · exact h1
    · have := trim_drop (hc ▸ h1) (List.getElem?_eq_some_iff.1 ht).1
      unfold prG at this
      rw [ht] at this
      dsimp only at this
      rw [hl] at this
      cases this
  have keepL : ∀ (n : Nat) (o : Sp.Ob), z.kn.L[n]? = some o → o.kind ≠ 0 → z.cut.kn.L[n]? = some o := fun n o ho hk => by
    rw [eL, List.getElem?_take, if_pos (offL n o ho hk)]
    exact ho
  have fromL : ∀ (n : Nat) (o : Sp.Ob), z.cut.kn.L[n]? = some o → z.kn.L[n]? = some o := fun n o ho => by
    rw [eL, List.getElem?_take] at ho
    split at ho
    · exact ho
    · cases ho
  have fromO : ∀ (n : Nat) (x : Sp.Opn), z.cut.kn.O[n]? = some x → z.kn.O[n]? = some x := fun n x hx => by
    rw [eO, List.getElem?_take] at hx
    split at hx
    · exact hx
    · cases hx
  have keepP : ∀ (n : Nat) (t : Sl × Sp.Prc), z.ps[n]? = some t → t.2.live = true → z.cut.kn.P[n]? = some t.2 := fun n t ht hl => by
    rw [eP]
    refine at_snd.2 ⟨t, ?_, rfl⟩
    rw [List.getElem?_take, if_pos (offP n t ht hl), List.getElem?_mapIdx, ht]
    simp only [Option.map_some]
    rw [live_keeps hl]
  have fromP : ∀ (n : Nat) (p : Sp.Prc), z.cut.kn.P[n]? = some p → ∃ t, z.ps[n]? = some t ∧ p = (fp z.knE n t).2 := fun n p hp => by
    rw [eP] at hp
    obtain ⟨t, ht, rfl⟩ := at_snd.1 hp
    rw [List.getElem?_take] at ht
    split at ht
    · rw [List.getElem?_mapIdx] at ht
      cases h0 : z.ps[n]? with
      | none => rw [h0] at ht; cases ht
      | some t0 => rw [h0] at ht; cases ht; exact ⟨t0, rfl, rfl⟩
    · cases ht
  have memL : ∀ o ∈ z.kn.L, o.kind ≠ 0 → o ∈ z.cut.kn.L := fun o ho hk => by
    obtain ⟨n, hn⟩ := mem_at ho
    exact List.mem_of_getElem? (keepL n o hn hk)
  have heldK : ∀ p : Int, heldB z.kn.L p = true → heldB z.cut.kn.L p = true := fun p hp => by
    obtain ⟨o, ho, h5, hpr⟩ := held_at.1 hp
    exact held_at.2 ⟨o, memL o ho (by rw [h5]; decide), h5, hpr⟩
  have slotK : ∀ i, slotHas z.kn.P i = true → slotHas z.cut.kn.P i = true := fun i hi => by
    obtain ⟨p, hp, hq⟩ := List.any_eq_true.1 hi
    obtain ⟨n, hn⟩ := mem_at hp
    obtain ⟨t, ht, rfl⟩ := at_snd.1 (show (z.ps.map Prod.snd)[n]? = some p from hn)
    exact List.any_eq_true.2 ⟨t.2, List.mem_of_getElem? (keepP n t ht (by rw [Bool.and_eq_true] at hq; exact hq.1)), hq⟩
  have msgK : ∀ i, msgHas z.kn.L i = true → msgHas z.cut.kn.L i = true := fun i hi => by
    obtain ⟨o, ho, hq⟩ := List.any_eq_true.1 hi
    refine List.any_eq_true.2 ⟨o, memL o ho fun hk => ?_, hq⟩
    rw [h.zero o ho hk] at hq
    cases hq
  have knE_at : ∀ (n : Nat), n < z.ps.length → z.knE.getD n false = heldB z.kn.L (n : Int) := fun n hn => known_get _ hn
  refine ⟨⟨fun n o ho hk => ?_, fun o ho hk => ?_, fun o ho h4 hp0 hpl => ?_, fun i x hx hf => ?_, fun i p hi hp hl => ?_⟩, ⟨fun i p hi hp hl hh => ?_, fun n hn he => ?_, fun n he => ?_, fun n hn he => ?_⟩⟩
  · refine come_sub (fun n o hcm ho => ?_) (fun i x hx h0 _ => ?_) (fun p hp hl => ?_) (h.come n o (fromL n o ho) hk)
    · obtain ⟨o', ho', hk'⟩ := isObj_at.1 (come_obj hcm)
      rw [ho] at ho'
      cases ho'
      exact ⟨o, keepL n o ho hk', rfl, rfl, rfl⟩
    · rw [eO, List.getElem?_take, if_pos (offO i x hx (by omega))]
      exact hx
    · obtain ⟨n, hn⟩ := mem_at hp
      obtain ⟨t, ht, rfl⟩ := at_snd.1 (show (z.ps.map Prod.snd)[n]? = some p from hn)
      exact List.mem_of_getElem? (keepP n t ht hl)
  · obtain ⟨n, hn⟩ := mem_at ho
    exact h.zero o (List.mem_of_getElem? (fromL n o hn)) hk
  · obtain ⟨n, hn⟩ := mem_at ho
    have hl2 : z.cut.kn.L.length = a := by rw [eL, List.length_take]; omega
    have := h.peer o (List.mem_of_getElem? (fromL n o hn)) h4 hp0 (by omega)
    obtain ⟨k, hk⟩ := Int.eq_ofNat_of_zero_le hp0
    rw [hk] at this ⊢
    obtain ⟨o', ho', hk'⟩ := isObj_at.1 this
    exact isObj_at.2 ⟨o', keepL k o' ho' hk', hk'⟩
  · refine h.opens i x (fromO i x hx) ?_
    rw [Bool.or_eq_false_iff] at hf ⊢
    constructor
    · cases hq : slotHas z.kn.P i with
      | false => rfl
      | true => rw [slotK i hq] at hf; exact absurd hf.1 (by decide)
    · cases hq : msgHas z.kn.L i with
      | false => rfl
      | true => rw [msgK i hq] at hf; exact absurd hf.2 (by decide)
  · obtain ⟨t, ht, rfl⟩ := fromP i p hp
    have hb2 : fpB z.knE i t = false := by
      cases hq : fpB z.knE i t with
      | false => rfl
      | true =>
        unfold fp at hl
        rw [if_pos hq] at hl
        cases hl
    rw [fp_eq hb2] at hl
    exact heldK _ (h.procs i t.2 hi (at_snd.2 ⟨t, ht, rfl⟩) hl)
  · obtain ⟨t, ht, rfl⟩ := fromP i p hp
    cases hq : fpB z.knE i t with
    | true => unfold fp; rw [if_pos hq]
    | false =>
      rw [fp_eq hq] at hl
      have hk : z.knE.getD i false = true := by
        cases hk : z.knE.getD i false with
        | true => rfl
        | false =>
          unfold fpB at hq
          rw [hl, hk] at hq
          simp at hq
          omega
      rw [knE_at i (List.getElem?_eq_some_iff.1 ht).1] at hk
      rw [heldK _ hk] at hh
      cases hh
  · have hl2 : z.cut.kn.L.length = a := by rw [eL, List.length_take]; omega
    have hg := trim_last (k := n) (ha ▸ (hl2 ▸ he)) hn
    obtain ⟨t, ht⟩ : ∃ t, z.ts[n]? = some t := ⟨_, List.getElem?_eq_getElem (by have : z.kn.L.length = z.ts.length := List.length_map ..; omega)⟩
    unfold obG at hg
    rw [ht] at hg
    have hk : t.2.kind ≠ 0 := by simpa using hg
    exact ⟨t.2, keepL n t.2 (at_snd.2 ⟨t, ht, rfl⟩) hk, hk⟩
  · have hl2 : z.cut.kn.O.length = b := by rw [eO, List.length_take]; omega
    have hg := trim_last (k := n) (hb ▸ (hl2 ▸ he)) (Nat.zero_le _)
    obtain ⟨x, hx⟩ : ∃ x, z.O[n]? = some x := ⟨_, List.getElem?_eq_getElem (by have : z.kn.O.length = z.O.length := rfl; omega)⟩
    unfold opG at hg
    rw [hx] at hg
    have hk : x.obj ≠ -1 := by simpa using hg
    refine ⟨x, ?_, hk⟩
    rw [eO, List.getElem?_take, if_pos (offO n x hx hk)]
    exact hx
  · have hl2 : z.cut.kn.P.length = c := by rw [eP, List.length_map, List.length_take, List.length_mapIdx]; omega
    have hg := trim_last (k := n) (hc ▸ (hl2 ▸ he)) hn
    obtain ⟨t, ht⟩ : ∃ t, z.ps[n]? = some t := ⟨_, List.getElem?_eq_getElem (by omega)⟩
    unfold prG at hg
    rw [ht] at hg
    dsimp only at hg
    cases hlv : t.2.live with
    | true => exact ⟨t.2, keepP n t ht hlv, Or.inl hlv⟩
    | false =>
      rw [hlv] at hg
      have hk : z.knE.getD n false = true := by simpa using hg
      refine ⟨t.2, ?_, Or.inr (heldK _ (by rw [← knE_at n (by omega)]; exact hk))⟩
      rw [eP]
      refine at_snd.2 ⟨t, ?_, rfl⟩
      rw [List.getElem?_take, if_pos (by omega), List.getElem?_mapIdx, ht]
      simp only [Option.map_some]
      rw [fp_eq (by unfold fpB; rw [hk]; simp)]
/-- What is settled and trimmed is left as it is. -/
theorem settled_fin {x : Swp} (h : Settled x.kn) (ht : Trimmed x.kn) : x.fin.kn = x.kn := by
  have hlen : x.kn.L.length = x.ts.length := List.length_map ..
  have hplen : x.kn.P.length = x.ps.length := List.length_map ..
  have e1 : x.ts1.map Prod.snd = x.ts.map Prod.snd := by
    refine List.ext_getElem? fun i => ?_
    cases hx : x.ts[i]? with
    | none =>
      have hl := List.getElem?_eq_none_iff.1 hx
      rw [List.getElem?_eq_none (by unfold Swp.ts1; simp; omega), List.getElem?_eq_none (by simp; omega)]
    | some t =>
      rw [fo_had hx, at_snd.2 ⟨t, hx, rfl⟩]
      congr 1
      have hm : t.2 ∈ x.kn.L := List.mem_map_of_mem (List.mem_of_getElem? hx)
      unfold fo
      split
      · rename_i hr
        by_cases hk : t.2.kind = 0
        · exact (h.zero _ hm hk).symm
        · have := (h.reach i).2 ⟨t.2, at_snd.2 ⟨t, hx, rfl⟩, hk⟩
          rw [hr] at this
          cases this
      · split
        · rename_i hf
          unfold foB at hf
          simp only [Bool.and_eq_true, beq_iff_eq, decide_eq_true_eq, Bool.not_eq_true'] at hf
          obtain ⟨⟨⟨h4, h0⟩, hl⟩, hr⟩ := hf
          have := h.peer t.2 hm h4 h0 (by omega)
          obtain ⟨k, hk⟩ := Int.eq_ofNat_of_zero_le h0
          rw [hk, Int.toNat_natCast] at hr
          rw [hk] at this
          have := (h.reach k).2 (isObj_at.1 this)
          rw [hr] at this
          cases this
        · rfl
  have e2 : x.O1 = x.O := by
    refine List.ext_getElem? fun i => ?_
    unfold Swp.O1
    rw [List.getElem?_mapIdx]
    cases hx : x.O[i]? with
    | none => rfl
    | some y =>
      simp only [Option.map_some]
      unfold op
      split
      · rename_i hf
        rw [hadB_get _ _ (List.getElem?_eq_some_iff.1 hx).1, e1] at hf
        rw [h.opens i y hx hf]
      · rfl
  have e3 : x.more = false := by
    cases hm : x.more with
    | false => rfl
    | true =>
      obtain ⟨i, t, hi, hq⟩ := anyTo_some (Nat.le_refl _) hm
      unfold epB at hq
      simp only [Bool.and_eq_true, decide_eq_true_eq, Bool.not_eq_true'] at hq
      have := h.procs i t.2 hq.1.1 (at_snd.2 ⟨t, hi, rfl⟩) hq.1.2
      have hk := hq.2
      unfold Swp.kn1 at hk
      rw [known_get _ (List.getElem?_eq_some_iff.1 hi).1, e1] at hk
      rw [show heldB (x.ts.map Prod.snd) (i : Int) = heldB x.kn.L (i : Int) from rfl, this] at hk
      cases hk
  have e4 : x.all.kn = x.kn := by
    rw [Swp.all_end e3]
    show Kn.mk (x.ts1.map Prod.snd) x.O1 ((x.ps.mapIdx (ep x.kn1)).map Prod.snd) = _
    rw [e1, e2, rnd_ps e3]
    rfl
  show x.all.cut.kn = x.kn
  rw [Swp.cut_kn e4]
  have t1 : trimN (obG x.ts) 1 x.ts.length = x.ts.length := trim_all fun k hk he => by
    obtain ⟨o, ho, hne⟩ := ht.tl k hk (by omega)
    obtain ⟨t, h1, rfl⟩ := at_snd.1 (show (x.ts.map Prod.snd)[k]? = some o from ho)
    unfold obG
    rw [h1]
    simpa using hne
  have t2 : trimN (opG x.O) 0 x.O.length = x.O.length := trim_all fun k _ he => by
    obtain ⟨o, ho, hne⟩ := ht.tO k he
    unfold opG
    rw [show x.O[k]? = some o from ho]
    simpa using hne
  have t3 : trimN (prG x.knE x.ps) 1 x.ps.length = x.ps.length := trim_all fun k hk he => by
    obtain ⟨p, hp, hq⟩ := ht.tP k hk (by omega)
    obtain ⟨t, h1, rfl⟩ := at_snd.1 (show (x.ps.map Prod.snd)[k]? = some p from hp)
    unfold prG Swp.knE
    rw [h1, known_get _ (by omega)]
    dsimp only
    rcases hq with hq | hq
    · rw [hq]; rfl
    · rw [show heldB (x.ts.map Prod.snd) (k : Int) = true from hq]; simp
  have t4 : (x.ps.mapIdx (fp x.knE)).map Prod.snd = x.ps.map Prod.snd := by
    refine List.ext_getElem? fun i => ?_
    rw [List.getElem?_map, List.getElem?_mapIdx, List.getElem?_map]
    cases hx : x.ps[i]? with
    | none => rfl
    | some t =>
      simp only [Option.map_some]
      congr 1
      unfold fp
      split
      · rename_i hf
        unfold fpB at hf
        simp only [Bool.and_eq_true, decide_eq_true_eq, Bool.not_eq_true'] at hf
        obtain ⟨⟨h1, h2⟩, h3⟩ := hf
        unfold Swp.knE at h3
        rw [known_get _ (List.getElem?_eq_some_iff.1 hx).1] at h3
        exact (ht.dead i t.2 h1 (at_snd.2 ⟨t, hx, rfl⟩) h2 h3).symm
      · rfl
  show Kn.mk ((x.ts.take _).map Prod.snd) (x.O.take _) (List.map Prod.snd (List.take _ _)) = _
  rw [t1, t2, t3, List.take_length, List.take_length, List.map_take, t4]
  rw [show x.ps.length = (x.ps.map Prod.snd).length from (List.length_map ..).symm, List.take_length]
  rfl
theorem all_last : ∀ (n : Nat) (x : Swp), x.live ≤ n → ∃ x' : Swp, Swp.allN n x = x'.rnd ∧ x'.more = false
  | 0, x, h => ⟨x, rfl, by
    cases hm : x.more with
    | false => rfl
    | true => have := Swp.rnd_live hm; omega⟩
  | n + 1, x, h => by
    unfold Swp.allN
    cases hm : x.more with
    | false => rw [if_neg (by decide)]; exact ⟨x, rfl, hm⟩
    | true =>
      rw [if_pos rfl]
      have := Swp.rnd_live hm
      exact all_last n x.rnd (by omega)
/-- Swept once, and nothing is left to be swept. -/
theorem fin_settled (x : Swp) : Settled x.fin.kn ∧ Trimmed x.fin.kn := by
  obtain ⟨x', h1, h2⟩ := all_last x.live x (Nat.le_refl _)
  have h3 : Settled x.all.kn := by
    rw [show x.all = x'.rnd from h1]
    exact rnd_settled h2
  exact cut_settled h3
theorem fin_twice (x : Swp) : x.fin.fin.kn = x.fin.kn := settled_fin (fin_settled x).1 (fin_settled x).2
end Wp
end Go.Proofs.Ytdciohinlhbliaa

/-
  rglaw8.SweepTwice, walked.
-/
namespace Go.Proofs.Ytdciohinlhbliaa
open Go.RowKit Go.Maps
open Wp
namespace Wp
def kindsN (L : List Sp.Ob) (i : Nat) : Nat := (L.take i).countP fun o => o.kind != 0
theorem kindsN_next {L : List Sp.Ob} {i : Nat} {o : Sp.Ob} (h : L[i]? = some o) : kindsN L (i + 1) = if o.kind = 0 then kindsN L i else kindsN L i + 1 := by
  unfold kindsN
  rw [List.take_add_one, h, List.countP_append]
  by_cases hk : o.kind = 0
  · rw [if_pos hk]; simp [hk]
  · rw [if_neg hk]; simp [hk]
theorem kindsN_le (L : List Sp.Ob) (i : Nat) : kindsN L i ≤ i := by
  unfold kindsN
  refine Nat.le_trans List.countP_le_length ?_
  rw [List.length_take]
  omega
theorem fin_all (Q : Sp.Ob → Prop) (h0 : Q obZ0) (h1 : ∀ o : Sp.Ob, Q o → Q { o with peer := -1 }) {x : Swp} (h : ∀ o ∈ x.kn.L, Q o) : ∀ o ∈ x.fin.kn.L, Q o := by
  have hr : ∀ y : Swp, (∀ o ∈ y.kn.L, Q o) → ∀ o ∈ y.rnd.kn.L, Q o := fun y hy o ho => by
    obtain ⟨i, hi⟩ := mem_at ho
    obtain ⟨t, ht, rfl⟩ := fo_at y hi
    have := hy t.2 (List.mem_map_of_mem (List.mem_of_getElem? ht))
    rcases fo_cases (reachB y.kn) y.ts.length i t with e | e | e <;> rw [e]
    · exact h0
    · exact h1 _ this
    · exact this
  have ha : ∀ (n : Nat) (y : Swp), (∀ o ∈ y.kn.L, Q o) → ∀ o ∈ (Swp.allN n y).kn.L, Q o := fun n => by
    induction n with
    | zero => exact hr
    | succ n ih =>
      intro y hy
      unfold Swp.allN
      split
      · exact ih _ (hr y hy)
      · exact hr y hy
  intro o ho
  obtain ⟨t, ht, rfl⟩ := List.mem_map.1 (show o ∈ (x.all.ts.take _).map Prod.snd from ho)
  exact ha x.live x h t.2 (List.mem_map_of_mem (List.mem_of_mem_take ht))
theorem fin_prc (R : Sp.Prc → Prop) (h0 : R prcZ0.2) {x : Swp} (h : ∀ p ∈ x.kn.P, R p) : ∀ p ∈ x.fin.kn.P, R p := by
  have hr : ∀ y : Swp, (∀ p ∈ y.kn.P, R p) → ∀ p ∈ y.rnd.kn.P, R p := fun y hy p hp => by
    obtain ⟨t, ht, rfl⟩ := List.mem_map.1 (show p ∈ (y.ps.mapIdx (ep y.kn1)).map Prod.snd from hp)
    obtain ⟨i, hi, rfl⟩ := List.mem_mapIdx.1 ht
    have := hy y.ps[i].2 (List.mem_map_of_mem (List.getElem_mem hi))
    rcases ep_cases y.kn1 i y.ps[i] with e | e <;> rw [e]
    · exact h0
    · exact this
  have ha : ∀ (n : Nat) (y : Swp), (∀ p ∈ y.kn.P, R p) → ∀ p ∈ (Swp.allN n y).kn.P, R p := fun n => by
    induction n with
    | zero => exact hr
    | succ n ih =>
      intro y hy
      unfold Swp.allN
      split
      · exact ih _ (hr y hy)
      · exact hr y hy
  intro p hp
  obtain ⟨t, ht, rfl⟩ := List.mem_map.1 (show p ∈ ((x.all.ps.mapIdx (fp x.all.knE)).take _).map Prod.snd from hp)
  obtain ⟨i, hi, rfl⟩ := List.mem_mapIdx.1 (List.mem_of_mem_take ht)
  have := ha x.live x h x.all.ps[i].2 (List.mem_map_of_mem (List.getElem_mem hi))
  unfold fp
  split
  · exact h0
  · exact this
end Wp
/-- As many are left as one can come to. -/
theorem settled_count {K : Kn} (h : Settled K) : (nums (reachB K) K.L.length).length = kindsN K.L K.L.length := by
  have e : reachB K = K.L.map fun o => o.kind != 0 := by
    refine List.ext_getElem? fun n => ?_
    rw [List.getElem?_map]
    cases ho : K.L[n]? with
    | none => exact List.getElem?_eq_none (by rw [reachB_len]; exact List.getElem?_eq_none_iff.1 ho)
    | some o =>
      have hn := (List.getElem?_eq_some_iff.1 ho).1
      have e1 : (reachB K)[n]? = some ((reachB K).getD n false) := by rw [List.getD_eq_getElem?_getD, List.getElem?_eq_getElem (by rw [reachB_len]; exact hn)]; rfl
      rw [e1]
      simp only [Option.map_some, Option.some.injEq]
      rw [Bool.eq_iff_iff, h.reach n]
      constructor
      · rintro ⟨o', ho', hk⟩
        rw [ho] at ho'
        cases ho'
        simpa using hk
      · intro hk
        exact ⟨o, ho, by simpa using hk⟩
  have e2 : K.L.length = (reachB K).length := (reachB_len K).symm
  unfold kindsN
  rw [List.take_length]
  rw [e2, Go.Proofs.Ytdciohinlhbliaa.nums_len, e]
  unfold cnt
  rw [List.countP_map]
  rfl
set_option maxRecDepth 1000000 in
set_option maxHeartbeats 16000000 in
theorem stwice_any (l : List UInt8) (v : Value) (w : World) (hv : Bytes w (fun b => b < w.heap.size) v l) :
    Calls Try.prog 4 #[v] w fun e w' => e = .returned (.bool true) ∧ Below w.heap.size w w' := by
  have HV0 : Hid _ := hv
  have HA0 : Hid _ := alive8_any w
  clear hv
  go_enter Try.func4, Try.ntmps4
  go_wp2_with fail
  refine Calls.mono HA0.out ?_
  rintro e w0 ⟨rfl, hb0⟩
  have HG0 : Hid (Gw w w0) := Gw.below hb0
  have HB0 : Hid _ := build_any l v w0 (Row.more (Row.on HV0.out HG0.out.1) fun b hb => Nat.lt_of_lt_of_le hb HG0.out.2.1)
  clear hb0 HA0
  go_wp2_with fail
  refine Calls.mono HB0.out ?_
  rintro e w1 ⟨vo, vp, vq, L, O, P, rfl, hkern, hkok, hb1⟩
  have hat1 : KernAt w1 vo vp vq ⟨L, O, P⟩ := ⟨hkern.1.more fun b hb => hb.2, Row.more hkern.2.1 fun b hb => hb.2, procs_more hkern.2.2 fun b hb => hb.2⟩
  have HAT1 : Hid (KernAt w1 vo vp vq ⟨L, O, P⟩) := hat1
  obtain ⟨oa, on, oc, rfl⟩ : ∃ a n c, vo = .slice a n c := by obtain ⟨a, c, e, -⟩ := hkern.1.form; exact ⟨_, _, _, e⟩
  obtain ⟨pa, pn, pc, rfl⟩ : ∃ a n c, vp = .slice a n c := by obtain ⟨a, c, e, -⟩ := Row.form hkern.2.1; exact ⟨_, _, _, e⟩
  obtain ⟨qa, qn, qc, rfl⟩ : ∃ a n c, vq = .slice a n c := by obtain ⟨ps, -, h, -⟩ := hkern.2.2; obtain ⟨a, c, e, -⟩ := Row.form h; exact ⟨_, _, _, e⟩
  have HG1 : Hid (Gw w w1) := Gw.trans HG0.out (Gw.below hb1)
  have HSWP : Hid (Calls Try.prog 14 #[.agg #[.slice oa on oc, .slice pa pn pc, .slice qa qn qc]] w1 fun e w' => ∃ x : Swp, x.ts.map Prod.snd = L ∧ x.O = O ∧ x.ps.map Prod.snd = P ∧ SweepW x w1 e w') := by
    refine sweep_any L O P _ _ _ w1 fun W' hb => ?_
    obtain ⟨h1, h2, h3⟩ := HAT1.out.gw (Gw.below hb)
    have hok := hkok
    have hl := hok.len
    have hm := hok.many
    have hsm := hok.some
    exact sown_any ⟨L, O, P⟩ _ _ _ _ W' h1 h2 h3 (fun b hb => hb) (fits_of hok.objs hl) (kindOk_of hok.objs) (by show L.length ≤ 1000; omega) (by show O.length ≤ 1000; omega) (by show 1 ≤ P.length ∧ P.length ≤ 1000; omega) (fun p hp => by have := (hok.procs p hp).1; omega)
  have HOK : Hid (Sp.KOk L O P) := hkok
  clear hkern hat1 hb1 hkok HB0
  go_wp2_with fail
  refine Calls.mono HSWP.out ?_
  rintro e w3 ⟨x, e1, e2, e3, oa', pa', qa', oc', pc', qc', rfl, h1, h2, h3, h4, h5, hg3⟩
  have hkp := keep_fin x
  have hst := (fin_settled x).1
  have htw := fin_twice x
  have hok := HOK.out
  have hkn : x.kn = ⟨L, O, P⟩ := by unfold Swp.kn; rw [e1, e2, e3]
  have HFIT : Hid (∀ o ∈ x.fin.kn.L, Fits o) := fin_all Fits (by unfold Fits obZ0; simp) (fun o h => h) (by rw [hkn]; exact fits_of hok.objs hok.len)
  have HKO : Hid (KindOk x.fin.kn.L) := kinds_fin (by rw [e1]; exact kindOk_of hok.objs)
  have HSLT : Hid (∀ p ∈ x.fin.kn.P, p.slots.length ≤ 1000) := fin_prc (fun p => p.slots.length ≤ 1000) (by show (0 : Nat) ≤ 1000; omega) (by rw [hkn]; exact fun p hp => by have := (hok.procs p hp).1; omega)
  have HLN : Hid (x.fin.ts.length ≤ 1000 ∧ x.fin.O.length ≤ 1000 ∧ 1 ≤ x.fin.ps.length ∧ x.fin.ps.length ≤ 1000) := by
    have ht1 := hkp.tl
    have ht2 := hkp.pl
    have ht3 := hkp.ol
    have hlt : x.ts.length = L.length := by rw [← e1, List.length_map]
    have hlp : x.ps.length = P.length := by rw [← e3, List.length_map]
    have hsm := hok.some
    have hl := hok.len
    have hm := hok.many
    exact ⟨by omega, by rw [e2] at ht3; omega, fin_ps (by omega), by omega⟩
  have HST : Hid (Settled x.fin.kn) := hst
  have HTW : Hid (∀ y : Swp, y.kn = x.fin.kn → y.fin.kn = x.fin.kn) := fun y hy => (Swp.fin_kn hy).trans htw
  have HAT3 : Hid (KernAt w3 (.slice oa' x.fin.ts.length oc') (.slice pa' x.fin.O.length pc') (.slice qa' x.fin.ps.length qc') x.fin.kn) := ⟨⟨x.fin.ts, rfl, h1, h4⟩, h2, ⟨x.fin.ps, rfl, h3, h5⟩⟩
  have HRO : Hid (Row w3 (fun b => b < w3.heap.size) 9 (.slice oa' x.fin.ts.length oc') (x.fin.ts.map objC)) := h1
  have HG3 : Hid (Gw w w3) := HG1.out.trans hg3
  clear h1 h2 h3 h4 h5 hkp hst htw hok hkn e1 e2 e3 hg3 HSWP HOK HAT1
  generalize x.fin = z at *
  have HZL : Hid (z.kn.L.length = z.ts.length ∧ z.kn.O.length = z.O.length ∧ z.kn.P.length = z.ps.length) := ⟨List.length_map .., rfl, List.length_map ..⟩
  have hk4 := Blk.new w3 #[.slice oa' z.ts.length oc', .slice pa' z.O.length pc', .slice qa' z.ps.length qc'] 27
  have HK4 : Hid (Blk (w3.alloc (.cells #[.slice oa' z.ts.length oc', .slice pa' z.O.length pc', .slice qa' z.ps.length qc'] 27)) w3.heap.size #[.slice oa' z.ts.length oc', .slice pa' z.O.length pc', .slice qa' z.ps.length qc'] 27) := hk4
  have HG34 : Hid (Gw w3 (w3.alloc (.cells #[.slice oa' z.ts.length oc', .slice pa' z.O.length pc', .slice qa' z.ps.length qc'] 27))) := Gw.new w3 _
  have kc := hk4.cell
  have kl := hk4.lt
  have hgw : Gw (w3.alloc (.cells #[.slice oa' z.ts.length oc', .slice pa' z.O.length pc', .slice qa' z.ps.length qc'] 27)) (w3.alloc (.cells #[.slice oa' z.ts.length oc', .slice pa' z.O.length pc', .slice qa' z.ps.length qc'] 27)).drew := Gw.drew _
  clear hk4
  go_upto_region 4 with fail
  generalize (w3.alloc (.cells #[.slice oa' z.ts.length oc', .slice pa' z.O.length pc', .slice qa' z.ps.length qc'] 27)) = w4 at *
  have HKC : Hid (∀ W, Gw w4 W → (W.cell? ⟨w3.heap.size, 0, none⟩ = some (.slice oa' z.ts.length oc') ∧ W.cell? ⟨w3.heap.size, 1, none⟩ = some (.slice pa' z.O.length pc') ∧ W.cell? ⟨w3.heap.size, 2, none⟩ = some (.slice qa' z.ps.length qc')) ∧ w3.heap.size < W.heap.size) := fun W hg => by
    have hb := HK4.out.on hg.1 HK4.out.lt
    exact ⟨⟨hb.cell 0, hb.cell 1, hb.cell 2⟩, hb.lt⟩
  have HAT : Hid (∀ W, Gw w4 W → KernAt W (.slice oa' z.ts.length oc') (.slice pa' z.O.length pc') (.slice qa' z.ps.length qc') z.kn) := fun W hg => HAT3.out.gw (HG34.out.trans hg)
  have HOW : Hid (∀ W, Gw w4 W → Calls Try.prog 13 #[.agg #[.slice oa' z.ts.length oc', .slice pa' z.O.length pc', .slice qa' z.ps.length qc']] W (OwnW z.kn.L z.kn.O z.kn.P W)) := fun W hg => by
    obtain ⟨h1, h2, h3⟩ := HAT.out W hg
    obtain ⟨l1, l2, l3⟩ := HZL.out
    obtain ⟨n1, n2, n3, n4⟩ := HLN.out
    exact sown_any z.kn _ _ _ _ W h1 h2 h3 (fun b hb => hb) HFIT.out HKO.out (by omega) (by omega) ⟨by omega, by omega⟩ HSLT.out
  have HSWP : Hid (∀ W, Gw w4 W → Calls Try.prog 14 #[.agg #[.slice oa' z.ts.length oc', .slice pa' z.O.length pc', .slice qa' z.ps.length qc']] W fun e w' => ∃ a b c, e = .returned (.agg #[a, b, c]) ∧ KernAt w' a b c z.kn ∧ Gw w4 w' ∧ (w'.cell? ⟨w3.heap.size, 0, none⟩ = some (.slice oa' z.ts.length oc') ∧ w'.cell? ⟨w3.heap.size, 1, none⟩ = some (.slice pa' z.O.length pc') ∧ w'.cell? ⟨w3.heap.size, 2, none⟩ = some (.slice qa' z.ps.length qc')) ∧ w3.heap.size < w'.heap.size) := fun W hg => by
    refine (sweep_any z.kn.L z.kn.O z.kn.P _ _ _ W fun W' hb => HOW.out W' (hg.trans (Gw.below hb))).mono fun e w' h => ?_
    obtain ⟨y, e1, e2, e3, hx⟩ := h
    obtain ⟨a, b, c, e4, h1, h2⟩ := hx.kern
    have hk := HTW.out y (by unfold Swp.kn; rw [e1, e2, e3]; rfl)
    refine ⟨a, b, c, e4, ?_, hg.trans h2, HKC.out w' (hg.trans h2)⟩
    rw [← hk]
    exact h1
  have HSK : Hid (∀ W, Gw w4 W → ∀ a b c, KernAt W a b c z.kn → Calls Try.prog 12 #[.agg #[a, b, c], .agg #[.slice oa' z.ts.length oc', .slice pa' z.O.length pc', .slice qa' z.ps.length qc']] W fun e w' => e = .returned (.bool true) ∧ Gw w4 w' ∧ (w'.cell? ⟨w3.heap.size, 0, none⟩ = some (.slice oa' z.ts.length oc') ∧ w'.cell? ⟨w3.heap.size, 1, none⟩ = some (.slice pa' z.O.length pc') ∧ w'.cell? ⟨w3.heap.size, 2, none⟩ = some (.slice qa' z.ps.length qc')) ∧ w3.heap.size < w'.heap.size) := fun W hg a b c h => by
    refine (same_kernel z.kn _ _ _ _ _ _ _ _ W h (HAT.out W hg) (fun b hb => hb) (fun b hb => hb)).mono fun e w' hh => ?_
    exact ⟨hh.1, hg.trans (Gw.below hh.2), HKC.out w' (hg.trans (Gw.below hh.2))⟩
  have kc0 := kc 0
  have kc1 := kc 1
  have kc2 := kc 2
  simp at kc0 kc1 kc2
  clear kc
  go_region_held_law (fun w' => w'.cell? ⟨w3.heap.size, 0, none⟩ = some (.slice oa' z.ts.length oc') ∧ w'.cell? ⟨w3.heap.size, 1, none⟩ = some (.slice pa' z.O.length pc') ∧ w'.cell? ⟨w3.heap.size, 2, none⟩ = some (.slice qa' z.ps.length qc')) (go_keep) (first
    | ((go_at_call 14; with_reducible (refine Calls.mono (HSWP.out _ hgw) ?_); clear hgw; rintro e W3 ⟨vd, ve, vf, rfl, hkb, hgw, ⟨hs0, hs1, hs2⟩, hgl⟩))
    | ((go_at_call 12; with_reducible (refine Calls.mono (HSK.out _ hgw _ _ _ hkb) ?_); clear hgw; rintro e W5 ⟨rfl, hgw, ⟨hs0, hs1, hs2⟩, hgl⟩)))
  all_goals
    have HG5 : Hid (Gw w4 W5) := hgw
    clear hkb hgw hs0 hs1 hs2 hgl
    obtain ⟨⟨k50, k51, k52⟩, k5l⟩ := HKC.out W5 HG5.out
    go_wp2_with fail
    go_loopw [4, 20] (fun s4 s20 wr => ∃ i : Nat, i ≤ z.ts.length ∧ s4 = .int .i64 (kindsN z.kn.L i : Nat) ∧ s20 = .int .i64 i ∧ Gw W5 wr) (fun _ s20 _ => z.ts.length - (intOf s20).toNat)
    case atStart => exact ⟨0, Nat.zero_le _, rfl, rfl, Gw.refl W5⟩
    case round =>
      obtain ⟨i, hi, rfl, rfl, hg⟩ := hrel
      have HGR : Hid (Gw W5 wr) := hg
      by_cases hlt : i < z.ts.length
      · obtain ⟨⟨sl, o⟩, hx⟩ : ∃ x, z.ts[i]? = some x := ⟨_, List.getElem?_eq_getElem hlt⟩
        have hg4 : Gw w4 wr := HG5.out.trans hg
        obtain ⟨b, of, c, he, hSb, hc1, hcm1, h5⟩ := (Row.on HRO.out (HG34.out.trans hg4).1).some (by rw [List.length_map]; omega)
        obtain ⟨rfl, -, rfl⟩ := Value.slice.inj he
        have hi1 := h5 i _ (by rw [List.getElem?_map, hx]; rfl)
        have a0 := hi1 0 _ rfl
        have a1 := hi1 1 _ rfl
        have a2 := hi1 2 _ rfl
        have a3 := hi1 3 _ rfl
        have a4 := hi1 4 _ rfl
        have a5 := hi1 5 _ rfl
        have a6 := hi1 6 _ rfl
        have a7 := hi1 7 _ rfl
        have a8 := hi1 8 _ rfl
        rw [Nat.add_zero] at a0
        dsimp only at a0 a1 a2 a3 a4 a5 a6 a7 a8
        rw [List.length_map] at hc1
        unfold maxLen at hcm1
        have hnx := kindsN_next (L := z.kn.L) (i := i) (o := o) (at_snd.2 ⟨_, hx, rfl⟩)
        have hkl := kindsN_le z.kn.L i
        have HNX : Hid _ := hnx
        have HLT : Hid (i < z.ts.length) := hlt
        generalize hkn : kindsN z.kn.L i = kn at *
        have hll := HLN.out.1
        have nn1 : b < wr.heap.size := by have := HG34.out.2.1; have := hg4.2.1; omega
        clear he h5 hi1 hx hg hg4 hnx hll
        by_cases hk : o.kind = 0
        · rw [hk] at a0
          go_wp2
          go_roundw
          case rel => exact ⟨i + 1, by omega, by rw [HNX.out, if_pos hk], by go_num, HGR.out.trans (Gw.new _ _)⟩
          case measure => simp [intOf]; omega
        · go_wp2
          go_roundw
          case rel => exact ⟨i + 1, by omega, by rw [HNX.out, if_neg hk]; go_num, by go_num, HGR.out.trans (Gw.new _ _)⟩
          case measure => simp [intOf]; omega
      · obtain rfl : i = z.ts.length := by omega
        have hg4 : Gw w4 wr := HG5.out.trans hg
        have HG4 : Hid (Gw w4 wr) := hg4
        obtain ⟨⟨kr0, kr1, kr2⟩, krl⟩ := HKC.out wr hg4
        obtain ⟨h1, h2, h3⟩ := HAT.out wr hg4
        obtain ⟨l1, l2, l3⟩ := HZL.out
        have HSR : Hid _ := sreach_any z.kn _ _ _ _ wr h1 h2 h3 (fun b hb => hb) (by rw [l1]; exact HLN.out.1) HKO.out
        have hcnt := settled_count HST.out
        rw [l1] at HSR hcnt
        rw [← hcnt]
        have HNL : Hid ((nums (reachB z.kn) z.ts.length).length ≤ 1000) := by
          have := kindsN_le z.kn.L z.ts.length
          have := HLN.out.1
          unfold Hid
          omega
        generalize nums (reachB z.kn) z.ts.length = ns at *
        clear hg hg4 h1 h2 h3 l1 l2 l3 hcnt
        go_wp2_with fail
        refine Calls.mono HSR.out ?_
        rintro e w6 ⟨⟨ra, rn, rc⟩, rfl, hm6, hb6⟩
        obtain ⟨a', c', he, hnm, hga⟩ := hm6.form
        rw [List.length_map] at he hnm hga
        obtain ⟨rfl, rfl, rfl⟩ := Value.slice.inj he
        have HG6 : Hid (Gw wr w6) := Gw.below hb6
        clear hm6 hb6 he hnm hga
        go_wp2
        go_ret
        exact ⟨by simp, ((((HG3.out.trans HG34.out).trans HG5.out).trans HGR.out).trans HG6.out).2.2 _ (Nat.le_refl _)⟩
end Go.Proofs.Ytdciohinlhbliaa

namespace Go.Proofs.Ytdciohinlhbliaa
open Go.ChangeShapes Go.WideShapes Go.ChangeAt Go.RowKit
open Go.ChangeMaps (open_string shut_string)
set_option maxRecDepth 100000 in
theorem sweepTwice_lifted (os : Os) (started : os.Started) (H : Type) (enc : TypeId × Value → H) :
    ReturnsInHanded {} Try.checked os 4 .any (Rows.sweepTwiceSpec.pre6 enc Try.prog Try.f4 Rows.sweepTwiceRow.domain false) (Rows.sweepTwiceSpec.post enc Try.prog Try.f4 false true false false) := by
  refine returnsInHanded_of_change_sized (C := Try.checked) vlaw_own started (by kernel_rfl) Try.func4
    (ChangeSpec.witness6 (enc := enc) (C := Try.checked) false ⟨#[], #[.slice none 0 0], []⟩ 8 (by kernel_rfl) (by kernel_rfl) (by kernel_rfl) (by kernel_rfl)) ?_
  intro W base args ds gs before hval0 hW _ hsz0 _
  have hval : ∀ (j : Nat) t v, Try.f4.params[j]? = some t → args[j]? = some v → Value.okWide Try.prog W .any base t v := hval0
  have hsz : (DataW.weightsEach Try.prog (Try.f4.params.toList ++ Rows.sweepTwiceSpec.plain.varTypes Try.prog) (ds ++ gs)).all (· ≤ reachBytes) = true := hsz0
  have hW' := hW
  obtain ⟨p, q, hA0, hV, rfl, hfz, hnd⟩ := hW
  have hA : DataW.TrodAll enc Try.prog W 0 (fun _ => true) true Try.f4.params.toList args.toList ds p := hA0
  rw [Try.params4] at hA hval hsz
  obtain ⟨v0, vs0, d0, ds0, p0, q0, hargs, rfl, rfl, h0, r0⟩ := trodAll_cons hA
  obtain ⟨rfl, rfl, rfl⟩ := trodAll_nil r0
  obtain rfl : args = #[v0] := by cases args; simp_all
  obtain ⟨rfl, rfl⟩ := trodVars_none hV
  have lt0 : ∀ x ∈ p0, x.block < W.heap.size := by obtain ⟨m, hm⟩ := h0; exact DataW.trod_lt m _ _ _ hm
  obtain ⟨l0, hD0⟩ := vopen_bytes (hval 0 22 v0 rfl rfl) h0
  clear hA0 hval0 hsz hsz0
  refine (stwice_any l0 v0 W hD0.1).mono fun e W' ⟨he, bel⟩ => ?_
  subst he
  exact ⟨_, rfl, _, _, _, [], _, [], hW', trodAll_mk1 (shut_bool Try.underlying4 _), trodAll_cons_mk (Below.trod vlaw_laidOut (by kernel_rfl) (of_decide_eq_true (by kernel_rfl)) h0 bel lt0) trodAll_mk0, rfl, bel.frame _, fun h => by cases h⟩
theorem sweepTwice_over : Rows.sweepTwiceRow.holds Try.pinned (OpenSpec.ofChange Rows.sweepTwiceSpec) :=
  OpenClaim.holds_of_wide 4 Try.f4 rfl rfl rfl rfl rfl rfl rfl ⟨rfl, rfl, rfl, rfl, rfl⟩ rfl rfl rfl rfl rfl (by kernel_rfl) Try.func4 (by kernel_rfl)
    (of_decide_eq_true (by kernel_rfl)) (by unfold Func.isWrapper; first | (rw [if_pos (by decide +kernel)]; kernel_rfl) | (rw [if_neg (by decide +kernel)]; exact ⟨rfl, rfl⟩))
    (fun os started H enc _ => sweepTwice_lifted os started H enc)
/-- The statement. -/
theorem sweepTwiceHolds : Rows.SweepTwiceSaid := sweepTwice_over
#print axioms sweepTwiceHolds
end Go.Proofs.Ytdciohinlhbliaa