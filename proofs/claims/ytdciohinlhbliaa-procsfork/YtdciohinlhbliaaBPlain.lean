
/-
  Kernels that rgref5.Build makes, as plain functions over lists: objects.
-/
import Derived.Test.YtdciohinlhbliaaRPair
import Derived.Test.YtdciohinlhbliaaBDefs
namespace Go.Proofs.Ytdciohinlhbliaa
open Go.RowKit
namespace Sp
/-- May it be entered there? -/
def mayE (L : List Ob) (od : Ob) (r : Rnd) : Prop := od.links ≠ 0 ∧ find (L ++ [rO r]) (r.d : Int) (rN r) = -1 ∧ od.ents.length < 8
/-- One round: an object more, entered where it can be. -/
def EnterTo (L : List Ob) (od : Ob) (r : Rnd) : List Ob := L.set r.d { od with ents := insE ⟨rN r, (L.length : Int)⟩ od.ents } ++ [{ rO r with links := 1, up := if rK r = 2 then (r.d : Int) else 0 }]
def lone (L : List Ob) (r : Rnd) : Ob := { rO r with up := if rK r = 2 then (L.length : Int) else 0 }
def LeaveAt (L : List Ob) (r : Rnd) : List Ob := L ++ [lone L r]
/-- One round's objects. -/
def Step (L : List Ob) (r : Rnd) (L' : List Ob) : Prop := ∃ od : Ob, L[r.d]? = some od ∧ od.kind = 2 ∧ ((mayE L od r ∧ L' = EnterTo L od r) ∨ (¬ mayE L od r ∧ L' = LeaveAt L r))
/-- What holds of one object among these. -/
structure OOk (L : List Ob) (i : Nat) (o : Ob) : Prop where
  kind : 1 ≤ o.kind ∧ o.kind ≤ 5
  data : o.data.length ≤ 4
  nodata : o.kind ≠ 1 → o.data = []
  target : o.target.size ≤ 4
  noents : o.kind ≠ 2 → o.ents = []
  rise : Rising o.ents
  names : ∀ e ∈ o.ents, Pt.isName e.name.data.toList = true ∧ e.name.size = 1
  leads : ∀ e ∈ o.ents, ∃ (j : Nat) (oj : Ob), e.obj = (j : Int) ∧ i < j ∧ L[j]? = some oj ∧ oj.links = 1 ∧ (oj.kind = 2 → oj.up = (i : Int)) ∧ oj.kind ≤ 3
  links : o.links = 0 ∨ o.links = 1
  up : o.kind = 2 → ∃ (u : Nat) (ou : Ob), o.up = (u : Int) ∧ u ≤ i ∧ L[u]? = some ou ∧ ou.kind = 2 ∧ (u = i → i = 0 ∨ o.links = 0)
  noup : o.kind ≠ 2 → o.up = 0
  peer : o.kind = 4 → ∃ (p : Nat) (op : Ob), o.peer = (p : Int) ∧ L[p]? = some op ∧ op.kind = 4 ∧ op.peer = (i : Int) ∧ p ≠ i
  nopeer : o.kind ≠ 4 → o.peer = -1
  proc : o.kind = 5 → 1 ≤ o.proc ∧ o.proc ≤ 2
  noproc : o.kind ≠ 5 → o.proc = -1
  noqueue : o.kind ≠ 4 → o.queue = []
  queue : o.queue.length ≤ 1
  mdata : ∀ m ∈ o.queue, m.data = [109]
  many : o.ents.length < L.length
/-- What holds of all of them. -/
structure TOk (L : List Ob) : Prop where
  root : ∃ o : Ob, L[0]? = some o ∧ o.kind = 2 ∧ o.links = 1 ∧ o.up = 0
  all : ∀ (i : Nat) (o : Ob), L[i]? = some o → OOk L i o
/-- The same kinds, links, ways up, other ends; perhaps more of them. -/
def Skel (L L' : List Ob) : Prop := L.length ≤ L'.length ∧ ∀ (i : Nat) (o : Ob), L[i]? = some o → ∃ o' : Ob, L'[i]? = some o' ∧ o'.kind = o.kind ∧ o'.links = o.links ∧ o'.up = o.up ∧ o'.peer = o.peer
theorem OOk.skel {L L' : List Ob} {i : Nat} {o : Ob} (h : OOk L i o) (hs : Skel L L') : OOk L' i o := by
  refine { h with leads := ?_, up := ?_, peer := ?_, many := Nat.lt_of_lt_of_le h.many hs.1 }
  · intro e he
    obtain ⟨j, oj, h1, h2, h3, h4, h5, h6⟩ := h.leads e he
    obtain ⟨o', g1, g2, g3, g4, g5⟩ := hs.2 j oj h3
    exact ⟨j, o', h1, h2, g1, g3.trans h4, fun hk => g4.trans (h5 (g2 ▸ hk)), g2 ▸ h6⟩
  · intro hk
    obtain ⟨u, ou, h1, h2, h3, h4, h5⟩ := h.up hk
    obtain ⟨o', g1, g2, g3, g4, g5⟩ := hs.2 u ou h3
    exact ⟨u, o', h1, h2, g1, g2.trans h4, h5⟩
  · intro hk
    obtain ⟨p, op, h1, h2, h3, h4, h5⟩ := h.peer hk
    obtain ⟨o', g1, g2, g3, g4, g5⟩ := hs.2 p op h2
    exact ⟨p, o', h1, g1, g2.trans h3, g5.trans h4, h5⟩
theorem Skel.app (L M : List Ob) : Skel L (L ++ M) := ⟨by simp, fun i o h => ⟨o, by rw [List.getElem?_append_left (List.getElem?_eq_some_iff.1 h).1]; exact h, rfl, rfl, rfl, rfl⟩⟩
theorem Skel.set {L : List Ob} {d : Nat} {od x : Ob} (hd : L[d]? = some od) (h1 : x.kind = od.kind) (h2 : x.links = od.links) (h3 : x.up = od.up) (h4 : x.peer = od.peer) : Skel L (L.set d x) := by
  refine ⟨by simp, fun i o h => ?_⟩
  by_cases hi : i = d
  · subst hi
    rw [hd] at h
    cases h
    exact ⟨x, List.getElem?_set_self (List.getElem?_eq_some_iff.1 hd).1, h1, h2, h3, h4⟩
  · exact ⟨o, by rw [List.getElem?_set_ne (by omega)]; exact h, rfl, rfl, rfl, rfl⟩
theorem Skel.trans {L M N : List Ob} (h : Skel L M) (h' : Skel M N) : Skel L N := by
  refine ⟨Nat.le_trans h.1 h'.1, fun i o ho => ?_⟩
  obtain ⟨o', g1, g2, g3, g4, g5⟩ := h.2 i o ho
  obtain ⟨o'', k1, k2, k3, k4, k5⟩ := h'.2 i o' g1
  exact ⟨o'', k1, k2.trans g2, k3.trans g3, k4.trans g4, k5.trans g5⟩
theorem TOk.first : TOk [rootO] := by
  refine ⟨⟨rootO, rfl, rfl, rfl, rfl⟩, fun i o h => ?_⟩
  match i, h with
  | 0, h =>
    simp at h
    subst h
    exact ⟨by decide, by decide, fun _ => rfl, by decide, fun h => absurd rfl h, List.Pairwise.nil, fun e he => by simp [rootO] at he, fun e he => by simp [rootO] at he, Or.inr rfl, fun _ => ⟨0, rootO, rfl, Nat.le_refl _, rfl, rfl, fun _ => Or.inl rfl⟩, fun h => absurd rfl h, fun h => by simp [rootO] at h, fun _ => rfl, fun h => by simp [rootO] at h, fun _ => rfl, fun _ => rfl, by decide, fun m hm => by simp [rootO] at hm, by decide⟩
  | i + 1, h => simp at h
theorem rK_cases (r : Rnd) : rK r = 1 ∧ r.kind % 3 = 0 ∨ rK r = 2 ∧ r.kind % 3 = 1 ∨ rK r = 3 ∧ r.kind % 3 = 2 := by
  unfold rK
  have := Nat.mod_lt r.kind (show 0 < 3 by decide)
  omega
theorem tgts_size (n : Nat) : (tgts.getD n ⟨#[]⟩).size ≤ 4 := by
  match n with
  | 0 | 1 | 2 | 3 | 4 | 5 => decide
  | n + 6 => exact Nat.zero_le _
theorem rN_name (r : Rnd) : Pt.isName (rN r).data.toList = true ∧ (rN r).size = 1 := by
  unfold rN
  have h := Nat.mod_lt r.nm (show 0 < 4 by decide)
  generalize r.nm % 4 = n at h
  match n, h with
  | 0, _ => decide
  | 1, _ => decide
  | 2, _ => decide
  | 3, _ => decide
theorem find_app {L : List Ob} {d : Nat} {od : Ob} (hd : L[d]? = some od) (M : List Ob) (name : ByteArray) : find (L ++ M) (d : Int) name = find L (d : Int) name := by
  unfold find objAt
  rw [if_pos (by omega), if_pos (by omega), Int.toNat_natCast, List.getElem?_append_left (List.getElem?_eq_some_iff.1 hd).1]
theorem find_none {L : List Ob} {d : Nat} {od : Ob} {name : ByteArray} (hd : L[d]? = some od) (hk : od.kind = 2) (hp : ∀ e ∈ od.ents, 0 ≤ e.obj) (h : find L (d : Int) name = -1) : ∀ e ∈ od.ents, eqB e.name name = false := by
  unfold find at h
  have ho : objAt L (d : Int) = some od := by
    unfold objAt
    rw [if_pos (by omega), Int.toNat_natCast, hd, Option.filter_some]
    rw [if_pos (by simp; omega)]
  rw [ho] at h
  dsimp only at h
  rw [if_pos hk] at h
  intro e he
  cases hf : od.ents.find? (fun e => eqB e.name name) with
  | none => have := List.find?_eq_none.1 hf e he; simpa using this
  | some x =>
    rw [hf] at h
    dsimp only at h
    have := hp x (List.mem_of_find?_eq_some hf)
    omega
theorem OOk.new {L : List Ob} {r : Rnd} {l u : Int} (hl : l = 0 ∨ l = 1) (h2 : rK r = 2 → ∃ (k : Nat) (ou : Ob), u = (k : Int) ∧ k ≤ L.length ∧ (L ++ [{ rO r with links := l, up := u }])[k]? = some ou ∧ ou.kind = 2 ∧ (k = L.length → L.length = 0 ∨ l = 0)) (h3 : rK r ≠ 2 → u = 0) : OOk (L ++ [{ rO r with links := l, up := u }]) L.length { rO r with links := l, up := u } := by
  have hc := rK_cases r
  refine ⟨by simp only [rO]; omega, ?_, ?_, ?_, fun _ => rfl, List.Pairwise.nil, fun e he => by simp [rO] at he, fun e he => by simp [rO] at he, hl, h2, h3, fun h => by simp only [rO] at h; omega, fun _ => rfl, fun h => by simp only [rO] at h; omega, fun _ => rfl, fun _ => rfl, by simp [rO], fun m hm => by simp [rO] at hm, by simp [rO]⟩
  · simp only [rO]
    split
    · rw [List.length_take]; exact Nat.min_le_right _ _
    · simp
  · simp only [rO]
    intro h
    rw [if_neg (by omega)]
  · simp only [rO]
    split
    · exact tgts_size _
    · decide
theorem TOk.step {L L' : List Ob} {r : Rnd} (h : TOk L) (hs : Step L r L') : TOk L' ∧ L'.length = L.length + 1 := by
  obtain ⟨od, hd, hk, ⟨⟨hl, hf, h8⟩, rfl⟩ | ⟨_, rfl⟩⟩ := hs
  · have hdl := (List.getElem?_eq_some_iff.1 hd).1
    have hod := h.all _ _ hd
    have hfn := find_none hd hk (fun e he => by obtain ⟨j, _, h1, _⟩ := hod.leads e he; omega) (by rw [find_app hd] at hf; exact hf)
    have hcx : ∀ e ∈ od.ents, cmpE e ⟨rN r, (L.length : Int)⟩ ≠ 0 := fun e he hc => by
      have := cmpE_name hc
      have h2 := hfn e he
      rw [(eqB_iff _ _).2 this] at h2
      cases h2
    have hS1 : Skel L (L.set r.d { od with ents := insE ⟨rN r, (L.length : Int)⟩ od.ents }) := Skel.set hd rfl rfl rfl rfl
    have hS : Skel L (EnterTo L od r) := hS1.trans (Skel.app _ _)
    have hlen : (EnterTo L od r).length = L.length + 1 := by simp [EnterTo]
    refine ⟨⟨?_, fun i o hi => ?_⟩, hlen⟩
    · obtain ⟨o, h1, h2, h3, h4⟩ := h.root
      obtain ⟨o', g1, g2, g3, g4, _⟩ := hS.2 0 o h1
      exact ⟨o', g1, g2.trans h2, g3.trans h3, g4.trans h4⟩
    · by_cases hlt : i < L.length
      · unfold EnterTo at hi
        rw [List.getElem?_append_left (by simpa using hlt)] at hi
        by_cases hid : i = r.d
        · subst hid
          rw [List.getElem?_set_self hlt] at hi
          cases hi
          have hb := hod.skel hS
          have hpm := insE_perm ⟨rN r, (L.length : Int)⟩ od.ents
          have hmem : ∀ e, e ∈ insE ⟨rN r, (L.length : Int)⟩ od.ents → e ∈ od.ents ∨ e = ⟨rN r, (L.length : Int)⟩ := fun e he => by
            rcases List.mem_append.1 (hpm.mem_iff.1 he) with h1 | h1
            · exact Or.inl h1
            · exact Or.inr (by simpa using h1)
          refine { hb with noents := fun h => absurd hk h, rise := insE_rising _ _ hod.rise hcx, names := ?_, leads := ?_, many := ?_ }
          · intro e he
            rcases hmem e he with h1 | rfl
            · exact hod.names e h1
            · exact rN_name r
          · intro e he
            rcases hmem e he with h1 | rfl
            · exact hb.leads e h1
            · refine ⟨L.length, { rO r with links := 1, up := if rK r = 2 then (r.d : Int) else 0 }, rfl, hdl, by unfold EnterTo; rw [List.getElem?_append_right (by simp)]; simp, rfl, fun hk2 => if_pos hk2, ?_⟩
              have := rK_cases r
              show rK r ≤ 3
              omega
          · have := hpm.length_eq
            have := hod.many
            rw [hlen]
            simp at *
            omega
        · rw [List.getElem?_set_ne (by omega)] at hi
          exact (h.all i o hi).skel hS
      · have hi0 : i = L.length := by
          have := (List.getElem?_eq_some_iff.1 hi).1
          omega
        subst hi0
        have hi' : (EnterTo L od r)[L.length]? = some { rO r with links := 1, up := if rK r = 2 then (r.d : Int) else 0 } := by unfold EnterTo; rw [List.getElem?_append_right (by simp)]; simp
        rw [hi'] at hi
        cases hi
        have := OOk.new (L := L.set r.d { od with ents := insE ⟨rN r, (L.length : Int)⟩ od.ents }) (r := r) (l := 1) (u := if rK r = 2 then (r.d : Int) else 0) (Or.inr rfl) (fun h2 => by
          rw [if_pos h2]
          refine ⟨r.d, { od with ents := insE ⟨rN r, (L.length : Int)⟩ od.ents }, rfl, by simp; omega, ?_, hk, fun e => by simp at e; omega⟩
          rw [List.getElem?_append_left (by simpa using hdl), List.getElem?_set_self hdl]) (fun h2 => if_neg h2)
        rw [List.length_set] at this
        exact this
  · have hS : Skel L (LeaveAt L r) := Skel.app _ _
    have hlen : (LeaveAt L r).length = L.length + 1 := by simp [LeaveAt]
    refine ⟨⟨?_, fun i o hi => ?_⟩, hlen⟩
    · obtain ⟨o, h1, h2, h3, h4⟩ := h.root
      obtain ⟨o', g1, g2, g3, g4, _⟩ := hS.2 0 o h1
      exact ⟨o', g1, g2.trans h2, g3.trans h3, g4.trans h4⟩
    · by_cases hlt : i < L.length
      · unfold LeaveAt at hi
        rw [List.getElem?_append_left hlt] at hi
        exact (h.all i o hi).skel hS
      · have hi0 : i = L.length := by
          have := (List.getElem?_eq_some_iff.1 hi).1
          omega
        subst hi0
        have hi' : (LeaveAt L r)[L.length]? = some (lone L r) := by unfold LeaveAt; rw [List.getElem?_append_right (Nat.le_refl _)]; simp
        rw [hi'] at hi
        cases hi
        have := OOk.new (L := L) (r := r) (l := 0) (u := if rK r = 2 then (L.length : Int) else 0) (Or.inl rfl) (fun h2 => by
          rw [if_pos h2]
          refine ⟨L.length, { rO r with links := 0, up := if rK r = 2 then (L.length : Int) else 0 }, rfl, Nat.le_refl _, by rw [List.getElem?_append_right (Nat.le_refl _)]; simp [h2], h2, fun _ => Or.inr rfl⟩) (fun h2 => if_neg h2)
        exact this
theorem TOk.more {L M : List Ob} (h : TOk L) (hM : ∀ (i : Nat) (o : Ob), M[i]? = some o → OOk (L ++ M) (L.length + i) o) : TOk (L ++ M) := by
  refine ⟨?_, fun i o hi => ?_⟩
  · obtain ⟨o, h1, h2⟩ := h.root
    exact ⟨o, by rw [List.getElem?_append_left (List.getElem?_eq_some_iff.1 h1).1]; exact h1, h2⟩
  · by_cases hlt : i < L.length
    · rw [List.getElem?_append_left hlt] at hi
      exact (h.all i o hi).skel (Skel.app _ _)
    · rw [List.getElem?_append_right (by omega)] at hi
      have := hM _ o hi
      rw [show L.length + (i - L.length) = i by omega] at this
      exact this
theorem TOk.pair {L : List Ob} (h : TOk L) : TOk (L ++ [obE ((L.length : Int) + 1), obE (L.length : Int)]) := by
  refine h.more fun i o hi => ?_
  have h0 : (L ++ [obE ((L.length : Int) + 1), obE (L.length : Int)])[L.length]? = some (obE ((L.length : Int) + 1)) := by rw [List.getElem?_append_right (Nat.le_refl _), Nat.sub_self]; rfl
  have h1 : (L ++ [obE ((L.length : Int) + 1), obE (L.length : Int)])[L.length + 1]? = some (obE (L.length : Int)) := by rw [List.getElem?_append_right (by omega), show L.length + 1 - L.length = 1 by omega]; rfl
  have key : ∀ (k q : Nat) (p : Int), (∃ (p' : Nat) (op : Ob), p = (p' : Int) ∧ (L ++ [obE ((L.length : Int) + 1), obE (L.length : Int)])[p']? = some op ∧ op.kind = 4 ∧ op.peer = (k : Int) ∧ p' ≠ k) → OOk (L ++ [obE ((L.length : Int) + 1), obE (L.length : Int)]) k (obE p) := fun k q p hp =>
    ⟨by simp [obE], by simp [obE], fun _ => rfl, Nat.zero_le _, fun _ => rfl, List.Pairwise.nil, fun e he => by simp [obE] at he, fun e he => by simp [obE] at he, Or.inl rfl, fun h => by simp [obE] at h, fun _ => rfl, fun _ => hp, fun h => absurd rfl h, fun h => by simp [obE] at h, fun _ => rfl, fun h => absurd rfl h, by simp [obE], fun m hm => by simp [obE] at hm, by simp [obE]⟩
  match i, hi with
  | 0, hi =>
    simp at hi
    subst hi
    exact key L.length 0 _ ⟨L.length + 1, _, by omega, h1, rfl, rfl, by omega⟩
  | 1, hi =>
    simp at hi
    subst hi
    exact key (L.length + 1) 0 _ ⟨L.length, _, rfl, h0, rfl, by show ((L.length : Int) + 1) = ((L.length + 1 : Nat) : Int); omega, by omega⟩
  | i + 2, hi => simp at hi
theorem TOk.proc {L : List Ob} (h : TOk L) {p : Int} (h1 : 1 ≤ p) (h2 : p ≤ 2) : TOk (L ++ [obP p]) := by
  refine h.more fun i o hi => ?_
  match i, hi with
  | 0, hi =>
    simp at hi
    subst hi
    exact ⟨by simp [obP], by simp [obP], fun _ => rfl, Nat.zero_le _, fun _ => rfl, List.Pairwise.nil, fun e he => by simp [obP] at he, fun e he => by simp [obP] at he, Or.inl rfl, fun h => by simp [obP] at h, fun _ => rfl, fun h => by simp [obP] at h, fun _ => rfl, fun _ => ⟨h1, h2⟩, fun h => absurd rfl h, fun _ => rfl, by simp [obP], fun m hm => by simp [obP] at hm, by simp [obP]⟩
  | i + 1, hi => simp at hi
theorem TOk.send {L : List Ob} (h : TOk L) {i : Nat} {o : Ob} (hi : L[i]? = some o) (hk : o.kind = 4) {m : Msg} (hm : m.data = [109]) : TOk (L.set i { o with queue := [m] }) := by
  have hS : Skel L (L.set i { o with queue := [m] }) := Skel.set hi rfl rfl rfl rfl
  refine ⟨?_, fun j x hj => ?_⟩
  · obtain ⟨o, h1, h2, h3, h4⟩ := h.root
    obtain ⟨o', g1, g2, g3, g4, _⟩ := hS.2 0 o h1
    exact ⟨o', g1, g2.trans h2, g3.trans h3, g4.trans h4⟩
  · by_cases hji : j = i
    · subst hji
      rw [List.getElem?_set_self (List.getElem?_eq_some_iff.1 hi).1] at hj
      cases hj
      exact { (h.all j o hi).skel hS with noqueue := fun h => absurd hk h, queue := by simp, mdata := fun x hx => by simp at hx; subst hx; exact hm }
    · rw [List.getElem?_set_ne (by omega)] at hj
      exact (h.all j x hj).skel hS
/-- What holds of a kernel that Build makes. -/
structure KOk (L : List Ob) (O : List Opn) (P : List Prc) : Prop where
  objs : TOk L
  len : L.length ≤ 14
  opens : ∀ x ∈ O, OpnOk L.length x
  many : O.length ≤ 28
  procs : ∀ x ∈ P, PrcOk O.length x
  some : 1 ≤ P.length ∧ P.length ≤ 3
  first : ∀ x, P[0]? = .some x → x.live = true
  queues : ∀ o ∈ L, ∀ m ∈ o.queue, MsgOk O.length m
  procLt : ∀ o ∈ L, o.kind = 5 → o.proc < P.length
  procAll : ∀ p : Nat, 1 ≤ p → p < P.length → ∃ o ∈ L, o.kind = 5 ∧ o.proc = (p : Int)
end Sp
end Go.Proofs.Ytdciohinlhbliaa
