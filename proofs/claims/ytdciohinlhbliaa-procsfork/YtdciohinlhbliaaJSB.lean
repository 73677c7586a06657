
/-
  rgref5.Reach's rounds, plainly: over and over, until nothing more is marked.
-/
import Derived.Test.YtdciohinlhbliaaJSA
import Derived.Test.YtdciohinlhbliaaSOwn
import Derived.Maps.Own
import Derived.Maps.OwnSet
import Derived.Maps.Views
import Derived.Carry
import Derived.Test.YtdciohinlhbliaaRMake
import Derived.Test.YtdciohinlhbliaaBW2
import Derived.Deep.CutRange
import Derived.Deep.CutBlock
import Derived.Laws.EntriesVeiled
import Derived.Deep.RegionLaw
import Derived.Deep.RegionHeldLaw
namespace Go.Proofs.Ytdciohinlhbliaa
open Go.RowKit
namespace Wp
/-- One number marked, and whether that was new. -/
def docK (L : List Sp.Ob) (st : List Bool × Bool) (k : Int) : List Bool × Bool := (toMs L st.1 k, st.2 || (isObj L k && !st.1.getD k.toNat false))
def docAll (L : List Sp.Ob) (st : List Bool × Bool) (ks : List Int) : List Bool × Bool := ks.foldl (docK L) st
theorem docAll_one (L : List Sp.Ob) (st : List Bool × Bool) (ks : List Int) (k : Int) : docAll L st (ks ++ [k]) = docK L (docAll L st ks) k := by
  unfold docAll
  rw [List.foldl_append]
  rfl
theorem docAll_app (L : List Sp.Ob) (st : List Bool × Bool) (ks ks' : List Int) : docAll L st (ks ++ ks') = docAll L (docAll L st ks) ks' := by
  unfold docAll
  rw [List.foldl_append]
structure DocOk (L : List Sp.Ob) (st st' : List Bool × Bool) (ks : List Int) : Prop where
  len : st'.1.length = st.1.length
  mono : ∀ j : Nat, st.1.getD j false = true → st'.1.getD j false = true
  new : ∀ j : Nat, st'.1.getD j false = true → st.1.getD j false = true ∨ ((j : Int) ∈ ks ∧ isObj L (j : Int) = true)
  all : ∀ j : Nat, (j : Int) ∈ ks → isObj L (j : Int) = true → st'.1.getD j false = true
  no : st'.2 = false → st' = st
  yes : st'.2 = true → st.2 = true ∨ cnt st.1 < cnt st'.1
  count : cnt st.1 ≤ cnt st'.1
theorem docK_ok (L : List Sp.Ob) (st : List Bool × Bool) (k : Int) (hl : st.1.length = L.length) : DocOk L st (docK L st k) [k] := by
  obtain ⟨ms, b⟩ := st
  dsimp only at hl
  unfold docK toMs
  by_cases h : isObj L k = true ∧ ms.getD k.toNat false = false
  · obtain ⟨n, rfl, hn⟩ := isObj_nat h.1
    have hg : ms.getD n false = false := by simpa using h.2
    have ho := h.1
    dsimp only
    rw [if_pos h, Int.toNat_natCast, ho, hg]
    refine ⟨by simp, fun j hj => getD_set.2 (Or.inl hj), fun j hj => ?_, fun j hj _ => ?_, fun e => ?_, fun _ => Or.inr ?_, ?_⟩
    · rcases getD_set.1 hj with h1 | ⟨rfl, _⟩
      · exact Or.inl h1
      · exact Or.inr ⟨List.mem_singleton.2 rfl, ho⟩
    · have : j = n := by have := List.mem_singleton.1 hj; omega
      subst this
      exact getD_set.2 (Or.inr ⟨rfl, by omega⟩)
    · simp at e
    · dsimp only
      rw [cnt_set (by omega) hg]
      omega
    · dsimp only
      rw [cnt_set (by omega) hg]
      omega
  · have hx : (isObj L k && !ms.getD k.toNat false) = false := by
      cases h1 : isObj L k with
      | false => rfl
      | true =>
        cases h2 : ms.getD k.toNat false with
        | true => rfl
        | false => exact absurd ⟨h1, h2⟩ h
    dsimp only
    rw [if_neg h, hx, Bool.or_false]
    refine ⟨rfl, fun j hj => hj, fun j hj => Or.inl hj, fun j hj ho => ?_, fun _ => rfl, fun e => Or.inl e, Nat.le_refl _⟩
    have : k = (j : Int) := (List.mem_singleton.1 hj).symm
    subst this
    rw [Int.toNat_natCast] at h
    cases hg : ms.getD j false with
    | true => rfl
    | false => exact absurd ⟨ho, hg⟩ h
theorem DocOk.refl (L : List Sp.Ob) (st : List Bool × Bool) : DocOk L st st [] := ⟨rfl, fun _ h => h, fun _ h => Or.inl h, fun _ h => absurd h List.not_mem_nil, fun _ => rfl, fun h => Or.inl h, Nat.le_refl _⟩
theorem DocOk.trans {L : List Sp.Ob} {a b c : List Bool × Bool} {ks ks' : List Int} (h : DocOk L a b ks) (h' : DocOk L b c ks') : DocOk L a c (ks ++ ks') := by
  refine ⟨h'.len.trans h.len, fun j hj => h'.mono j (h.mono j hj), fun j hj => ?_, fun j hj ho => ?_, fun e => ?_, fun e => ?_, Nat.le_trans h.count h'.count⟩
  · rcases h'.new j hj with h1 | ⟨h1, h2⟩
    · rcases h.new j h1 with g1 | ⟨g1, g2⟩
      · exact Or.inl g1
      · exact Or.inr ⟨List.mem_append_left _ g1, g2⟩
    · exact Or.inr ⟨List.mem_append_right _ h1, h2⟩
  · rcases List.mem_append.1 hj with h1 | h1
    · exact h'.mono j (h.all j h1 ho)
    · exact h'.all j h1 ho
  · have h1 := h'.no e
    rw [h1] at e
    rw [h1, h.no e]
  · have hc := h.count
    have hc' := h'.count
    rcases h'.yes e with h1 | h1
    · rcases h.yes h1 with h2 | h2
      · exact Or.inl h2
      · exact Or.inr (by omega)
    · exact Or.inr (by omega)
theorem docAll_ok (L : List Sp.Ob) : ∀ (ks : List Int) (st : List Bool × Bool), st.1.length = L.length → DocOk L st (docAll L st ks) ks
  | [], st, _ => DocOk.refl L st
  | k :: ks, st, hl => by
    have h1 := docK_ok L st k hl
    have h2 := docAll_ok L ks (docK L st k) (by rw [h1.len]; exact hl)
    exact h1.trans h2
/-- One object looked into, if it is marked. -/
def docOb (K : Kn) (st : List Bool × Bool) (i : Nat) : List Bool × Bool := if st.1.getD i false = true then (match K.L[i]? with | some o => docAll K.L st (entK o ++ queK K o) | none => st) else st
def docTo (K : Kn) (st : List Bool × Bool) : Nat → List Bool × Bool
  | 0 => st
  | n + 1 => docOb K (docTo K st n) n
/-- One round. -/
def docRnd (K : Kn) (ms : List Bool) : List Bool × Bool := docTo K (docAll K.L (ms, false) (heldK K)) K.L.length
/-- What a round keeps: marks that are justified; nothing new: it is closed so far. -/
structure DocIn (K : Kn) (ms0 : List Bool) (st : List Bool × Bool) (n : Nat) : Prop where
  len : st.1.length = K.L.length
  just : ∀ j, j < K.L.length → st.1.getD j false = true → Come K j
  root : isObj K.L 0 = true → st.1.getD 0 false = true
  no : st.2 = false → st.1 = ms0 ∧ (∀ j, j < K.L.length → rootB K j = true → ms0.getD j false = true) ∧ ∀ (i j : Nat) (o : Sp.Ob), i < n → ms0.getD i false = true → K.L[i]? = some o → j < K.L.length → nextB K o j = true → ms0.getD j false = true
  yes : st.2 = true → cnt ms0 < cnt st.1
/-- The marks from which a round begins: justified, the root among them. -/
structure DocBeg (K : Kn) (ms : List Bool) : Prop where
  len : ms.length = K.L.length
  just : ∀ j, j < K.L.length → ms.getD j false = true → Come K j
  root : isObj K.L 0 = true → ms.getD 0 false = true
theorem docIn_held {K : Kn} {ms : List Bool} (h : DocBeg K ms) : DocIn K ms (docAll K.L (ms, false) (heldK K)) 0 := by
  have hd := docAll_ok K.L (heldK K) (ms, false) h.len
  refine ⟨hd.len.trans h.len, fun j hj hm => ?_, fun ho => hd.mono 0 (h.root ho), fun e => ?_, fun e => ?_⟩
  · rcases hd.new j hm with h1 | ⟨h1, h2⟩
    · exact h.just j hj h1
    · exact ⟨hj, fun M hM => hM.1 j hj (rootB_iff.2 ⟨h2, Or.inr h1⟩)⟩
  · have e1 := hd.no e
    refine ⟨by rw [e1], fun j hj hr => ?_, fun i j o hi => absurd hi (Nat.not_lt_zero i)⟩
    obtain ⟨h1, h2⟩ := rootB_iff.1 hr
    rcases h2 with rfl | h2
    · exact h.root h1
    · have := hd.all j h2 h1
      rw [e1] at this
      exact this
  · rcases hd.yes e with h1 | h1
    · cases h1
    · exact h1
theorem docIn_next {K : Kn} {ms : List Bool} {st : List Bool × Bool} {n : Nat} (h : DocIn K ms st n) : DocIn K ms (docOb K st n) (n + 1) := by
  unfold docOb
  by_cases hm : st.1.getD n false = true
  · rw [if_pos hm]
    cases ho : K.L[n]? with
    | none =>
      refine ⟨h.len, h.just, h.root, fun e => ?_, h.yes⟩
      obtain ⟨h1, h2, h3⟩ := h.no e
      refine ⟨h1, h2, fun i j o hi hmi hoi => ?_⟩
      by_cases e : i = n
      · subst e; rw [ho] at hoi; cases hoi
      · exact h3 i j o (by omega) hmi hoi
    | some o =>
      have hd := docAll_ok K.L (entK o ++ queK K o) st h.len
      have hnl := (List.getElem?_eq_some_iff.1 ho).1
      dsimp only
      refine ⟨hd.len.trans h.len, fun j hj hmj => ?_, fun hr => hd.mono 0 (h.root hr), fun e => ?_, fun e => ?_⟩
      · rcases hd.new j hmj with h1 | ⟨h1, h2⟩
        · exact h.just j hj h1
        · have hc := h.just n hnl hm
          exact ⟨hj, fun M hM => hM.2 n j o (hc.2 M hM) ho hj (nextB_iff.2 ⟨h2, List.mem_append.1 h1⟩)⟩
      · have e1 := hd.no e
        rw [e1] at e
        obtain ⟨h1, h2, h3⟩ := h.no e
        refine ⟨by rw [e1]; exact h1, h2, fun i j oi hi hmi hoi hj hx => ?_⟩
        by_cases ei : i = n
        · subst ei
          rw [ho] at hoi
          cases hoi
          obtain ⟨g1, g2⟩ := nextB_iff.1 hx
          have := hd.all j (List.mem_append.2 g2) g1
          rw [e1, h1] at this
          exact this
        · exact h3 i j oi (by omega) hmi hoi hj hx
      · have hc := hd.count
        rcases hd.yes e with h1 | h1
        · have := h.yes h1; omega
        · cases hb : st.2 with
          | true => have := h.yes hb; omega
          | false => obtain ⟨g1, -, -⟩ := h.no hb; rw [g1] at h1; exact h1
  · rw [if_neg hm]
    refine ⟨h.len, h.just, h.root, fun e => ?_, h.yes⟩
    obtain ⟨h1, h2, h3⟩ := h.no e
    refine ⟨h1, h2, fun i j o hi hmi hoi => ?_⟩
    by_cases e : i = n
    · subst e; rw [h1] at hm; exact absurd hmi hm
    · exact h3 i j o (by omega) hmi hoi
theorem docIn_to {K : Kn} {ms : List Bool} (h : DocBeg K ms) : ∀ n, DocIn K ms (docTo K (docAll K.L (ms, false) (heldK K)) n) n
  | 0 => docIn_held h
  | n + 1 => docIn_next (docIn_to h n)
/-- A round that marks nothing new: all that one can come to is marked. -/
theorem doc_end {K : Kn} {ms : List Bool} (h : DocBeg K ms) (e : (docRnd K ms).2 = false) : (docRnd K ms).1 = reachB K := by
  have hi := docIn_to h K.L.length
  obtain ⟨h1, h2, h3⟩ := hi.no e
  refine reachB_uniq K hi.len hi.just ⟨fun n hn hr => ?_, fun i n o hm ho hn hx => ?_⟩
  · show (docTo K _ _).1.getD n false = true
    rw [h1]
    exact h2 n hn hr
  · have hm : (docTo K (docAll K.L (ms, false) (heldK K)) K.L.length).1.getD i false = true := hm
    show (docTo K (docAll K.L (ms, false) (heldK K)) K.L.length).1.getD n false = true
    rw [h1] at hm ⊢
    exact h3 i n o (List.getElem?_eq_some_iff.1 ho).1 hm ho hn hx
/-- A round that marks something new. -/
theorem doc_more {K : Kn} {ms : List Bool} (h : DocBeg K ms) (e : (docRnd K ms).2 = true) : DocBeg K (docRnd K ms).1 ∧ cnt ms < cnt (docRnd K ms).1 := by
  have hi := docIn_to h K.L.length
  exact ⟨⟨hi.len, hi.just, hi.root⟩, hi.yes e⟩
/-- What is marked ahead of all rounds. -/
def doc0 (K : Kn) : List Bool := if isObj K.L 0 = true then (List.replicate K.L.length false).set 0 true else List.replicate K.L.length false
theorem rep_false (n k : Nat) : (List.replicate n false).getD k false = false := by
  rw [List.getD_eq_getElem?_getD, List.getElem?_replicate]
  split <;> rfl
theorem doc0_beg (K : Kn) : DocBeg K (doc0 K) := by
  unfold doc0
  by_cases h : isObj K.L 0 = true
  · rw [if_pos h]
    obtain ⟨n, hn, hl⟩ := isObj_nat h
    refine ⟨by simp, fun j hj hm => ?_, fun _ => getD_set.2 (Or.inr ⟨rfl, by simp; omega⟩)⟩
    rcases getD_set.1 hm with h1 | ⟨rfl, _⟩
    · rw [rep_false] at h1; cases h1
    · exact ⟨hj, fun M hM => hM.1 0 hj (rootB_iff.2 ⟨h, Or.inl rfl⟩)⟩
  · rw [if_neg h]
    refine ⟨by simp, fun j hj hm => ?_, fun e => absurd e h⟩
    rw [rep_false] at hm; cases hm
end Wp
end Go.Proofs.Ytdciohinlhbliaa


/-
  A set of ints as a map of bools that a call made.
-/
namespace Go.Proofs.Ytdciohinlhbliaa
open Go.RowKit Go.Maps
theorem plainElem_bool_inv {H : Type} {P : Program} {e : TypeId} (he : P.underlying e = some .bool) {v : Value} {z : DataW H × List MemPlace} (h : plainElem P e v = some z) : ∃ x, v = .bool x ∧ z = (.lit (.bool x), []) := by
  unfold plainElem at h
  rw [he] at h
  split at h <;> simp_all
theorem keyI : Keyed Try.prog 3 := int_keyed Try.underlying3
theorem zeroB (w : World) : (zeroValue 4).run Try.prog w = .ok (.bool false) w := by kernel_rfl
/-- Block g is a map of bools that says true of just the numbers of ks. -/
def SetIs (w : World) (g n : Nat) (ks : List Int) : Prop :=
  ∃ D : DataW Unit, w.ownsMap Try.prog 3 (plainElem Try.prog 4) g n D ∧ ∀ c : Int, D.atKey (.int .i64 c) (.lit (.bool false)) = .lit (.bool (decide (c ∈ ks)))
theorem SetIs.made (w : World) : SetIs (w.alloc (.map #[] 0)) w.heap.size 0 [] := ⟨_, World.ownsMap_made _ _ _ _, fun c => by simp [DataW.atKey]⟩
theorem SetIs.look {w : World} {g n : Nat} {ks : List Int} (h : SetIs w g n ks) (c : Int) (hc : (Lit.int .i64 c).wf = true) :
    (Instr.lookup 29 (.map (some g)) (.int .i64 c) false).run Try.prog w = .ok (.bool (decide (c ∈ ks))) w := by
  obtain ⟨D, hD, hat⟩ := h
  obtain ⟨v, ps, hrun, hv⟩ := hD.lookup keyI Try.underlying29 (zeroB w) (plainElem_bool Try.underlying4 false) (keyOf_int_mk Try.underlying3 hc)
  rw [hat c] at hv
  obtain ⟨x, rfl, hx⟩ := plainElem_bool_inv Try.underlying4 hv
  simp only [Prod.mk.injEq, DataW.lit.injEq, Lit.bool.injEq] at hx
  rw [hrun, hx.1]
theorem SetIs.lt {w : World} {g n : Nat} {ks : List Int} (h : SetIs w g n ks) : g < w.heap.size := by obtain ⟨D, hD, _⟩ := h; exact hD.lt
theorem SetIs.on {w w' : World} {g n : Nat} {ks : List Int} (h : SetIs w g n ks) {B : Nat} (hb : Below B w w') (hg : g < B) : SetIs w' g n ks := by
  obtain ⟨D, ⟨es, clock, he, hf⟩, hat⟩ := h
  exact ⟨D, ⟨es, clock, by rw [hb.block g hg]; exact he, hf⟩, hat⟩
/-- 'had[c] = true'. -/
theorem wpList_setPut {w : World} {ops : Array Oper} {rest : List Oper} {o : Oper} {a : Act} {Q : Exit → Act → World → Prop} (hgd : o.guard = none) (m x v : Operand) (hop : o.op = Op.mapUpdate 29 m x v)
    (g n : Nat) (ks : List Int) (hm : a.eval m = .map (some g)) (hs : SetIs w g n ks) (hn : n ≤ 1000) (c : Int) (hc : (Lit.int .i64 c).wf = true) (hx : a.eval x = .int .i64 c) (hv : a.eval v = .bool true)
    (h : ∀ w', SetIs w' g (n + 1) (c :: ks) → w.grownBy w' (some g) → wpList Try.prog ops Q rest (a.put o.dst undef) w') : wpList Try.prog ops Q (o :: rest) a w := by
  obtain ⟨D, hD, hat⟩ := hs
  have hkey := keyOf_int_mk (P := Try.prog) Try.underlying3 hc
  refine wpList_mapUpdate_own w hgd m x v 29 hop 3 4 keyI Try.underlying29 _ g n D hm hD (by unfold maxLen; omega) _ _ (.int .i64 c) hx hv hkey (.lit (.bool true)) [] (plainElem_bool Try.underlying4 true) fun w' h1 h2 => h w' ⟨_, h1, fun c' => ?_⟩ h2
  by_cases e : c' = c
  · subst e
    rw [atKey_put_same hD.isMap (keyI.key hkey)]
    simp
  · rw [atKey_put_other (by intro e'; cases e'; exact e rfl), hat c']
    simp [e]
end Go.Proofs.Ytdciohinlhbliaa


/-
  A set of ints as marks; rgref5.Reach's two closures, walked.
-/
namespace Go.Proofs.Ytdciohinlhbliaa
open Go.RowKit
open Wp
theorem is_isObj (L : List Sp.Ob) (k : Int) : Sp.is L k 0 = isObj L k := by
  unfold Sp.is isObj Sp.objAt
  by_cases h0 : 0 ≤ k
  · rw [if_pos h0, if_pos h0]
    cases hx : L[k.toNat]? with
    | none => rfl
    | some o =>
      by_cases hz : o.kind = 0
      · rw [Option.filter_some]; simp [hz]
      · rw [Option.filter_some]; simp [hz]
  · rw [if_neg h0, if_neg h0]
theorem SetIs.by {w w' : World} {g n : Nat} {ks : List Int} (h : SetIs w g n ks) {S : Nat → Prop} (ho : On S w w') (hg : S g) : SetIs w' g n ks := by
  obtain ⟨D, ⟨es, clock, he, hf⟩, hat⟩ := h
  exact ⟨D, ⟨es, clock, by rw [ho g hg]; exact he, hf⟩, hat⟩
/-- Block g is a map that says true of just the numbers that are marked. -/
def MapB (w : World) (g n : Nat) (ms : List Bool) : Prop := ∃ ks, SetIs w g n ks ∧ ∀ c : Int, c ∈ ks ↔ 0 ≤ c ∧ ms.getD c.toNat false = true
theorem MapB.by {w w' : World} {g n : Nat} {ms : List Bool} (h : MapB w g n ms) {S : Nat → Prop} (ho : On S w w') (hg : S g) : MapB w' g n ms := by
  obtain ⟨ks, h1, h2⟩ := h
  exact ⟨ks, h1.by ho hg, h2⟩
theorem MapB.lt {w : World} {g n : Nat} {ms : List Bool} (h : MapB w g n ms) : g < w.heap.size := by obtain ⟨ks, h1, _⟩ := h; exact h1.lt
theorem MapB.made (w : World) (n : Nat) : MapB (w.alloc (.map #[] 0)) w.heap.size 0 (List.replicate n false) := ⟨[], SetIs.made w, fun c => by rw [rep_false]; simp⟩
/-- What the map says of a number. -/
theorem MapB.look {w : World} {g n : Nat} {ms : List Bool} (h : MapB w g n ms) (c : Int) (hc : (Lit.int .i64 c).wf = true) :
    (Instr.lookup 29 (.map (some g)) (.int .i64 c) false).run Try.prog w = .ok (.bool (decide (0 ≤ c) && ms.getD c.toNat false)) w := by
  obtain ⟨ks, h1, h2⟩ := h
  rw [h1.look c hc]
  congr 2
  rw [Bool.eq_iff_iff, decide_eq_true_iff, h2 c, Bool.and_eq_true, decide_eq_true_iff]
theorem MapB.look_nat {w : World} {g n : Nat} {ms : List Bool} (h : MapB w g n ms) (k : Nat) (hk : k ≤ 1000000) :
    (Instr.lookup 29 (.map (some g)) (.int .i64 (k : Int)) false).run Try.prog w = .ok (.bool (ms.getD k false)) w := by
  have := h.look (k : Int) (WalkArith.wf_i64 (by omega))
  rw [Int.toNat_natCast, decide_eq_true (by omega : (0 : Int) ≤ k), Bool.true_and] at this
  exact this
/-- One more. -/
theorem MapB.put {w' : World} {g n : Nat} {ms : List Bool} {ks : List Int} (h2 : ∀ c : Int, c ∈ ks ↔ 0 ≤ c ∧ ms.getD c.toNat false = true) (k : Nat) (hk : k < ms.length) (hs : SetIs w' g (n + 1) ((k : Int) :: ks)) : MapB w' g (n + 1) (ms.set k true) := by
  refine ⟨_, hs, fun c => ?_⟩
  rw [List.mem_cons, h2 c, getD_set]
  constructor
  · rintro (rfl | ⟨h3, h4⟩)
    · exact ⟨by omega, Or.inr ⟨Int.toNat_natCast k, hk⟩⟩
    · exact ⟨h3, Or.inl h4⟩
  · rintro ⟨h3, h4 | ⟨h4, _⟩⟩
    · exact Or.inr ⟨h3, h4⟩
    · exact Or.inl (by omega)
/-- Where Reach's search stands: the kernel's box, the variables 'had', 'more', the map. -/
structure DS (W w : World) (k0 bh bm gh : Nat) (kv : Array Value) (n : Nat) (st : List Bool × Bool) : Prop where
  kern : Blk w k0 kv 27
  had : Blk w bh #[.map (some gh)] 29
  more : Blk w bm #[.bool st.2] 4
  map : MapB w gh (cnt st.1) st.1
  len : st.1.length = n
  on : On (fun b => b < W.heap.size ∧ b ≠ gh ∧ b ≠ bm) W w
  size : W.heap.size ≤ w.heap.size
  below : ∀ B, B ≤ gh → B ≤ bm → Below B W w
  low : k0 < W.heap.size ∧ bh < W.heap.size ∧ bm < W.heap.size ∧ gh < W.heap.size
  apart : k0 ≠ gh ∧ k0 ≠ bm ∧ bh ≠ gh ∧ bh ≠ bm ∧ gh ≠ bm
theorem DS.alloc {W w : World} {k0 bh bm gh : Nat} {kv : Array Value} {n : Nat} {st : List Bool × Bool} (h : DS W w k0 bh bm gh kv n st) (o : Obj) : DS W (w.alloc o) k0 bh bm gh kv n st := by
  have hz := h.size
  have hl := h.low
  exact ⟨h.kern.alloc o, h.had.alloc o, h.more.alloc o, h.map.by (On.alloc w o) h.map.lt, h.len, h.on.trans ((On.alloc w o).less fun b hb => by omega), by simp; omega, fun B h1 h2 => (h.below B h1 h2).alloc (by omega) _, h.low, h.apart⟩
theorem DS.drew {W w : World} {k0 bh bm gh : Nat} {kv : Array Value} {n : Nat} {st : List Bool × Bool} (h : DS W w k0 bh bm gh kv n st) : DS W w.drew k0 bh bm gh kv n st :=
  ⟨h.kern, h.had, h.more, h.map.by (S := fun _ => True) (fun _ _ => rfl) trivial, h.len, h.on, h.size, fun B h1 h2 => (h.below B h1 h2).drew, h.low, h.apart⟩
set_option maxRecDepth 100000 in
set_option maxHeartbeats 4000000 in
theorem docmark_any (L : List Sp.Ob) (k : Int) (vo vp vq : Value) (W w : World) (k0 bh bm gh : Nat) (st : List Bool × Bool) (S : Nat → Prop) (hs : DS W w k0 bh bm gh #[vo, vp, vq] L.length st) (hv : Objs w S vo L) (hL : L.length ≤ 1000) :
    Calls Try.prog 34 #[.int .i64 k, .pointer (some ⟨k0, 0, none⟩), .pointer (some ⟨bh, 0, none⟩), .pointer (some ⟨bm, 0, none⟩)] w fun e w' => e = .returned (.tuple #[]) ∧ DS W w' k0 bh bm gh #[vo, vp, vq] L.length (docK L st k) ∧ On (fun b => b < w.heap.size ∧ b ≠ gh ∧ b ≠ bm) w w' ∧ w.heap.size ≤ w'.heap.size := by
  obtain ⟨ms, b⟩ := st
  have HS : Hid (DS W w k0 bh bm gh #[vo, vp, vq] L.length (ms, b)) := hs
  have HIO : Hid (Calls Try.prog 22 #[vo, .int .i64 k, .int .i64 0] w fun e w' => e = .returned (.bool (isObj L k)) ∧ w' = w) := by
    have := is_any L k 0 vo S w hv
    rw [is_isObj] at this
    exact this
  have c0 := hs.kern.cell 0
  have c1 := hs.had.cell 0
  simp at c0 c1
  clear hs hv
  unfold docK toMs
  dsimp only
  cases ho : isObj L k with
  | false =>
    rw [if_neg (by simp), Bool.false_and, Bool.or_false]
    rw [ho] at HIO
    clear ho
    go_enter Try.func34, Try.ntmps34
    go_wp2_with fail
    refine Calls.mono HIO.out ?_
    rintro e w1 ⟨rfl, hw⟩
    rw [hw]
    clear hw
    go_wp2
    go_end0
    exact ⟨rfl, HS.out, fun _ _ => rfl, Nat.le_refl _⟩
  | true =>
    rw [ho] at HIO
    obtain ⟨n, rfl, hn⟩ := isObj_nat ho
    rw [Int.toNat_natCast]
    have hlook := HS.out.map.look_nat n (by omega)
    dsimp only at hlook
    clear ho
    cases hg : ms.getD n false with
    | true =>
      rw [if_neg (by simp), Bool.not_true, Bool.and_false, Bool.or_false]
      rw [hg] at hlook
      clear hg
      go_enter Try.func34, Try.ntmps34
      go_wp2_with fail
      refine Calls.mono HIO.out ?_
      rintro e w1 ⟨rfl, hw⟩
      rw [hw]
      clear hw
      go_wp2
      go_end0
      exact ⟨rfl, HS.out, fun _ _ => rfl, Nat.le_refl _⟩
    | false =>
      rw [if_pos ⟨rfl, rfl⟩, Bool.not_false, Bool.and_true, Bool.or_true]
      rw [hg] at hlook
      obtain ⟨ks, hset, hks⟩ := HS.out.map
      dsimp only at hset hks
      have HSET : Hid (SetIs w gh (cnt ms) ks) := hset
      have HKS : Hid (∀ c : Int, c ∈ ks ↔ 0 ≤ c ∧ ms.getD c.toNat false = true) := hks
      have HG : Hid (ms.getD n false = false) := hg
      have HWF : Hid ((Lit.int .i64 (n : Int)).wf = true) := WalkArith.wf_i64 (by omega)
      have HCN : Hid (cnt ms ≤ 1000) := by have := cnt_len ms; have := HS.out.len; dsimp only at this; unfold Hid; omega
      have HDS : Hid (∀ wu, SetIs wu gh (cnt ms + 1) ((n : Int) :: ks) → w.grownBy wu (some gh) → (wu.cell? ⟨bm, 0, none⟩ = some (.bool b) ∧ wu.frozen? ⟨bm, 0, none⟩ = false) ∧ DS W (wu.setCell ⟨bm, 0, none⟩ (.bool true)) k0 bh bm gh #[vo, vp, vq] L.length (ms.set n true, true) ∧ On (fun b => b < w.heap.size ∧ b ≠ gh ∧ b ≠ bm) w (wu.setCell ⟨bm, 0, none⟩ (.bool true)) ∧ w.heap.size ≤ (wu.setCell ⟨bm, 0, none⟩ (.bool true)).heap.size) := fun wu h1 h2 => by
        have h := HS.out
        have hz0 := h.size
        have hlw := h.low
        have hap := h.apart
        have hl : ms.length = L.length := h.len
        have ho : On (fun b => b < w.heap.size ∧ b ≠ gh) w wu := fun b hb => h2.block b hb.1 fun e => hb.2 (Option.some.inj e)
        have hz : w.heap.size ≤ wu.heap.size := h2.size
        have hm : Blk wu bm #[.bool b] 4 := h.more.on ho ⟨by omega, fun e => hap.2.2.2.2 e.symm⟩
        have os := On.set wu ⟨bm, 0, none⟩ (.bool true)
        have ho2 : On (fun b => b < w.heap.size ∧ b ≠ gh ∧ b ≠ bm) w (wu.setCell ⟨bm, 0, none⟩ (.bool true)) := (ho.less fun b hb => ⟨hb.1, hb.2.1⟩).trans (os.less fun b hb => hb.2.2)
        refine ⟨⟨hm.cell 0, hm.free 0⟩, ⟨h.kern.on ho2 ⟨by omega, hap.1, hap.2.1⟩, h.had.on ho2 ⟨by omega, hap.2.2.1, hap.2.2.2.1⟩, hm.set 0 _, ?_, by simp; exact hl, h.on.trans (ho2.less fun b hb => ⟨by omega, hb.2⟩), by simp; omega, fun B q1 q2 => ((h.below B q1 q2).grown h2 (by omega) fun j hj => by cases hj; exact q1).setCell q2 _, hlw, hap⟩, ho2, by simp; exact hz⟩
        dsimp only
        rw [cnt_set (by omega) HG.out]
        exact (MapB.put HKS.out n (by omega) h1).by os (fun e => hap.2.2.2.2 e)
      clear hg hset hks
      go_enter Try.func34, Try.ntmps34
      go_wp2_with fail
      refine Calls.mono HIO.out ?_
      rintro e w1 ⟨rfl, hw⟩
      rw [hw]
      clear hw
      go_wp2_with (at_mapUpdate; refine wpList_setPut rfl _ _ _ rfl gh (cnt ms) ks rfl HSET.out HCN.out (n : Int) HWF.out rfl rfl ?_)
      intro wu h1 h2
      obtain ⟨⟨m0, mf⟩, hd⟩ := HDS.out wu h1 h2
      have HD : Hid _ := hd
      clear h1 h2 hd hlook c0 c1
      go_wp2
      go_end0
      exact ⟨rfl, HD.out.1, HD.out.2.1, HD.out.2.2⟩
set_option maxRecDepth 100000 in
set_option maxHeartbeats 4000000 in
theorem doccap_any (L : List Sp.Ob) (O : List Sp.Opn) (op rt : Int) (vo vp vq : Value) (W w : World) (k0 bh bm bk gh : Nat) (st : List Bool × Bool) (S : Nat → Prop) (hs : DS W w k0 bh bm gh #[vo, vp, vq] L.length st) (hv : Objs w S vo L) (hp : Row w S 2 vp (O.map opnC)) (hS : ∀ b, S b → b < w.heap.size) (ht : Blk w bk #[.func (.func 34) #[] #[.pointer (some ⟨k0, 0, none⟩), .pointer (some ⟨bh, 0, none⟩), .pointer (some ⟨bm, 0, none⟩)]] 84) (hL : L.length ≤ 1000) :
    Calls Try.prog 35 #[hcapV op rt, .pointer (some ⟨k0, 0, none⟩), .pointer (some ⟨bk, 0, none⟩)] w fun e w' => e = .returned (.tuple #[]) ∧ DS W w' k0 bh bm gh #[vo, vp, vq] L.length (docK L st (capObj O op)) ∧ On (fun b => b < w.heap.size ∧ b ≠ gh ∧ b ≠ bm) w w' ∧ w.heap.size ≤ w'.heap.size := by
  obtain ⟨pa, pc, rfl, hpm⟩ := Row.form hp
  rw [List.length_map] at hp hpm hs
  have HNO : Hid (∀ k : Int, k < 0 → docK L st k = st) := fun k hk => by
    have : isObj L k = false := by unfold isObj; rw [if_neg (by omega)]
    unfold docK toMs
    rw [if_neg (by rw [this]; simp), this, Bool.false_and, Bool.or_false]
  have k1 : w.cell? ⟨k0, 1, none⟩ = some (.slice pa O.length pc) := hs.kern.cell 1
  have t0 : w.cell? ⟨bk, 0, none⟩ = some (.func (.func 34) #[] #[.pointer (some ⟨k0, 0, none⟩), .pointer (some ⟨bh, 0, none⟩), .pointer (some ⟨bm, 0, none⟩)]) := ht.cell 0
  have hgk := hs.kern.lt
  have hgt := ht.lt
  have hbx : ∀ ob, DS W (w.alloc ob) k0 bh bm gh #[vo, .slice pa O.length pc, vq] L.length st ∧ On (fun b => b < w.heap.size ∧ b ≠ gh ∧ b ≠ bm) w (w.alloc ob) ∧ w.heap.size ≤ (w.alloc ob).heap.size := fun ob => ⟨hs.alloc ob, (On.alloc w ob).less fun b hb => hb.1, by simp⟩
  have HBX : Hid _ := hbx
  have HV : Hid (Objs w S vo L) := hv
  have HSS : Hid (∀ b, S b → b < w.heap.size) := hS
  unfold maxLen at hpm
  have eg : Enters Try.prog 34 := by unfold Enters; intro args w; rfl
  unfold Enters at eg
  by_cases h0 : 0 ≤ op
  · by_cases h1 : op < (O.length : Int)
    · obtain ⟨j, rfl⟩ := Int.eq_ofNat_of_zero_le h0
      have hj : j < O.length := by omega
      obtain ⟨x, hx⟩ : ∃ x, O[j]? = some x := ⟨_, List.getElem?_eq_getElem hj⟩
      have hc : capObj O (j : Int) = x.obj := by unfold capObj; rw [if_pos h0, Int.toNat_natCast, hx]
      rw [hc]
      obtain ⟨b, o, c', he, hSb, hcl, hcm, h5⟩ := hp.some (by rw [List.length_map]; omega)
      obtain ⟨rfl, -, rfl⟩ := Value.slice.inj he
      rw [List.length_map] at hcl
      have d0 := h5 j (opnC x) (by rw [List.getElem?_map, hx]; rfl) 0 _ rfl
      rw [Nat.add_zero] at d0
      have hbl := hS b hSb
      have g1 : (w.alloc (.cells #[.int .i64 (j : Int), .int .i64 rt] 50)).cell? ⟨k0, 1, none⟩ = some (.slice (some ⟨b, o, none⟩) O.length pc) := by rw [(On.alloc w _).cell hgk]; exact k1
      have g2 : (w.alloc (.cells #[.int .i64 (j : Int), .int .i64 rt] 50)).cell? ⟨bk, 0, none⟩ = some (.func (.func 34) #[] #[.pointer (some ⟨k0, 0, none⟩), .pointer (some ⟨bh, 0, none⟩), .pointer (some ⟨bm, 0, none⟩)]) := by rw [(On.alloc w _).cell hgt]; exact t0
      have g3 : (w.alloc (.cells #[.int .i64 (j : Int), .int .i64 rt] 50)).cell? ⟨b, o + j * 2, none⟩ = some (.int .i64 x.obj) := by rw [(On.alloc w _).cell (by omega)]; exact d0
      have g4 : (w.alloc (.cells #[.int .i64 (j : Int), .int .i64 rt] 50)).cell? ⟨w.heap.size, 0, none⟩ = some (.int .i64 (j : Int)) := (Blk.new w #[.int .i64 (j : Int), .int .i64 rt] 50).cell 0
      have HTO : Hid (Calls Try.prog 34 #[.int .i64 x.obj, .pointer (some ⟨k0, 0, none⟩), .pointer (some ⟨bh, 0, none⟩), .pointer (some ⟨bm, 0, none⟩)] (w.alloc (.cells #[.int .i64 (j : Int), .int .i64 rt] 50)).drew _) := docmark_any L x.obj vo (.slice (some ⟨b, o, none⟩) O.length pc) vq W (w.alloc (.cells #[.int .i64 (j : Int), .int .i64 rt] 50)).drew k0 bh bm gh st S (hbx _).1.drew (HV.out.on ((On.alloc w _).less fun b hb => HSS.out b hb)) hL
      clear hs hv hp ht hc hbx hS he h5 d0 k1 t0 hx
      unfold hcapV
      go_enter Try.func35, Try.ntmps35
      go_wp2_with fail
      have HA : Hid _ := HBX.out (.cells #[.int .i64 (j : Int), .int .i64 rt] 50)
      generalize (w.alloc (.cells #[.int .i64 (j : Int), .int .i64 rt] 50)) = w1 at *
      go_region_with (go_at_call 34; refine Calls.mono HTO.out ?_; rintro e w2 ⟨rfl, hsk, hon, hbe⟩)
      all_goals
        have HSK : Hid _ := hsk
        have HON : Hid _ := hon
        have HBE : Hid _ := hbe
        clear hsk hon hbe
        go_wp2
        go_end0
        exact ⟨rfl, HSK.out, HA.out.2.1.trans (On.less HON.out fun b hb => ⟨Nat.lt_of_lt_of_le hb.1 HA.out.2.2, hb.2⟩), Nat.le_trans HA.out.2.2 HBE.out⟩
    · have hc : capObj O op = -1 := by unfold capObj; rw [if_pos h0, List.getElem?_eq_none (by omega)]
      have e1 := HNO.out (-1) (by decide)
      rw [hc, e1]
      clear hs hv hp ht hc e1 hbx hS
      unfold hcapV
      go_enter Try.func35, Try.ntmps35
      go_wp2
      go_end0
      exact ⟨rfl, HBX.out _⟩
  · have hc : capObj O op = -1 := by unfold capObj; rw [if_neg h0]
    have e1 := HNO.out (-1) (by decide)
    rw [hc, e1]
    clear hs hv hp ht hc e1 hbx hS
    unfold hcapV
    go_enter Try.func35, Try.ntmps35
    go_wp2
    go_end0
    exact ⟨rfl, HBX.out _⟩
end Go.Proofs.Ytdciohinlhbliaa


/-
  rgref5.Reach and rgref5.Sweep: what processes that live hold, one after the other.
-/
namespace Go.Proofs.Ytdciohinlhbliaa
open Go.RowKit
namespace Wp
/-- A capability that is held stands among all that are held. -/
theorem heldL_mid {P : List Sp.Prc} {k j : Nat} {p : Sp.Prc} {x : Sp.Slt} (h : P[k]? = some p) (hx : p.slots[j]? = some x) (hl : p.live = true) (hh : x.has = true) : ∃ ys, heldL P = (heldL (P.take k) ++ (p.slots.take j).filter (·.has)) ++ x :: ys := by
  have hk := (List.getElem?_eq_some_iff.1 h).1
  have hj := (List.getElem?_eq_some_iff.1 hx).1
  have e1 : P = P.take k ++ p :: P.drop (k + 1) := by
    obtain ⟨_, rfl⟩ := List.getElem?_eq_some_iff.1 h
    rw [List.getElem_cons_drop, List.take_append_drop]
  have e2 : p.slots = p.slots.take j ++ x :: p.slots.drop (j + 1) := by
    obtain ⟨_, rfl⟩ := List.getElem?_eq_some_iff.1 hx
    rw [List.getElem_cons_drop, List.take_append_drop]
  have e3 : heldP p = (p.slots.take j).filter (·.has) ++ x :: (p.slots.drop (j + 1)).filter (·.has) := by
    unfold heldP
    rw [if_pos hl]
    conv => lhs; rw [e2]
    rw [List.filter_append, List.filter_cons_of_pos hh]
  refine ⟨(p.slots.drop (j + 1)).filter (·.has) ++ heldL (P.drop (k + 1)), ?_⟩
  conv => lhs; rw [e1]
  show (P.take k ++ p :: P.drop (k + 1)).flatMap heldP = _
  rw [List.flatMap_append, List.flatMap_cons, e3]
  simp only [List.append_assoc, List.cons_append]
  rfl
end Wp
open Wp
set_option maxRecDepth 1000000 in
set_option maxHeartbeats 8000000 in
theorem rheld_wp (Q : Exit → Act → World → Prop) (K : Act → World → Prop) (n : Nat) (caps : Array Value) (P : List Sp.Prc) (ts : List (Sl × Sp.Prc)) (a : Option Addr) (c : Nat) (S : Nat → Prop) (W : World) (hts : P = ts.map Prod.snd) (hrow : Row W S 4 (.slice a ts.length c) (ts.map prcC)) (hsl : ∀ t ∈ ts, Row W S 3 (.slice t.1.a t.1.n t.1.c) (t.2.slots.map sltC)) (eg : Enters Try.prog n) (I : List Sp.Slt → World → Prop) (h0 : I [] W) (hH : Hands S W I)
    (hst : ∀ (xs : List Sp.Slt) (s : Sp.Slt) (p : Sp.Prc) (w1 : World), I xs w1 → p ∈ P → p.live = true → s ∈ p.slots → s.has = true → (∃ ys, Wp.heldL P = xs ++ s :: ys) → Calls Try.prog n (#[hcapV s.op s.rt] ++ caps) w1 fun e w2 => e = .returned (.tuple #[]) ∧ I (xs ++ [s]) w2 ∧ On (fun b => W.heap.size ≤ b ∧ b < w1.heap.size) w1 w2 ∧ w1.heap.size ≤ w2.heap.size)
    (x0 x1 x2 x3 x4 x5 x7 x8 x9 x10 x11 x12 x13 x14 x15 x16 x17 x18 x19 x20 x21 x22 x23 x24 x25 x26 x27 x28 x29 x30 x31 x32 x33 x34 x38 x39 x40 x41 x42 x43 x44 x45 x46 x47 x48 x49 x50 x51 x52 x53 x54 x55 x56 x57 x58 x59 x60 x61 x62 x63 x64 x65 x66 x67 x68 x69 x70 x71 x72 x73 x74 x75 x76 x77 x78 x79 x80 x81 x82 x83 x84 x85 x86 x87 x88 x89 x90 x91 x92 x93 x94 x95 x96 x97 x98 x99 x100 : Value)
    (h : ∀ (y8 y10 y38 y39 y40 y41 y42 y43 y44 y45 y46 y47 y48 y49 y50 y51 y52 y53 y54 y55 y56 y57 y58 y59 : Value) (W' : World), I (Wp.heldL P) W' → K ⟨#[x0, x1, x2, x3, x4, x5, .func (.func n) #[] caps, x7, y8, x9, y10, x11, x12, x13, x14, x15, x16, x17, x18, x19, x20, x21, x22, x23, x24, x25, x26, x27, x28, x29, x30, x31, x32, x33, x34, .slice a ts.length c, .int .i64 ts.length, .int .i64 ts.length, y38, y39, y40, y41, y42, y43, y44, y45, y46, y47, y48, y49, y50, y51, y52, y53, y54, y55, y56, y57, y58, y59, x60, x61, x62, x63, x64, x65, x66, x67, x68, x69, x70, x71, x72, x73, x74, x75, x76, x77, x78, x79, x80, x81, x82, x83, x84, x85, x86, x87, x88, x89, x90, x91, x92, x93, x94, x95, x96, x97, x98, x99, x100], []⟩ W') :
    Code.wp Try.prog ((Try.f10.body.bind (findBlock 2)).getD .skip) (Exit.then K Q) ⟨#[x0, x1, x2, x3, x4, x5, .func (.func n) #[] caps, x7, x8, x9, x10, x11, x12, x13, x14, x15, x16, x17, x18, x19, x20, x21, x22, x23, x24, x25, x26, x27, x28, x29, x30, x31, x32, x33, x34, .slice a ts.length c, .int .i64 ts.length, .int .i64 0, x38, x39, x40, x41, x42, x43, x44, x45, x46, x47, x48, x49, x50, x51, x52, x53, x54, x55, x56, x57, x58, x59, x60, x61, x62, x63, x64, x65, x66, x67, x68, x69, x70, x71, x72, x73, x74, x75, x76, x77, x78, x79, x80, x81, x82, x83, x84, x85, x86, x87, x88, x89, x90, x91, x92, x93, x94, x95, x96, x97, x98, x99, x100], []⟩ W := by
  have HH : Hid (∀ (y8 y10 y38 y39 y40 y41 y42 y43 y44 y45 y46 y47 y48 y49 y50 y51 y52 y53 y54 y55 y56 y57 y58 y59 : Value) (W' : World), I (Wp.heldL P) W' → K ⟨#[x0, x1, x2, x3, x4, x5, .func (.func n) #[] caps, x7, y8, x9, y10, x11, x12, x13, x14, x15, x16, x17, x18, x19, x20, x21, x22, x23, x24, x25, x26, x27, x28, x29, x30, x31, x32, x33, x34, .slice a ts.length c, .int .i64 ts.length, .int .i64 ts.length, y38, y39, y40, y41, y42, y43, y44, y45, y46, y47, y48, y49, y50, y51, y52, y53, y54, y55, y56, y57, y58, y59, x60, x61, x62, x63, x64, x65, x66, x67, x68, x69, x70, x71, x72, x73, x74, x75, x76, x77, x78, x79, x80, x81, x82, x83, x84, x85, x86, x87, x88, x89, x90, x91, x92, x93, x94, x95, x96, x97, x98, x99, x100], []⟩ W') := h
  have hm : ts.length ≤ maxLen := by obtain ⟨_, _, _, h⟩ := Row.form hrow; rw [List.length_map] at h; exact h
  have HR : Hid (Row W S 4 (.slice a ts.length c) (ts.map prcC)) := hrow
  have HSL : Hid (∀ t ∈ ts, Row W S 3 (.slice t.1.a t.1.n t.1.c) (t.2.slots.map sltC)) := hsl
  have HTS : Hid (P = ts.map Prod.snd) := hts
  have HI : Hid (Hands S W I) := hH
  have HST : Hid (∀ (xs : List Sp.Slt) (s : Sp.Slt) (p : Sp.Prc) (w1 : World), I xs w1 → p ∈ P → p.live = true → s ∈ p.slots → s.has = true → (∃ ys, Wp.heldL P = xs ++ s :: ys) → Calls Try.prog n (#[hcapV s.op s.rt] ++ caps) w1 fun e w2 => e = .returned (.tuple #[]) ∧ I (xs ++ [s]) w2 ∧ On (fun b => W.heap.size ≤ b ∧ b < w1.heap.size) w1 w2 ∧ w1.heap.size ≤ w2.heap.size) := hst
  have H0 : Hid (I [] W) := h0
  unfold maxLen at hm
  unfold Enters at eg
  clear hrow hsl hts hH hst h0 h
  conv => arg 2; whnf
  go_wp2_with fail
  go_loopw [37] (fun i wr => ∃ k : Nat, k ≤ ts.length ∧ i = .int .i64 k ∧ I (Wp.heldL (P.take k)) wr) (fun i _ => ts.length - (intOf i).toNat)
  case atStart => exact ⟨0, Nat.zero_le _, rfl, H0.out⟩
  case round =>
    obtain ⟨k, hk, rfl, hIk⟩ := hrel
    have HIK : Hid (I (Wp.heldL (P.take k)) wr) := hIk
    clear hIk
    by_cases hlt : k < ts.length
    · obtain ⟨⟨⟨sla, sln, slc⟩, p⟩, hx⟩ : ∃ x, ts[k]? = some x := ⟨_, List.getElem?_eq_getElem hlt⟩
      have hp : P[k]? = some p := by rw [HTS.out, List.getElem?_map, hx]; rfl
      have hnx := Wp.heldL_next hp
      have HPM : Hid (p ∈ P) := List.mem_of_getElem? hp
      obtain ⟨ho, hsz⟩ := HI.out.on _ _ HIK.out
      obtain ⟨b, of, c', he, hSb, hc, hcm, h5⟩ := (Row.on HR.out ho).some (by rw [List.length_map]; omega)
      obtain ⟨rfl, -, rfl⟩ := Value.slice.inj he
      have hi := h5 k (prcC (⟨sla, sln, slc⟩, p)) (by rw [List.getElem?_map, hx]; rfl)
      have c0 := hi 0 _ rfl
      have c1 := hi 1 _ rfl
      have c2 := hi 2 _ rfl
      have c3 := hi 3 _ rfl
      rw [Nat.add_zero] at c0
      rw [List.length_map] at hc
      unfold maxLen at hcm
      have HS3 : Hid (Row W S 3 (.slice sla sln slc) (p.slots.map sltC)) := HSL.out _ (List.mem_of_getElem? hx)
      have HP : Hid (P[k]? = some p) := hp
      have HNX : Hid (Wp.heldL (P.take (k + 1)) = Wp.heldL (P.take k) ++ (if p.live = true then p.slots.filter (·.has) else [])) := by unfold Hid; rw [hnx]; unfold Wp.heldP; cases p.live <;> rfl
      have HN : Hid (∀ ob, I (Wp.heldL (P.take k)) (wr.alloc ob)) := fun ob => HI.out.new _ _ ob HIK.out
      obtain ⟨a3, c3', he3, hm3⟩ := Row.form HS3.out
      obtain ⟨e1, e2, e3⟩ := Value.slice.inj he3
      rw [List.length_map] at e2 hm3
      unfold maxLen at hm3
      rw [e2] at c3 HS3
      have HBX : Hid (∀ W1, On (fun b => b = wr.heap.size) (wr.alloc (.cells #[.bool p.live, .bool p.fenced, .int .i64 p.code, .slice sla p.slots.length slc] 43)) W1 → True) := fun _ _ => trivial
      clear he h5 ho hi hp hx hnx e1 e3 he3 HBX
      obtain ⟨wo, hwo⟩ : ∃ wo : World, wo = wr := ⟨_, rfl⟩
      clear hwo
      go_wp2_with fail
      have hbx := Blk.new wr #[.bool p.live, .bool p.fenced, .int .i64 p.code, .slice sla p.slots.length slc] 43
      have HBX : Hid (Blk (wr.alloc (.cells #[.bool p.live, .bool p.fenced, .int .i64 p.code, .slice sla p.slots.length slc] 43)) wr.heap.size #[.bool p.live, .bool p.fenced, .int .i64 p.code, .slice sla p.slots.length slc] 43) := hbx
      have HZ1 : Hid ((wr.alloc (.cells #[.bool p.live, .bool p.fenced, .int .i64 p.code, .slice sla p.slots.length slc] 43)).heap.size = wr.heap.size + 1) := by unfold Hid; simp
      have H1 : Hid (I (Wp.heldL (P.take k)) (wr.alloc (.cells #[.bool p.live, .bool p.fenced, .int .i64 p.code, .slice sla p.slots.length slc] 43))) := HN.out _
      clear hbx
      generalize wr.alloc (.cells #[.bool p.live, .bool p.fenced, .int .i64 p.code, .slice sla p.slots.length slc] 43) = w1 at *
      have hzw : w1.heap.size = wr.heap.size + 1 := HZ1.out
      go_loopw [44] (fun i wz => ∃ j : Nat, j ≤ p.slots.length ∧ i = .int .i64 j ∧ I (Wp.heldL (P.take k) ++ (if p.live = true then (p.slots.take j).filter (·.has) else [])) wz ∧ Blk wz wr.heap.size #[.bool p.live, .bool p.fenced, .int .i64 p.code, .slice sla p.slots.length slc] 43) (fun i _ => p.slots.length - (intOf i).toNat)
      case atStart => exact ⟨0, Nat.zero_le _, rfl, by rw [List.take_zero, List.filter_nil, ite_self, List.append_nil]; exact H1.out, HBX.out⟩
      case round =>
        rename World => wz
        obtain ⟨j, hj, rfl, hIj, hbj⟩ := hrel
        have HIJ : Hid (I (Wp.heldL (P.take k) ++ (if p.live = true then (p.slots.take j).filter (·.has) else [])) wz) := hIj
        have HBJ : Hid (Blk wz wr.heap.size #[.bool p.live, .bool p.fenced, .int .i64 p.code, .slice sla p.slots.length slc] 43) := hbj
        have b0 := hbj.cell 0
        have bl := hbj.lt
        simp at b0
        clear hIj hbj
        by_cases hjl : j < p.slots.length
        · obtain ⟨x, hx⟩ : ∃ x, p.slots[j]? = some x := ⟨_, List.getElem?_eq_getElem hjl⟩
          have htk : p.slots.take (j + 1) = p.slots.take j ++ [x] := by rw [List.take_add_one, hx]; rfl
          have hxm := List.mem_of_getElem? hx
          have hpre := Wp.heldL_mid HP.out hx
          obtain ⟨ho2, hsz2⟩ := HI.out.on _ _ HIJ.out
          obtain ⟨b2, of2, c2', he2, hSb2, hc2, hcm2, h52⟩ := (Row.on HS3.out ho2).some (by rw [List.length_map]; omega)
          obtain ⟨rfl, -, rfl⟩ := Value.slice.inj he2
          have hi2 := h52 j (sltC x) (by rw [List.getElem?_map, hx]; rfl)
          have d0 := hi2 0 _ rfl
          have d1 := hi2 1 _ rfl
          have d2 := hi2 2 _ rfl
          rw [Nat.add_zero] at d0
          rw [List.length_map] at hc2
          unfold maxLen at hcm2
          have HBN : Hid (∀ ob w2, On (fun b => W.heap.size ≤ b ∧ b < (wz.alloc ob).heap.size) (wz.alloc ob) w2 → Blk w2 wr.heap.size _ 43) := fun ob w2 ho => (HBJ.out.alloc ob).on ho ⟨hsz, by simp; omega⟩
          rcases Bool.eq_false_or_eq_true p.live with hlv | hlv
          focus
            have HLV : Hid (p.live = true) := hlv
            rw [hlv] at b0
            cases hhas : x.has with
            | true =>
              have HC : Hid (∀ ob, Calls Try.prog n (#[.agg #[.int .i64 x.op, .int .i64 x.rt]] ++ caps) (wz.alloc ob) fun e w2 => e = .returned (.tuple #[]) ∧ I (Wp.heldL (P.take k) ++ (if p.live = true then (p.slots.take (j + 1)).filter (·.has) else [])) w2 ∧ On (fun b => W.heap.size ≤ b ∧ b < (wz.alloc ob).heap.size) (wz.alloc ob) w2) := fun ob => by
                have := HST.out _ x p (wz.alloc ob) (HI.out.new _ _ ob HIJ.out) HPM.out HLV.out hxm hhas (by rw [HLV.out, if_pos rfl]; exact hpre HLV.out hhas)
                rw [HLV.out, if_pos rfl] at this ⊢
                rw [htk, List.filter_append, List.filter_cons_of_pos hhas, List.filter_nil, ← List.append_assoc]
                refine this.mono ?_
                rintro e w2 ⟨h1, h2, h3, -⟩
                exact ⟨h1, h2, h3⟩
              rw [hhas] at d0
              clear he2 h52 ho2 hi2 htk hhas hx hxm hlv hpre
              go_wp2_with fail
              refine Calls.mono (HC.out _) ?_
              rintro e w2 ⟨rfl, hI2, ho2⟩
              have HI2 : Hid (I (Wp.heldL (P.take k) ++ (if p.live = true then (p.slots.take (j + 1)).filter (·.has) else [])) w2) := hI2
              have HB2 : Hid _ := HBN.out _ _ ho2
              clear hI2 ho2 d0 d1 d2 b0
              go_wp2
              go_roundw
              case rel => exact ⟨j + 1, by omega, by go_num, HI2.out, HB2.out⟩
              case measure => simp [intOf]; omega
            | false =>
              have HC : Hid (∀ ob, I (Wp.heldL (P.take k) ++ (if p.live = true then (p.slots.take (j + 1)).filter (·.has) else [])) (wz.alloc ob)) := fun ob => by
                rw [htk, List.filter_append, List.filter_cons_of_neg (by rw [hhas]; decide), List.filter_nil, List.append_nil]
                exact HI.out.new _ _ ob HIJ.out
              have HB2 : Hid (∀ ob, Blk (wz.alloc ob) wr.heap.size _ 43) := fun ob => HBJ.out.alloc ob
              rw [hhas] at d0
              clear he2 h52 ho2 hi2 htk hhas hx hxm hlv hpre
              go_wp2
              go_roundw
              case rel => exact ⟨j + 1, by omega, by go_num, HC.out _, HB2.out _⟩
              case measure => simp [intOf]; omega
          focus
            have HC : Hid (∀ ob, I (Wp.heldL (P.take k) ++ (if p.live = true then (p.slots.take (j + 1)).filter (·.has) else [])) (wz.alloc ob)) := fun ob => by
              have := HI.out.new _ _ ob HIJ.out
              rw [hlv] at this ⊢
              exact this
            have HB2 : Hid (∀ ob, Blk (wz.alloc ob) wr.heap.size _ 43) := fun ob => HBJ.out.alloc ob
            rw [hlv] at b0
            clear he2 h52 ho2 hi2 htk hx hxm hlv hpre
            go_wp2
            go_roundw
            case rel => exact ⟨j + 1, by omega, by go_num, HC.out _, HB2.out _⟩
            case measure => simp [intOf]; omega
        · obtain rfl : j = p.slots.length := by omega
          have HF : Hid (I (Wp.heldL (P.take (k + 1))) wz) := by
            have := HIJ.out
            rw [List.take_length] at this
            unfold Hid
            rw [HNX.out]
            exact this
          clear HIJ
          go_wp2
          go_roundw
          case rel => exact ⟨k + 1, by omega, by go_num, HF.out⟩
          case measure => simp [intOf]; omega
    · obtain rfl : k = ts.length := by omega
      have HF : Hid (I (Wp.heldL P) wr) := by
        have := HIK.out
        rw [List.take_of_length_le (by rw [HTS.out, List.length_map]; exact Nat.le_refl _)] at this
        exact this
      clear HIK
      go_wp2
      exact HH.out _ _ _ _ _ _ _ _ _ _ _ _ _ _ _ _ _ _ _ _ _ _ _ _ _ HF.out
set_option maxRecDepth 1000000 in
set_option maxHeartbeats 8000000 in
theorem sheld_wp (Q : Exit → Act → World → Prop) (K : Act → World → Prop) (n : Nat) (caps : Array Value) (P : List Sp.Prc) (ts : List (Sl × Sp.Prc)) (a : Option Addr) (c : Nat) (S : Nat → Prop) (W : World) (hts : P = ts.map Prod.snd) (hrow : Row W S 4 (.slice a ts.length c) (ts.map prcC)) (hsl : ∀ t ∈ ts, Row W S 3 (.slice t.1.a t.1.n t.1.c) (t.2.slots.map sltC)) (eg : Enters Try.prog n) (I : List Sp.Slt → World → Prop) (h0 : I [] W) (hH : Hands S W I)
    (hst : ∀ (xs : List Sp.Slt) (s : Sp.Slt) (p : Sp.Prc) (w1 : World), I xs w1 → p ∈ P → p.live = true → s ∈ p.slots → s.has = true → (∃ ys, Wp.heldL P = xs ++ s :: ys) → Calls Try.prog n (#[hcapV s.op s.rt] ++ caps) w1 fun e w2 => e = .returned (.tuple #[]) ∧ I (xs ++ [s]) w2 ∧ On (fun b => W.heap.size ≤ b ∧ b < w1.heap.size) w1 w2 ∧ w1.heap.size ≤ w2.heap.size)
    (x0 x1 x2 x3 x4 x5 x7 x8 x9 x10 x11 x12 x13 x14 x15 x16 x17 x18 x19 x20 x21 x22 x23 x24 x25 x26 x27 x28 x29 x30 x31 x32 x33 x37 x38 x39 x40 x41 x42 x43 x44 x45 x46 x47 x48 x49 x50 x51 x52 x53 x54 x55 x56 x57 x58 x59 x60 x61 x62 x63 x64 x65 x66 x67 x68 x69 x70 x71 x72 x73 x74 x75 x76 x77 x78 x79 x80 x81 x82 x83 x84 x85 x86 x87 x88 x89 x90 x91 x92 x93 x94 x95 x96 x97 x98 x99 x100 x101 x102 x103 x104 x105 x106 x107 x108 x109 x110 x111 x112 x113 x114 x115 x116 x117 x118 x119 x120 x121 x122 x123 x124 x125 x126 x127 x128 x129 x130 x131 x132 x133 x134 x135 x136 x137 x138 x139 x140 x141 x142 x143 x144 x145 x146 x147 x148 x149 x150 x151 x152 x153 x154 x155 x156 x157 x158 x159 x160 x161 x162 x163 x164 x165 x166 x167 x168 x169 x170 x171 x172 x173 x174 x175 x176 x177 x178 x179 x180 x181 x182 x183 x184 x185 x186 x187 x188 x189 x190 x191 x192 x193 x194 x195 x196 x197 x198 x199 x200 x201 x202 x203 x204 x205 x206 x207 x208 x209 x210 x211 x212 x213 x214 x215 x216 x217 x218 x219 x220 x221 x222 x223 x224 x225 x226 x227 x228 x229 x230 x231 x232 x233 x234 x235 x236 x237 x238 x239 x240 x241 x242 x243 x244 x245 x246 x247 x248 x249 x250 x251 x252 x253 x254 x255 x256 x257 x258 x259 x260 x261 x262 x263 x264 x265 x266 x267 x268 x269 x270 x271 x272 x273 x274 x275 x276 x277 x278 x279 x280 x281 x282 x283 : Value)
    (h : ∀ (y8 y10 y37 y38 y39 y40 y41 y42 y43 y44 y45 y46 y47 y48 y49 y50 y51 y52 y53 y54 y55 y56 y57 y58 : Value) (W' : World), I (Wp.heldL P) W' → K ⟨#[x0, x1, x2, x3, x4, x5, .func (.func n) #[] caps, x7, y8, x9, y10, x11, x12, x13, x14, x15, x16, x17, x18, x19, x20, x21, x22, x23, x24, x25, x26, x27, x28, x29, x30, x31, x32, x33, .slice a ts.length c, .int .i64 ts.length, .int .i64 ts.length, y37, y38, y39, y40, y41, y42, y43, y44, y45, y46, y47, y48, y49, y50, y51, y52, y53, y54, y55, y56, y57, y58, x59, x60, x61, x62, x63, x64, x65, x66, x67, x68, x69, x70, x71, x72, x73, x74, x75, x76, x77, x78, x79, x80, x81, x82, x83, x84, x85, x86, x87, x88, x89, x90, x91, x92, x93, x94, x95, x96, x97, x98, x99, x100, x101, x102, x103, x104, x105, x106, x107, x108, x109, x110, x111, x112, x113, x114, x115, x116, x117, x118, x119, x120, x121, x122, x123, x124, x125, x126, x127, x128, x129, x130, x131, x132, x133, x134, x135, x136, x137, x138, x139, x140, x141, x142, x143, x144, x145, x146, x147, x148, x149, x150, x151, x152, x153, x154, x155, x156, x157, x158, x159, x160, x161, x162, x163, x164, x165, x166, x167, x168, x169, x170, x171, x172, x173, x174, x175, x176, x177, x178, x179, x180, x181, x182, x183, x184, x185, x186, x187, x188, x189, x190, x191, x192, x193, x194, x195, x196, x197, x198, x199, x200, x201, x202, x203, x204, x205, x206, x207, x208, x209, x210, x211, x212, x213, x214, x215, x216, x217, x218, x219, x220, x221, x222, x223, x224, x225, x226, x227, x228, x229, x230, x231, x232, x233, x234, x235, x236, x237, x238, x239, x240, x241, x242, x243, x244, x245, x246, x247, x248, x249, x250, x251, x252, x253, x254, x255, x256, x257, x258, x259, x260, x261, x262, x263, x264, x265, x266, x267, x268, x269, x270, x271, x272, x273, x274, x275, x276, x277, x278, x279, x280, x281, x282, x283], []⟩ W') :
    Code.wp Try.prog ((Try.f15.body.bind (findBlock 2)).getD .skip) (Exit.then K Q) ⟨#[x0, x1, x2, x3, x4, x5, .func (.func n) #[] caps, x7, x8, x9, x10, x11, x12, x13, x14, x15, x16, x17, x18, x19, x20, x21, x22, x23, x24, x25, x26, x27, x28, x29, x30, x31, x32, x33, .slice a ts.length c, .int .i64 ts.length, .int .i64 0, x37, x38, x39, x40, x41, x42, x43, x44, x45, x46, x47, x48, x49, x50, x51, x52, x53, x54, x55, x56, x57, x58, x59, x60, x61, x62, x63, x64, x65, x66, x67, x68, x69, x70, x71, x72, x73, x74, x75, x76, x77, x78, x79, x80, x81, x82, x83, x84, x85, x86, x87, x88, x89, x90, x91, x92, x93, x94, x95, x96, x97, x98, x99, x100, x101, x102, x103, x104, x105, x106, x107, x108, x109, x110, x111, x112, x113, x114, x115, x116, x117, x118, x119, x120, x121, x122, x123, x124, x125, x126, x127, x128, x129, x130, x131, x132, x133, x134, x135, x136, x137, x138, x139, x140, x141, x142, x143, x144, x145, x146, x147, x148, x149, x150, x151, x152, x153, x154, x155, x156, x157, x158, x159, x160, x161, x162, x163, x164, x165, x166, x167, x168, x169, x170, x171, x172, x173, x174, x175, x176, x177, x178, x179, x180, x181, x182, x183, x184, x185, x186, x187, x188, x189, x190, x191, x192, x193, x194, x195, x196, x197, x198, x199, x200, x201, x202, x203, x204, x205, x206, x207, x208, x209, x210, x211, x212, x213, x214, x215, x216, x217, x218, x219, x220, x221, x222, x223, x224, x225, x226, x227, x228, x229, x230, x231, x232, x233, x234, x235, x236, x237, x238, x239, x240, x241, x242, x243, x244, x245, x246, x247, x248, x249, x250, x251, x252, x253, x254, x255, x256, x257, x258, x259, x260, x261, x262, x263, x264, x265, x266, x267, x268, x269, x270, x271, x272, x273, x274, x275, x276, x277, x278, x279, x280, x281, x282, x283], []⟩ W := by
  have HH : Hid (∀ (y8 y10 y37 y38 y39 y40 y41 y42 y43 y44 y45 y46 y47 y48 y49 y50 y51 y52 y53 y54 y55 y56 y57 y58 : Value) (W' : World), I (Wp.heldL P) W' → K ⟨#[x0, x1, x2, x3, x4, x5, .func (.func n) #[] caps, x7, y8, x9, y10, x11, x12, x13, x14, x15, x16, x17, x18, x19, x20, x21, x22, x23, x24, x25, x26, x27, x28, x29, x30, x31, x32, x33, .slice a ts.length c, .int .i64 ts.length, .int .i64 ts.length, y37, y38, y39, y40, y41, y42, y43, y44, y45, y46, y47, y48, y49, y50, y51, y52, y53, y54, y55, y56, y57, y58, x59, x60, x61, x62, x63, x64, x65, x66, x67, x68, x69, x70, x71, x72, x73, x74, x75, x76, x77, x78, x79, x80, x81, x82, x83, x84, x85, x86, x87, x88, x89, x90, x91, x92, x93, x94, x95, x96, x97, x98, x99, x100, x101, x102, x103, x104, x105, x106, x107, x108, x109, x110, x111, x112, x113, x114, x115, x116, x117, x118, x119, x120, x121, x122, x123, x124, x125, x126, x127, x128, x129, x130, x131, x132, x133, x134, x135, x136, x137, x138, x139, x140, x141, x142, x143, x144, x145, x146, x147, x148, x149, x150, x151, x152, x153, x154, x155, x156, x157, x158, x159, x160, x161, x162, x163, x164, x165, x166, x167, x168, x169, x170, x171, x172, x173, x174, x175, x176, x177, x178, x179, x180, x181, x182, x183, x184, x185, x186, x187, x188, x189, x190, x191, x192, x193, x194, x195, x196, x197, x198, x199, x200, x201, x202, x203, x204, x205, x206, x207, x208, x209, x210, x211, x212, x213, x214, x215, x216, x217, x218, x219, x220, x221, x222, x223, x224, x225, x226, x227, x228, x229, x230, x231, x232, x233, x234, x235, x236, x237, x238, x239, x240, x241, x242, x243, x244, x245, x246, x247, x248, x249, x250, x251, x252, x253, x254, x255, x256, x257, x258, x259, x260, x261, x262, x263, x264, x265, x266, x267, x268, x269, x270, x271, x272, x273, x274, x275, x276, x277, x278, x279, x280, x281, x282, x283], []⟩ W') := h
  have hm : ts.length ≤ maxLen := by obtain ⟨_, _, _, h⟩ := Row.form hrow; rw [List.length_map] at h; exact h
  have HR : Hid (Row W S 4 (.slice a ts.length c) (ts.map prcC)) := hrow
  have HSL : Hid (∀ t ∈ ts, Row W S 3 (.slice t.1.a t.1.n t.1.c) (t.2.slots.map sltC)) := hsl
  have HTS : Hid (P = ts.map Prod.snd) := hts
  have HI : Hid (Hands S W I) := hH
  have HST : Hid (∀ (xs : List Sp.Slt) (s : Sp.Slt) (p : Sp.Prc) (w1 : World), I xs w1 → p ∈ P → p.live = true → s ∈ p.slots → s.has = true → (∃ ys, Wp.heldL P = xs ++ s :: ys) → Calls Try.prog n (#[hcapV s.op s.rt] ++ caps) w1 fun e w2 => e = .returned (.tuple #[]) ∧ I (xs ++ [s]) w2 ∧ On (fun b => W.heap.size ≤ b ∧ b < w1.heap.size) w1 w2 ∧ w1.heap.size ≤ w2.heap.size) := hst
  have H0 : Hid (I [] W) := h0
  unfold maxLen at hm
  unfold Enters at eg
  clear hrow hsl hts hH hst h0 h
  conv => arg 2; whnf
  go_wp2_with fail
  go_loopw [36] (fun i wr => ∃ k : Nat, k ≤ ts.length ∧ i = .int .i64 k ∧ I (Wp.heldL (P.take k)) wr) (fun i _ => ts.length - (intOf i).toNat)
  case atStart => exact ⟨0, Nat.zero_le _, rfl, H0.out⟩
  case round =>
    obtain ⟨k, hk, rfl, hIk⟩ := hrel
    have HIK : Hid (I (Wp.heldL (P.take k)) wr) := hIk
    clear hIk
    by_cases hlt : k < ts.length
    · obtain ⟨⟨⟨sla, sln, slc⟩, p⟩, hx⟩ : ∃ x, ts[k]? = some x := ⟨_, List.getElem?_eq_getElem hlt⟩
      have hp : P[k]? = some p := by rw [HTS.out, List.getElem?_map, hx]; rfl
      have hnx := Wp.heldL_next hp
      have HPM : Hid (p ∈ P) := List.mem_of_getElem? hp
      obtain ⟨ho, hsz⟩ := HI.out.on _ _ HIK.out
      obtain ⟨b, of, c', he, hSb, hc, hcm, h5⟩ := (Row.on HR.out ho).some (by rw [List.length_map]; omega)
      obtain ⟨rfl, -, rfl⟩ := Value.slice.inj he
      have hi := h5 k (prcC (⟨sla, sln, slc⟩, p)) (by rw [List.getElem?_map, hx]; rfl)
      have c0 := hi 0 _ rfl
      have c1 := hi 1 _ rfl
      have c2 := hi 2 _ rfl
      have c3 := hi 3 _ rfl
      rw [Nat.add_zero] at c0
      rw [List.length_map] at hc
      unfold maxLen at hcm
      have HS3 : Hid (Row W S 3 (.slice sla sln slc) (p.slots.map sltC)) := HSL.out _ (List.mem_of_getElem? hx)
      have HP : Hid (P[k]? = some p) := hp
      have HNX : Hid (Wp.heldL (P.take (k + 1)) = Wp.heldL (P.take k) ++ (if p.live = true then p.slots.filter (·.has) else [])) := by unfold Hid; rw [hnx]; unfold Wp.heldP; cases p.live <;> rfl
      have HN : Hid (∀ ob, I (Wp.heldL (P.take k)) (wr.alloc ob)) := fun ob => HI.out.new _ _ ob HIK.out
      obtain ⟨a3, c3', he3, hm3⟩ := Row.form HS3.out
      obtain ⟨e1, e2, e3⟩ := Value.slice.inj he3
      rw [List.length_map] at e2 hm3
      unfold maxLen at hm3
      rw [e2] at c3 HS3
      have HBX : Hid (∀ W1, On (fun b => b = wr.heap.size) (wr.alloc (.cells #[.bool p.live, .bool p.fenced, .int .i64 p.code, .slice sla p.slots.length slc] 43)) W1 → True) := fun _ _ => trivial
      clear he h5 ho hi hp hx hnx e1 e3 he3 HBX
      obtain ⟨wo, hwo⟩ : ∃ wo : World, wo = wr := ⟨_, rfl⟩
      clear hwo
      go_wp2_with fail
      have hbx := Blk.new wr #[.bool p.live, .bool p.fenced, .int .i64 p.code, .slice sla p.slots.length slc] 43
      have HBX : Hid (Blk (wr.alloc (.cells #[.bool p.live, .bool p.fenced, .int .i64 p.code, .slice sla p.slots.length slc] 43)) wr.heap.size #[.bool p.live, .bool p.fenced, .int .i64 p.code, .slice sla p.slots.length slc] 43) := hbx
      have HZ1 : Hid ((wr.alloc (.cells #[.bool p.live, .bool p.fenced, .int .i64 p.code, .slice sla p.slots.length slc] 43)).heap.size = wr.heap.size + 1) := by unfold Hid; simp
      have H1 : Hid (I (Wp.heldL (P.take k)) (wr.alloc (.cells #[.bool p.live, .bool p.fenced, .int .i64 p.code, .slice sla p.slots.length slc] 43))) := HN.out _
      clear hbx
      generalize wr.alloc (.cells #[.bool p.live, .bool p.fenced, .int .i64 p.code, .slice sla p.slots.length slc] 43) = w1 at *
      have hzw : w1.heap.size = wr.heap.size + 1 := HZ1.out
      go_loopw [43] (fun i wz => ∃ j : Nat, j ≤ p.slots.length ∧ i = .int .i64 j ∧ I (Wp.heldL (P.take k) ++ (if p.live = true then (p.slots.take j).filter (·.has) else [])) wz ∧ Blk wz wr.heap.size #[.bool p.live, .bool p.fenced, .int .i64 p.code, .slice sla p.slots.length slc] 43) (fun i _ => p.slots.length - (intOf i).toNat)
      case atStart => exact ⟨0, Nat.zero_le _, rfl, by rw [List.take_zero, List.filter_nil, ite_self, List.append_nil]; exact H1.out, HBX.out⟩
      case round =>
        rename World => wz
        obtain ⟨j, hj, rfl, hIj, hbj⟩ := hrel
        have HIJ : Hid (I (Wp.heldL (P.take k) ++ (if p.live = true then (p.slots.take j).filter (·.has) else [])) wz) := hIj
        have HBJ : Hid (Blk wz wr.heap.size #[.bool p.live, .bool p.fenced, .int .i64 p.code, .slice sla p.slots.length slc] 43) := hbj
        have b0 := hbj.cell 0
        have bl := hbj.lt
        simp at b0
        clear hIj hbj
        by_cases hjl : j < p.slots.length
        · obtain ⟨x, hx⟩ : ∃ x, p.slots[j]? = some x := ⟨_, List.getElem?_eq_getElem hjl⟩
          have htk : p.slots.take (j + 1) = p.slots.take j ++ [x] := by rw [List.take_add_one, hx]; rfl
          have hxm := List.mem_of_getElem? hx
          have hpre := Wp.heldL_mid HP.out hx
          obtain ⟨ho2, hsz2⟩ := HI.out.on _ _ HIJ.out
          obtain ⟨b2, of2, c2', he2, hSb2, hc2, hcm2, h52⟩ := (Row.on HS3.out ho2).some (by rw [List.length_map]; omega)
          obtain ⟨rfl, -, rfl⟩ := Value.slice.inj he2
          have hi2 := h52 j (sltC x) (by rw [List.getElem?_map, hx]; rfl)
          have d0 := hi2 0 _ rfl
          have d1 := hi2 1 _ rfl
          have d2 := hi2 2 _ rfl
          rw [Nat.add_zero] at d0
          rw [List.length_map] at hc2
          unfold maxLen at hcm2
          have HBN : Hid (∀ ob w2, On (fun b => W.heap.size ≤ b ∧ b < (wz.alloc ob).heap.size) (wz.alloc ob) w2 → Blk w2 wr.heap.size _ 43) := fun ob w2 ho => (HBJ.out.alloc ob).on ho ⟨hsz, by simp; omega⟩
          rcases Bool.eq_false_or_eq_true p.live with hlv | hlv
          focus
            have HLV : Hid (p.live = true) := hlv
            rw [hlv] at b0
            cases hhas : x.has with
            | true =>
              have HC : Hid (∀ ob, Calls Try.prog n (#[.agg #[.int .i64 x.op, .int .i64 x.rt]] ++ caps) (wz.alloc ob) fun e w2 => e = .returned (.tuple #[]) ∧ I (Wp.heldL (P.take k) ++ (if p.live = true then (p.slots.take (j + 1)).filter (·.has) else [])) w2 ∧ On (fun b => W.heap.size ≤ b ∧ b < (wz.alloc ob).heap.size) (wz.alloc ob) w2) := fun ob => by
                have := HST.out _ x p (wz.alloc ob) (HI.out.new _ _ ob HIJ.out) HPM.out HLV.out hxm hhas (by rw [HLV.out, if_pos rfl]; exact hpre HLV.out hhas)
                rw [HLV.out, if_pos rfl] at this ⊢
                rw [htk, List.filter_append, List.filter_cons_of_pos hhas, List.filter_nil, ← List.append_assoc]
                refine this.mono ?_
                rintro e w2 ⟨h1, h2, h3, -⟩
                exact ⟨h1, h2, h3⟩
              rw [hhas] at d0
              clear he2 h52 ho2 hi2 htk hhas hx hxm hlv hpre
              go_wp2_with fail
              refine Calls.mono (HC.out _) ?_
              rintro e w2 ⟨rfl, hI2, ho2⟩
              have HI2 : Hid (I (Wp.heldL (P.take k) ++ (if p.live = true then (p.slots.take (j + 1)).filter (·.has) else [])) w2) := hI2
              have HB2 : Hid _ := HBN.out _ _ ho2
              clear hI2 ho2 d0 d1 d2 b0
              go_wp2
              go_roundw
              case rel => exact ⟨j + 1, by omega, by go_num, HI2.out, HB2.out⟩
              case measure => simp [intOf]; omega
            | false =>
              have HC : Hid (∀ ob, I (Wp.heldL (P.take k) ++ (if p.live = true then (p.slots.take (j + 1)).filter (·.has) else [])) (wz.alloc ob)) := fun ob => by
                rw [htk, List.filter_append, List.filter_cons_of_neg (by rw [hhas]; decide), List.filter_nil, List.append_nil]
                exact HI.out.new _ _ ob HIJ.out
              have HB2 : Hid (∀ ob, Blk (wz.alloc ob) wr.heap.size _ 43) := fun ob => HBJ.out.alloc ob
              rw [hhas] at d0
              clear he2 h52 ho2 hi2 htk hhas hx hxm hlv hpre
              go_wp2
              go_roundw
              case rel => exact ⟨j + 1, by omega, by go_num, HC.out _, HB2.out _⟩
              case measure => simp [intOf]; omega
          focus
            have HC : Hid (∀ ob, I (Wp.heldL (P.take k) ++ (if p.live = true then (p.slots.take (j + 1)).filter (·.has) else [])) (wz.alloc ob)) := fun ob => by
              have := HI.out.new _ _ ob HIJ.out
              rw [hlv] at this ⊢
              exact this
            have HB2 : Hid (∀ ob, Blk (wz.alloc ob) wr.heap.size _ 43) := fun ob => HBJ.out.alloc ob
            rw [hlv] at b0
            clear he2 h52 ho2 hi2 htk hx hxm hlv hpre
            go_wp2
            go_roundw
            case rel => exact ⟨j + 1, by omega, by go_num, HC.out _, HB2.out _⟩
            case measure => simp [intOf]; omega
        · obtain rfl : j = p.slots.length := by omega
          have HF : Hid (I (Wp.heldL (P.take (k + 1))) wz) := by
            have := HIJ.out
            rw [List.take_length] at this
            unfold Hid
            rw [HNX.out]
            exact this
          clear HIJ
          go_wp2
          go_roundw
          case rel => exact ⟨k + 1, by omega, by go_num, HF.out⟩
          case measure => simp [intOf]; omega
    · obtain rfl : k = ts.length := by omega
      have HF : Hid (I (Wp.heldL P) wr) := by
        have := HIK.out
        rw [List.take_of_length_le (by rw [HTS.out, List.length_map]; exact Nat.le_refl _)] at this
        exact this
      clear HIK
      go_wp2
      exact HH.out _ _ _ _ _ _ _ _ _ _ _ _ _ _ _ _ _ _ _ _ _ _ _ _ _ HF.out
end Go.Proofs.Ytdciohinlhbliaa


/-
  rgref5.Reach: what marked objects lead on to.
-/
namespace Go.Proofs.Ytdciohinlhbliaa
open Go.RowKit
open Wp
set_option maxRecDepth 1000000 in
set_option maxHeartbeats 8000000 in
theorem rents_wp (Q : Exit → Act → World → Prop) (K : Act → World → Prop) (n : Nat) (caps : Array Value) (es : List Sp.Ent) (a : Option Addr) (c bk : Nat) (S : Nat → Prop) (W : World) (hrow : Row W S 2 (.slice a es.length c) (es.map entC)) (hbk : Blk W bk #[.func (.func n) #[] caps] 84) (hSk : S bk) (eg : Enters Try.prog n) (I : List Sp.Ent → World → Prop) (h0 : I [] W) (hH : Hands S W I)
    (hst : ∀ (xs : List Sp.Ent) (e : Sp.Ent) (w1 : World), I xs w1 → e ∈ es → Calls Try.prog n (#[.int .i64 e.obj] ++ caps) w1 fun r w2 => r = .returned (.tuple #[]) ∧ I (xs ++ [e]) w2)
    (x0 x1 x2 x3 x4 x6 x7 x8 x9 x10 x11 x12 x13 x14 x15 x16 x17 x18 x19 x20 x21 x22 x23 x24 x25 x26 x27 x28 x29 x30 x31 x32 x33 x34 x35 x36 x37 x38 x39 x40 x41 x42 x43 x44 x45 x46 x47 x48 x49 x50 x51 x52 x53 x54 x55 x56 x57 x58 x59 x60 x61 x62 x63 x64 x65 x66 x67 x68 x69 x70 x71 x72 x76 x77 x78 x79 x80 x81 x82 x83 x84 x85 x86 x87 x88 x89 x90 x91 x92 x93 x94 x95 x96 x97 x98 x99 x100 : Value)
    (h : ∀ (y14 y76 y77 y78 y79 y80 y81 y82 y83 : Value) (W' : World), I es W' → K ⟨#[x0, x1, x2, x3, x4, .pointer (some ⟨bk, 0, none⟩), x6, x7, x8, x9, x10, x11, x12, x13, y14, x15, x16, x17, x18, x19, x20, x21, x22, x23, x24, x25, x26, x27, x28, x29, x30, x31, x32, x33, x34, x35, x36, x37, x38, x39, x40, x41, x42, x43, x44, x45, x46, x47, x48, x49, x50, x51, x52, x53, x54, x55, x56, x57, x58, x59, x60, x61, x62, x63, x64, x65, x66, x67, x68, x69, x70, x71, x72, .slice a es.length c, .int .i64 es.length, .int .i64 es.length, y76, y77, y78, y79, y80, y81, y82, y83, x84, x85, x86, x87, x88, x89, x90, x91, x92, x93, x94, x95, x96, x97, x98, x99, x100], []⟩ W') :
    Code.wp Try.prog ((Try.f10.body.bind (findBlock 8)).getD .skip) (Exit.then K Q) ⟨#[x0, x1, x2, x3, x4, .pointer (some ⟨bk, 0, none⟩), x6, x7, x8, x9, x10, x11, x12, x13, x14, x15, x16, x17, x18, x19, x20, x21, x22, x23, x24, x25, x26, x27, x28, x29, x30, x31, x32, x33, x34, x35, x36, x37, x38, x39, x40, x41, x42, x43, x44, x45, x46, x47, x48, x49, x50, x51, x52, x53, x54, x55, x56, x57, x58, x59, x60, x61, x62, x63, x64, x65, x66, x67, x68, x69, x70, x71, x72, .slice a es.length c, .int .i64 es.length, .int .i64 0, x76, x77, x78, x79, x80, x81, x82, x83, x84, x85, x86, x87, x88, x89, x90, x91, x92, x93, x94, x95, x96, x97, x98, x99, x100], []⟩ W := by
  have HH : Hid (∀ (y14 y76 y77 y78 y79 y80 y81 y82 y83 : Value) (W' : World), I es W' → K ⟨#[x0, x1, x2, x3, x4, .pointer (some ⟨bk, 0, none⟩), x6, x7, x8, x9, x10, x11, x12, x13, y14, x15, x16, x17, x18, x19, x20, x21, x22, x23, x24, x25, x26, x27, x28, x29, x30, x31, x32, x33, x34, x35, x36, x37, x38, x39, x40, x41, x42, x43, x44, x45, x46, x47, x48, x49, x50, x51, x52, x53, x54, x55, x56, x57, x58, x59, x60, x61, x62, x63, x64, x65, x66, x67, x68, x69, x70, x71, x72, .slice a es.length c, .int .i64 es.length, .int .i64 es.length, y76, y77, y78, y79, y80, y81, y82, y83, x84, x85, x86, x87, x88, x89, x90, x91, x92, x93, x94, x95, x96, x97, x98, x99, x100], []⟩ W') := h
  have hm : es.length ≤ maxLen := by obtain ⟨_, _, _, h⟩ := Row.form hrow; rw [List.length_map] at h; exact h
  have HR : Hid (Row W S 2 (.slice a es.length c) (es.map entC)) := hrow
  have HBK : Hid (Blk W bk #[.func (.func n) #[] caps] 84) := hbk
  have HI : Hid (Hands S W I) := hH
  have HST : Hid (∀ (xs : List Sp.Ent) (e : Sp.Ent) (w1 : World), I xs w1 → e ∈ es → Calls Try.prog n (#[.int .i64 e.obj] ++ caps) w1 fun r w2 => r = .returned (.tuple #[]) ∧ I (xs ++ [e]) w2) := hst
  have H0 : Hid (I [] W) := h0
  unfold maxLen at hm
  unfold Enters at eg
  clear hrow hH hst h0 h hbk
  conv => arg 2; whnf
  go_wp2_with fail
  go_loopw [75] (fun i wr => ∃ k : Nat, k ≤ es.length ∧ i = .int .i64 k ∧ I (es.take k) wr) (fun i _ => es.length - (intOf i).toNat)
  case atStart => exact ⟨0, Nat.zero_le _, rfl, H0.out⟩
  case round =>
    obtain ⟨k, hk, rfl, hIk⟩ := hrel
    have HIK : Hid (I (es.take k) wr) := hIk
    clear hIk
    by_cases hlt : k < es.length
    · obtain ⟨e0, hx⟩ : ∃ x, es[k]? = some x := ⟨_, List.getElem?_eq_getElem hlt⟩
      have htk : es.take k ++ [e0] = es.take (k + 1) := by rw [List.take_add_one, hx]; rfl
      obtain ⟨ho, hsz⟩ := HI.out.on _ _ HIK.out
      obtain ⟨b, of, c', he, hSb, hc, hcm, h5⟩ := (Row.on HR.out ho).some (by rw [List.length_map]; omega)
      obtain ⟨rfl, -, rfl⟩ := Value.slice.inj he
      have hi := h5 k (entC e0) (by rw [List.getElem?_map, hx]; rfl)
      have c0 := hi 0 _ rfl
      have c1 := hi 1 _ rfl
      rw [Nat.add_zero] at c0
      rw [List.length_map] at hc
      unfold maxLen at hcm
      have hb := HBK.out.on ho hSk
      have k0 := hb.cell 0
      have kl := hb.lt
      simp at k0
      have HC : Hid (∀ ob, Calls Try.prog n (#[.int .i64 e0.obj] ++ caps) (wr.alloc ob) fun r w2 => r = .returned (.tuple #[]) ∧ I (es.take (k + 1)) w2) := fun ob => by
        have := HST.out (es.take k) e0 (wr.alloc ob) (HI.out.new _ _ ob HIK.out) (List.mem_of_getElem? hx)
        rw [htk] at this
        exact this
      clear he h5 ho hi htk hx hb
      go_wp2_with fail
      refine Calls.mono (HC.out _) ?_
      rintro e w2 ⟨rfl, hI2⟩
      have HI2 : Hid (I (es.take (k + 1)) w2) := hI2
      clear hI2 c0 c1 k0
      go_wp2
      go_roundw
      case rel => exact ⟨k + 1, by omega, by go_num, HI2.out⟩
      case measure => simp [intOf]; omega
    · obtain rfl : k = es.length := by omega
      have HF : Hid (I es wr) := by
        have := HIK.out
        rw [List.take_length] at this
        exact this
      clear HIK
      go_wp2
      exact HH.out _ _ _ _ _ _ _ _ _ _ HF.out
set_option maxRecDepth 1000000 in
set_option maxHeartbeats 8000000 in
theorem rque_wp (Q : Exit → Act → World → Prop) (n : Nat) (caps : Array Value) (qs : List Sp.Msg) (ts : List (Sl × Sp.Msg)) (a : Option Addr) (c : Nat) (S : Nat → Prop) (W : World) (hts : qs = ts.map Prod.snd) (hrow : Row W S 4 (.slice a ts.length c) (ts.map msgC)) (eg : Enters Try.prog n) (I : List Sp.Msg → World → Prop) (h0 : I [] W) (hH : Hands S W I)
    (hst : ∀ (xs : List Sp.Msg) (m : Sp.Msg) (w1 : World), I xs w1 → m ∈ qs → m.has = true → Calls Try.prog n (#[hcapV m.op m.rt] ++ caps) w1 fun r w2 => r = .returned (.tuple #[]) ∧ I (xs ++ [m]) w2)
    (hsk : ∀ (xs : List Sp.Msg) (m : Sp.Msg) (w1 : World), I xs w1 → m ∈ qs → m.has = false → I (xs ++ [m]) w1)
    (x0 x1 x2 x3 x4 x5 x7 x8 x9 x10 x11 x12 x13 x14 x15 x16 x17 x18 x19 x20 x21 x22 x23 x24 x25 x26 x27 x28 x29 x30 x31 x32 x33 x34 x35 x36 x37 x38 x39 x40 x41 x42 x43 x44 x45 x46 x47 x48 x49 x50 x51 x52 x53 x54 x55 x56 x57 x58 x59 x60 x61 x62 x63 x64 x65 x66 x67 x68 x69 x70 x71 x72 x73 x74 x75 x76 x77 x78 x79 x80 x81 x82 x83 x84 x88 x89 x90 x91 x92 x93 x94 x95 x96 x97 x98 x99 x100 : Value)
    (h : ∀ (y16 y88 y89 y90 y91 y92 y93 y94 y95 y96 y97 : Value) (W' : World), I qs W' → Q .normal ⟨#[x0, x1, x2, x3, x4, x5, .func (.func n) #[] caps, x7, x8, x9, x10, x11, x12, x13, x14, x15, y16, x17, x18, x19, x20, x21, x22, x23, x24, x25, x26, x27, x28, x29, x30, x31, x32, x33, x34, x35, x36, x37, x38, x39, x40, x41, x42, x43, x44, x45, x46, x47, x48, x49, x50, x51, x52, x53, x54, x55, x56, x57, x58, x59, x60, x61, x62, x63, x64, x65, x66, x67, x68, x69, x70, x71, x72, x73, x74, x75, x76, x77, x78, x79, x80, x81, x82, x83, x84, .slice a ts.length c, .int .i64 ts.length, .int .i64 ts.length, y88, y89, y90, y91, y92, y93, y94, y95, y96, y97, x98, x99, x100], []⟩ W') :
    Code.wp Try.prog ((Try.f10.body.bind (findBlock 10)).getD .skip) Q ⟨#[x0, x1, x2, x3, x4, x5, .func (.func n) #[] caps, x7, x8, x9, x10, x11, x12, x13, x14, x15, x16, x17, x18, x19, x20, x21, x22, x23, x24, x25, x26, x27, x28, x29, x30, x31, x32, x33, x34, x35, x36, x37, x38, x39, x40, x41, x42, x43, x44, x45, x46, x47, x48, x49, x50, x51, x52, x53, x54, x55, x56, x57, x58, x59, x60, x61, x62, x63, x64, x65, x66, x67, x68, x69, x70, x71, x72, x73, x74, x75, x76, x77, x78, x79, x80, x81, x82, x83, x84, .slice a ts.length c, .int .i64 ts.length, .int .i64 0, x88, x89, x90, x91, x92, x93, x94, x95, x96, x97, x98, x99, x100], []⟩ W := by
  have HH : Hid (∀ (y16 y88 y89 y90 y91 y92 y93 y94 y95 y96 y97 : Value) (W' : World), I qs W' → Q .normal ⟨#[x0, x1, x2, x3, x4, x5, .func (.func n) #[] caps, x7, x8, x9, x10, x11, x12, x13, x14, x15, y16, x17, x18, x19, x20, x21, x22, x23, x24, x25, x26, x27, x28, x29, x30, x31, x32, x33, x34, x35, x36, x37, x38, x39, x40, x41, x42, x43, x44, x45, x46, x47, x48, x49, x50, x51, x52, x53, x54, x55, x56, x57, x58, x59, x60, x61, x62, x63, x64, x65, x66, x67, x68, x69, x70, x71, x72, x73, x74, x75, x76, x77, x78, x79, x80, x81, x82, x83, x84, .slice a ts.length c, .int .i64 ts.length, .int .i64 ts.length, y88, y89, y90, y91, y92, y93, y94, y95, y96, y97, x98, x99, x100], []⟩ W') := h
  have hm : ts.length ≤ maxLen := by obtain ⟨_, _, _, h⟩ := Row.form hrow; rw [List.length_map] at h; exact h
  have HR : Hid (Row W S 4 (.slice a ts.length c) (ts.map msgC)) := hrow
  have HTS : Hid (qs = ts.map Prod.snd) := hts
  have HI : Hid (Hands S W I) := hH
  have HST : Hid (∀ (xs : List Sp.Msg) (m : Sp.Msg) (w1 : World), I xs w1 → m ∈ qs → m.has = true → Calls Try.prog n (#[hcapV m.op m.rt] ++ caps) w1 fun r w2 => r = .returned (.tuple #[]) ∧ I (xs ++ [m]) w2) := hst
  have HSK : Hid (∀ (xs : List Sp.Msg) (m : Sp.Msg) (w1 : World), I xs w1 → m ∈ qs → m.has = false → I (xs ++ [m]) w1) := hsk
  have H0 : Hid (I [] W) := h0
  unfold maxLen at hm
  unfold Enters at eg
  clear hrow hH hst h0 h hsk hts
  conv => arg 2; whnf
  go_wp2_with fail
  go_loopw [87] (fun i wr => ∃ k : Nat, k ≤ ts.length ∧ i = .int .i64 k ∧ I (qs.take k) wr) (fun i _ => ts.length - (intOf i).toNat)
  case atStart => exact ⟨0, Nat.zero_le _, rfl, H0.out⟩
  case round =>
    obtain ⟨k, hk, rfl, hIk⟩ := hrel
    have HIK : Hid (I (qs.take k) wr) := hIk
    clear hIk
    by_cases hlt : k < ts.length
    · obtain ⟨⟨sl, m⟩, hx⟩ : ∃ x, ts[k]? = some x := ⟨_, List.getElem?_eq_getElem hlt⟩
      have hq : qs[k]? = some m := by rw [HTS.out, List.getElem?_map, hx]; rfl
      have htk : qs.take k ++ [m] = qs.take (k + 1) := by rw [List.take_add_one, hq]; rfl
      obtain ⟨ho, hsz⟩ := HI.out.on _ _ HIK.out
      obtain ⟨b, of, c', he, hSb, hc, hcm, h5⟩ := (Row.on HR.out ho).some (by rw [List.length_map]; omega)
      obtain ⟨rfl, -, rfl⟩ := Value.slice.inj he
      have hi := h5 k (msgC (sl, m)) (by rw [List.getElem?_map, hx]; rfl)
      have c0 := hi 0 _ rfl
      have c1 := hi 1 _ rfl
      have c2 := hi 2 _ rfl
      have c3 := hi 3 _ rfl
      rw [Nat.add_zero] at c0
      rw [List.length_map] at hc
      unfold maxLen at hcm
      cases hhas : m.has with
      | true =>
        have HC : Hid (∀ ob, Calls Try.prog n (#[.agg #[.int .i64 m.op, .int .i64 m.rt]] ++ caps) (wr.alloc ob) fun e w2 => e = .returned (.tuple #[]) ∧ I (qs.take (k + 1)) w2) := fun ob => by
          have := HST.out (qs.take k) m (wr.alloc ob) (HI.out.new _ _ ob HIK.out) (List.mem_of_getElem? hq) hhas
          rw [htk] at this
          exact this
        have c1' : wr.cell? ⟨b, of + k * 4 + 1, none⟩ = some (.bool true) := by rw [← hhas]; exact c1
        clear he h5 ho hi hq htk c1 hhas hx
        go_wp2_with fail
        refine Calls.mono (HC.out _) ?_
        rintro e w2 ⟨rfl, hI2⟩
        have HI2 : Hid (I (qs.take (k + 1)) w2) := hI2
        clear hI2 c0 c1' c2 c3
        go_wp2
        go_roundw
        case rel => exact ⟨k + 1, by omega, by go_num, HI2.out⟩
        case measure => simp [intOf]; omega
      | false =>
        have HC : Hid (∀ ob, I (qs.take (k + 1)) (wr.alloc ob)) := fun ob => by
          have := HSK.out (qs.take k) m (wr.alloc ob) (HI.out.new _ _ ob HIK.out) (List.mem_of_getElem? hq) hhas
          rw [htk] at this
          exact this
        have c1' : wr.cell? ⟨b, of + k * 4 + 1, none⟩ = some (.bool false) := by rw [← hhas]; exact c1
        clear he h5 ho hi hq htk c1 hhas hx
        go_wp2
        go_roundw
        case rel => exact ⟨k + 1, by omega, by go_num, HC.out _⟩
        case measure => simp [intOf]; omega
    · obtain rfl : k = ts.length := by omega
      have HF : Hid (I qs wr) := by
        have := HIK.out
        rw [List.take_of_length_le (by rw [HTS.out, List.length_map]; exact Nat.le_refl _)] at this
        exact this
      clear HIK
      go_wp2
      exact HH.out _ _ _ _ _ _ _ _ _ _ _ _ HF.out
end Go.Proofs.Ytdciohinlhbliaa


/-
  rgref5.Reach: a round's objects.
-/
namespace Go.Proofs.Ytdciohinlhbliaa
open Go.RowKit
open Wp
/-- What marks, what leads on, as function values. -/
def markV (k0 bh bm : Nat) : Value := .func (.func 34) #[] #[.pointer (some ⟨k0, 0, none⟩), .pointer (some ⟨bh, 0, none⟩), .pointer (some ⟨bm, 0, none⟩)]
/-- From one world on, but the map and the variable 'more'. -/
def Bar (gh bm : Nat) (W w : World) : Prop := On (fun b => b < W.heap.size ∧ b ≠ gh ∧ b ≠ bm) W w ∧ W.heap.size ≤ w.heap.size
theorem Bar.refl (gh bm : Nat) (W : World) : Bar gh bm W W := ⟨fun _ _ => rfl, Nat.le_refl _⟩
theorem Bar.alloc {gh bm : Nat} {W w : World} (h : Bar gh bm W w) (o : Obj) : Bar gh bm W (w.alloc o) := ⟨h.1.trans ((On.alloc w o).less fun b hb => by have := h.2; omega), by have := h.2; simp; omega⟩
theorem Bar.trans {gh bm : Nat} {W w w' : World} (h : Bar gh bm W w) (h' : Bar gh bm w w') : Bar gh bm W w' := ⟨h.1.trans (h'.1.less fun b hb => ⟨by have := h.2; omega, hb.2⟩), Nat.le_trans h.2 h'.2⟩
set_option maxRecDepth 1000000 in
set_option maxHeartbeats 16000000 in
theorem robs_wp (Q : Exit → Act → World → Prop) (n2 : Nat) (hn2 : n2 = 35) (K : Kn) (oa : Option Addr) (oc : Nat) (vp vq : Value) (R : Nat → Prop) (W1 W : World) (k0 bh bm bk gh : Nat) (st0 : List Bool × Bool) (hds : DS W1 W k0 bh bm gh #[.slice oa K.L.length oc, vp, vq] K.L.length st0) (hv : Objs W1 R (.slice oa K.L.length oc) K.L) (hp : Row W1 R 2 vp (K.O.map opnC)) (hR : ∀ b, R b → b < W1.heap.size ∧ b ≠ gh ∧ b ≠ bm) (hbk : Blk W1 bk #[markV k0 bh bm] 84) (hkk : bk ≠ gh ∧ bk ≠ bm) (hL : K.L.length ≤ 1000)
    (x0 x1 x2 x4 x7 x8 x9 x10 x11 x12 x13 x14 x15 x16 x17 x18 x19 x20 x21 x22 x23 x24 x25 x26 x27 x28 x29 x30 x31 x32 x33 x34 x35 x36 x37 x38 x39 x40 x41 x42 x43 x44 x45 x46 x47 x48 x49 x50 x51 x52 x53 x54 x55 x56 x57 x58 x59 x60 x64 x65 x66 x67 x68 x69 x70 x71 x72 x73 x74 x75 x76 x77 x78 x79 x80 x81 x82 x83 x84 x85 x86 x87 x88 x89 x90 x91 x92 x93 x94 x95 x96 x97 x98 x99 x100 : Value)
    (h : ∀ (y11 y12 y14 y16 y64 y65 y66 y67 y68 y69 y70 y71 y72 y73 y74 y75 y76 y77 y78 y79 y80 y81 y82 y83 y84 y85 y86 y87 y88 y89 y90 y91 y92 y93 y94 y95 y96 y97 y98 : Value) (W' : World), DS W1 W' k0 bh bm gh #[.slice oa K.L.length oc, vp, vq] K.L.length (docTo K st0 K.L.length) → Q .normal ⟨#[x0, x1, x2, .pointer (some ⟨bh, 0, none⟩), x4, .pointer (some ⟨bk, 0, none⟩), .func (.func n2) #[] #[.pointer (some ⟨k0, 0, none⟩), .pointer (some ⟨bk, 0, none⟩)], x7, x8, x9, x10, y11, y12, x13, y14, x15, y16, x17, x18, x19, x20, x21, x22, x23, x24, x25, x26, x27, x28, x29, x30, x31, x32, x33, x34, x35, x36, x37, x38, x39, x40, x41, x42, x43, x44, x45, x46, x47, x48, x49, x50, x51, x52, x53, x54, x55, x56, x57, x58, x59, x60, .slice oa K.L.length oc, .int .i64 K.L.length, .int .i64 K.L.length, y64, y65, y66, y67, y68, y69, y70, y71, y72, y73, y74, y75, y76, y77, y78, y79, y80, y81, y82, y83, y84, y85, y86, y87, y88, y89, y90, y91, y92, y93, y94, y95, y96, y97, y98, x99, x100], []⟩ W') :
    Code.wp Try.prog ((Try.f10.body.bind (findBlock 6)).getD .skip) Q ⟨#[x0, x1, x2, .pointer (some ⟨bh, 0, none⟩), x4, .pointer (some ⟨bk, 0, none⟩), .func (.func n2) #[] #[.pointer (some ⟨k0, 0, none⟩), .pointer (some ⟨bk, 0, none⟩)], x7, x8, x9, x10, x11, x12, x13, x14, x15, x16, x17, x18, x19, x20, x21, x22, x23, x24, x25, x26, x27, x28, x29, x30, x31, x32, x33, x34, x35, x36, x37, x38, x39, x40, x41, x42, x43, x44, x45, x46, x47, x48, x49, x50, x51, x52, x53, x54, x55, x56, x57, x58, x59, x60, .slice oa K.L.length oc, .int .i64 K.L.length, .int .i64 0, x64, x65, x66, x67, x68, x69, x70, x71, x72, x73, x74, x75, x76, x77, x78, x79, x80, x81, x82, x83, x84, x85, x86, x87, x88, x89, x90, x91, x92, x93, x94, x95, x96, x97, x98, x99, x100], []⟩ W := by
  have HH : Hid (∀ (y11 y12 y14 y16 y64 y65 y66 y67 y68 y69 y70 y71 y72 y73 y74 y75 y76 y77 y78 y79 y80 y81 y82 y83 y84 y85 y86 y87 y88 y89 y90 y91 y92 y93 y94 y95 y96 y97 y98 : Value) (W' : World), DS W1 W' k0 bh bm gh #[.slice oa K.L.length oc, vp, vq] K.L.length (docTo K st0 K.L.length) → Q .normal ⟨#[x0, x1, x2, .pointer (some ⟨bh, 0, none⟩), x4, .pointer (some ⟨bk, 0, none⟩), .func (.func n2) #[] #[.pointer (some ⟨k0, 0, none⟩), .pointer (some ⟨bk, 0, none⟩)], x7, x8, x9, x10, y11, y12, x13, y14, x15, y16, x17, x18, x19, x20, x21, x22, x23, x24, x25, x26, x27, x28, x29, x30, x31, x32, x33, x34, x35, x36, x37, x38, x39, x40, x41, x42, x43, x44, x45, x46, x47, x48, x49, x50, x51, x52, x53, x54, x55, x56, x57, x58, x59, x60, .slice oa K.L.length oc, .int .i64 K.L.length, .int .i64 K.L.length, y64, y65, y66, y67, y68, y69, y70, y71, y72, y73, y74, y75, y76, y77, y78, y79, y80, y81, y82, y83, y84, y85, y86, y87, y88, y89, y90, y91, y92, y93, y94, y95, y96, y97, y98, x99, x100], []⟩ W') := h
  subst hn2
  have hm : K.L.length ≤ maxLen := by obtain ⟨_, _, h1, h2⟩ := hv.form; cases h1; exact h2
  have HD : Hid (DS W1 W k0 bh bm gh #[.slice oa K.L.length oc, vp, vq] K.L.length st0) := hds
  have HV : Hid (Objs W1 R (.slice oa K.L.length oc) K.L) := hv
  have HP : Hid (Row W1 R 2 vp (K.O.map opnC)) := hp
  have HR : Hid (∀ b, R b → b < W1.heap.size ∧ b ≠ gh ∧ b ≠ bm) := hR
  have HBK : Hid (Blk W1 bk #[markV k0 bh bm] 84) := hbk
  have HL : Hid (K.L.length ≤ 1000) := hL
  have hkl := hbk.lt
  have eg : Enters Try.prog 34 := by unfold Enters; intro args w; rfl
  have eg2 : Enters Try.prog 35 := by unfold Enters; intro args w; rfl
  have HEG : Hid (Enters Try.prog 34) := eg
  have HEG2 : Hid (Enters Try.prog 35) := eg2
  unfold maxLen at hm
  clear h hds hv hp hR hbk hL eg eg2
  conv => arg 2; whnf
  go_wp2_with fail
  go_loopw [63] (fun v wr => ∃ i : Nat, i ≤ K.L.length ∧ v = .int .i64 i ∧ DS W1 wr k0 bh bm gh #[.slice oa K.L.length oc, vp, vq] K.L.length (docTo K st0 i)) (fun v _ => K.L.length - (intOf v).toNat)
  case atStart => exact ⟨0, Nat.zero_le _, rfl, HD.out⟩
  case round =>
    obtain ⟨i, hi, rfl, hI⟩ := hrel
    have HI : Hid (DS W1 wr k0 bh bm gh #[.slice oa K.L.length oc, vp, vq] K.L.length (docTo K st0 i)) := hI
    clear hI
    by_cases hlt : i < K.L.length
    · have hx : K.L[i]? = some K.L[i] := List.getElem?_eq_getElem hlt
      have hRr : On R W1 wr := HI.out.on.less HR.out
      obtain ⟨b, o, c', s, he, hSb, h3, h4, hl, c0, c1, c2, c3, c4, c5, c6, c7, c8⟩ := (HV.out.on hRr).open hx
      obtain ⟨rfl, -, rfl⟩ := Value.slice.inj he
      have HX : Hid (K.L[i]? = some K.L[i]) := hx
      obtain ⟨⟨da, dn, dc⟩, ⟨ea, en, ec⟩, ⟨qa, qn, qc⟩⟩ := s
      dsimp only at c0 c1 c2 c3 c4 c5 c6 c7 c8 hl
      have hNext : docTo K st0 (i + 1) = docOb K (docTo K st0 i) i := rfl
      unfold maxLen at h4
      generalize K.L[i] = x at *
      obtain ⟨-, hle, us, hus, hqr, -⟩ := hl
      dsimp only at hle hus hqr
      have hen : en = x.ents.length := by have := Row.eqNil hle; rw [List.length_map] at this; exact this
      have hqn : qn = us.length := by have := Row.eqNil hqr; rw [List.length_map] at this; exact this
      subst hen hqn
      have HLE : Hid (Row wr R 2 (.slice ea x.ents.length ec) (x.ents.map entC)) := hle
      have HQR : Hid (Row wr R 4 (.slice qa us.length qc) (us.map msgC)) := hqr
      have HUS : Hid (x.queue = us.map Prod.snd) := hus
      have HNX : Hid (docTo K st0 (i + 1) = docOb K (docTo K st0 i) i) := hNext
      have hda := HI.out.alloc (.cells #[.int .i64 x.kind, .slice da dn dc, .slice ea x.ents.length ec, .string x.target, .int .i64 x.peer, .slice qa us.length qc, .int .i64 x.proc, .int .i64 x.links, .int .i64 x.up] 40)
      have hlook := hda.map.look_nat i (by have := HL.out; omega)
      have h0 := HI.out.had.cell 0
      have hbl := HI.out.had.lt
      simp at h0
      have HDA : Hid _ := hda
      clear hx he hle hqr hus hNext hda hSb
      cases hg : (docTo K st0 i).1.getD i false with
      | false =>
        have HE : Hid (docTo K st0 (i + 1) = docTo K st0 i) := by unfold Hid; rw [HNX.out]; unfold docOb; rw [hg, if_neg (by decide)]
        rw [hg] at hlook
        clear hg
        go_wp2
        go_roundw
        case rel => exact ⟨i + 1, by omega, by go_num, by rw [HE.out]; exact HDA.out⟩
        case measure => simp [intOf]; omega
      | true =>
        have HE : Hid (docTo K st0 (i + 1) = docAll K.L (docAll K.L (docTo K st0 i) (entK x)) (queK K x)) := by unfold Hid; rw [HNX.out]; unfold docOb; rw [hg, if_pos rfl, HX.out]; exact docAll_app _ _ _ _
        rw [hg] at hlook
        clear hg
        go_upto_block 8 with fail
        have hbx := Blk.new wr #[.int .i64 x.kind, .slice da dn dc, .slice ea x.ents.length ec, .string x.target, .int .i64 x.peer, .slice qa us.length qc, .int .i64 x.proc, .int .i64 x.links, .int .i64 x.up] 40
        have hz6 : (wr.alloc (.cells #[.int .i64 x.kind, .slice da dn dc, .slice ea x.ents.length ec, .string x.target, .int .i64 x.peer, .slice qa us.length qc, .int .i64 x.proc, .int .i64 x.links, .int .i64 x.up] 40)).heap.size = wr.heap.size + 1 := by simp
        have ho6 := On.alloc wr (.cells #[.int .i64 x.kind, .slice da dn dc, .slice ea x.ents.length ec, .string x.target, .int .i64 x.peer, .slice qa us.length qc, .int .i64 x.proc, .int .i64 x.links, .int .i64 x.up] 40)
        generalize wr.alloc (.cells #[.int .i64 x.kind, .slice da dn dc, .slice ea x.ents.length ec, .string x.target, .int .i64 x.peer, .slice qa us.length qc, .int .i64 x.proc, .int .i64 x.links, .int .i64 x.up] 40) = w6 at *
        have HZ : Hid (w6.heap.size = wr.heap.size + 1 ∧ gh < wr.heap.size ∧ bm < wr.heap.size ∧ bk < wr.heap.size) := by
          have h1 := HI.out.size
          have h2 := HI.out.low
          exact ⟨hz6, by omega, by omega, by omega⟩
        have hR6 : ∀ w', DS W1 w' k0 bh bm gh #[.slice (some ⟨b, o, none⟩) K.L.length oc, vp, vq] K.L.length (docTo K st0 i) → True := fun _ _ => trivial
        have hbk6 : Blk w6 bk #[.func (.func 34) #[] #[.pointer (some ⟨k0, 0, none⟩), .pointer (some ⟨bh, 0, none⟩), .pointer (some ⟨bm, 0, none⟩)]] 84 := HBK.out.on HDA.out.on ⟨hkl, hkk⟩
        have hS6 : ∀ b, (R b ∨ b = bk) → b < w6.heap.size ∧ b ≠ gh ∧ b ≠ bm := fun b hb => by
          have hz := HDA.out.size
          rcases hb with hb | rfl
          · have := HR.out b hb; exact ⟨by omega, this.2⟩
          · exact ⟨by omega, hkk⟩
        have HSS : Hid (∀ b, (R b ∨ b = bk) → b < w6.heap.size ∧ b ≠ gh ∧ b ≠ bm) := hS6
        have H8 : Hid (Hands (fun b => R b ∨ b = bk) w6 fun (xs : List Sp.Ent) w' => DS W1 w' k0 bh bm gh #[.slice (some ⟨b, o, none⟩) K.L.length oc, vp, vq] K.L.length (docAll K.L (docTo K st0 i) (xs.map fun (e : Sp.Ent) => e.obj)) ∧ Blk w' wr.heap.size #[.int .i64 x.kind, .slice da dn dc, .slice ea x.ents.length ec, .string x.target, .int .i64 x.peer, .slice qa us.length qc, .int .i64 x.proc, .int .i64 x.links, .int .i64 x.up] 40 ∧ Bar gh bm w6 w') :=
          ⟨fun xs w' g => ⟨g.2.2.1.less hS6, g.2.2.2⟩, fun xs w' ob g => ⟨g.1.alloc ob, g.2.1.alloc ob, g.2.2.alloc ob⟩⟩
        refine rents_wp _ _ 34 #[.pointer (some ⟨k0, 0, none⟩), .pointer (some ⟨bh, 0, none⟩), .pointer (some ⟨bm, 0, none⟩)] x.ents ea ec bk (fun b => R b ∨ b = bk) w6 ((Row.on HLE.out (ho6.less fun b hb => by have := HR.out b hb; have := HI.out.size; omega)).more fun b hb => Or.inl hb) hbk6 (Or.inr rfl) HEG.out _ ⟨HDA.out, hbx, Bar.refl _ _ _⟩ H8.out (fun xs e w1 g _ => ?_) _ _ _ _ _ _ _ _ _ _ _ _ _ _ _ _ _ _ _ _ _ _ _ _ _ _ _ _ _ _ _ _ _ _ _ _ _ _ _ _ _ _ _ _ _ _ _ _ _ _ _ _ _ _ _ _ _ _ _ _ _ _ _ _ _ _ _ _ _ _ _ _ _ _ _ _ _ _ _ _ _ _ _ _ _ _ _ _ _ _ _ _ _ _ _ _ _ ?_
        · refine (docmark_any K.L e.obj (.slice (some ⟨b, o, none⟩) K.L.length oc) vp vq W1 w1 k0 bh bm gh _ R g.1 (HV.out.on (g.1.on.less HR.out)) HL.out).mono ?_
          rintro r w2 ⟨rfl, g1, g2, g3⟩
          have hzz := HZ.out
          refine ⟨rfl, ?_, g.2.1.on g2 ⟨g.2.1.lt, by omega, by omega⟩, g.2.2.trans ⟨g2, g3⟩⟩
          rw [List.map_append, List.map_singleton, docAll_one]
          exact g1
        intro y14 y76 y77 y78 y79 y80 y81 y82 y83 w7 hI7
        dsimp only
        have HD7 : Hid (DS W1 w7 k0 bh bm gh #[.slice (some ⟨b, o, none⟩) K.L.length oc, vp, vq] K.L.length (docAll K.L (docTo K st0 i) (entK x))) := hI7.1
        have b7 := hI7.2.1.cell
        have bl7 := hI7.2.1.lt
        have HR7 : Hid (Row w7 R 4 (.slice qa us.length qc) (us.map msgC)) := (Row.on HQR.out (ho6.less fun b hb => by have := HR.out b hb; have := HI.out.size; omega)).on (hI7.2.2.1.less fun b hb => HSS.out b (Or.inl hb))
        have hS7 : ∀ b, R b → b < w7.heap.size ∧ b ≠ gh ∧ b ≠ bm := fun b hb => by have h1 := HSS.out b (Or.inl hb); have h2 := hI7.2.2.2; exact ⟨by omega, h1.2⟩
        clear hI7 H8 hbx hbk6 hS6 hlook c0 c1 c2 c3 c4 c5 c6 c7 c8 h0 hR6
        go_upto_block 10 with fail
        have H10 : Hid (Hands R w7 fun (xs : List Sp.Msg) w' => DS W1 w' k0 bh bm gh #[.slice (some ⟨b, o, none⟩) K.L.length oc, vp, vq] K.L.length (docAll K.L (docAll K.L (docTo K st0 i) (entK x)) ((xs.filter fun (m : Sp.Msg) => m.has).map fun (m : Sp.Msg) => capObj K.O m.op)) ∧ Bar gh bm w7 w') :=
          ⟨fun xs w' g => ⟨g.2.1.less hS7, g.2.2⟩, fun xs w' ob g => ⟨g.1.alloc ob, g.2.alloc ob⟩⟩
        refine rque_wp _ 35 #[.pointer (some ⟨k0, 0, none⟩), .pointer (some ⟨bk, 0, none⟩)] x.queue us qa qc R w7 HUS.out HR7.out HEG2.out _ ⟨HD7.out, Bar.refl _ _ _⟩ H10.out (fun xs m w1 g _ hhas => ?_) (fun xs m w1 g _ hhas => ?_) _ _ _ _ _ _ _ _ _ _ _ _ _ _ _ _ _ _ _ _ _ _ _ _ _ _ _ _ _ _ _ _ _ _ _ _ _ _ _ _ _ _ _ _ _ _ _ _ _ _ _ _ _ _ _ _ _ _ _ _ _ _ _ _ _ _ _ _ _ _ _ _ _ _ _ _ _ _ _ _ _ _ _ _ _ _ _ _ _ _ _ _ _ _ _ _ _ ?_
        · have hbk1 : Blk w1 bk #[.func (.func 34) #[] #[.pointer (some ⟨k0, 0, none⟩), .pointer (some ⟨bh, 0, none⟩), .pointer (some ⟨bm, 0, none⟩)]] 84 := HBK.out.on g.1.on ⟨hkl, hkk⟩
          have hz1 := g.1.size
          refine (doccap_any K.L K.O m.op m.rt (.slice (some ⟨b, o, none⟩) K.L.length oc) vp vq W1 w1 k0 bh bm bk gh _ R g.1 (HV.out.on (g.1.on.less HR.out)) (Row.on HP.out (g.1.on.less HR.out)) (fun b hb => by have := HR.out b hb; omega) hbk1 HL.out).mono ?_
          rintro r w2 ⟨rfl, g1, g2, g3⟩
          refine ⟨rfl, ?_, g.2.trans ⟨g2, g3⟩⟩
          rw [List.filter_append, List.filter_cons_of_pos hhas, List.filter_nil, List.map_append, List.map_singleton, docAll_one]
          exact g1
        · rw [List.filter_append, List.filter_cons_of_neg (by rw [hhas]; decide), List.filter_nil, List.append_nil]
          exact g
        intro y16 y88 y89 y90 y91 y92 y93 y94 y95 y96 y97 w8 hI8
        dsimp only
        have HD8 : Hid (DS W1 w8 k0 bh bm gh #[.slice (some ⟨b, o, none⟩) K.L.length oc, vp, vq] K.L.length (docTo K st0 (i + 1))) := by unfold Hid; rw [HE.out]; exact hI8.1
        clear hI8 H10 hS7 b7 bl7
        go_wp2
        go_roundw
        case rel => exact ⟨i + 1, by omega, by go_num, HD8.out⟩
        case measure => simp [intOf]; omega
    · obtain rfl : i = K.L.length := by omega
      go_wp2
      exact HH.out _ _ _ _ _ _ _ _ _ _ _ _ _ _ _ _ _ _ _ _ _ _ _ _ _ _ _ _ _ _ _ _ _ _ _ _ _ _ _ _ HI.out
end Go.Proofs.Ytdciohinlhbliaa


/-
  rgref5.Reach, walked: all that one can come to, as a map of bools.
-/
namespace Go.Proofs.Ytdciohinlhbliaa
open Go.RowKit
open Wp
/-- Where Reach's rounds stand. -/
structure RL (K : Kn) (kv : Array Value) (W wr : World) (k0 bh bm gh bm' : Nat) (b : Bool) (ms : List Bool) (gk : Nat) : Prop where
  kern : Blk wr k0 kv 27
  had : Blk wr bh #[.map (some gh)] 29
  more : Blk wr bm' #[.bool b] 4
  map : MapB wr gh (cnt ms) ms
  bar : Bar gh bm W wr
  below : ∀ B, B ≤ gh → B ≤ bm → B ≤ W.heap.size → Below B W wr
  loc : bm' = bm ∨ W.heap.size ≤ bm'
  beg : b = true → DocBeg K ms ∧ K.L.length + 2 ≤ cnt ms + gk
  fin : b = false → ms = reachB K
set_option maxRecDepth 1000000 in
set_option maxHeartbeats 16000000 in
theorem rloop_wp (Q : Exit → Act → World → Prop) (C : Act → World → Prop) (K : Kn) (oa qa : Option Addr) (oc qc : Nat) (vp : Value) (R : Nat → Prop) (W : World) (k0 bh bm gh : Nat) (ps : List (Sl × Sp.Prc)) (hps : K.P = ps.map Prod.snd) (hkern : Blk W k0 #[.slice oa K.L.length oc, vp, .slice qa ps.length qc] 27) (hhad : Blk W bh #[.map (some gh)] 29) (hmore : Blk W bm #[.bool true] 4) (hmap : MapB W gh (cnt (doc0 K)) (doc0 K)) (hap : k0 ≠ gh ∧ k0 ≠ bm ∧ bh ≠ gh ∧ bh ≠ bm ∧ gh ≠ bm) (hv : Objs W R (.slice oa K.L.length oc) K.L) (hp : Row W R 2 vp (K.O.map opnC)) (hq : Row W R 4 (.slice qa ps.length qc) (ps.map prcC)) (hsl : ∀ t ∈ ps, Row W R 3 (.slice t.1.a t.1.n t.1.c) (t.2.slots.map sltC)) (hR : ∀ b, R b → b < W.heap.size ∧ b ≠ gh ∧ b ≠ bm) (hL : K.L.length ≤ 1000)
    (x0 x2 x5 x6 x7 x8 x9 x10 x11 x12 x13 x14 x15 x16 x17 x18 x19 x20 x21 x22 x23 x24 x25 x26 x27 x28 x29 x30 x31 x32 x33 x34 x35 x36 x37 x38 x39 x40 x41 x42 x43 x44 x45 x46 x47 x48 x49 x50 x51 x52 x53 x54 x55 x56 x57 x58 x59 x60 x61 x62 x63 x64 x65 x66 x67 x68 x69 x70 x71 x72 x73 x74 x75 x76 x77 x78 x79 x80 x81 x82 x83 x84 x85 x86 x87 x88 x89 x90 x91 x92 x93 x94 x95 x96 x97 x98 x99 x100 : Value)
    (h : ∀ (y4 y5 y6 y8 y10 y11 y12 y14 y16 y31 y32 y33 y34 y35 y36 y37 y38 y39 y40 y41 y42 y43 y44 y45 y46 y47 y48 y49 y50 y51 y52 y53 y54 y55 y56 y57 y58 y59 y60 y61 y62 y63 y64 y65 y66 y67 y68 y69 y70 y71 y72 y73 y74 y75 y76 y77 y78 y79 y80 y81 y82 y83 y84 y85 y86 y87 y88 y89 y90 y91 y92 y93 y94 y95 y96 y97 y98 y99 : Value) (W' : World), Blk W' bh #[.map (some gh)] 29 → MapB W' gh (cnt (reachB K)) (reachB K) → Bar gh bm W W' → (∀ B, B ≤ gh → B ≤ bm → B ≤ W.heap.size → Below B W W') → C ⟨#[x0, .pointer (some ⟨k0, 0, none⟩), x2, .pointer (some ⟨bh, 0, none⟩), y4, y5, y6, x7, y8, x9, y10, y11, y12, x13, y14, x15, y16, x17, x18, x19, x20, x21, x22, x23, x24, x25, x26, x27, x28, x29, x30, y31, y32, y33, y34, y35, y36, y37, y38, y39, y40, y41, y42, y43, y44, y45, y46, y47, y48, y49, y50, y51, y52, y53, y54, y55, y56, y57, y58, y59, y60, y61, y62, y63, y64, y65, y66, y67, y68, y69, y70, y71, y72, y73, y74, y75, y76, y77, y78, y79, y80, y81, y82, y83, y84, y85, y86, y87, y88, y89, y90, y91, y92, y93, y94, y95, y96, y97, y98, y99, x100], []⟩ W') :
    Code.wp Try.prog ((Try.f10.body.bind (findBlock 0)).getD .skip) (Exit.then C Q) ⟨#[x0, .pointer (some ⟨k0, 0, none⟩), x2, .pointer (some ⟨bh, 0, none⟩), .pointer (some ⟨bm, 0, none⟩), x5, x6, x7, x8, x9, x10, x11, x12, x13, x14, x15, x16, x17, x18, x19, x20, x21, x22, x23, x24, x25, x26, x27, x28, x29, x30, x31, x32, x33, x34, x35, x36, x37, x38, x39, x40, x41, x42, x43, x44, x45, x46, x47, x48, x49, x50, x51, x52, x53, x54, x55, x56, x57, x58, x59, x60, x61, x62, x63, x64, x65, x66, x67, x68, x69, x70, x71, x72, x73, x74, x75, x76, x77, x78, x79, x80, x81, x82, x83, x84, x85, x86, x87, x88, x89, x90, x91, x92, x93, x94, x95, x96, x97, x98, x99, x100], []⟩ W := by
  have HH : Hid (∀ (y4 y5 y6 y8 y10 y11 y12 y14 y16 y31 y32 y33 y34 y35 y36 y37 y38 y39 y40 y41 y42 y43 y44 y45 y46 y47 y48 y49 y50 y51 y52 y53 y54 y55 y56 y57 y58 y59 y60 y61 y62 y63 y64 y65 y66 y67 y68 y69 y70 y71 y72 y73 y74 y75 y76 y77 y78 y79 y80 y81 y82 y83 y84 y85 y86 y87 y88 y89 y90 y91 y92 y93 y94 y95 y96 y97 y98 y99 : Value) (W' : World), Blk W' bh #[.map (some gh)] 29 → MapB W' gh (cnt (reachB K)) (reachB K) → Bar gh bm W W' → (∀ B, B ≤ gh → B ≤ bm → B ≤ W.heap.size → Below B W W') → C ⟨#[x0, .pointer (some ⟨k0, 0, none⟩), x2, .pointer (some ⟨bh, 0, none⟩), y4, y5, y6, x7, y8, x9, y10, y11, y12, x13, y14, x15, y16, x17, x18, x19, x20, x21, x22, x23, x24, x25, x26, x27, x28, x29, x30, y31, y32, y33, y34, y35, y36, y37, y38, y39, y40, y41, y42, y43, y44, y45, y46, y47, y48, y49, y50, y51, y52, y53, y54, y55, y56, y57, y58, y59, y60, y61, y62, y63, y64, y65, y66, y67, y68, y69, y70, y71, y72, y73, y74, y75, y76, y77, y78, y79, y80, y81, y82, y83, y84, y85, y86, y87, y88, y89, y90, y91, y92, y93, y94, y95, y96, y97, y98, y99, x100], []⟩ W') := h
  have hm : K.L.length ≤ maxLen := by obtain ⟨_, _, h1, h2⟩ := hv.form; cases h1; exact h2
  have hm2 : ps.length ≤ maxLen := by obtain ⟨_, _, _, h2⟩ := Row.form hq; rw [List.length_map] at h2; exact h2
  have H0 : Hid (RL K #[.slice oa K.L.length oc, vp, .slice qa ps.length qc] W W k0 bh bm gh bm true (doc0 K) (K.L.length + 2)) := ⟨hkern, hhad, hmore, hmap, Bar.refl _ _ _, fun B _ _ _ => Below.refl B W, Or.inl rfl, fun _ => ⟨doc0_beg K, by omega⟩, fun e => by cases e⟩
  have HV : Hid (Objs W R (.slice oa K.L.length oc) K.L) := hv
  have HP : Hid (Row W R 2 vp (K.O.map opnC)) := hp
  have HQ : Hid (Row W R 4 (.slice qa ps.length qc) (ps.map prcC)) := hq
  have HSL : Hid (∀ t ∈ ps, Row W R 3 (.slice t.1.a t.1.n t.1.c) (t.2.slots.map sltC)) := hsl
  have HPS : Hid (K.P = ps.map Prod.snd) := hps
  have HR : Hid (∀ b, R b → b < W.heap.size ∧ b ≠ gh ∧ b ≠ bm) := hR
  have HL : Hid (K.L.length ≤ 1000) := hL
  have HAP : Hid (k0 ≠ gh ∧ k0 ≠ bm ∧ bh ≠ gh ∧ bh ≠ bm ∧ gh ≠ bm) := hap
  have HLW : Hid (k0 < W.heap.size ∧ bh < W.heap.size ∧ bm < W.heap.size ∧ gh < W.heap.size) := ⟨hkern.lt, hhad.lt, hmore.lt, hmap.lt⟩
  have hmk := fun (fn : Fn) (first cap : Array Value) (w : World) => (rfl : (Instr.makeFunc fn first cap).run Try.prog w = .ok (.func fn first cap) w)
  have eg2 : Enters Try.prog 35 := by unfold Enters; intro args w; rfl
  have HEG2 : Hid (Enters Try.prog 35) := eg2
  unfold maxLen at hm hm2
  clear h hkern hhad hmore hmap hv hp hq hsl hR hL hap eg2 hps
  conv => arg 2; whnf
  go_wp2_with fail
  go_loopg [4] (K.L.length + 2) (fun gk s4 wr => ∃ (bm' : Nat) (b : Bool) (ms : List Bool), s4 = .pointer (some ⟨bm', 0, none⟩) ∧ RL K #[.slice oa K.L.length oc, vp, .slice qa ps.length qc] W wr k0 bh bm gh bm' b ms gk)
  case atStart => exact ⟨bm, true, doc0 K, rfl, H0.out⟩
  case round =>
    obtain ⟨bm', b, ms, rfl, hI⟩ := hrel
    have HI : Hid (RL K #[.slice oa K.L.length oc, vp, .slice qa ps.length qc] W wr k0 bh bm gh bm' b ms gk) := hI
    have m0 := hI.more.cell 0
    have mf := hI.more.free 0
    have ml := hI.more.lt
    simp at m0
    clear hI
    cases b with
    | false =>
      go_wp2
      have e := HI.out.fin rfl
      have hmp := HI.out.map
      rw [e] at hmp
      exact HH.out _ _ _ _ _ _ _ _ _ _ _ _ _ _ _ _ _ _ _ _ _ _ _ _ _ _ _ _ _ _ _ _ _ _ _ _ _ _ _ _ _ _ _ _ _ _ _ _ _ _ _ _ _ _ _ _ _ _ _ _ _ _ _ _ _ _ _ _ _ _ _ _ _ _ _ _ _ _ _ HI.out.had hmp HI.out.bar HI.out.below
    | true =>
      have k0c := HI.out.kern.cell
      have k0l := HI.out.kern.lt
      have hap := HAP.out
      have hlw := HLW.out
      have hloc := HI.out.loc
      have hz := HI.out.bar.2
      have hne : ¬ bm' = k0 := by omega
      have hne' : ¬ k0 = bm' := by omega
      go_upto_block 2 with fail
      have os := On.set wr ⟨bm', 0, none⟩ (.bool false)
      have oa1 := On.alloc (wr.setCell ⟨bm', 0, none⟩ (.bool false)) (.cells #[markV k0 bh bm'] 84)
      have hzs : (wr.setCell ⟨bm', 0, none⟩ (.bool false)).heap.size = wr.heap.size := by simp
      have hz1 : ((wr.setCell ⟨bm', 0, none⟩ (.bool false)).alloc (.cells #[markV k0 bh bm'] 84)).heap.size = wr.heap.size + 1 := by simp
      have hbk : Blk ((wr.setCell ⟨bm', 0, none⟩ (.bool false)).alloc (.cells #[markV k0 bh bm'] 84)) wr.heap.size #[markV k0 bh bm'] 84 := by have := Blk.new (wr.setCell ⟨bm', 0, none⟩ (.bool false)) #[markV k0 bh bm'] 84; rw [hzs] at this; exact this
      have hmo : Blk ((wr.setCell ⟨bm', 0, none⟩ (.bool false)).alloc (.cells #[markV k0 bh bm'] 84)) bm' #[.bool false] 4 := (HI.out.more.set 0 (.bool false)).alloc _
      have o1 : On (fun b => b < wr.heap.size ∧ b ≠ bm') wr ((wr.setCell ⟨bm', 0, none⟩ (.bool false)).alloc (.cells #[markV k0 bh bm'] 84)) := (os.less fun b hb => hb.2).trans (oa1.less fun b hb => by rw [hzs]; exact hb.1)
      have hb1 : ∀ B, B ≤ gh → B ≤ bm' → B ≤ wr.heap.size → Below B wr ((wr.setCell ⟨bm', 0, none⟩ (.bool false)).alloc (.cells #[markV k0 bh bm'] 84)) := fun B _ h2 h3 => ((Below.refl B wr).setCell (p := ⟨bm', 0, none⟩) h2 _).alloc (by rw [hzs]; exact h3) _
      change Code.wp Try.prog _ _ ⟨_, _⟩ ((wr.setCell ⟨bm', 0, none⟩ (.bool false)).alloc (.cells #[markV k0 bh bm'] 84))
      generalize (wr.setCell ⟨bm', 0, none⟩ (.bool false)).alloc (.cells #[markV k0 bh bm'] 84) = w1 at *
      have hmn : bm' ≠ gh := by omega
      have hbmn : bm' ≠ bh := by omega
      obtain ⟨hbeg, hgk⟩ := HI.out.beg rfl
      have hds : DS w1 w1 k0 bh bm' gh #[.slice oa K.L.length oc, vp, .slice qa ps.length qc] K.L.length (ms, false) := ⟨HI.out.kern.on o1 ⟨k0l, hne'⟩, HI.out.had.on o1 ⟨HI.out.had.lt, fun e => hbmn e.symm⟩, hmo, HI.out.map.by o1 ⟨HI.out.map.lt, fun e => hmn e.symm⟩, hbeg.len, fun _ _ => rfl, Nat.le_refl _, fun B _ _ => Below.refl B w1, ⟨by omega, by omega, by omega, by omega⟩, ⟨hap.1, hne', hap.2.2.1, fun e => hbmn e.symm, fun e => hmn e.symm⟩⟩
      have hoR : On R W w1 := (HI.out.bar.1.less HR.out).trans (o1.less fun b hb => by have := HR.out b hb; exact ⟨by omega, by omega⟩)
      have hR1 : ∀ b, R b → b < w1.heap.size ∧ b ≠ gh ∧ b ≠ bm' := fun b hb => by have := HR.out b hb; exact ⟨by omega, this.2.1, by omega⟩
      have HDS : Hid _ := hds
      have HBK : Hid (Blk w1 wr.heap.size #[markV k0 bh bm'] 84) := hbk
      have HV1 : Hid (Objs w1 R (.slice oa K.L.length oc) K.L) := HV.out.on hoR
      have HP1 : Hid (Row w1 R 2 vp (K.O.map opnC)) := HP.out.on hoR
      have HR1 : Hid (∀ b, R b → b < w1.heap.size ∧ b ≠ gh ∧ b ≠ bm') := hR1
      have HO1 : Hid (On (fun b => b < wr.heap.size ∧ b ≠ bm') wr w1) := o1
      have HBEG : Hid (DocBeg K ms ∧ K.L.length + 2 ≤ cnt ms + gk) := ⟨hbeg, hgk⟩
      have HB1 : Hid (∀ B, B ≤ gh → B ≤ bm' → B ≤ wr.heap.size → Below B wr w1) := hb1
      have HZ1 : Hid (w1.heap.size = wr.heap.size + 1) := hz1
      have H2 : Hid (Hands R w1 fun (xs : List Sp.Slt) w' => DS w1 w' k0 bh bm' gh #[.slice oa K.L.length oc, vp, .slice qa ps.length qc] K.L.length (docAll K.L (ms, false) (xs.map fun (x : Sp.Slt) => capObj K.O x.op))) :=
        ⟨fun xs w' g => ⟨g.on.less hR1, g.size⟩, fun xs w' ob g => g.alloc ob⟩
      refine rheld_wp _ _ 35 #[.pointer (some ⟨k0, 0, none⟩), .pointer (some ⟨wr.heap.size, 0, none⟩)] K.P ps qa qc R w1 HPS.out (HQ.out.on hoR) (fun t ht => Row.on (HSL.out t ht) hoR) HEG2.out _ HDS.out H2.out (fun xs x p w2 g _ _ _ _ _ => ?_) _ _ _ _ _ _ _ _ _ _ _ _ _ _ _ _ _ _ _ _ _ _ _ _ _ _ _ _ _ _ _ _ _ _ _ _ _ _ _ _ _ _ _ _ _ _ _ _ _ _ _ _ _ _ _ _ _ _ _ _ _ _ _ _ _ _ _ _ _ _ _ _ _ _ _ _ _ _ _ _ _ _ _ _ _ _ _ _ _ _ _ _ _ _ _ _ _ ?_
      · have hz2 := g.size
        refine (doccap_any K.L K.O x.op x.rt (.slice oa K.L.length oc) vp (.slice qa ps.length qc) w1 w2 k0 bh bm' wr.heap.size gh _ R g (HV1.out.on (g.on.less HR1.out)) (Row.on HP1.out (g.on.less HR1.out)) (fun b hb => by have := HR1.out b hb; omega) (HBK.out.on g.on ⟨by omega, by omega, by omega⟩) HL.out).mono ?_
        rintro r w3 ⟨rfl, g1, g2, g3⟩
        refine ⟨rfl, ?_, g2.less fun b hb => ⟨hb.2, by omega, by omega⟩, g3⟩
        rw [List.map_append, List.map_singleton, docAll_one]
        exact g1
      intro y8 y10 y38 y39 y40 y41 y42 y43 y44 y45 y46 y47 y48 y49 y50 y51 y52 y53 y54 y55 y56 y57 y58 y59 w7 hI7
      dsimp only
      have HI7 : Hid (DS w1 w7 k0 bh bm' gh #[.slice oa K.L.length oc, vp, .slice qa ps.length qc] K.L.length (docAll K.L (ms, false) (heldK K))) := hI7
      have k7 := hI7.kern.cell
      have kl7 := hI7.kern.lt
      clear hI7 H2 hds hbk hmo hb1 os oa1 o1 hoR hR1 hbeg hgk k0c m0 mf
      go_upto_block 6 with fail
      refine robs_wp _ _ rfl K oa oc vp (.slice qa ps.length qc) R w1 w7 k0 bh bm' wr.heap.size gh _ HI7.out HV1.out HP1.out HR1.out HBK.out ⟨by omega, by omega⟩ HL.out _ _ _ _ _ _ _ _ _ _ _ _ _ _ _ _ _ _ _ _ _ _ _ _ _ _ _ _ _ _ _ _ _ _ _ _ _ _ _ _ _ _ _ _ _ _ _ _ _ _ _ _ _ _ _ _ _ _ _ _ _ _ _ _ _ _ _ _ _ _ _ _ _ _ _ _ _ _ _ _ _ _ _ _ _ _ _ _ _ _ _ _ _ _ _ ?_
      intro z11 z12 z14 z16 z64 z65 z66 z67 z68 z69 z70 z71 z72 z73 z74 z75 z76 z77 z78 z79 z80 z81 z82 z83 z84 z85 z86 z87 z88 z89 z90 z91 z92 z93 z94 z95 z96 z97 z98 w8 hD8
      dsimp only
      have hrnd : docTo K (docAll K.L (ms, false) (heldK K)) K.L.length = docRnd K ms := rfl
      rw [hrnd] at hD8
      have HNO : Hid ((docRnd K ms).2 = false → (docRnd K ms).1 = reachB K) := fun e => doc_end HBEG.out.1 e
      have HYES : Hid ((docRnd K ms).2 = true → DocBeg K (docRnd K ms).1 ∧ cnt ms < cnt (docRnd K ms).1) := fun e => doc_more HBEG.out.1 e
      clear hrnd
      generalize docRnd K ms = st8 at *
      obtain ⟨ms8, b8⟩ := st8
      dsimp only at HNO HYES
      have HD8 : Hid (DS w1 w8 k0 bh bm' gh #[.slice oa K.L.length oc, vp, .slice qa ps.length qc] K.L.length (ms8, b8)) := hD8
      have m8 := hD8.more.cell 0
      have ml8 := hD8.more.lt
      simp at m8
      clear hD8 k7
      go_wp2
      go_roundg (gk - 1)
      case measure => have := HBEG.out.2; have := cnt_len ms; have := HBEG.out.1.len; omega
      case rel =>
        refine ⟨w8.heap.size, b8, ms8, rfl, ?_⟩
        have hd := HD8.out
        have hz8 := hd.size
        have hzz := HZ1.out
        have oF : On (fun b => b < wr.heap.size ∧ b ≠ gh ∧ b ≠ bm') wr (w8.alloc (.cells #[.bool b8] 4)) := ((HO1.out.less fun b hb => ⟨hb.1, hb.2.2⟩).trans (hd.on.less fun b hb => ⟨by omega, hb.2⟩)).trans ((On.alloc w8 _).less fun b hb => by omega)
        refine ⟨hd.kern.alloc _, hd.had.alloc _, Blk.new w8 _ _, hd.map.by (On.alloc w8 _) hd.map.lt, ⟨HI.out.bar.1.trans (oF.less fun b hb => ⟨by omega, hb.2.1, by omega⟩), by simp; omega⟩, fun B q1 q2 q3 => (((HI.out.below B q1 q2 q3).trans (HB1.out B q1 (by omega) (by omega))).trans (hd.below B q1 (by omega))).alloc (by omega) _, Or.inr (by omega), fun e => ?_, fun e => HNO.out e⟩
        have h1 := HYES.out e
        have h2 := HBEG.out.2
        exact ⟨h1.1, by omega⟩
end Go.Proofs.Ytdciohinlhbliaa


/-
  Sweep's round, step by step: what stands in the world before it and behind it.
-/
namespace Go.Proofs.Ytdciohinlhbliaa
open Go.RowKit
open Wp
theorem Mine.rowOwn {w : World} {base k : Nat} {e : TypeId} {v : Value} {css : List (List Value)} (h : Mine w base e k v css) (hk : Even k css) : Row w (fun b => v.ownBlock = some b) k v css := by
  have hc := fun g hg => World.ownsRow.cells h (g := g) hg
  rcases h.2 with ⟨rfl, h0⟩ | ⟨g, cap, cur, rfl, _, _, h1, h2, _, _⟩
  · rw [List.length_eq_zero_iff.1 h0]; exact Row.nil _ _ _ _ _
  · refine Or.inr ⟨g, 0, cap, rfl, rfl, h1, h2, fun i cs hi j u hj => ?_⟩
    have := hc g rfl _ u (flatten_at hk i cs hi j u hj)
    rw [Addr.add_lit] at this
    rw [Nat.add_assoc]
    exact this
theorem Mine.blockAt {w : World} {base k n c b : Nat} {e : TypeId} {pa : Option Addr} {css : List (List Value)} (h : Mine w base e k (.slice pa n c) css) (hb : (Value.slice pa n c).ownBlock = some b) : pa = some ⟨b, 0, none⟩ := by
  rcases h.2 with ⟨h1, _⟩ | ⟨g, cap, cur, hv, -⟩
  · obtain ⟨rfl, -, -⟩ := Value.slice.inj h1
    simp [Value.ownBlock] at hb
  · obtain ⟨rfl, -, -⟩ := Value.slice.inj hv
    simp [Value.ownBlock] at hb
    rw [hb]
/-- What is swept stands in the world: three rows of one's own; what hangs on them lies in blocks of S. -/
structure SwI (S : Nat → Prop) (base g1 c1 : Nat) (pa : Option Addr) (c2 g3 c3 : Nat) (w : World) (x : Swp) : Prop where
  ob : Mine w base 40 9 (.slice (some ⟨g1, 0, none⟩) x.ts.length c1) (x.ts.map objC)
  op : Mine w base 54 2 (.slice pa x.O.length c2) (x.O.map opnC)
  pr : Mine w base 43 4 (.slice (some ⟨g3, 0, none⟩) x.ps.length c3) (x.ps.map prcC)
  lists : ∀ t ∈ x.ts, Lists w S t
  slots : ∀ t ∈ x.ps, Row w S 3 (.slice t.1.a t.1.n t.1.c) (t.2.slots.map sltC)
  low : ∀ b, S b → b < w.heap.size ∧ b ≠ g1 ∧ pa ≠ some ⟨b, 0, none⟩ ∧ b ≠ g3
  apart : pa ≠ some ⟨g1, 0, none⟩ ∧ pa ≠ some ⟨g3, 0, none⟩ ∧ g1 ≠ g3
  kinds : KindOk (x.ts.map Prod.snd)
  size : x.ts.length ≤ 1000 ∧ x.O.length ≤ 1000 ∧ 1 ≤ x.ps.length ∧ x.ps.length ≤ 1000
theorem SwI.objs {S : Nat → Prop} {base g1 c1 : Nat} {pa : Option Addr} {c2 g3 c3 : Nat} {w : World} {x : Swp} (h : SwI S base g1 c1 pa c2 g3 c3 w x) : Objs w (fun b => b < w.heap.size ∧ pa ≠ some ⟨b, 0, none⟩ ∧ b ≠ g3) (.slice (some ⟨g1, 0, none⟩) x.ts.length c1) (x.ts.map Prod.snd) :=
  ⟨x.ts, rfl, (h.ob.rowOwn (even_obj _)).more fun b hb => by cases hb; exact ⟨(h.ob.lt g1 rfl).2, h.apart.1, h.apart.2.2⟩, fun t ht => (h.lists t ht).more fun b hb => ⟨(h.low b hb).1, (h.low b hb).2.2⟩⟩
theorem SwI.prcs {S : Nat → Prop} {base g1 c1 : Nat} {pa : Option Addr} {c2 g3 c3 : Nat} {w : World} {x : Swp} (h : SwI S base g1 c1 pa c2 g3 c3 w x) : Procs w (fun b => b < w.heap.size ∧ pa ≠ some ⟨b, 0, none⟩ ∧ b ≠ g1) (.slice (some ⟨g3, 0, none⟩) x.ps.length c3) (x.ps.map Prod.snd) :=
  ⟨x.ps, rfl, (h.pr.rowOwn (even_prc _)).more fun b hb => by cases hb; exact ⟨(h.pr.lt g3 rfl).2, h.apart.2.1, fun e => h.apart.2.2 e.symm⟩, fun t ht => (h.slots t ht).more fun b hb => ⟨(h.low b hb).1, (h.low b hb).2.2.1, (h.low b hb).2.1⟩⟩
end Go.Proofs.Ytdciohinlhbliaa


/-
  sweep.Own, its first region: a copy of objects, of open files, of processes.
-/
namespace Go.Proofs.Ytdciohinlhbliaa
open Go.RowKit
open Wp
section
variable {P : Program}
theorem step_append_w {ops : Array Oper} {o : Oper} {a : Act} {w : World} {K : Act → World → Prop} {Q : Exit → Act → World → Prop} {E : Prop} (hgd : o.guard = none) (s x : Operand) (t : TypeId)
    (ho : o.op = .call { callee := .builtin .append, args := #[s, x], argTypes := #[t, t] }) (base : Nat) (e : TypeId) (i : TypeInfo) (z : Value) (k bytes : Nat) (ht : P.underlying t = some (.slice e)) (hi : P.info? e = some i) (hz : i.zero = some z)
    (hsize : i.size = k) (hby : i.bytes = bytes) (hzs : z.cells.size = k) (hk : 0 < k) (v : Value) (css : List (List Value)) (hs : a.eval s = v) (hown : Mine w base e k v css)
    (xv : Value) (S : Nat → Prop) (dss : List (List Value)) (hxv : a.eval x = xv) (hx : Row w S k xv dss) (hE : Even k dss) (h1 : Ones dss) (hbytes : (css.length + dss.length) * bytes ≤ 140737488355328) (hb1 : 1 ≤ bytes) (hbase : base ≤ w.heap.size)
    (h : ∀ r : Sl, ∀ w', Mine w' base e k (.slice r.a r.n r.c) (css ++ dss) → w.grownBy w' v.ownBlock → K (a.put o.dst (.slice r.a r.n r.c)) w') :
    if Region.wanted o (yielded ops a.tmps) = true then Oper.wp P o a w K Q else E := by
  have hw : Region.wanted o (yielded ops a.tmps) = true := by simp [Region.wanted, hgd]
  rw [if_pos hw]
  obtain ⟨v', w', hr, h2, h3⟩ := run_append_row (P := P) w base t o.type e i z k bytes ht hi hz hsize hby hzs hk v css hown xv S dss hx hE h1 hbytes hb1 hbase
  obtain ⟨r, rfl⟩ := h2.sl
  unfold Oper.wp execOp
  simp only [ho, resolve, invoke, builtin, Sem.run_bind, Sem.run_pure, Result.andThen_ok, List.map_toArray, List.map_cons, List.map_nil, hs, hxv, hr]
  exact h r w' h2 h3
end
/-- What was there is there; more may be. -/
def Gw (W W1 : World) : Prop := On (fun b => b < W.heap.size) W W1 ∧ W.heap.size ≤ W1.heap.size ∧ ∀ B, B ≤ W.heap.size → Below B W W1
theorem Gw.refl (W : World) : Gw W W := ⟨fun _ _ => rfl, Nat.le_refl _, fun B _ => Below.refl B W⟩
theorem Gw.drew (W : World) : Gw W W.drew := ⟨fun _ _ => rfl, Nat.le_refl _, fun B _ => (Below.refl B W).drew⟩
theorem Gw.trans {W W1 W2 : World} (h : Gw W W1) (h' : Gw W1 W2) : Gw W W2 := ⟨h.1.trans (h'.1.less fun _ hb => Nat.lt_of_lt_of_le hb h.2.1), Nat.le_trans h.2.1 h'.2.1, fun B hB => (h.2.2 B hB).trans (h'.2.2 B (Nat.le_trans hB h.2.1))⟩
theorem Gw.new (W : World) (o : Obj) : Gw W (W.alloc o) := ⟨On.alloc W o, by simp, fun B hB => (Below.refl B W).alloc hB _⟩
theorem Gw.below {W W1 : World} (h : Below W.heap.size W W1) : Gw W W1 := ⟨On.of h, h.size, fun _ hB => h.mono hB⟩
theorem Gw.grown {W W1 : World} {own : Option Nat} (hg : W.grownBy W1 own) (hk : ∀ k, own = some k → W.heap.size ≤ k) : Gw W W1 := by
  have hz : W.heap.size ≤ W1.heap.size := (Below.grown (Below.refl 0 W) hg (Nat.zero_le _) (fun _ _ => Nat.zero_le _)).size
  exact ⟨fun b hb => hg.block b hb (fun e => by have := hk b e.symm; omega), hz, fun B hB => (Below.refl B W).grown hg hB (fun k hk' => by have := hk k hk'; omega)⟩
/-- A part of what has been made: its blocks, and what holds of them. -/
structure Part where
  lo : Nat
  hi : Nat
  F : World → Prop
structure Parts (W W1 : World) (l : List Part) : Prop where
  gr : Gw W W1
  bd : ∀ p ∈ l, W.heap.size ≤ p.lo ∧ p.lo ≤ p.hi ∧ p.hi ≤ W1.heap.size
  st : ∀ p ∈ l, ∀ w', On (fun b => p.lo ≤ b ∧ b < p.hi) W1 w' → p.F w'
  pair : l.Pairwise fun p q => q.hi ≤ p.lo
theorem Parts.nil {W W1 : World} (h : Gw W W1) : Parts W W1 [] := ⟨h, fun _ h => (List.not_mem_nil h).elim, fun _ h => (List.not_mem_nil h).elim, List.Pairwise.nil⟩
theorem Parts.cons {W W1 W2 : World} {l : List Part} (h : Parts W W1 l) (hg : Gw W1 W2) (p : Part) (hlo : p.lo = W1.heap.size) (hhi : p.hi = W2.heap.size) (hF : ∀ w', On (fun b => p.lo ≤ b ∧ b < p.hi) W2 w' → p.F w') : Parts W W2 (p :: l) := by
  have hz := hg.2.1
  have hz0 := h.gr.2.1
  refine ⟨h.gr.trans hg, fun q hq => ?_, fun q hq w' ho => ?_, List.Pairwise.cons (fun q hq => by rw [hlo]; exact (h.bd q hq).2.2) h.pair⟩
  · rcases List.mem_cons.1 hq with rfl | hq
    · exact ⟨by omega, by omega, by omega⟩
    · have := h.bd q hq; exact ⟨this.1, this.2.1, by omega⟩
  · rcases List.mem_cons.1 hq with rfl | hq
    · exact hF w' ho
    · exact h.st q hq w' ((hg.1.less fun b hb => by have := (h.bd q hq).2.2; omega).trans ho)
theorem Parts.four {W W1 : World} {p q r s : Part} (h : Parts W W1 [p, q, r, s]) : q.hi ≤ p.lo ∧ r.hi ≤ p.lo ∧ s.hi ≤ p.lo ∧ r.hi ≤ q.lo ∧ s.hi ≤ q.lo ∧ s.hi ≤ r.lo := by
  have hp := h.pair
  simp only [List.pairwise_cons, List.mem_cons, List.not_mem_nil, or_false, forall_eq_or_imp, forall_eq] at hp
  exact ⟨hp.1.1, hp.1.2.1, hp.1.2.2, hp.2.1.1, hp.2.1.2, hp.2.2.1⟩
theorem Parts.three {W W1 : World} {p q r : Part} (h : Parts W W1 [p, q, r]) : q.hi ≤ p.lo ∧ r.hi ≤ p.lo ∧ r.hi ≤ q.lo := by
  have hp := h.pair
  simp only [List.pairwise_cons, List.mem_cons, List.not_mem_nil, or_false, forall_eq_or_imp, forall_eq] at hp
  exact ⟨hp.1.1, hp.1.2, hp.2.1⟩
/-- The box of what is answered. -/
def boxP (g : Nat) : Part := ⟨g, g + 1, fun w => Blk w g #[.slice none 0 0, .slice none 0 0, .slice none 0 0] 27⟩
/-- Objects of one's own, with their lists behind them. -/
def objP (L : List Sp.Ob) (lo hi : Nat) : Part := ⟨lo, hi, fun w => lo < hi ∧ ∃ ts : List (Sls × Sp.Ob), L = ts.map Prod.snd ∧ Mine w lo 40 9 (.slice (some ⟨lo, 0, none⟩) L.length L.length) (ts.map objC) ∧ ∀ t ∈ ts, Lists w (fun b => lo < b ∧ b < hi) t⟩
/-- A row of one's own. -/
def rowP (e k : Nat) (r : Sl) (css : List (List Value)) (lo hi : Nat) : Part := ⟨lo, hi, fun w => Mine w lo e k (.slice r.a r.n r.c) css ∧ ∀ g, (Value.slice r.a r.n r.c).ownBlock = some g → g < hi⟩
theorem Parts.alloc {W W1 : World} {l : List Part} (h : Parts W W1 l) : Parts W (W1.alloc (.cells #[.slice none 0 0, .slice none 0 0, .slice none 0 0] 27)) (boxP W1.heap.size :: l) :=
  h.cons (Gw.new W1 _) _ rfl (by simp [boxP]) fun w' ho => (Blk.new W1 _ _).on ho ⟨Nat.le_refl _, by simp [boxP]⟩
theorem Parts.box {W W1 : World} {l : List Part} (h : Parts W W1 l) {g : Nat} (hm : boxP g ∈ l) : (W1.cell? ⟨g, 0, none⟩ = some (.slice none 0 0) ∧ W1.cell? ⟨g, 1, none⟩ = some (.slice none 0 0) ∧ W1.cell? ⟨g, 2, none⟩ = some (.slice none 0 0)) ∧ (∀ j, W1.frozen? ⟨g, j, none⟩ = false) ∧ g < W1.heap.size := by
  have hb : Blk W1 g #[.slice none 0 0, .slice none 0 0, .slice none 0 0] 27 := h.st _ hm W1 (fun _ _ => rfl)
  exact ⟨⟨hb.cell 0, hb.cell 1, hb.cell 2⟩, hb.free, hb.lt⟩
theorem Parts.box2 {W W1 : World} {l : List Part} (h : Parts W W1 l) {g : Nat} (hm : boxP g ∈ l) : Blk W1 g #[.slice none 0 0, .slice none 0 0, .slice none 0 0] 27 := h.st _ hm W1 (fun _ _ => rfl)
theorem own_part {L : List Sp.Ob} {W1 W2 : World} {ts : List (Sls × Sp.Ob)} {m : Nat → Nat} (hL : L = ts.map Prod.snd) (hM : Mine W2 W1.heap.size 40 9 (.slice (some ⟨W1.heap.size, 0, none⟩) L.length L.length) (ts.map objC)) (hA : OwnAll W2 (W1.heap.size + 1) ts m) (w' : World) (ho : On (fun b => W1.heap.size ≤ b ∧ b < W2.heap.size) W2 w') : (objP L W1.heap.size W2.heap.size).F w' := by
  have hlt := (hM.lt _ rfl).2
  refine ⟨hlt, ts, hL, hM.on ho fun g hg => by cases hg; exact ⟨Nat.le_refl _, hlt⟩, fun t ht => ?_⟩
  obtain ⟨i, hi, rfl⟩ := List.getElem_of_mem ht
  have h1 := hA.2.2.2 i _ (List.getElem?_eq_getElem hi)
  have h2 := hA.le (i := i + 1) (j := ts.length) (by omega)
  have h3 := hA.2.2.1
  have h0 := hA.lo i
  exact ((h1.lists).on (ho.less fun b hb => ⟨by omega, by omega⟩)).more fun b hb => ⟨by omega, by omega⟩
/-- What Own's first region leaves. -/
structure OwSt (W W1 : World) (L : List Sp.Ob) (O : List Sp.Opn) (ts : List (Sl × Sp.Prc)) (gd g1 h1 : Nat) (rb rc : Sl) : Prop where
  on : On (fun b => b < W.heap.size) W W1
  size : W.heap.size ≤ W1.heap.size
  below : ∀ B, B ≤ W.heap.size → Below B W W1
  box : Blk W1 gd #[.slice (some ⟨g1, 0, none⟩) L.length L.length, .slice rb.a rb.n rb.c, .slice rc.a rc.n rc.c] 27
  obj : ∃ us : List (Sls × Sp.Ob), L = us.map Prod.snd ∧ Mine W1 g1 40 9 (.slice (some ⟨g1, 0, none⟩) L.length L.length) (us.map objC) ∧ ∀ t ∈ us, Lists W1 (fun b => g1 < b ∧ b < h1) t
  opn : Mine W1 W.heap.size 54 2 (.slice rb.a rb.n rb.c) (O.map opnC)
  prc : Mine W1 W.heap.size 43 4 (.slice rc.a rc.n rc.c) (ts.map prcC)
  low : W.heap.size ≤ g1 ∧ g1 < h1 ∧ h1 ≤ W1.heap.size ∧ W.heap.size ≤ gd ∧ gd < W1.heap.size ∧ (gd < g1 ∨ h1 ≤ gd)
  apB : ∀ b, (Value.slice rb.a rb.n rb.c).ownBlock = some b → b < W1.heap.size ∧ (b < g1 ∨ h1 ≤ b) ∧ b ≠ gd
  apC : ∀ b, (Value.slice rc.a rc.n rc.c).ownBlock = some b → b < W1.heap.size ∧ (b < g1 ∨ h1 ≤ b) ∧ b ≠ gd ∧ some b ≠ (Value.slice rb.a rb.n rb.c).ownBlock
theorem owst_gen {W W1 W2 : World} {L : List Sp.Ob} {O : List Sp.Opn} {ts : List (Sl × Sp.Prc)} {gd g1 h1 lb hb lc hc : Nat} {rb rc : Sl} {l : List Part} (h : Parts W W1 l) (mA : objP L g1 h1 ∈ l) (mB : rowP 54 2 rb (O.map opnC) lb hb ∈ l) (mC : rowP 43 4 rc (ts.map prcC) lc hc ∈ l)
    (hgd : W.heap.size ≤ gd) (hbx : Blk W2 gd #[.slice (some ⟨g1, 0, none⟩) L.length L.length, .slice rb.a rb.n rb.c, .slice rc.a rc.n rc.c] 27) (hon : On (fun b => b < W1.heap.size ∧ b ≠ gd) W1 W2) (hz : W1.heap.size ≤ W2.heap.size) (hB : ∀ B, B ≤ W.heap.size → Below B W1 W2)
    (dDA : gd + 1 ≤ g1 ∨ h1 ≤ gd) (dDB : gd + 1 ≤ lb ∨ hb ≤ gd) (dDC : gd + 1 ≤ lc ∨ hc ≤ gd) (dAB : h1 ≤ lb ∨ hb ≤ g1) (dAC : h1 ≤ lc ∨ hc ≤ g1) (dBC : hb ≤ lc ∨ hc ≤ lb) : OwSt W W2 L O ts gd g1 h1 rb rc := by
  have bA := h.bd _ mA
  have bB := h.bd _ mB
  have bC := h.bd _ mC
  have hgl := hbx.lt
  dsimp only [objP, rowP] at bA bB bC
  obtain ⟨fA0, us, fA1, fA2, fA3⟩ := h.st _ mA W2 (hon.less fun b hb => by dsimp only [objP] at hb; omega)
  obtain ⟨fB1, fB2⟩ := h.st _ mB W2 (hon.less fun b hb => by dsimp only [rowP] at hb; omega)
  obtain ⟨fC1, fC2⟩ := h.st _ mC W2 (hon.less fun b hb => by dsimp only [rowP] at hb; omega)
  refine ⟨h.gr.1.trans (hon.less fun b hb => by have := h.gr.2.1; omega), by have := h.gr.2.1; omega, fun B hB' => (h.gr.2.2 B hB').trans (hB B hB'), hbx, ⟨us, fA1, fA2, fA3⟩, fB1.base fun g hg => by have := (fB1.lt g hg).1; omega, fC1.base fun g hg => by have := (fC1.lt g hg).1; omega, ⟨by omega, fA0, by omega, by omega, by omega, by omega⟩, fun b hb => ?_, fun b hb => ?_⟩
  · have h1 := (fB1.lt b hb).1
    have h2 := fB2 b hb
    omega
  · have h1 := (fC1.lt b hb).1
    have h2 := fC2 b hb
    refine ⟨by omega, by omega, by omega, fun e => ?_⟩
    have h3 := (fB1.lt b e.symm).1
    have h4 := fB2 b e.symm
    omega
/-- The box was made ahead of the others. -/
theorem owst_of {W W1 : World} {L : List Sp.Ob} {O : List Sp.Opn} {ts : List (Sl × Sp.Prc)} {gd g1 h1 lb hb lc hc : Nat} {rb rc : Sl} {l : List Part} (h : Parts W W1 l) (mD : boxP gd ∈ l) (mA : objP L g1 h1 ∈ l) (mB : rowP 54 2 rb (O.map opnC) lb hb ∈ l) (mC : rowP 43 4 rc (ts.map prcC) lc hc ∈ l)
    (dDA : gd + 1 ≤ g1 ∨ h1 ≤ gd) (dDB : gd + 1 ≤ lb ∨ hb ≤ gd) (dDC : gd + 1 ≤ lc ∨ hc ≤ gd) (dAB : h1 ≤ lb ∨ hb ≤ g1) (dAC : h1 ≤ lc ∨ hc ≤ g1) (dBC : hb ≤ lc ∨ hc ≤ lb) (W2 : World) (hW2 : W2 = ((W1.setCell ⟨gd, 0, none⟩ (.slice (some ⟨g1, 0, none⟩) L.length L.length)).setCell ⟨gd, 1, none⟩ (.slice rb.a rb.n rb.c)).setCell ⟨gd, 2, none⟩ (.slice rc.a rc.n rc.c)) : OwSt W W2 L O ts gd g1 h1 rb rc := by
  have bD := h.bd _ mD
  dsimp only [boxP] at bD
  have fD : Blk W1 gd #[.slice none 0 0, .slice none 0 0, .slice none 0 0] 27 := h.st _ mD W1 (fun _ _ => rfl)
  subst hW2
  refine owst_gen h mA mB mC bD.1 (((fD.set 0 _).set 1 _).set 2 _) ((((On.set W1 ⟨gd, 0, none⟩ _).trans (On.set _ ⟨gd, 1, none⟩ _)).trans (On.set _ ⟨gd, 2, none⟩ _)).less fun b hb => hb.2) (by simp) (fun B hB => (((Below.refl B W1).setCell (p := ⟨gd, 0, none⟩) (by show B ≤ gd; omega) _).setCell (p := ⟨gd, 1, none⟩) (by show B ≤ gd; omega) _).setCell (p := ⟨gd, 2, none⟩) (by show B ≤ gd; omega) _) dDA dDB dDC dAB dAC dBC
/-- The box is made last. -/
theorem owst_last {W W1 : World} {L : List Sp.Ob} {O : List Sp.Opn} {ts : List (Sl × Sp.Prc)} {g1 h1 lb hb lc hc : Nat} {rb rc : Sl} {l : List Part} (h : Parts W W1 l) (mA : objP L g1 h1 ∈ l) (mB : rowP 54 2 rb (O.map opnC) lb hb ∈ l) (mC : rowP 43 4 rc (ts.map prcC) lc hc ∈ l)
    (dAB : h1 ≤ lb ∨ hb ≤ g1) (dAC : h1 ≤ lc ∨ hc ≤ g1) (dBC : hb ≤ lc ∨ hc ≤ lb) : OwSt W (W1.alloc (.cells #[.slice (some ⟨g1, 0, none⟩) L.length L.length, .slice rb.a rb.n rb.c, .slice rc.a rc.n rc.c] 27)) L O ts W1.heap.size g1 h1 rb rc := by
  have bA := h.bd _ mA
  have bB := h.bd _ mB
  have bC := h.bd _ mC
  dsimp only [objP, rowP] at bA bB bC
  have hg := h.gr.2.1
  exact owst_gen h mA mB mC hg (Blk.new W1 _ _) ((On.alloc W1 _).less fun b hb => hb.1) (by simp) (fun B hB => (Below.refl B W1).alloc (by omega) _) (by omega) (by omega) (by omega) dAB dAC dBC
end Go.Proofs.Ytdciohinlhbliaa


/-
  rgref5.Reach, walked, whole.
-/
namespace Go.Proofs.Ytdciohinlhbliaa
open Go.RowKit
open Wp
/-- What Reach leaves: a map, in a block of its own, that says true of just what one can come to. -/
def ReachW (K : Kn) (w : World) (e : Ending) (w' : World) : Prop :=
  ∃ gh : Nat, e = .returned (.map (some gh)) ∧ w.heap.size ≤ gh ∧ MapB w' gh (cnt (reachB K)) (reachB K) ∧ Below w.heap.size w w'
set_option maxRecDepth 1000000 in
set_option maxHeartbeats 16000000 in
theorem rreach_any (K : Kn) (vo vp vq : Value) (R : Nat → Prop) (w : World) (hv : Objs w R vo K.L) (hp : Row w R 2 vp (K.O.map opnC)) (hq : Procs w R vq K.P) (hR : ∀ b, R b → b < w.heap.size) (hL : K.L.length ≤ 1000) :
    Calls Try.prog 10 #[.agg #[vo, vp, vq]] w (ReachW K w) := by
  obtain ⟨oa, oc, rfl, hom⟩ := hv.form
  obtain ⟨ps, hps, hrow, hsl⟩ := hq
  obtain ⟨qa, qc, rfl, hqm⟩ := Row.form hrow
  rw [List.length_map] at hrow hqm ⊢
  have hmm := @run_makeMap Try.prog
  have HFIN : Hid (∀ (W3 : World) (ms : List Bool), MapB W3 (w.heap.size + 1) (cnt ms) ms → True) := fun _ _ _ => trivial
  have HSTART : Hid (∀ (Q : Exit → Act → World → Prop) (C : Act → World → Prop) (W : World) (bm : Nat), bm = W.heap.size → MapB W (w.heap.size + 1) (cnt (doc0 K)) (doc0 K) → Blk W w.heap.size #[.slice oa K.L.length oc, vp, .slice qa ps.length qc] 27 → Blk W (w.heap.size + 1 + 1) #[.map (some (w.heap.size + 1))] 29 → On (fun b => b < w.heap.size) w W → w.heap.size + 3 ≤ W.heap.size → Below w.heap.size w W →
      ∀ (x0 x2 x5 x6 x7 x8 x9 x10 x11 x12 x13 x14 x15 x16 x17 x18 x19 x20 x21 x22 x23 x24 x25 x26 x27 x28 x29 x30 x31 x32 x33 x34 x35 x36 x37 x38 x39 x40 x41 x42 x43 x44 x45 x46 x47 x48 x49 x50 x51 x52 x53 x54 x55 x56 x57 x58 x59 x60 x61 x62 x63 x64 x65 x66 x67 x68 x69 x70 x71 x72 x73 x74 x75 x76 x77 x78 x79 x80 x81 x82 x83 x84 x85 x86 x87 x88 x89 x90 x91 x92 x93 x94 x95 x96 x97 x98 x99 x100 : Value),
      (∀ (y4 y5 y6 y8 y10 y11 y12 y14 y16 y31 y32 y33 y34 y35 y36 y37 y38 y39 y40 y41 y42 y43 y44 y45 y46 y47 y48 y49 y50 y51 y52 y53 y54 y55 y56 y57 y58 y59 y60 y61 y62 y63 y64 y65 y66 y67 y68 y69 y70 y71 y72 y73 y74 y75 y76 y77 y78 y79 y80 y81 y82 y83 y84 y85 y86 y87 y88 y89 y90 y91 y92 y93 y94 y95 y96 y97 y98 y99 : Value) (W' : World), Blk W' (w.heap.size + 1 + 1) #[.map (some (w.heap.size + 1))] 29 → MapB W' (w.heap.size + 1) (cnt (reachB K)) (reachB K) → Below w.heap.size w W' → C ⟨#[x0, .pointer (some ⟨w.heap.size, 0, none⟩), x2, .pointer (some ⟨w.heap.size + 1 + 1, 0, none⟩), y4, y5, y6, x7, y8, x9, y10, y11, y12, x13, y14, x15, y16, x17, x18, x19, x20, x21, x22, x23, x24, x25, x26, x27, x28, x29, x30, y31, y32, y33, y34, y35, y36, y37, y38, y39, y40, y41, y42, y43, y44, y45, y46, y47, y48, y49, y50, y51, y52, y53, y54, y55, y56, y57, y58, y59, y60, y61, y62, y63, y64, y65, y66, y67, y68, y69, y70, y71, y72, y73, y74, y75, y76, y77, y78, y79, y80, y81, y82, y83, y84, y85, y86, y87, y88, y89, y90, y91, y92, y93, y94, y95, y96, y97, y98, y99, x100], []⟩ W') →
      Code.wp Try.prog ((Try.f10.body.bind (findBlock 0)).getD .skip) (Exit.then C Q) ⟨#[x0, .pointer (some ⟨w.heap.size, 0, none⟩), x2, .pointer (some ⟨w.heap.size + 1 + 1, 0, none⟩), .pointer (some ⟨bm, 0, none⟩), x5, x6, x7, x8, x9, x10, x11, x12, x13, x14, x15, x16, x17, x18, x19, x20, x21, x22, x23, x24, x25, x26, x27, x28, x29, x30, x31, x32, x33, x34, x35, x36, x37, x38, x39, x40, x41, x42, x43, x44, x45, x46, x47, x48, x49, x50, x51, x52, x53, x54, x55, x56, x57, x58, x59, x60, x61, x62, x63, x64, x65, x66, x67, x68, x69, x70, x71, x72, x73, x74, x75, x76, x77, x78, x79, x80, x81, x82, x83, x84, x85, x86, x87, x88, x89, x90, x91, x92, x93, x94, x95, x96, x97, x98, x99, x100], []⟩ (W.alloc (.cells #[.bool true] 4))) := by
    intro Q C W bm hbz hM hk hh hon hz hb
    subst hbz
    intro _ _ _ _ _ _ _ _ _ _ _ _ _ _ _ _ _ _ _ _ _ _ _ _ _ _ _ _ _ _ _ _ _ _ _ _ _ _ _ _ _ _ _ _ _ _ _ _ _ _ _ _ _ _ _ _ _ _ _ _ _ _ _ _ _ _ _ _ _ _ _ _ _ _ _ _ _ _ _ _ _ _ _ _ _ _ _ _ _ _ _ _ _ _ _ _ _ _ hC
    have ho := On.alloc W (.cells #[.bool true] 4)
    have hz' : (W.alloc (.cells #[.bool true] 4)).heap.size = W.heap.size + 1 := by simp
    have hoR : On R w (W.alloc (.cells #[.bool true] 4)) := (hon.less hR).trans (ho.less fun b hb => by have := hR b hb; omega)
    have hbm : Blk (W.alloc (.cells #[.bool true] 4)) W.heap.size #[.bool true] 4 := Blk.new W _ _
    refine rloop_wp Q C K oa qa oc qc vp R (W.alloc (.cells #[.bool true] 4)) w.heap.size (w.heap.size + 1 + 1) W.heap.size (w.heap.size + 1) ps hps (hk.alloc _) (hh.alloc _) hbm (hM.by ho hM.lt) ⟨by omega, by omega, by omega, by omega, by omega⟩ (hv.on hoR) (hp.on hoR) (Row.on hrow hoR) (fun t ht => Row.on (hsl t ht) hoR) (fun b hb => by have := hR b hb; exact ⟨by omega, by omega, by omega⟩) hL _ _ _ _ _ _ _ _ _ _ _ _ _ _ _ _ _ _ _ _ _ _ _ _ _ _ _ _ _ _ _ _ _ _ _ _ _ _ _ _ _ _ _ _ _ _ _ _ _ _ _ _ _ _ _ _ _ _ _ _ _ _ _ _ _ _ _ _ _ _ _ _ _ _ _ _ _ _ _ _ _ _ _ _ _ _ _ _ _ _ _ _ _ _ _ _ _ _ ?_
    intro y4 y5 y6 y8 y10 y11 y12 y14 y16 y31 y32 y33 y34 y35 y36 y37 y38 y39 y40 y41 y42 y43 y44 y45 y46 y47 y48 y49 y50 y51 y52 y53 y54 y55 y56 y57 y58 y59 y60 y61 y62 y63 y64 y65 y66 y67 y68 y69 y70 y71 y72 y73 y74 y75 y76 y77 y78 y79 y80 y81 y82 y83 y84 y85 y86 y87 y88 y89 y90 y91 y92 y93 y94 y95 y96 y97 y98 y99 W' h1 h2 h3 h4
    refine hC _ _ _ _ _ _ _ _ _ _ _ _ _ _ _ _ _ _ _ _ _ _ _ _ _ _ _ _ _ _ _ _ _ _ _ _ _ _ _ _ _ _ _ _ _ _ _ _ _ _ _ _ _ _ _ _ _ _ _ _ _ _ _ _ _ _ _ _ _ _ _ _ _ _ _ _ _ _ W' h1 h2 ((hb.alloc (by omega) _).trans (h4 _ (by omega) (by omega) (by omega)))
  have HV : Hid (Objs w R (.slice oa K.L.length oc) K.L) := hv
  unfold maxLen at hom hqm
  have HST : Hid _ := HSTART
  have HR : Hid (∀ b, R b → b < w.heap.size) := hR
  clear hv hp hrow hsl hR HSTART HFIN
  have hz1 : (w.alloc (.cells #[.slice oa K.L.length oc, vp, .slice qa ps.length qc] 27)).heap.size = w.heap.size + 1 := by simp
  have hz2 : ((w.alloc (.cells #[.slice oa K.L.length oc, vp, .slice qa ps.length qc] 27)).alloc (.map #[] 0)).heap.size = w.heap.size + 1 + 1 := by simp
  have HM3 : Hid (MapB (((w.alloc (.cells #[.slice oa K.L.length oc, vp, .slice qa ps.length qc] 27)).alloc (.map #[] 0)).alloc (.cells #[.map (some (w.heap.size + 1))] 29)) (w.heap.size + 1) 0 (List.replicate K.L.length false)) := by
    have h1 := MapB.made (w.alloc (.cells #[.slice oa K.L.length oc, vp, .slice qa ps.length qc] 27)) K.L.length
    rw [hz1] at h1
    exact h1.by (On.alloc _ _) h1.lt
  have HK3 : Hid (Blk (((w.alloc (.cells #[.slice oa K.L.length oc, vp, .slice qa ps.length qc] 27)).alloc (.map #[] 0)).alloc (.cells #[.map (some (w.heap.size + 1))] 29)) w.heap.size #[.slice oa K.L.length oc, vp, .slice qa ps.length qc] 27) := ((Blk.new w _ _).alloc _).alloc _
  have HH3 : Hid (Blk (((w.alloc (.cells #[.slice oa K.L.length oc, vp, .slice qa ps.length qc] 27)).alloc (.map #[] 0)).alloc (.cells #[.map (some (w.heap.size + 1))] 29)) (w.heap.size + 1 + 1) #[.map (some (w.heap.size + 1))] 29) := by
    have h1 := Blk.new ((w.alloc (.cells #[.slice oa K.L.length oc, vp, .slice qa ps.length qc] 27)).alloc (.map #[] 0)) #[.map (some (w.heap.size + 1))] 29
    rw [hz2] at h1
    exact h1
  have HO3 : Hid (On (fun b => b < w.heap.size) w (((w.alloc (.cells #[.slice oa K.L.length oc, vp, .slice qa ps.length qc] 27)).alloc (.map #[] 0)).alloc (.cells #[.map (some (w.heap.size + 1))] 29)) ∧ (((w.alloc (.cells #[.slice oa K.L.length oc, vp, .slice qa ps.length qc] 27)).alloc (.map #[] 0)).alloc (.cells #[.map (some (w.heap.size + 1))] 29)).heap.size = w.heap.size + 3 ∧ Below w.heap.size w (((w.alloc (.cells #[.slice oa K.L.length oc, vp, .slice qa ps.length qc] 27)).alloc (.map #[] 0)).alloc (.cells #[.map (some (w.heap.size + 1))] 29))) := by
    have hg := ((Gw.new w (.cells #[.slice oa K.L.length oc, vp, .slice qa ps.length qc] 27)).trans (Gw.new _ (.map #[] 0))).trans (Gw.new _ (.cells #[.map (some (w.heap.size + 1))] 29))
    exact ⟨hg.1, by simp, hg.2.2 _ (Nat.le_refl _)⟩
  have HC0 : Hid (cnt (List.replicate K.L.length false) = 0) := by unfold Hid cnt; simp
  clear hz1 hz2
  by_cases hL0 : K.L.length = 0
  · have HE : Hid (doc0 K = List.replicate K.L.length false) := by
      unfold Hid doc0
      rw [if_neg]
      intro h
      obtain ⟨n, -, h2⟩ := isObj_nat h
      omega
    have hz : ¬ (0 : Int) < (K.L.length : Int) := by omega
    clear hL0
    go_enter Try.func10, Try.ntmps10
    go_upto_block 0 with fail
    refine HST.out _ _ (((w.alloc (.cells #[.slice oa K.L.length oc, vp, .slice qa ps.length qc] 27)).alloc (.map #[] 0)).alloc (.cells #[.map (some (w.heap.size + 1))] 29)) _ (by simp) (by rw [HE.out, HC0.out]; exact HM3.out) HK3.out HH3.out HO3.out.1 (Nat.le_of_eq HO3.out.2.1.symm) HO3.out.2.2 _ _ _ _ _ _ _ _ _ _ _ _ _ _ _ _ _ _ _ _ _ _ _ _ _ _ _ _ _ _ _ _ _ _ _ _ _ _ _ _ _ _ _ _ _ _ _ _ _ _ _ _ _ _ _ _ _ _ _ _ _ _ _ _ _ _ _ _ _ _ _ _ _ _ _ _ _ _ _ _ _ _ _ _ _ _ _ _ _ _ _ _ _ _ _ _ _ _ ?_
    intro y4 y5 y6 y8 y10 y11 y12 y14 y16 y31 y32 y33 y34 y35 y36 y37 y38 y39 y40 y41 y42 y43 y44 y45 y46 y47 y48 y49 y50 y51 y52 y53 y54 y55 y56 y57 y58 y59 y60 y61 y62 y63 y64 y65 y66 y67 y68 y69 y70 y71 y72 y73 y74 y75 y76 y77 y78 y79 y80 y81 y82 y83 y84 y85 y86 y87 y88 y89 y90 y91 y92 y93 y94 y95 y96 y97 y98 y99 W' h1 h2 h3
    dsimp only
    have c0 := h1.cell 0
    have cl := h1.lt
    have HF : Hid (MapB W' (w.heap.size + 1) (cnt (reachB K)) (reachB K) ∧ Below w.heap.size w W') := ⟨h2, h3⟩
    simp at c0
    clear h1 h2 h3
    go_wp2
    go_ret
    exact ⟨_, rfl, by omega, HF.out.1, HF.out.2⟩
  · obtain ⟨o, hx⟩ : ∃ o, K.L[0]? = some o := ⟨_, List.getElem?_eq_getElem (by omega)⟩
    obtain ⟨b, of, c', s, he, hSb, h3, h4, hl, c0, -, -, -, -, -, -, -, -⟩ := HV.out.open hx
    obtain ⟨rfl, -, rfl⟩ := Value.slice.inj he
    have hbl := HR.out b hSb
    have hpos : 0 < K.L.length := by omega
    have hz : (0 : Int) < (K.L.length : Int) := by omega
    simp only [Nat.zero_mul, Nat.add_zero] at c0
    unfold maxLen at h4
    have d0 := HO3.out.1.cell (b := b) (o := of) hbl
    rw [c0] at d0
    by_cases hk : o.kind = 0
    · have HE : Hid (doc0 K = List.replicate K.L.length false) := by
        unfold Hid doc0
        rw [if_neg]
        unfold isObj
        rw [if_pos (by decide), show (0 : Int).toNat = 0 from rfl, hx]
        simp [hk]
      rw [hk] at c0 d0
      clear hL0 hx he hl hk
      go_enter Try.func10, Try.ntmps10
      go_upto_block 0 with fail
      refine HST.out _ _ (((w.alloc (.cells #[.slice (some ⟨b, of, none⟩) K.L.length oc, vp, .slice qa ps.length qc] 27)).alloc (.map #[] 0)).alloc (.cells #[.map (some (w.heap.size + 1))] 29)) _ (by simp) (by rw [HE.out, HC0.out]; exact HM3.out) HK3.out HH3.out HO3.out.1 (Nat.le_of_eq HO3.out.2.1.symm) HO3.out.2.2 _ _ _ _ _ _ _ _ _ _ _ _ _ _ _ _ _ _ _ _ _ _ _ _ _ _ _ _ _ _ _ _ _ _ _ _ _ _ _ _ _ _ _ _ _ _ _ _ _ _ _ _ _ _ _ _ _ _ _ _ _ _ _ _ _ _ _ _ _ _ _ _ _ _ _ _ _ _ _ _ _ _ _ _ _ _ _ _ _ _ _ _ _ _ _ _ _ _ ?_
      intro y4 y5 y6 y8 y10 y11 y12 y14 y16 y31 y32 y33 y34 y35 y36 y37 y38 y39 y40 y41 y42 y43 y44 y45 y46 y47 y48 y49 y50 y51 y52 y53 y54 y55 y56 y57 y58 y59 y60 y61 y62 y63 y64 y65 y66 y67 y68 y69 y70 y71 y72 y73 y74 y75 y76 y77 y78 y79 y80 y81 y82 y83 y84 y85 y86 y87 y88 y89 y90 y91 y92 y93 y94 y95 y96 y97 y98 y99 W' h1 h2 h3
      dsimp only
      have c0 := h1.cell 0
      have cl := h1.lt
      have HF : Hid (MapB W' (w.heap.size + 1) (cnt (reachB K)) (reachB K) ∧ Below w.heap.size w W') := ⟨h2, h3⟩
      simp at c0
      clear h1 h2 h3
      go_wp2
      go_ret
      exact ⟨_, rfl, by omega, HF.out.1, HF.out.2⟩
    · have HE : Hid (doc0 K = (List.replicate K.L.length false).set 0 true) := by
        unfold Hid doc0
        rw [if_pos]
        unfold isObj
        rw [if_pos (by decide), show (0 : Int).toNat = 0 from rfl, hx]
        simp [hk]
      have hk' : (o.kind != 0) = true := by simp [hk]
      clear hL0 hx he hl hk
      obtain ⟨ks, hset, hks⟩ := HM3.out
      have HSET : Hid (SetIs (((w.alloc (.cells #[.slice (some ⟨b, of, none⟩) K.L.length oc, vp, .slice qa ps.length qc] 27)).alloc (.map #[] 0)).alloc (.cells #[.map (some (w.heap.size + 1))] 29)) (w.heap.size + 1) 0 ks) := hset
      have HKS : Hid (∀ c : Int, c ∈ ks ↔ 0 ≤ c ∧ (List.replicate K.L.length false).getD c.toNat false = true) := hks
      have HPOS : Hid (0 < K.L.length) := hpos
      clear hset hks
      go_enter Try.func10, Try.ntmps10
      go_wp2_with (at_mapUpdate; refine wpList_setPut rfl _ _ _ rfl (w.heap.size + 1) 0 ks rfl HSET.out (by decide) 0 (by decide) rfl rfl ?_)
      intro wu hu1 hu2
      have hM : MapB wu (w.heap.size + 1) (cnt (doc0 K)) (doc0 K) := by
        rw [HE.out, cnt_set (by simp; exact HPOS.out) (rep_false _ _), HC0.out]
        exact MapB.put HKS.out 0 (by simp; exact HPOS.out) hu1
      have ho : On (fun bb => bb < (((w.alloc (.cells #[.slice (some ⟨b, of, none⟩) K.L.length oc, vp, .slice qa ps.length qc] 27)).alloc (.map #[] 0)).alloc (.cells #[.map (some (w.heap.size + 1))] 29)).heap.size ∧ bb ≠ w.heap.size + 1) (((w.alloc (.cells #[.slice (some ⟨b, of, none⟩) K.L.length oc, vp, .slice qa ps.length qc] 27)).alloc (.map #[] 0)).alloc (.cells #[.map (some (w.heap.size + 1))] 29)) wu := fun b hb => hu2.block b hb.1 fun e => hb.2 (Option.some.inj e)
      have HX : Hid (MapB wu (w.heap.size + 1) (cnt (doc0 K)) (doc0 K) ∧ Blk wu w.heap.size #[.slice (some ⟨b, of, none⟩) K.L.length oc, vp, .slice qa ps.length qc] 27 ∧ Blk wu (w.heap.size + 1 + 1) #[.map (some (w.heap.size + 1))] 29 ∧ On (fun b => b < w.heap.size) w wu ∧ w.heap.size + 3 ≤ wu.heap.size ∧ Below w.heap.size w wu) := by
        have hz := HO3.out.2.1
        refine ⟨hM, HK3.out.on ho ⟨by omega, by omega⟩, HH3.out.on ho ⟨by omega, by omega⟩, HO3.out.1.trans (ho.less fun bb hb => ⟨by omega, by omega⟩), by have := hu2.size; omega, HO3.out.2.2.grown hu2 (by omega) (fun j hj => by cases hj; omega)⟩
      clear hu1 hu2 hM ho
      go_upto_block 0 with fail
      refine HST.out _ _ wu _ rfl HX.out.1 HX.out.2.1 HX.out.2.2.1 HX.out.2.2.2.1 HX.out.2.2.2.2.1 HX.out.2.2.2.2.2 _ _ _ _ _ _ _ _ _ _ _ _ _ _ _ _ _ _ _ _ _ _ _ _ _ _ _ _ _ _ _ _ _ _ _ _ _ _ _ _ _ _ _ _ _ _ _ _ _ _ _ _ _ _ _ _ _ _ _ _ _ _ _ _ _ _ _ _ _ _ _ _ _ _ _ _ _ _ _ _ _ _ _ _ _ _ _ _ _ _ _ _ _ _ _ _ _ _ ?_
      intro y4 y5 y6 y8 y10 y11 y12 y14 y16 y31 y32 y33 y34 y35 y36 y37 y38 y39 y40 y41 y42 y43 y44 y45 y46 y47 y48 y49 y50 y51 y52 y53 y54 y55 y56 y57 y58 y59 y60 y61 y62 y63 y64 y65 y66 y67 y68 y69 y70 y71 y72 y73 y74 y75 y76 y77 y78 y79 y80 y81 y82 y83 y84 y85 y86 y87 y88 y89 y90 y91 y92 y93 y94 y95 y96 y97 y98 y99 W' h1 h2 h3
      have c0 := h1.cell 0
      have cl := h1.lt
      have HF : Hid (MapB W' (w.heap.size + 1) (cnt (reachB K)) (reachB K) ∧ Below w.heap.size w W') := ⟨h2, h3⟩
      simp at c0
      clear h1 h2 h3
      go_wp2
      go_ret
      exact ⟨_, rfl, by omega, HF.out.1, HF.out.2⟩
end Go.Proofs.Ytdciohinlhbliaa
