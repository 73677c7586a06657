
/-
  What chapter 8 says of kernels, as plain functions: what one can come to.
-/
import Derived.Test.YtdciohinlhbliaaBPlain
import Derived.Test.YtdciohinlhbliaaSWalkF
import Derived.Test.YtdciohinlhbliaaSWalkJ
import Derived.Test.YtdciohinlhbliaaSNine
import Derived.Shelf.Abstract
import Derived.Test.YtdciohinlhbliaaJBA
import Derived.Test.YtdciohinlhbliaaBW3
import Derived.Deep.LoopGhost
import Derived.Laws.EntriesVeiled
namespace Go.Proofs.Ytdciohinlhbliaa
open Go.RowKit
namespace Wp
/-- A kernel. -/
structure Kn where
  L : List Sp.Ob
  O : List Sp.Opn
  P : List Sp.Prc
def isObj (L : List Sp.Ob) (k : Int) : Bool := if 0 ≤ k then (match L[k.toNat]? with | some o => o.kind != 0 | none => false) else false
/-- What an open file's number leads to. -/
def leads (K : Kn) (op : Int) (n : Nat) : Bool := if 0 ≤ op then (match K.O[op.toNat]? with | some x => x.obj == (n : Int) && isObj K.L n | none => false) else false
def rootB (K : Kn) (n : Nat) : Bool := (n == 0 && isObj K.L 0) || K.P.any fun p => p.live && p.slots.any fun s => s.has && leads K s.op n
def nextB (K : Kn) (o : Sp.Ob) (n : Nat) : Bool := (o.ents.any fun e => e.obj == (n : Int) && isObj K.L n) || o.queue.any fun m => m.has && leads K m.op n
/-- One step more. -/
def stepB (K : Kn) (ms : List Bool) : List Bool := (List.range K.L.length).map fun n => ms.getD n false || rootB K n || (List.range K.L.length).any fun i => ms.getD i false && (match K.L[i]? with | some o => nextB K o n | none => false)
def iterB (K : Kn) : Nat → List Bool
  | 0 => List.replicate K.L.length false
  | t + 1 => stepB K (iterB K t)
/-- What one can come to. -/
def reachB (K : Kn) : List Bool := iterB K (K.L.length + 1)
/-- Marks that hold all that their own lead to. -/
def Closed (K : Kn) (M : Nat → Prop) : Prop := (∀ n, n < K.L.length → rootB K n = true → M n) ∧ ∀ (i n : Nat) (o : Sp.Ob), M i → K.L[i]? = some o → n < K.L.length → nextB K o n = true → M n
def Come (K : Kn) (n : Nat) : Prop := n < K.L.length ∧ ∀ M : Nat → Prop, Closed K M → M n
theorem stepB_len (K : Kn) (ms : List Bool) : (stepB K ms).length = K.L.length := by unfold stepB; simp
theorem stepB_get (K : Kn) (ms : List Bool) {n : Nat} (h : n < K.L.length) : (stepB K ms).getD n false = (ms.getD n false || rootB K n || (List.range K.L.length).any fun i => ms.getD i false && (match K.L[i]? with | some o => nextB K o n | none => false)) := by
  unfold stepB
  rw [List.getD_eq_getElem?_getD, List.getElem?_map, List.getElem?_range h]
  rfl
theorem iterB_len (K : Kn) (t : Nat) : (iterB K t).length = K.L.length := by
  cases t with
  | zero => simp [iterB]
  | succ t => exact stepB_len K _
theorem iterB_come (K : Kn) : ∀ (t n : Nat), n < K.L.length → (iterB K t).getD n false = true → Come K n
  | 0, n, hn, h => by
    unfold iterB at h
    rw [List.getD_eq_getElem?_getD, List.getElem?_replicate, if_pos hn] at h
    cases h
  | t + 1, n, hn, h => by
    rw [show iterB K (t + 1) = stepB K (iterB K t) from rfl, stepB_get K _ hn] at h
    rw [Bool.or_eq_true, Bool.or_eq_true] at h
    rcases h with (h | h) | h
    · exact iterB_come K t n hn h
    · exact ⟨hn, fun M hM => hM.1 n hn h⟩
    · obtain ⟨i, hi, hx⟩ := List.any_eq_true.1 h
      rw [Bool.and_eq_true] at hx
      have hil := List.mem_range.1 hi
      have hc := iterB_come K t i hil hx.1
      have ho : K.L[i]? = some K.L[i] := List.getElem?_eq_getElem hil
      rw [ho] at hx
      exact ⟨hn, fun M hM => hM.2 i n _ (hc.2 M hM) ho hn hx.2⟩
/-- How many are marked. -/
def cnt (ms : List Bool) : Nat := ms.countP id
theorem grow_get {K : Kn} {ms : List Bool} (hl : ms.length = K.L.length) (n : Nat) (h : ms.getD n false = true) : (stepB K ms).getD n false = true := by
  have hn : n < K.L.length := by
    rw [← hl]
    rcases Nat.lt_or_ge n ms.length with h1 | h1
    · exact h1
    · rw [List.getD_eq_getElem?_getD, List.getElem?_eq_none h1] at h; cases h
  rw [stepB_get K ms hn, h]
  rfl
theorem cnt_le : ∀ (a b : List Bool), a.length = b.length → (∀ n, a.getD n false = true → b.getD n false = true) → cnt a ≤ cnt b ∧ (cnt a = cnt b → a = b)
  | [], [], _, _ => ⟨Nat.le_refl _, fun _ => rfl⟩
  | [], y :: t, h, _ => by simp at h
  | x :: s, [], h, _ => by simp at h
  | x :: s, y :: t, hl, h => by
    have ht := cnt_le s t (by simpa using hl) (fun n hn => by have := h (n + 1) (by simpa using hn); simpa using this)
    have h0 := h 0
    unfold cnt at ht ⊢
    simp only [List.getD_cons_zero] at h0
    rw [List.countP_cons, List.countP_cons]
    cases x with
    | false =>
      cases y with
      | false => exact ⟨by simpa using ht.1, fun e => by rw [ht.2 (by simpa using e)]⟩
      | true => exact ⟨by simp; omega, fun e => by simp at e; have := ht.1; omega⟩
    | true =>
      rw [h0 rfl]
      exact ⟨by simpa using ht.1, fun e => by rw [ht.2 (by simpa using e)]⟩
theorem iterB_cnt (K : Kn) : ∀ t, iterB K (t + 1) = iterB K t ∨ t + 1 ≤ cnt (iterB K (t + 1))
  | 0 => by
    have h := cnt_le (iterB K 0) (iterB K 1) (by rw [iterB_len, iterB_len]) (fun n hn => grow_get (iterB_len K 0) n hn)
    by_cases e : iterB K 1 = iterB K 0
    · exact Or.inl e
    · refine Or.inr ?_
      rcases Nat.lt_or_ge (cnt (iterB K 0)) (cnt (iterB K 1)) with h1 | h1
      · exact Nat.lt_of_le_of_lt (Nat.zero_le _) h1
      · exact absurd (h.2 (by omega)).symm e
  | t + 1 => by
    have h := cnt_le (iterB K (t + 1)) (iterB K (t + 2)) (by rw [iterB_len, iterB_len]) (fun n hn => grow_get (iterB_len K (t + 1)) n hn)
    rcases iterB_cnt K t with ih | ih
    · refine Or.inl ?_
      show stepB K (iterB K (t + 1)) = stepB K (iterB K t)
      rw [ih]
    · by_cases e : iterB K (t + 2) = iterB K (t + 1)
      · exact Or.inl e
      · refine Or.inr ?_
        rcases Nat.lt_or_ge (cnt (iterB K (t + 1))) (cnt (iterB K (t + 2))) with h1 | h1
        · exact Nat.lt_of_le_of_lt ih h1
        · exact absurd (h.2 (by omega)).symm e
theorem reachB_fix (K : Kn) : stepB K (reachB K) = reachB K := by
  unfold reachB
  rcases iterB_cnt K (K.L.length + 1) with h | h
  · exact h
  · have : cnt (iterB K (K.L.length + 1 + 1)) ≤ (iterB K (K.L.length + 1 + 1)).length := List.countP_le_length
    rw [iterB_len] at this
    omega
theorem reachB_len (K : Kn) : (reachB K).length = K.L.length := iterB_len K _
/-- All that one can come to, and nothing else. -/
theorem reachB_iff (K : Kn) {n : Nat} (hn : n < K.L.length) : (reachB K).getD n false = true ↔ Come K n := by
  refine ⟨iterB_come K _ n hn, fun h => ?_⟩
  refine h.2 (fun n => (reachB K).getD n false = true) ⟨fun n hn hr => ?_, fun i n o hi ho hn hx => ?_⟩
  · show (reachB K).getD n false = true
    rw [← reachB_fix, stepB_get K _ hn, hr]
    simp
  · show (reachB K).getD n false = true
    have hi : (reachB K).getD i false = true := hi
    rw [← reachB_fix, stepB_get K _ hn]
    have : ((List.range K.L.length).any fun i => (reachB K).getD i false && (match K.L[i]? with | some o => nextB K o n | none => false)) = true := by
      refine List.any_eq_true.2 ⟨i, List.mem_range.2 (List.getElem?_eq_some_iff.1 ho).1, ?_⟩
      rw [hi, ho]
      simpa using hx
    rw [this]
    simp
/-- Marks that are justified, and closed, are these. -/
theorem reachB_uniq (K : Kn) {ms : List Bool} (hl : ms.length = K.L.length) (h1 : ∀ n, n < K.L.length → ms.getD n false = true → Come K n) (h2 : Closed K fun n => ms.getD n false = true) : ms = reachB K := by
  refine List.ext_getElem? fun n => ?_
  rcases Nat.lt_or_ge n K.L.length with hn | hn
  · have e1 : ms[n]? = some (ms.getD n false) := by rw [List.getD_eq_getElem?_getD, List.getElem?_eq_getElem (by omega)]; rfl
    have e2 : (reachB K)[n]? = some ((reachB K).getD n false) := by rw [List.getD_eq_getElem?_getD, List.getElem?_eq_getElem (by rw [reachB_len]; exact hn)]; rfl
    rw [e1, e2]
    congr 1
    rw [Bool.eq_iff_iff, reachB_iff K hn]
    exact ⟨fun h => h1 n hn h, fun h => h.2 _ h2⟩
  · rw [List.getElem?_eq_none (by omega), List.getElem?_eq_none (by rw [reachB_len]; exact hn)]
end Wp
end Go.Proofs.Ytdciohinlhbliaa


/-
  sweep.marks, and what it hands out, walked.
-/
namespace Go.Proofs.Ytdciohinlhbliaa
open Go.RowKit
def bC (x : Bool) : List Value := [.bool x]
theorem even_b (l : List Bool) : Even 1 (l.map bC) := by
  intro cs h
  obtain ⟨x, _, rfl⟩ := List.mem_map.1 h
  rfl
/-- A list of marks: the number's box, the row, the variable that holds the row. -/
structure Marks (w : World) (gb gr gm n : Nat) (ms : List Bool) : Prop where
  box : Blk w gb #[.int .i64 (n : Int)] 3
  row : Mine w gr 4 1 (.slice (some ⟨gr, 0, none⟩) n n) (ms.map bC)
  var : Blk w gm #[.slice (some ⟨gr, 0, none⟩) n n] 90
  len : ms.length = n
  apart : gb ≠ gr ∧ gb ≠ gm ∧ gr ≠ gm
/-- What marks: the function, with what it has captured. -/
def markF (gb gm : Nat) : Value := .func (.func 81) #[] #[.pointer (some ⟨gb, 0, none⟩), .pointer (some ⟨gm, 0, none⟩)]
theorem Marks.on {w w' : World} {gb gr gm n : Nat} {ms : List Bool} (h : Marks w gb gr gm n ms) {S : Nat → Prop} (ho : On S w w') (h0 : S gb) (h1 : S gr) (h2 : S gm) : Marks w' gb gr gm n ms :=
  ⟨h.box.on ho h0, h.row.on ho (fun j hj => by cases hj; exact h1), h.var.on ho h2, h.len, h.apart⟩
/-- What marking comes to. -/
def MarkR (at_ : Int) (gb gr gm n : Nat) (ms : List Bool) (w : World) (e : Ending) (w' : World) : Prop :=
  (e = .returned (.bool false) ∧ w' = w ∧ (at_ < 0 ∨ (n : Int) ≤ at_ ∨ ms.getD at_.toNat false = true)) ∨
  ∃ k : Nat, at_ = (k : Int) ∧ k < n ∧ ms.getD k false = false ∧ e = .returned (.bool true) ∧ Marks w' gb gr gm n (ms.set k true) ∧ On (fun b => b ≠ gr) w w' ∧ w'.heap.size = w.heap.size ∧ ∀ B, B ≤ gr → Below B w w'
set_option maxRecDepth 100000 in
set_option maxHeartbeats 4000000 in
theorem mark_any (at_ : Int) (gb gr gm n : Nat) (ms : List Bool) (w : World) (hm : Marks w gb gr gm n ms) :
    Calls Try.prog 81 #[.int .i64 at_, .pointer (some ⟨gb, 0, none⟩), .pointer (some ⟨gm, 0, none⟩)] w fun e w' => MarkR at_ gb gr gm n ms w e w' := by
  have b0 : w.cell? ⟨gb, 0, none⟩ = some (.int .i64 (n : Int)) := hm.box.cell 0
  have v0 : w.cell? ⟨gm, 0, none⟩ = some (.slice (some ⟨gr, 0, none⟩) n n) := hm.var.cell 0
  have HM : Hid (Marks w gb gr gm n ms) := hm
  by_cases h0 : at_ < 0
  · have HP : Hid (at_ < 0 ∨ (n : Int) ≤ at_ ∨ ms.getD at_.toNat false = true) := Or.inl h0
    clear hm
    go_enter Try.func81, Try.ntmps81
    go_wp2
    go_ret
    exact Or.inl ⟨rfl, rfl, HP.out⟩
  · by_cases h1 : (n : Int) ≤ at_
    · have HP : Hid (at_ < 0 ∨ (n : Int) ≤ at_ ∨ ms.getD at_.toNat false = true) := Or.inr (Or.inl h1)
      clear hm
      go_enter Try.func81, Try.ntmps81
      go_wp2
      go_ret
      exact Or.inl ⟨rfl, rfl, HP.out⟩
    · obtain ⟨k, rfl⟩ := Int.eq_ofNat_of_zero_le (by omega : 0 ≤ at_)
      have hk : k < n := by omega
      have hl := hm.len
      obtain ⟨x, hx⟩ : ∃ x, ms[k]? = some x := ⟨_, List.getElem?_eq_getElem (by omega)⟩
      have hg : ms.getD k false = x := by rw [List.getD_eq_getElem?_getD, hx]; rfl
      obtain ⟨cur, hbk, -, -, -, hsz, hcur⟩ := hm.row.blk
      have hc : w.cell? ⟨gr, k, none⟩ = some (.bool x) := by
        rw [hbk.cell k]
        refine hcur k _ ?_
        have := flatten_at (even_b ms) k (bC x) (by rw [List.getElem?_map, hx]; rfl) 0 (.bool x) rfl
        simpa using this
      have hf : w.frozen? ⟨gr, k, none⟩ = false := hbk.free k
      have hset := hm.row.set (even_b ms) k 0 (bC x) (.bool true) (by rw [List.getElem?_map, hx]; rfl) (by decide)
      rw [Nat.mul_one, Nat.add_zero] at hset
      cases x with
      | true =>
        have HP : Hid ((k : Int) < 0 ∨ (n : Int) ≤ (k : Int) ∨ ms.getD (k : Int).toNat false = true) := Or.inr (Or.inr (by rw [Int.toNat_natCast]; exact hg))
        clear hm hx hg hset hbk hcur
        go_enter Try.func81, Try.ntmps81
        go_wp2
        go_ret
        exact Or.inl ⟨rfl, rfl, HP.out⟩
      | false =>
        have HR : Hid (∃ k' : Nat, (k : Int) = (k' : Int) ∧ k' < n ∧ ms.getD k' false = false ∧ Marks (w.setCell ⟨gr, k, none⟩ (.bool true)) gb gr gm n (ms.set k' true) ∧ On (fun b => b ≠ gr) w (w.setCell ⟨gr, k, none⟩ (.bool true)) ∧ (w.setCell ⟨gr, k, none⟩ (.bool true)).heap.size = w.heap.size ∧ ∀ B, B ≤ gr → Below B w (w.setCell ⟨gr, k, none⟩ (.bool true))) := by
          refine ⟨k, rfl, hk, hg, ⟨hm.box.other hm.apart.1 _, ?_, hm.var.other (fun e => hm.apart.2.2 e.symm) _, by simp [hl], hm.apart⟩, On.set w ⟨gr, k, none⟩ _, by simp, fun B hB => (Below.refl B w).setCell (p := ⟨gr, k, none⟩) hB _⟩
          rw [List.map_set]
          exact hset
        clear hm hx hg hset hbk hcur
        go_enter Try.func81, Try.ntmps81
        go_wp2
        go_ret
        obtain ⟨k', h1, h2, h3, h4⟩ := HR.out
        exact Or.inr ⟨k', h1, h2, h3, rfl, h4⟩
end Go.Proofs.Ytdciohinlhbliaa


/-
  sweep.isObject, eachHeld, eachEntered, eachWaiting, walked: whatever function is handed to them.
-/
namespace Go.Proofs.Ytdciohinlhbliaa
open Go.RowKit
theorem wisObject_any (L : List Sp.Ob) (k : Int) (v : Value) (S : Nat → Prop) (w : World) (hv : Objs w S v L) :
    Calls Try.prog 63 #[v, .int .i64 k] w fun e w' => e = .returned (.bool (Wp.isObj L k)) ∧ w' = w := by
  by_cases h0 : 0 ≤ k
  · obtain ⟨n, rfl⟩ := Int.eq_ofNat_of_zero_le h0
    by_cases h1 : n < L.length
    · have hx : L[n]? = some L[n] := List.getElem?_eq_getElem h1
      have HE : Hid (Wp.isObj L (n : Int) = (L[n].kind != 0)) := by unfold Hid Wp.isObj; rw [if_pos (by omega), Int.toNat_natCast, hx]
      obtain ⟨b, o, c, s, rfl, hb, hc, hm, -, c0, -⟩ := hv.open hx
      generalize L[n] = x at *
      unfold maxLen at hm
      rw [HE.out]
      clear hv hx HE
      go_enter Try.func63, Try.ntmps63
      go_wp2
      go_ret
      exact ⟨rfl, rfl⟩
    · have HE : Hid (Wp.isObj L (n : Int) = false) := by
        unfold Hid Wp.isObj
        rw [if_pos (by omega), Int.toNat_natCast, List.getElem?_eq_none (by omega)]
      obtain ⟨a, c, rfl, -⟩ := hv.form
      rw [HE.out]
      clear hv HE
      go_enter Try.func63, Try.ntmps63
      go_wp2
      go_ret
      exact ⟨rfl, rfl⟩
  · have HE : Hid (Wp.isObj L k = false) := by unfold Hid Wp.isObj; rw [if_neg h0]
    rw [HE.out]
    obtain ⟨a, c, rfl, -⟩ := hv.form
    clear hv HE
    go_enter Try.func63, Try.ntmps63
    go_wp2
    go_ret
    exact ⟨rfl, rfl⟩
def hcapV (op rt : Int) : Value := .agg #[.int .i64 op, .int .i64 rt]
/-- An invariant of what has been handed on: it holds what it needs of the list, and what is made anew does not touch it. -/
structure Hands {α : Type} (S : Nat → Prop) (w : World) (I : List α → World → Prop) : Prop where
  on : ∀ (xs : List α) (w1 : World), I xs w1 → On S w w1 ∧ w.heap.size ≤ w1.heap.size
  new : ∀ (xs : List α) (w1 : World) (ob : Obj), I xs w1 → I xs (w1.alloc ob)
end Go.Proofs.Ytdciohinlhbliaa


/-
  sweep.eachHeld, walked: whatever function is handed to it.
-/
namespace Go.Proofs.Ytdciohinlhbliaa
open Go.RowKit
namespace Wp
/-- The capabilities that processes that live hold, in turn. -/
def heldP (p : Sp.Prc) : List Sp.Slt := if p.live then p.slots.filter (·.has) else []
def heldL (P : List Sp.Prc) : List Sp.Slt := P.flatMap heldP
theorem heldL_next {P : List Sp.Prc} {k : Nat} {p : Sp.Prc} (h : P[k]? = some p) : heldL (P.take (k + 1)) = heldL (P.take k) ++ heldP p := by
  unfold heldL
  rw [List.take_add_one, h, List.flatMap_append]
  simp
end Wp
set_option maxRecDepth 100000 in
set_option maxHeartbeats 8000000 in
theorem eachHeld_any (n : Nat) (caps : Array Value) (P : List Sp.Prc) (v : Value) (S : Nat → Prop) (w : World) (hv : Procs w S v P) (eg : Enters Try.prog n) (I : List Sp.Slt → World → Prop) (h0 : I [] w) (hH : Hands S w I)
    (hst : ∀ (xs : List Sp.Slt) (s : Sp.Slt) (p : Sp.Prc) (w1 : World), I xs w1 → p ∈ P → p.live = true → s ∈ p.slots → s.has = true → Calls Try.prog n (#[hcapV s.op s.rt] ++ caps) w1 fun e w2 => e = .returned (.tuple #[]) ∧ I (xs ++ [s]) w2) :
    Calls Try.prog 65 #[v, .func (.func n) #[] caps] w fun e w' => e = .returned (.tuple #[]) ∧ I (Wp.heldL P) w' := by
  obtain ⟨ts, hts, hrow, hsl⟩ := hv
  obtain ⟨a, c, rfl, hm⟩ := Row.form hrow
  rw [List.length_map] at hm hrow ⊢
  have HR : Hid (Row w S 4 (.slice a ts.length c) (ts.map prcC)) := hrow
  have HSL : Hid (∀ t ∈ ts, Row w S 3 (.slice t.1.a t.1.n t.1.c) (t.2.slots.map sltC)) := hsl
  have HTS : Hid (P = ts.map Prod.snd) := hts
  have HI : Hid (Hands S w I) := hH
  have HST : Hid (∀ (xs : List Sp.Slt) (s : Sp.Slt) (p : Sp.Prc) (w1 : World), I xs w1 → p ∈ P → p.live = true → s ∈ p.slots → s.has = true → Calls Try.prog n (#[hcapV s.op s.rt] ++ caps) w1 fun e w2 => e = .returned (.tuple #[]) ∧ I (xs ++ [s]) w2) := hst
  have H0 : Hid (I [] w) := h0
  unfold maxLen at hm
  unfold Enters at eg
  clear hrow hsl hts hH hst h0
  go_enter Try.func65, Try.ntmps65
  go_wp2
  go_loopw [10] (fun i wr => ∃ k : Nat, k ≤ ts.length ∧ i = .int .i64 k ∧ I (Wp.heldL (P.take k)) wr) (fun i _ => ts.length - (intOf i).toNat)
  case atStart => exact ⟨0, Nat.zero_le _, rfl, H0.out⟩
  case round =>
    obtain ⟨k, hk, rfl, hIk⟩ := hrel
    have HIK : Hid (I (Wp.heldL (P.take k)) wr) := hIk
    clear hIk
    by_cases hlt : k < ts.length
    · obtain ⟨⟨sl, p⟩, hx⟩ : ∃ x, ts[k]? = some x := ⟨_, List.getElem?_eq_getElem hlt⟩
      have hp : P[k]? = some p := by rw [HTS.out, List.getElem?_map, hx]; rfl
      have hnx := Wp.heldL_next hp
      have HPM : Hid (p ∈ P) := List.mem_of_getElem? hp
      obtain ⟨ho, hsz⟩ := HI.out.on _ _ HIK.out
      obtain ⟨b, of, c', he, hSb, hc, hcm, h5⟩ := (Row.on HR.out ho).some (by rw [List.length_map]; omega)
      obtain ⟨rfl, -, rfl⟩ := Value.slice.inj he
      have hi := h5 k (prcC (sl, p)) (by rw [List.getElem?_map, hx]; rfl)
      have c0 := hi 0 _ rfl
      have c1 := hi 1 _ rfl
      have c2 := hi 2 _ rfl
      have c3 := hi 3 _ rfl
      rw [Nat.add_zero] at c0
      rw [List.length_map] at hc
      unfold maxLen at hcm
      have HS3 : Hid (Row w S 3 (.slice sl.a sl.n sl.c) (p.slots.map sltC)) := HSL.out _ (List.mem_of_getElem? hx)
      clear he h5 ho hi hp hx
      cases hlv : p.live with
      | false =>
        have HF : Hid (∀ ob, I (Wp.heldL (P.take (k + 1))) (wr.alloc ob)) := fun ob => by
          rw [hnx]
          unfold Wp.heldP
          rw [hlv, if_neg (by decide), List.append_nil]
          exact HI.out.new _ _ ob HIK.out
        rw [hlv] at c0
        clear hnx hlv
        go_wp2
        go_roundw
        case rel => exact ⟨k + 1, by omega, by go_num, HF.out _⟩
        case measure => simp [intOf]; omega
      | true =>
        have HNX : Hid (Wp.heldL (P.take (k + 1)) = Wp.heldL (P.take k) ++ p.slots.filter (·.has)) := by unfold Hid; rw [hnx]; unfold Wp.heldP; rw [hlv, if_pos rfl]
        have HLV : Hid (p.live = true) := hlv
        have HN : Hid (∀ ob, I (Wp.heldL (P.take k)) (wr.alloc ob)) := fun ob => HI.out.new _ _ ob HIK.out
        obtain ⟨a3, c3', he3, hm3⟩ := Row.form HS3.out
        obtain ⟨e1, e2, e3⟩ := Value.slice.inj he3
        rw [List.length_map] at e2 hm3
        unfold maxLen at hm3
        rw [e2] at c3 HS3
        rw [hlv] at c0
        obtain ⟨wo, hwo⟩ : ∃ wo : World, wo = wr := ⟨_, rfl⟩
        clear hnx hlv e1 e3 he3
        go_wp2_with fail
        go_loopw [20] (fun i wz => ∃ j : Nat, j ≤ p.slots.length ∧ i = .int .i64 j ∧ I (Wp.heldL (P.take k) ++ (p.slots.take j).filter (·.has)) wz) (fun i _ => p.slots.length - (intOf i).toNat)
        case atStart => exact ⟨0, Nat.zero_le _, rfl, by rw [List.take_zero, List.filter_nil, List.append_nil]; exact HN.out _⟩
        case round =>
          obtain ⟨j, hj, rfl, hIj⟩ := hrel
          have HIJ : Hid (I (Wp.heldL (P.take k) ++ (p.slots.take j).filter (·.has)) wr) := hIj
          clear hIj
          by_cases hjl : j < p.slots.length
          · obtain ⟨x, hx⟩ : ∃ x, p.slots[j]? = some x := ⟨_, List.getElem?_eq_getElem hjl⟩
            have htk : p.slots.take (j + 1) = p.slots.take j ++ [x] := by rw [List.take_add_one, hx]; rfl
            have hxm := List.mem_of_getElem? hx
            obtain ⟨ho2, hsz2⟩ := HI.out.on _ _ HIJ.out
            obtain ⟨b2, of2, c2', he2, hSb2, hc2, hcm2, h52⟩ := (Row.on HS3 ho2).some (by rw [List.length_map]; omega)
            obtain ⟨ea2, -, ec2⟩ := Value.slice.inj he2
            have hi2 := h52 j (sltC x) (by rw [List.getElem?_map, hx]; rfl)
            have d0 := hi2 0 _ rfl
            have d1 := hi2 1 _ rfl
            have d2 := hi2 2 _ rfl
            rw [Nat.add_zero] at d0
            rw [List.length_map] at hc2
            unfold maxLen at hcm2
            rw [← ec2] at hc2 hcm2
            clear ec2
            rw [ea2]
            cases hhas : x.has with
            | true =>
              have HC : Hid (∀ ob, Calls Try.prog n (#[.agg #[.int .i64 x.op, .int .i64 x.rt]] ++ caps) (wr.alloc ob) fun e w2 => e = .returned (.tuple #[]) ∧ I (Wp.heldL (P.take k) ++ (p.slots.take (j + 1)).filter (·.has)) w2) := fun ob => by
                have := HST.out _ x p (wr.alloc ob) (HI.out.new _ _ ob HIJ.out) HPM.out HLV.out hxm hhas
                rw [htk, List.filter_append, List.filter_cons_of_pos hhas, List.filter_nil, ← List.append_assoc]
                exact this
              rw [hhas] at d0
              clear he2 ea2 h52 ho2 hi2 htk hhas hx hxm
              go_wp2_with fail
              refine Calls.mono (HC.out _) ?_
              rintro e w2 ⟨rfl, hI2⟩
              have HI2 : Hid (I (Wp.heldL (P.take k) ++ (p.slots.take (j + 1)).filter (·.has)) w2) := hI2
              clear hI2 d0 d1 d2
              go_wp2
              go_roundw
              case rel => exact ⟨j + 1, by omega, by go_num, HI2.out⟩
              case measure => simp [intOf]; omega
            | false =>
              have HC : Hid (∀ ob, I (Wp.heldL (P.take k) ++ (p.slots.take (j + 1)).filter (·.has)) (wr.alloc ob)) := fun ob => by
                rw [htk, List.filter_append, List.filter_cons_of_neg (by rw [hhas]; decide), List.filter_nil, List.append_nil]
                exact HI.out.new _ _ ob HIJ.out
              rw [hhas] at d0
              clear he2 ea2 h52 ho2 hi2 htk hhas hx hxm
              go_wp2
              go_roundw
              case rel => exact ⟨j + 1, by omega, by go_num, HC.out _⟩
              case measure => simp [intOf]; omega
          · obtain rfl : j = p.slots.length := by omega
            have HF : Hid (I (Wp.heldL (P.take (k + 1))) wr) := by
              have := HIJ.out
              rw [List.take_length] at this
              unfold Hid
              rw [HNX.out]
              exact this
            clear HIJ
            go_wp2
            go_roundw
            case rel => exact ⟨k + 1, by omega, by go_num, HF.out⟩
            case measure => simp [intOf]; omega
    · obtain rfl : k = ts.length := by omega
      have HF : Hid (I (Wp.heldL P) wr) := by
        have := HIK.out
        rw [List.take_of_length_le (by rw [HTS.out, List.length_map]; exact Nat.le_refl _)] at this
        exact this
      clear HIK
      go_wp2
      go_end0
      exact ⟨rfl, HF.out⟩
end Go.Proofs.Ytdciohinlhbliaa


/-
  sweep.knownProcs, walked: of which processes an object is.
-/
namespace Go.Proofs.Ytdciohinlhbliaa
open Go.RowKit
namespace Wp
def setB (ms : List Bool) (k : Int) : List Bool := if 0 ≤ k then ms.set k.toNat true else ms
def knowS (ms : List Bool) (o : Sp.Ob) : List Bool := if o.kind = 5 then setB ms o.proc else ms
/-- Of which processes an object is. -/
def knownB (L : List Sp.Ob) (n : Nat) : List Bool := L.foldl knowS (List.replicate n false)
theorem setB_len (ms : List Bool) (k : Int) : (setB ms k).length = ms.length := by unfold setB; split <;> simp
theorem setB_same {ms : List Bool} {k : Int} {n : Nat} (hn : ms.length = n) (h : k < 0 ∨ (n : Int) ≤ k ∨ ms.getD k.toNat false = true) : setB ms k = ms := by
  unfold setB
  by_cases h0 : 0 ≤ k
  · rw [if_pos h0]
    rcases h with h | h | h
    · omega
    · exact List.set_eq_of_length_le (by omega)
    · refine List.ext_getElem? fun i => ?_
      by_cases hi : i = k.toNat
      · subst hi
        rcases Nat.lt_or_ge k.toNat ms.length with hl | hl
        · rw [List.getElem?_set_self hl]
          rw [List.getD_eq_getElem?_getD, List.getElem?_eq_getElem hl] at h
          rw [List.getElem?_eq_getElem hl]
          simp at h
          rw [h]
        · rw [List.getElem?_eq_none (by simp; omega), List.getElem?_eq_none hl]
      · rw [List.getElem?_set_ne (by omega)]
  · rw [if_neg h0]
end Wp
/-- What marking comes to, in one word. -/
theorem MarkR.one {k : Int} {gb gr gm n : Nat} {ms : List Bool} {w w' : World} {e : Ending} (h : MarkR k gb gr gm n ms w e w') (hm : Marks w gb gr gm n ms) : (∃ b, e = .returned (.bool b)) ∧ Marks w' gb gr gm n (Wp.setB ms k) ∧ On (fun b => b ≠ gr) w w' ∧ w'.heap.size = w.heap.size ∧ ∀ B, B ≤ gr → Below B w w' := by
  rcases h with ⟨rfl, rfl, h⟩ | ⟨j, rfl, hj, _, rfl, h2, h3, h4, h5⟩
  · exact ⟨⟨_, rfl⟩, by rw [Wp.setB_same hm.len h]; exact hm, fun _ _ => rfl, rfl, fun B _ => Below.refl B _⟩
  · refine ⟨⟨_, rfl⟩, ?_, h3, h4, h5⟩
    unfold Wp.setB
    rw [if_pos (by omega), Int.toNat_natCast]
    exact h2
end Go.Proofs.Ytdciohinlhbliaa


/-
  What reached hands on objects to ('to'), walked.
-/
namespace Go.Proofs.Ytdciohinlhbliaa
open Go.RowKit
/-- A row of numbers, with one more behind it: where it lies then. -/
theorem more_int2 {w : World} {base : Nat} {v : Value} {es : List Int} {e : Int} {o : Oper} {ops : Array Oper} {rest : List Oper} {a : Act} {Q : Exit → Act → World → Prop} (hgd : o.guard = none) (s x : Operand)
    (ho : o.op = .call { callee := .builtin .append, args := #[s, x], argTypes := #[31, 31] }) (hs : a.eval s = v) (hown : Mine w base 3 1 v (es.map intC)) (b : Nat) (hxv : a.eval x = .slice (some ⟨b, 0, none⟩) 1 1) (hb : Blk w b #[.int .i64 e] 3) (hn : es.length ≤ 1000) (hbase : base ≤ w.heap.size)
    (h : ∀ r : Sl, ∀ w', Mine w' base 3 1 (.slice r.a r.n r.c) ((es ++ [e]).map intC) → w.heap.size ≤ w'.heap.size → (∀ B, B ≤ base → Below B w w') → On (fun b => b < w.heap.size ∧ some b ≠ v.ownBlock) w w' → ((Value.slice r.a r.n r.c).ownBlock = v.ownBlock ∨ (Value.slice r.a r.n r.c).ownBlock = some w.heap.size) → wpList Try.prog ops Q rest (a.put o.dst (.slice r.a r.n r.c)) w') : wpList Try.prog ops Q (o :: rest) a w := by
  obtain ⟨i0, hi, hz0, hz1, hz2⟩ := info_parts Try.infoInt
  refine wpList_append_row2 hgd s x _ ho base 3 i0 (.int .i64 0) 1 8 Try.underlying31 hi hz0 hz1 hz2 rfl (by decide) v (es.map intC) hs hown _ _ _ _ _ [intC e] hxv (one_row (cs := intC e) hb) (even_int [e]) (ones_int [e]) (even_int es) ?_ (by decide) hbase ?_
  · rw [List.length_map]; simp only [List.length_cons, List.length_nil]; omega
  · intro v' w' hm hg hw
    have hm' : Mine w' base 3 1 v' ((es ++ [e]).map intC) := by rw [List.map_append]; exact hm
    obtain ⟨r, rfl⟩ := hm'.sl
    have hB : ∀ B, B ≤ base → Below B w w' := fun B hB => Below.grown (Below.refl B w) hg (by omega) (fun k hk => by have := (hown.lt k hk).1; omega)
    exact h r w' hm' (hB 0 (Nat.zero_le _)).size hB (fun b hb => hg.block b hb.1 hb.2) hw
/-- Where reached stands: the kernel's box, the variable that marks, the variable of what is left, the marks; a block gx that is not touched. -/
structure Seek (w : World) (gk gv gl gb gr gm n lo gx : Nat) (kv : Array Value) (ms : List Bool) (left : List Int) : Prop where
  kern : Blk w gk kv 27
  fn : Blk w gv #[markF gb gm] 95
  lv : ∃ r : Sl, Blk w gl #[.slice r.a r.n r.c] 31 ∧ Mine w lo 3 1 (.slice r.a r.n r.c) (left.map intC) ∧ ∀ k, (Value.slice r.a r.n r.c).ownBlock = some k → k ≠ gx
  marks : Marks w gb gr gm n ms
  low : gk < lo ∧ gv < lo ∧ gl < lo ∧ gb < lo ∧ gr < lo ∧ gm < lo ∧ lo ≤ w.heap.size ∧ gx < w.heap.size
  apart : gr ≠ gk ∧ gr ≠ gv ∧ gr ≠ gl ∧ gl ≠ gk ∧ gl ≠ gv ∧ gl ≠ gb ∧ gl ≠ gm ∧ gx ≠ gr ∧ gx ≠ gl
namespace Wp
def toMs (L : List Sp.Ob) (ms : List Bool) (k : Int) : List Bool := if isObj L k = true ∧ ms.getD k.toNat false = false then ms.set k.toNat true else ms
def toLeft (L : List Sp.Ob) (ms : List Bool) (left : List Int) (k : Int) : List Int := if isObj L k = true ∧ ms.getD k.toNat false = false then left ++ [k] else left
end Wp
set_option maxRecDepth 100000 in
set_option maxHeartbeats 8000000 in
theorem to_any (L : List Sp.Ob) (k : Int) (vo vp vq : Value) (gk gv gl gb gr gm lo gx : Nat) (ms : List Bool) (left : List Int) (S : Nat → Prop) (w : World) (hs : Seek w gk gv gl gb gr gm L.length lo gx #[vo, vp, vq] ms left) (hv : Objs w S vo L) (hln : left.length ≤ 1000) :
    Calls Try.prog 62 #[.int .i64 k, .pointer (some ⟨gk, 0, none⟩), .pointer (some ⟨gv, 0, none⟩), .pointer (some ⟨gl, 0, none⟩)] w fun e w' => e = .returned (.tuple #[]) ∧ Seek w' gk gv gl gb gr gm L.length lo gx #[vo, vp, vq] (Wp.toMs L ms k) (Wp.toLeft L ms left k) ∧ On (fun b => (b < lo ∨ b = gx) ∧ b ≠ gr ∧ b ≠ gl) w w' ∧ ∀ B, B ≤ gr → B ≤ gl → Below B w w' := by
  have HS : Hid (Seek w gk gv gl gb gr gm L.length lo gx #[vo, vp, vq] ms left) := hs
  have HIO : Hid (Calls Try.prog 63 #[vo, .int .i64 k] w fun e w' => e = .returned (.bool (Wp.isObj L k)) ∧ w' = w) := wisObject_any L k vo S w hv
  have k0 : w.cell? ⟨gk, 0, none⟩ = some vo := hs.kern.cell 0
  have v0 : w.cell? ⟨gv, 0, none⟩ = some (markF gb gm) := hs.fn.cell 0
  have eg : Enters Try.prog 81 := by unfold Enters; intro args w; rfl
  unfold Enters at eg
  unfold markF at v0
  obtain ⟨a, c, rfl, -⟩ := hv.form
  clear hs hv
  cases ho : Wp.isObj L k with
  | false =>
    have e1 : Wp.toMs L ms k = ms := by unfold Wp.toMs; rw [if_neg (by rw [ho]; simp)]
    have e2 : Wp.toLeft L ms left k = left := by unfold Wp.toLeft; rw [if_neg (by rw [ho]; simp)]
    rw [e1, e2]
    rw [ho] at HIO
    clear ho e1 e2
    go_enter Try.func62, Try.ntmps62
    go_wp2_with fail
    refine Calls.mono HIO.out ?_
    rintro e w1 ⟨rfl, hw⟩
    rw [hw]
    clear hw
    go_wp2
    go_end0
    exact ⟨rfl, HS.out, fun _ _ => rfl, fun B _ _ => Below.refl B w⟩
  | true =>
    rw [ho] at HIO
    have HO : Hid (Wp.isObj L k = true) := ho
    have HMK : Hid (Calls Try.prog 81 #[.int .i64 k, .pointer (some ⟨gb, 0, none⟩), .pointer (some ⟨gm, 0, none⟩)] w fun e w' => MarkR k gb gr gm L.length ms w e w') := mark_any k gb gr gm L.length ms w HS.out.marks
    clear ho
    go_enter Try.func62, Try.ntmps62
    go_wp2_with fail
    refine Calls.mono HIO.out ?_
    rintro e w1 ⟨rfl, hw⟩
    rw [hw]
    clear hw
    go_wp2_with fail
    refine Calls.mono HMK.out ?_
    rintro e w2 h2
    rcases h2 with ⟨rfl, hw, hns⟩ | ⟨j, hkj, hj, hg, rfl, hm2, ho2, hs2, hb2⟩
    focus
      rw [hw]
      have hms : ms.getD k.toNat false = true := by
        rcases hns with h | h | h
        · have := HO.out; unfold Wp.isObj at this; rw [if_neg (by omega)] at this; cases this
        · have := HO.out
          unfold Wp.isObj at this
          rw [if_pos (by omega), List.getElem?_eq_none (by omega)] at this
          cases this
        · exact h
      have HE : Hid (Wp.toMs L ms k = ms ∧ Wp.toLeft L ms left k = left) := by
        unfold Hid Wp.toMs Wp.toLeft
        rw [if_neg (by rw [hms]; simp), if_neg (by rw [hms]; simp)]
        exact ⟨rfl, rfl⟩
      clear hw hns hms
      go_wp2
      go_end0
      exact ⟨rfl, by rw [HE.out.1, HE.out.2]; exact HS.out, fun _ _ => rfl, fun B _ _ => Below.refl B w⟩
    obtain ⟨r, hlv, hml, hox⟩ := HS.out.lv
    obtain ⟨q1, q2, q3, q4, q5, q6, q7, q8⟩ := HS.out.low
    obtain ⟨p1, p2, p3, p4, p5, p6, p7, p8, p9⟩ := HS.out.apart
    have hlv2 : Blk w2 gl #[.slice r.a r.n r.c] 31 := hlv.on ho2 (fun e => p3 e.symm)
    have hml2 : Mine w2 lo 3 1 (.slice r.a r.n r.c) (left.map intC) := hml.on ho2 (fun j hj => by have := (hml.lt j hj).1; omega)
    have l0 := hlv2.cell 0
    have HOX : Hid (∀ k, (Value.slice r.a r.n r.c).ownBlock = some k → lo ≤ k ∧ k ≠ gx) := fun k hk => ⟨(hml.lt k hk).1, hox k hk⟩
    have HLV : Hid (Blk w2 gl #[.slice r.a r.n r.c] 31) := hlv2
    have HML : Hid (Mine (w2.alloc (.cells #[.int .i64 k] 3)) lo 3 1 (.slice r.a r.n r.c) (left.map intC)) := hml2.on (On.alloc w2 _) (fun j hj => (hml2.lt j hj).2)
    have HNB : Hid (Blk (w2.alloc (.cells #[.int .i64 k] 3)) w2.heap.size #[.int .i64 k] 3) := Blk.new _ _ _
    have HE : Hid (Wp.toMs L ms k = ms.set j true ∧ Wp.toLeft L ms left k = left ++ [k]) := by
      unfold Hid Wp.toMs Wp.toLeft
      subst hkj
      rw [Int.toNat_natCast, if_pos ⟨HO.out, hg⟩, if_pos ⟨HO.out, hg⟩]
      exact ⟨rfl, rfl⟩
    have HM2 : Hid (Marks w2 gb gr gm L.length (ms.set j true)) := hm2
    have HO2 : Hid (On (fun b => b ≠ gr) w w2) := ho2
    have HS2 : Hid (w2.heap.size = w.heap.size) := hs2
    have HB2 : Hid (∀ B, B ≤ gr → Below B w w2) := hb2
    have hls2 : lo ≤ w2.heap.size := by omega
    clear hlv hml hox hlv2 hml2 hm2 ho2 hs2 hb2 hg hkj hj HMK
    go_wp2_with (with_reducible refine stop_at (.call { callee := .builtin .append, args := #[.tmp 14, .tmp 16], argTypes := #[31, 31] }) rfl ?_)
    unfold Hold
    refine more_int2 (v := .slice r.a r.n r.c) rfl _ _ rfl rfl HML.out w2.heap.size rfl HNB.out hln (by simp; omega) ?_
    intro r4 w4 hm4 hz4 hb4 hon4 hwh4
    have HW4 : Hid (∀ k, (Value.slice r4.a r4.n r4.c).ownBlock = some k → k ≠ gx) := fun k hk => by
      rcases hwh4 with h | h
      · exact (HOX.out k (by rw [← h]; exact hk)).2
      · rw [h] at hk
        have := HS2.out
        simp at hk
        omega
    have HON4 : Hid (On (fun b => b < w2.heap.size ∧ some b ≠ (Value.slice r.a r.n r.c).ownBlock) w2 w4) := ((On.alloc w2 (.cells #[.int .i64 k] 3)).less fun b hb => hb.1).trans (hon4.less fun b hb => ⟨by have := hb.1; simp; omega, hb.2⟩)
    have hB4 : Below lo w2 w4 := ((Below.refl lo w2).alloc hls2 _).trans (hb4 lo (Nat.le_refl _))
    have hlv4 : Blk w4 gl #[.slice r.a r.n r.c] 31 := HLV.out.below hB4 q3
    have l4 := hlv4.cell 0
    have f4 := hlv4.free 0
    have HLV4 : Hid (Blk w4 gl #[.slice r.a r.n r.c] 31) := hlv4
    have HM4 : Hid (Mine w4 lo 3 1 (.slice r4.a r4.n r4.c) ((left ++ [k]).map intC)) := hm4
    have HB4 : Hid (Below lo w2 w4) := hB4
    have HB4' : Hid (∀ B, B ≤ lo → Below B w2 w4) := fun B hB => ((Below.refl B w2).alloc (by omega) _).trans (hb4 B hB)
    clear hm4 hz4 hb4 hon4 hwh4 hB4 hlv4 l0 HML HNB
    go_wp2
    go_end0
    have o5 := On.set w4 ⟨gl, 0, none⟩ (.slice r4.a r4.n r4.c)
    have oAll : On (fun b => (b < lo ∨ b = gx) ∧ b ≠ gr ∧ b ≠ gl) w (w4.setCell ⟨gl, 0, none⟩ (.slice r4.a r4.n r4.c)) := ((HO2.out.less fun b hb => hb.2.1).trans (HON4.out.less fun b hb => by
      have hz := HS2.out
      refine ⟨by rcases hb.1 with h | h <;> omega, fun e => ?_⟩
      have := HOX.out b e.symm
      rcases hb.1 with h | h <;> omega)).trans (o5.less fun b hb => hb.2.2)
    refine ⟨rfl, ?_, oAll, fun B h1 h2 => ((HB2.out B h1).trans (HB4'.out B (by omega))).setCell (p := ⟨gl, 0, none⟩) h2 _⟩
    rw [HE.out.1, HE.out.2]
    have hmk4 : Marks w4 gb gr gm L.length (ms.set j true) := HM2.out.on (On.of HB4.out) q4 q5 q6
    refine ⟨HS.out.kern.on oAll ⟨Or.inl q1, fun e => p1 e.symm, fun e => p4 e.symm⟩, HS.out.fn.on oAll ⟨Or.inl q2, fun e => p2 e.symm, fun e => p5 e.symm⟩, ⟨r4, HLV4.out.set 0 _, HM4.out.on o5 (fun j hj => by have := (HM4.out.lt j hj).1; show j ≠ gl; omega), HW4.out⟩, hmk4.on o5 (fun e => p6 e.symm) p3 (fun e => p7 e.symm), ⟨q1, q2, q3, q4, q5, q6, ?_, ?_⟩, HS.out.apart⟩
    · have := HB4.out.size
      simp
      omega
    · have := HB4.out.size
      have := HS2.out
      simp
      omega
end Go.Proofs.Ytdciohinlhbliaa


/-
  What reached hands on capabilities to ('through'), walked.
-/
namespace Go.Proofs.Ytdciohinlhbliaa
open Go.RowKit
namespace Wp
/-- The object that a capability leads to; below 0: none. -/
def capObj (O : List Sp.Opn) (op : Int) : Int := if 0 ≤ op then (match O[op.toNat]? with | some x => x.obj | none => -1) else -1
end Wp
set_option maxRecDepth 100000 in
set_option maxHeartbeats 8000000 in
theorem through_w (L : List Sp.Ob) (O : List Sp.Opn) (op rt : Int) (vo vp vq : Value) (gk gv gl gt gb gr gm lo gx : Nat) (ms : List Bool) (left : List Int) (S : Nat → Prop) (w : World) (hs : Seek w gk gv gl gb gr gm L.length lo gx #[vo, vp, vq] ms left) (hv : Objs w S vo L) (hp : Row w S 2 vp (O.map opnC)) (hS : ∀ b, S b → b < lo ∧ b ≠ gr ∧ b ≠ gl) (ht : Blk w gt #[.func (.func 62) #[] #[.pointer (some ⟨gk, 0, none⟩), .pointer (some ⟨gv, 0, none⟩), .pointer (some ⟨gl, 0, none⟩)]] 84) (hln : left.length ≤ 1000) :
    Calls Try.prog 64 #[hcapV op rt, .pointer (some ⟨gk, 0, none⟩), .pointer (some ⟨gt, 0, none⟩)] w fun e w' => e = .returned (.tuple #[]) ∧ Seek w' gk gv gl gb gr gm L.length lo gx #[vo, vp, vq] (Wp.toMs L ms (Wp.capObj O op)) (Wp.toLeft L ms left (Wp.capObj O op)) ∧ On (fun b => (b < lo ∨ b = gx) ∧ b ≠ gr ∧ b ≠ gl) w w' ∧ ∀ B, B ≤ gr → B ≤ gl → B ≤ lo → Below B w w' := by
  obtain ⟨pa, pc, rfl, hpm⟩ := Row.form hp
  rw [List.length_map] at hp hpm hs
  have HNO : Hid (∀ k : Int, k < 0 → Wp.toMs L ms k = ms ∧ Wp.toLeft L ms left k = left) := fun k hk => by
    have : Wp.isObj L k = false := by unfold Wp.isObj; rw [if_neg (by omega)]
    unfold Wp.toMs Wp.toLeft
    rw [if_neg (by rw [this]; simp), if_neg (by rw [this]; simp)]
    exact ⟨rfl, rfl⟩
  have k1 : w.cell? ⟨gk, 1, none⟩ = some (.slice pa O.length pc) := hs.kern.cell 1
  have t0 : w.cell? ⟨gt, 0, none⟩ = some (.func (.func 62) #[] #[.pointer (some ⟨gk, 0, none⟩), .pointer (some ⟨gv, 0, none⟩), .pointer (some ⟨gl, 0, none⟩)]) := ht.cell 0
  have hgk := hs.kern.lt
  have hgt := ht.lt
  have hlow := hs.low
  have hbox : ∀ ob, Seek (w.alloc ob) gk gv gl gb gr gm L.length lo gx #[vo, .slice pa O.length pc, vq] ms left := fun ob => by
    obtain ⟨r, h1, h2, h3⟩ := hs.lv
    refine ⟨hs.kern.alloc _, hs.fn.alloc _, ⟨r, h1.alloc _, h2.on (On.alloc w _) (fun j hj => (h2.lt j hj).2), h3⟩, hs.marks.on (On.alloc w _) hs.marks.box.lt (hs.marks.row.lt _ rfl).2 hs.marks.var.lt, ⟨hlow.1, hlow.2.1, hlow.2.2.1, hlow.2.2.2.1, hlow.2.2.2.2.1, hlow.2.2.2.2.2.1, ?_, ?_⟩, hs.apart⟩
    · have := hlow.2.2.2.2.2.2.1
      simp
      omega
    · have := hlow.2.2.2.2.2.2.2
      simp
      omega
  have HBX : Hid _ := hbox
  have HV : Hid (Objs w S vo L) := hv
  have HSS : Hid (∀ b, S b → b < lo ∧ b ≠ gr ∧ b ≠ gl) := hS
  have HLO : Hid (lo ≤ w.heap.size ∧ gx < w.heap.size) := hlow.2.2.2.2.2.2
  unfold maxLen at hpm
  have eg : Enters Try.prog 62 := by unfold Enters; intro args w; rfl
  unfold Enters at eg
  by_cases h0 : 0 ≤ op
  · by_cases h1 : op < (O.length : Int)
    · obtain ⟨j, rfl⟩ := Int.eq_ofNat_of_zero_le h0
      have hj : j < O.length := by omega
      obtain ⟨x, hx⟩ : ∃ x, O[j]? = some x := ⟨_, List.getElem?_eq_getElem hj⟩
      have hc : Wp.capObj O (j : Int) = x.obj := by unfold Wp.capObj; rw [if_pos h0, Int.toNat_natCast, hx]
      rw [hc]
      obtain ⟨b, o, c', he, hSb, hcl, hcm, h5⟩ := hp.some (by rw [List.length_map]; omega)
      obtain ⟨rfl, -, rfl⟩ := Value.slice.inj he
      rw [List.length_map] at hcl
      have d0 := h5 j (opnC x) (by rw [List.getElem?_map, hx]; rfl) 0 _ rfl
      rw [Nat.add_zero] at d0
      have hbl := (hS b hSb).1
      have g1 : (w.alloc (.cells #[.int .i64 (j : Int), .int .i64 rt] 50)).cell? ⟨gk, 1, none⟩ = some (.slice (some ⟨b, o, none⟩) O.length pc) := by rw [(On.alloc w _).cell hgk]; exact k1
      have g2 : (w.alloc (.cells #[.int .i64 (j : Int), .int .i64 rt] 50)).cell? ⟨gt, 0, none⟩ = some (.func (.func 62) #[] #[.pointer (some ⟨gk, 0, none⟩), .pointer (some ⟨gv, 0, none⟩), .pointer (some ⟨gl, 0, none⟩)]) := by rw [(On.alloc w _).cell hgt]; exact t0
      have g3 : (w.alloc (.cells #[.int .i64 (j : Int), .int .i64 rt] 50)).cell? ⟨b, o + j * 2, none⟩ = some (.int .i64 x.obj) := by rw [(On.alloc w _).cell (by omega)]; exact d0
      have g4 : (w.alloc (.cells #[.int .i64 (j : Int), .int .i64 rt] 50)).cell? ⟨w.heap.size, 0, none⟩ = some (.int .i64 (j : Int)) := (Blk.new w #[.int .i64 (j : Int), .int .i64 rt] 50).cell 0
      have hb1 := hbox (.cells #[.int .i64 (j : Int), .int .i64 rt] 50)
      have HTO : Hid (Calls Try.prog 62 #[.int .i64 x.obj, .pointer (some ⟨gk, 0, none⟩), .pointer (some ⟨gv, 0, none⟩), .pointer (some ⟨gl, 0, none⟩)] (w.alloc (.cells #[.int .i64 (j : Int), .int .i64 rt] 50)).drew _) := to_any L x.obj vo (.slice (some ⟨b, o, none⟩) O.length pc) vq gk gv gl gb gr gm lo gx ms left S (w.alloc (.cells #[.int .i64 (j : Int), .int .i64 rt] 50)).drew ⟨hb1.kern, hb1.fn, hb1.lv, ⟨hb1.marks.box, hb1.marks.row, hb1.marks.var, hb1.marks.len, hb1.marks.apart⟩, hb1.low, hb1.apart⟩ (HV.out.on ((On.alloc w _).less fun b hb => by have := (HSS.out b hb).1; have := HLO.out; omega)) hln
      have HA : Hid (On (fun b => (b < lo ∨ b = gx) ∧ b ≠ gr ∧ b ≠ gl) w (w.alloc (.cells #[.int .i64 (j : Int), .int .i64 rt] 50)).drew ∧ ∀ B, B ≤ lo → Below B w (w.alloc (.cells #[.int .i64 (j : Int), .int .i64 rt] 50)).drew) := ⟨(On.alloc w _).less fun b hb => by have := HLO.out; omega, fun B h => ((Below.refl B w).alloc (by have := HLO.out; omega) _).drew⟩
      unfold hcapV
      clear hs hv hp ht hc hbox hb1 hlow hS he h5 d0 k1 t0 hx
      go_enter Try.func64, Try.ntmps64
      go_wp2_with fail
      generalize (w.alloc (.cells #[.int .i64 (j : Int), .int .i64 rt] 50)) = w1 at *
      go_region_with (go_at_call 62; refine Calls.mono HTO.out ?_; rintro e w2 ⟨rfl, hsk, hon, hbe⟩)
      all_goals
        have HSK : Hid _ := hsk
        have HON : Hid _ := hon
        have HBE : Hid _ := hbe
        clear hsk hon hbe
        go_wp2
        go_end0
        exact ⟨rfl, HSK.out, HA.out.1.trans HON.out, fun B h1 h2 h3 => (HA.out.2 B h3).trans (HBE.out B h1 h2)⟩
    · have hc : Wp.capObj O op = -1 := by unfold Wp.capObj; rw [if_pos h0, List.getElem?_eq_none (by omega)]
      obtain ⟨e1, e2⟩ := HNO.out (-1) (by decide)
      rw [hc, e1, e2]
      unfold hcapV
      clear hs hv hp ht hc e1 e2 hbox hlow hS
      go_enter Try.func64, Try.ntmps64
      go_wp2
      go_end0
      exact ⟨rfl, HBX.out _, (On.alloc w _).less fun b hb => by have := HLO.out; omega, fun B _ _ h => (Below.refl B w).alloc (by have := HLO.out; omega) _⟩
  · have hc : Wp.capObj O op = -1 := by unfold Wp.capObj; rw [if_neg h0]
    obtain ⟨e1, e2⟩ := HNO.out (-1) (by decide)
    rw [hc, e1, e2]
    unfold hcapV
    clear hs hv hp ht hc e1 e2 hbox hlow hS
    go_enter Try.func64, Try.ntmps64
    go_wp2
    go_end0
    exact ⟨rfl, HBX.out _, (On.alloc w _).less fun b hb => by have := HLO.out; omega, fun B _ _ h => (Below.refl B w).alloc (by have := HLO.out; omega) _⟩
end Go.Proofs.Ytdciohinlhbliaa


/-
  What is pushed on while one seeks what one can come to: plain facts.
-/
namespace Go.Proofs.Ytdciohinlhbliaa
open Go.RowKit
namespace Wp
def pushK (L : List Sp.Ob) (st : List Bool × List Int) (k : Int) : List Bool × List Int := (toMs L st.1 k, toLeft L st.1 st.2 k)
theorem isObj_nat {L : List Sp.Ob} {k : Int} (h : isObj L k = true) : ∃ n : Nat, k = n ∧ n < L.length := by
  unfold isObj at h
  by_cases h0 : 0 ≤ k
  · obtain ⟨n, rfl⟩ := Int.eq_ofNat_of_zero_le h0
    rw [if_pos h0, Int.toNat_natCast] at h
    refine ⟨n, rfl, ?_⟩
    cases hx : L[n]? with
    | none => rw [hx] at h; cases h
    | some o => exact (List.getElem?_eq_some_iff.1 hx).1
  · rw [if_neg h0] at h; cases h
theorem getD_lt {ms : List Bool} {j : Nat} (h : ms.getD j false = true) : j < ms.length := by
  rcases Nat.lt_or_ge j ms.length with h1 | h1
  · exact h1
  · rw [List.getD_eq_getElem?_getD, List.getElem?_eq_none h1] at h; cases h
theorem getD_set {ms : List Bool} {j i : Nat} : (ms.set i true).getD j false = true ↔ ms.getD j false = true ∨ (j = i ∧ i < ms.length) := by
  rw [List.getD_eq_getElem?_getD, List.getD_eq_getElem?_getD, List.getElem?_set]
  by_cases h : i = j
  · subst h
    by_cases hl : i < ms.length
    · simp [hl]
    · rw [if_pos rfl, if_neg hl, List.getElem?_eq_none (by omega)]
      simp [hl]
  · rw [if_neg h]
    constructor
    · exact Or.inl
    · rintro (h1 | ⟨h1, _⟩)
      · exact h1
      · exact absurd h1.symm h
theorem cnt_set : ∀ {ms : List Bool} {i : Nat}, i < ms.length → ms.getD i false = false → cnt (ms.set i true) = cnt ms + 1
  | [], i, h, _ => by simp at h
  | b :: t, 0, _, h => by
    simp at h
    subst h
    unfold cnt
    simp
  | b :: t, i + 1, hl, h => by
    have h' : t.getD i false = false := by simpa using h
    have := cnt_set (ms := t) (i := i) (by simpa using hl) h'
    unfold cnt at this ⊢
    rw [List.set_cons_succ, List.countP_cons, List.countP_cons, this]
    omega
theorem cnt_len (ms : List Bool) : cnt ms ≤ ms.length := List.countP_le_length
/-- What has been pushed on. -/
structure Pushed (L : List Sp.Ob) (st st' : List Bool × List Int) (ks : List Int) : Prop where
  len : st'.1.length = st.1.length
  mono : ∀ j : Nat, st.1.getD j false = true → st'.1.getD j false = true
  new : ∀ j : Nat, st'.1.getD j false = true → st.1.getD j false = true ∨ ((j : Int) ∈ ks ∧ isObj L (j : Int) = true ∧ (j : Int) ∈ st'.2)
  keep : ∀ x ∈ st.2, x ∈ st'.2
  from_ : ∀ x ∈ st'.2, x ∈ st.2 ∨ ∃ j : Nat, x = j ∧ st'.1.getD j false = true
  all : ∀ j : Nat, (j : Int) ∈ ks → isObj L (j : Int) = true → st'.1.getD j false = true
  count : st'.2.length + cnt st.1 = st.2.length + cnt st'.1
theorem pushK_ok (L : List Sp.Ob) (st : List Bool × List Int) (k : Int) (hl : st.1.length = L.length) : Pushed L st (pushK L st k) [k] := by
  unfold pushK toMs toLeft
  by_cases h : isObj L k = true ∧ st.1.getD k.toNat false = false
  · obtain ⟨n, rfl, hn⟩ := isObj_nat h.1
    rw [if_pos h, if_pos h]
    have hg : st.1.getD n false = false := by simpa using h.2
    have ho := h.1
    rw [Int.toNat_natCast]
    refine ⟨by simp, fun j hj => getD_set.2 (Or.inl hj), fun j hj => ?_, fun x hx => List.mem_append_left _ hx, fun x hx => ?_, fun j hj _ => ?_, ?_⟩
    · rcases getD_set.1 hj with h1 | ⟨rfl, _⟩
      · exact Or.inl h1
      · exact Or.inr ⟨List.mem_singleton.2 rfl, ho, List.mem_append_right _ (List.mem_singleton.2 rfl)⟩
    · rcases List.mem_append.1 hx with h1 | h1
      · exact Or.inl h1
      · exact Or.inr ⟨n, List.mem_singleton.1 h1, getD_set.2 (Or.inr ⟨rfl, by omega⟩)⟩
    · have : j = n := by have := List.mem_singleton.1 hj; omega
      subst this
      exact getD_set.2 (Or.inr ⟨rfl, by omega⟩)
    · dsimp only
      rw [cnt_set (by omega) hg, List.length_append, List.length_singleton]
      omega
  · rw [if_neg h, if_neg h]
    refine ⟨rfl, fun j hj => hj, fun j hj => Or.inl hj, fun x hx => hx, fun x hx => Or.inl hx, fun j hj ho => ?_, rfl⟩
    have : k = (j : Int) := (List.mem_singleton.1 hj).symm
    subst this
    rw [Int.toNat_natCast] at h
    cases hg : st.1.getD j false with
    | true => rfl
    | false => exact absurd ⟨ho, hg⟩ h
theorem Pushed.refl (L : List Sp.Ob) (st : List Bool × List Int) : Pushed L st st [] := ⟨rfl, fun _ h => h, fun _ h => Or.inl h, fun _ h => h, fun _ h => Or.inl h, fun _ h => absurd h List.not_mem_nil, rfl⟩
theorem Pushed.trans {L : List Sp.Ob} {a b c : List Bool × List Int} {ks ks' : List Int} (h : Pushed L a b ks) (h' : Pushed L b c ks') : Pushed L a c (ks ++ ks') := by
  refine ⟨h'.len.trans h.len, fun j hj => h'.mono j (h.mono j hj), fun j hj => ?_, fun x hx => h'.keep x (h.keep x hx), fun x hx => ?_, fun j hj ho => ?_, by have := h.count; have := h'.count; omega⟩
  · rcases h'.new j hj with h1 | ⟨h1, h2, h3⟩
    · rcases h.new j h1 with g1 | ⟨g1, g2, g3⟩
      · exact Or.inl g1
      · exact Or.inr ⟨List.mem_append_left _ g1, g2, h'.keep _ g3⟩
    · exact Or.inr ⟨List.mem_append_right _ h1, h2, h3⟩
  · rcases h'.from_ x hx with h1 | h1
    · rcases h.from_ x h1 with g1 | ⟨j, rfl, g2⟩
      · exact Or.inl g1
      · exact Or.inr ⟨j, rfl, h'.mono j g2⟩
    · exact Or.inr h1
  · rcases List.mem_append.1 hj with h1 | h1
    · exact h'.mono j (h.all j h1 ho)
    · exact h'.all j h1 ho
/-- The capabilities' objects. -/
def entK (o : Sp.Ob) : List Int := o.ents.map fun e => e.obj
def queK (K : Kn) (o : Sp.Ob) : List Int := (o.queue.filter fun m => m.has).map fun m => capObj K.O m.op
def heldK (K : Kn) : List Int := (heldL K.P).map fun s => capObj K.O s.op
theorem leads_cap {K : Kn} {op : Int} {n : Nat} : leads K op n = true ↔ capObj K.O op = (n : Int) ∧ isObj K.L n = true := by
  unfold leads capObj
  by_cases h0 : 0 ≤ op
  · rw [if_pos h0, if_pos h0]
    cases K.O[op.toNat]? with
    | none => simp
    | some x => simp
  · rw [if_neg h0, if_neg h0]
    simp
theorem rootB_iff {K : Kn} {n : Nat} : rootB K n = true ↔ isObj K.L (n : Int) = true ∧ (n = 0 ∨ (n : Int) ∈ heldK K) := by
  unfold rootB heldK heldL
  rw [Bool.or_eq_true, Bool.and_eq_true, List.any_eq_true]
  constructor
  · rintro (⟨h1, h2⟩ | ⟨p, hp, h⟩)
    · have : n = 0 := by simpa using h1
      subst this
      exact ⟨h2, Or.inl rfl⟩
    · rw [Bool.and_eq_true, List.any_eq_true] at h
      obtain ⟨hl, s, hs, h⟩ := h
      rw [Bool.and_eq_true, leads_cap] at h
      refine ⟨h.2.2, Or.inr (List.mem_map.2 ⟨s, List.mem_flatMap.2 ⟨p, hp, ?_⟩, h.2.1⟩)⟩
      unfold heldP
      rw [if_pos hl]
      exact List.mem_filter.2 ⟨hs, h.1⟩
  · rintro ⟨ho, h | h⟩
    · subst h
      exact Or.inl ⟨by simp, ho⟩
    · obtain ⟨s, hs, he⟩ := List.mem_map.1 h
      obtain ⟨p, hp, hsp⟩ := List.mem_flatMap.1 hs
      refine Or.inr ⟨p, hp, ?_⟩
      unfold heldP at hsp
      split at hsp
      · rename_i hl
        obtain ⟨h1, h2⟩ := List.mem_filter.1 hsp
        rw [Bool.and_eq_true, List.any_eq_true]
        exact ⟨hl, s, h1, by rw [Bool.and_eq_true, leads_cap]; exact ⟨h2, he, ho⟩⟩
      · exact absurd hsp List.not_mem_nil
theorem nextB_iff {K : Kn} {o : Sp.Ob} {n : Nat} : nextB K o n = true ↔ isObj K.L (n : Int) = true ∧ ((n : Int) ∈ entK o ∨ (n : Int) ∈ queK K o) := by
  unfold nextB entK queK
  rw [Bool.or_eq_true, List.any_eq_true, List.any_eq_true]
  constructor
  · rintro (⟨e, he, h⟩ | ⟨m, hm, h⟩)
    · rw [Bool.and_eq_true] at h
      exact ⟨h.2, Or.inl (List.mem_map.2 ⟨e, he, by simpa using h.1⟩)⟩
    · rw [Bool.and_eq_true, leads_cap] at h
      exact ⟨h.2.2, Or.inr (List.mem_map.2 ⟨m, List.mem_filter.2 ⟨hm, h.1⟩, h.2.1⟩)⟩
  · rintro ⟨ho, h | h⟩
    · obtain ⟨e, he, h1⟩ := List.mem_map.1 h
      exact Or.inl ⟨e, he, by rw [Bool.and_eq_true]; exact ⟨by simpa using h1, ho⟩⟩
    · obtain ⟨m, hm, h1⟩ := List.mem_map.1 h
      obtain ⟨h2, h3⟩ := List.mem_filter.1 hm
      exact Or.inr ⟨m, h2, by rw [Bool.and_eq_true, leads_cap]; exact ⟨h3, h1, ho⟩⟩
end Wp
end Go.Proofs.Ytdciohinlhbliaa


/-
  sweep.reached, walked.
-/
namespace Go.Proofs.Ytdciohinlhbliaa
open Go.RowKit
open Wp
theorem Seek.alloc {w : World} {gk gv gl gb gr gm n lo gx : Nat} {kv : Array Value} {ms : List Bool} {left : List Int} (h : Seek w gk gv gl gb gr gm n lo gx kv ms left) (o : Obj) : Seek (w.alloc o) gk gv gl gb gr gm n lo gx kv ms left := by
  obtain ⟨r, h1, h2, h3⟩ := h.lv
  obtain ⟨q1, q2, q3, q4, q5, q6, q7, q8⟩ := h.low
  refine ⟨h.kern.alloc _, h.fn.alloc _, ⟨r, h1.alloc _, h2.on (On.alloc w _) (fun j hj => (h2.lt j hj).2), h3⟩, h.marks.on (On.alloc w _) h.marks.box.lt (h.marks.row.lt _ rfl).2 h.marks.var.lt, ⟨q1, q2, q3, q4, q5, q6, ?_, ?_⟩, h.apart⟩
  · simp
    omega
  · simp
    omega
/-- Where the search stands in memory: nothing else has been touched. -/
structure RS (n lo gx gk gv gl gt gb gr gm : Nat) (kv : Array Value) (W w1 : World) (st : List Bool × List Int) : Prop where
  seek : Seek w1 gk gv gl gb gr gm n lo gx kv st.1 st.2
  on : On (fun b => b < lo ∧ b ≠ gr ∧ b ≠ gl) W w1
  size : W.heap.size ≤ w1.heap.size
  below : ∀ B, B ≤ gr → B ≤ gl → B ≤ lo → Below B W w1
  tv : Blk w1 gt #[.func (.func 62) #[] #[.pointer (some ⟨gk, 0, none⟩), .pointer (some ⟨gv, 0, none⟩), .pointer (some ⟨gl, 0, none⟩)]] 84
  tlow : gt < lo ∧ gt ≠ gr ∧ gt ≠ gl
  len : st.1.length = n
  many : st.2.length ≤ cnt st.1
theorem RS.alloc {n lo gx gk gv gl gt gb gr gm : Nat} {kv : Array Value} {W w1 : World} {st : List Bool × List Int} (h : RS n lo gx gk gv gl gt gb gr gm kv W w1 st) (o : Obj) : RS n lo gx gk gv gl gt gb gr gm kv W (w1.alloc o) st := by
  have hlo := h.seek.low.2.2.2.2.2.2.1
  exact ⟨h.seek.alloc o, h.on.trans ((On.alloc w1 o).less fun b hb => by omega), by have := h.size; simp; omega, fun B h1 h2 h3 => (h.below B h1 h2 h3).alloc (by omega) _, h.tv.alloc o, h.tlow, h.len, h.many⟩
theorem RS.to {L : List Sp.Ob} {lo gx gk gv gl gt gb gr gm : Nat} {vo vp vq : Value} {W w1 : World} {st : List Bool × List Int} (h : RS L.length lo gx gk gv gl gt gb gr gm #[vo, vp, vq] W w1 st) (k : Int) (S : Nat → Prop) (hv : Objs w1 S vo L) (hL : L.length ≤ 1000) :
    Calls Try.prog 62 #[.int .i64 k, .pointer (some ⟨gk, 0, none⟩), .pointer (some ⟨gv, 0, none⟩), .pointer (some ⟨gl, 0, none⟩)] w1 fun e w' => e = .returned (.tuple #[]) ∧ RS L.length lo gx gk gv gl gt gb gr gm #[vo, vp, vq] W w' (pushK L st k) ∧ On (fun b => (b < lo ∨ b = gx) ∧ b ≠ gr ∧ b ≠ gl) w1 w' ∧ w1.heap.size ≤ w'.heap.size := by
  have hc := cnt_len st.1
  have hm := h.many
  have hl := h.len
  have hp := pushK_ok L st k hl
  refine (to_any L k vo vp vq gk gv gl gb gr gm lo gx st.1 st.2 S w1 h.seek hv (by omega)).mono ?_
  rintro e w' ⟨rfl, hs, hon, hb⟩
  have hz : w1.heap.size ≤ w'.heap.size := (hb 0 (Nat.zero_le _) (Nat.zero_le _)).size
  refine ⟨rfl, ⟨hs, h.on.trans (hon.less fun b hb => ⟨Or.inl hb.1, hb.2⟩), Nat.le_trans h.size hz, fun B h1 h2 h3 => (h.below B h1 h2 h3).trans (hb B h1 h2), h.tv.on hon ⟨Or.inl h.tlow.1, h.tlow.2⟩, h.tlow, by rw [hp.len]; exact hl, by have := hp.count; omega⟩, hon, hz⟩
theorem RS.through {L : List Sp.Ob} {O : List Sp.Opn} {lo gx gk gv gl gt gb gr gm : Nat} {vo vp vq : Value} {W w1 : World} {st : List Bool × List Int} (h : RS L.length lo gx gk gv gl gt gb gr gm #[vo, vp, vq] W w1 st) (op rt : Int) (S : Nat → Prop) (hv : Objs w1 S vo L) (hp : Row w1 S 2 vp (O.map opnC)) (hS : ∀ b, S b → b < lo ∧ b ≠ gr ∧ b ≠ gl) (hL : L.length ≤ 1000) :
    Calls Try.prog 64 #[hcapV op rt, .pointer (some ⟨gk, 0, none⟩), .pointer (some ⟨gt, 0, none⟩)] w1 fun e w' => e = .returned (.tuple #[]) ∧ RS L.length lo gx gk gv gl gt gb gr gm #[vo, vp, vq] W w' (pushK L st (capObj O op)) ∧ On (fun b => (b < lo ∨ b = gx) ∧ b ≠ gr ∧ b ≠ gl) w1 w' ∧ w1.heap.size ≤ w'.heap.size := by
  have hc := cnt_len st.1
  have hm := h.many
  have hl := h.len
  have hpk := pushK_ok L st (capObj O op) hl
  refine (through_w L O op rt vo vp vq gk gv gl gt gb gr gm lo gx st.1 st.2 S w1 h.seek hv hp hS h.tv (by omega)).mono ?_
  rintro e w' ⟨rfl, hs, hon, hb⟩
  have hz : w1.heap.size ≤ w'.heap.size := (hb 0 (Nat.zero_le _) (Nat.zero_le _) (Nat.zero_le _)).size
  refine ⟨rfl, ⟨hs, h.on.trans (hon.less fun b hb => ⟨Or.inl hb.1, hb.2⟩), Nat.le_trans h.size hz, fun B h1 h2 h3 => (h.below B h1 h2 h3).trans (hb B h1 h2 h3), h.tv.on hon ⟨Or.inl h.tlow.1, h.tlow.2⟩, h.tlow, by rw [hpk.len]; exact hl, by have := hpk.count; omega⟩, hon, hz⟩
end Go.Proofs.Ytdciohinlhbliaa


/-
  sweep.reached, walked: all that one can come to, and nothing else.
-/
namespace Go.Proofs.Ytdciohinlhbliaa
open Go.RowKit
open Wp
/-- Kernels whose objects have what their kind has. -/
def KindOk (L : List Sp.Ob) : Prop := ∀ o ∈ L, (o.kind ≠ 2 → o.ents = []) ∧ (o.kind ≠ 4 → o.queue = [])
theorem blk_new1w (W : World) (a : Obj) (cs : Array Value) (t : TypeId) : Blk ((W.alloc a).alloc (.cells cs t)) (W.heap.size + 1) cs t := by
  have h := Blk.new (W.alloc a) cs t
  have e : (W.alloc a).heap.size = W.heap.size + 1 := by simp
  rw [e] at h
  exact h
theorem procs_on {w w' : World} {S : Nat → Prop} {v : Value} {P : List Sp.Prc} (h : Procs w S v P) (ho : On S w w') : Procs w' S v P := by
  obtain ⟨ts, h1, h2, h3⟩ := h
  exact ⟨ts, h1, h2.on ho, fun t ht => Row.on (h3 t ht) ho⟩
theorem procs_more {w : World} {S T : Nat → Prop} {v : Value} {P : List Sp.Prc} (h : Procs w S v P) (hT : ∀ b, S b → T b) : Procs w T v P := by
  obtain ⟨ts, h1, h2, h3⟩ := h
  exact ⟨ts, h1, h2.more hT, fun t ht => Row.more (h3 t ht) hT⟩
end Go.Proofs.Ytdciohinlhbliaa


/-
  sweep.Reach, walked: the numbers of all that one can come to, in their order.
-/
namespace Go.Proofs.Ytdciohinlhbliaa
open Go.RowKit
namespace Wp
/-- The marked numbers below k. -/
def nums (ms : List Bool) (k : Nat) : List Int := ((List.range k).filter fun n => ms.getD n false).map Int.ofNat
theorem nums_len (ms : List Bool) (k : Nat) : (nums ms k).length ≤ k := by
  unfold nums
  rw [List.length_map]
  have := List.length_filter_le (fun n => ms.getD n false) (List.range k)
  rw [List.length_range] at this
  exact this
end Wp
open Wp
end Go.Proofs.Ytdciohinlhbliaa


/-
  sweep.freeObjects, walked: what one can't come to is made none; an end whose other end is none is alone.
-/
namespace Go.Proofs.Ytdciohinlhbliaa
open Go.RowKit
namespace Wp
def obZ0 : Sp.Ob := ⟨0, [], [], ⟨#[]⟩, 0, [], 0, 0, 0⟩
def sl0 : Sls := ⟨⟨none, 0, 0⟩, ⟨none, 0, 0⟩, ⟨none, 0, 0⟩⟩
/-- Is an end's other end none? -/
def alone (ms : List Bool) (n : Nat) (o : Sp.Ob) : Prop := o.kind = 4 ∧ 0 ≤ o.peer ∧ o.peer < (n : Int) ∧ ms.getD o.peer.toNat false = false
def foB (ms : List Bool) (n : Nat) (o : Sp.Ob) : Bool := o.kind == 4 && decide (0 ≤ o.peer) && decide (o.peer < (n : Int)) && !ms.getD o.peer.toNat false
def fo (ms : List Bool) (n : Nat) (i : Nat) (t : Sls × Sp.Ob) : Sls × Sp.Ob := if ms.getD i false = false then (sl0, obZ0) else if foB ms n t.2 = true then (t.1, { t.2 with peer := -1 }) else t
end Wp
open Wp
theorem set_same {α : Type} {l : List α} {k : Nat} {t : α} (h : l[k]? = some t) : l.set k t = l := by
  obtain ⟨h1, rfl⟩ := List.getElem?_eq_some_iff.1 h
  exact List.set_getElem_self h1
end Go.Proofs.Ytdciohinlhbliaa


/-
  A row that is gone through from its first to its last, each turned as its number says.
-/
namespace Go.Proofs.Ytdciohinlhbliaa
open Go.RowKit
namespace Wp
def rowTo {α : Type} (f : Nat → α → α) (l : List α) (k : Nat) : List α := l.mapIdx fun i t => if i < k then f i t else t
theorem rowTo_zero {α : Type} (f : Nat → α → α) (l : List α) : rowTo f l 0 = l := by
  refine List.ext_getElem? fun i => ?_
  unfold rowTo
  rw [List.getElem?_mapIdx]
  cases l[i]? <;> simp
theorem rowTo_len {α : Type} (f : Nat → α → α) (l : List α) (k : Nat) : (rowTo f l k).length = l.length := by unfold rowTo; simp
theorem rowTo_at {α : Type} {f : Nat → α → α} {l : List α} {k : Nat} {t : α} (h : l[k]? = some t) : (rowTo f l k)[k]? = some t := by
  unfold rowTo
  rw [List.getElem?_mapIdx, h]
  simp
theorem rowTo_next {α : Type} {f : Nat → α → α} {l : List α} {k : Nat} {t : α} (h : l[k]? = some t) : rowTo f l (k + 1) = (rowTo f l k).set k (f k t) := by
  have hk := (List.getElem?_eq_some_iff.1 h).1
  refine List.ext_getElem? fun i => ?_
  rw [List.getElem?_set, rowTo_len]
  unfold rowTo
  rw [List.getElem?_mapIdx, List.getElem?_mapIdx]
  by_cases hi : k = i
  · subst hi
    rw [if_pos rfl, if_pos hk, h]
    simp
  · rw [if_neg hi]
    cases l[i]? with
    | none => rfl
    | some x =>
      simp only [Option.map_some]
      by_cases hl : i < k
      · rw [if_pos (by omega), if_pos hl]
      · rw [if_neg (by omega), if_neg hl]
theorem rowTo_end {α : Type} (f : Nat → α → α) (l : List α) {k : Nat} (hk : l.length ≤ k) : rowTo f l k = l.mapIdx f := by
  refine List.ext_getElem? fun i => ?_
  unfold rowTo
  rw [List.getElem?_mapIdx, List.getElem?_mapIdx]
  cases h : l[i]? with
  | none => rfl
  | some x =>
    have := (List.getElem?_eq_some_iff.1 h).1
    simp only [Option.map_some]
    rw [if_pos (by omega)]
/-- Is it so of one of the first k? -/
def anyTo {α : Type} (p : Nat → α → Bool) (l : List α) (k : Nat) : Bool := (l.take k).zipIdx.any fun x => p x.2 x.1
theorem anyTo_zero {α : Type} (p : Nat → α → Bool) (l : List α) : anyTo p l 0 = false := rfl
theorem anyTo_next {α : Type} {p : Nat → α → Bool} {l : List α} {k : Nat} {t : α} (h : l[k]? = some t) : anyTo p l (k + 1) = (anyTo p l k || p k t) := by
  have hk := (List.getElem?_eq_some_iff.1 h).1
  unfold anyTo
  rw [List.take_add_one, h, List.zipIdx_append, List.any_append, List.length_take, Nat.min_eq_left (by omega)]
  simp
end Wp
end Go.Proofs.Ytdciohinlhbliaa


/-
  sweep.endProcs, walked: processes that live, but the first, end where no object is of them.
-/
namespace Go.Proofs.Ytdciohinlhbliaa
open Go.RowKit
namespace Wp
def prcZ0 : Sl × Sp.Prc := (⟨none, 0, 0⟩, ⟨false, false, 0, []⟩)
/-- Does a process end? -/
def epB (ms : List Bool) (i : Nat) (t : Sl × Sp.Prc) : Bool := decide (1 ≤ i) && t.2.live && !ms.getD i false
def ep (ms : List Bool) (i : Nat) (t : Sl × Sp.Prc) : Sl × Sp.Prc := if epB ms i t = true then prcZ0 else t
end Wp
open Wp
theorem Mine.four {w : World} {base g n c : Nat} {e : TypeId} {css : List (List Value)} (h : Mine w base e 4 (.slice (some ⟨g, 0, none⟩) n c) css) (hE : Even 4 css) (i : Nat) (hi : i < css.length) (c0 c1 c2 c3 : Value) (W : World)
    (hW : W = ((((w.setCell ⟨g, i * 4, none⟩ c0).setCell ⟨g, i * 4 + 1, none⟩ c1).setCell ⟨g, i * 4 + 2, none⟩ c2).setCell ⟨g, i * 4 + 3, none⟩ c3)) :
    Mine W base e 4 (.slice (some ⟨g, 0, none⟩) n c) (css.set i [c0, c1, c2, c3]) ∧ On (fun k => k ≠ g) w W ∧ W.heap.size = w.heap.size ∧ ∀ B, B ≤ g → Below B w W := by
  subst hW
  obtain ⟨x0, x1, x2, x3, hx⟩ : ∃ x0 x1 x2 x3, css[i] = [x0, x1, x2, x3] := by
    have h4 := hE css[i] (List.getElem_mem hi)
    match css[i], h4 with
    | [a, b, c, d], _ => exact ⟨a, b, c, d, rfl⟩
  have hg : css[i]? = some [x0, x1, x2, x3] := by rw [List.getElem?_eq_getElem hi, hx]
  have ev : ∀ cs : List Value, cs.length = 4 → Even 4 (css.set i cs) := fun cs hcs x hx => by
    rcases List.mem_or_eq_of_mem_set hx with h1 | h1
    · exact hE x h1
    · rw [h1]; exact hcs
  have gt : ∀ cs : List Value, (css.set i cs)[i]? = some cs := fun cs => by rw [List.getElem?_set_self hi]
  have h0 := h.set hE i 0 _ c0 hg (by decide)
  have h1 := h0.set (ev _ rfl) i 1 _ c1 (gt _) (by decide)
  rw [List.set_set] at h1
  have h2 := h1.set (ev _ rfl) i 2 _ c2 (gt _) (by decide)
  rw [List.set_set] at h2
  have h3 := h2.set (ev _ rfl) i 3 _ c3 (gt _) (by decide)
  rw [List.set_set] at h3
  refine ⟨h3, fun b hb => ?_, by simp, fun B hB => ((((Below.refl B w).setCell hB _).setCell hB _).setCell hB _).setCell hB _⟩
  rw [heap_setCell_other _ ⟨g, i * 4 + 3, none⟩ b _ hb, heap_setCell_other _ ⟨g, i * 4 + 2, none⟩ b _ hb, heap_setCell_other _ ⟨g, i * 4 + 1, none⟩ b _ hb, heap_setCell_other _ ⟨g, i * 4, none⟩ b _ hb]
end Go.Proofs.Ytdciohinlhbliaa


/-
  sweep.forgetProcs and what it answers, walked: processes, but the first, are forgotten that live no more and of which no object is.
-/
namespace Go.Proofs.Ytdciohinlhbliaa
open Go.RowKit
namespace Wp
def fpB (ms : List Bool) (i : Nat) (t : Sl × Sp.Prc) : Bool := decide (1 ≤ i) && !t.2.live && !ms.getD i false
def fp (ms : List Bool) (i : Nat) (t : Sl × Sp.Prc) : Sl × Sp.Prc := if fpB ms i t = true then prcZ0 else t
end Wp
open Wp
end Go.Proofs.Ytdciohinlhbliaa


/-
  sweep.trimmed, walked, for objects, open files and processes: what goes at the end is left out.
-/
namespace Go.Proofs.Ytdciohinlhbliaa
open Go.RowKit
namespace Wp
/-- How many of n are left. -/
def trimN (G : Nat → Bool) (stay : Nat) : Nat → Nat
  | 0 => 0
  | n + 1 => if stay ≤ n ∧ G n = true then trimN G stay n else n + 1
theorem trimN_le (G : Nat → Bool) (stay : Nat) : ∀ n, trimN G stay n ≤ n
  | 0 => Nat.le_refl _
  | n + 1 => by
    unfold trimN
    split
    · exact Nat.le_succ_of_le (trimN_le G stay n)
    · exact Nat.le_refl _
end Wp
open Wp
end Go.Proofs.Ytdciohinlhbliaa


/-
  What Sweep hands to trimmed, walked: is an object none, is an open file of none?
-/
namespace Go.Proofs.Ytdciohinlhbliaa
open Go.RowKit
open Wp
set_option maxRecDepth 100000 in
set_option maxHeartbeats 2000000 in
/-- What freeOpens hands on: a capability's open file is marked. -/
theorem has_any (op rt : Int) (gb gr gm gf n : Nat) (ms : List Bool) (w : World) (hm : Marks w gb gr gm n ms) (hf : Blk w gf #[markF gb gm] 95) :
    Calls Try.prog 69 #[.agg #[.int .i64 op, .int .i64 rt], .pointer (some ⟨gf, 0, none⟩)] w fun e w' => e = .returned (.tuple #[]) ∧ Marks w' gb gr gm n (setB ms op) ∧ On (fun b => (b < w.heap.size ∧ b ≠ gr)) w w' ∧ w.heap.size ≤ w'.heap.size ∧ ∀ B, B ≤ gr → Below B w w' := by
  have hfl := hf.lt
  have HC : Hid (∀ ob, Calls Try.prog 81 #[.int .i64 op, .pointer (some ⟨gb, 0, none⟩), .pointer (some ⟨gm, 0, none⟩)] (w.alloc ob) fun e w' => (∃ b, e = .returned (.bool b)) ∧ Marks w' gb gr gm n (setB ms op) ∧ On (fun b => (b < w.heap.size ∧ b ≠ gr)) w w' ∧ w.heap.size ≤ w'.heap.size ∧ ∀ B, B ≤ gr → Below B w w') := fun ob => by
    have hma : Marks (w.alloc ob) gb gr gm n ms := hm.on (On.alloc w ob) hm.box.lt (hm.row.lt _ rfl).2 hm.var.lt
    have hgr : gr < w.heap.size := (hm.row.lt gr rfl).2
    refine (mark_any op gb gr gm n ms _ hma).mono fun e w' h => ?_
    obtain ⟨h1, h2, h3, h4, h5⟩ := h.one hma
    refine ⟨h1, h2, ((On.alloc w ob).less fun b hb => hb.1).trans (h3.less fun b hb => hb.2), by rw [h4]; simp, fun B hB => ((Below.refl B w).alloc (by omega) ob).trans (h5 B hB)⟩
  have f0 := hf.cell 0
  simp [markF] at f0
  have eg : Enters Try.prog 81 := by unfold Enters; intro args w; rfl
  unfold Enters at eg
  clear hm hf
  go_enter Try.func69, Try.ntmps69
  go_wp2_with fail
  refine Calls.mono (HC.out _) ?_
  rintro e w2 ⟨⟨b, rfl⟩, h1, h2, h3, h4⟩
  have H1 : Hid _ := h1
  have H2 : Hid _ := h2
  have H3 : Hid _ := h3
  have H4 : Hid _ := h4
  clear h1 h2 h3 h4
  go_wp2
  go_end0
  exact ⟨rfl, H1.out, H2.out, H3.out, H4.out⟩
end Go.Proofs.Ytdciohinlhbliaa


/-
  sweep.freeOpens, walked: open files that no process holds and that wait nowhere are made none.
-/
namespace Go.Proofs.Ytdciohinlhbliaa
open Go.RowKit
namespace Wp
def hadS (ms : List Bool) (s : Sp.Slt) : List Bool := setB ms s.op
def hadM (ms : List Bool) (m : Sp.Msg) : List Bool := if m.has = true then setB ms m.op else ms
def hadO (ms : List Bool) (o : Sp.Ob) : List Bool := o.queue.foldl hadM ms
/-- Which open files are had. -/
def hadB (L : List Sp.Ob) (P : List Sp.Prc) (n : Nat) : List Bool := L.foldl hadO ((heldL P).foldl hadS (List.replicate n false))
def opnZ : Sp.Opn := ⟨-1, 0⟩
def op (ms : List Bool) (i : Nat) (x : Sp.Opn) : Sp.Opn := if ms.getD i false = false then opnZ else x
end Wp
open Wp
structure FO (W : World) (gb gr gm gf n : Nat) (w : World) (ms : List Bool) : Prop where
  marks : Marks w gb gr gm n ms
  fn : Blk w gf #[markF gb gm] 95
  on : On (fun b => b < W.heap.size ∧ b ≠ gr) W w
  size : W.heap.size ≤ w.heap.size
  below : ∀ B, B ≤ gr → Below B W w
  low : gr < W.heap.size ∧ gf < W.heap.size ∧ gf ≠ gr
theorem FO.alloc {W : World} {gb gr gm gf n : Nat} {w : World} {ms : List Bool} (h : FO W gb gr gm gf n w ms) (ob : Obj) : FO W gb gr gm gf n (w.alloc ob) ms := by
  have hl := h.low
  have hz := h.size
  refine ⟨h.marks.on (On.alloc w ob) h.marks.box.lt (h.marks.row.lt gr rfl).2 h.marks.var.lt, h.fn.alloc ob, h.on.trans ((On.alloc w ob).less fun b hb => by omega), by simp; omega, fun B hB => (h.below B hB).alloc (by omega) ob, hl⟩
theorem FO.has {W : World} {gb gr gm gf n : Nat} {w : World} {ms : List Bool} (h : FO W gb gr gm gf n w ms) (op rt : Int) :
    Calls Try.prog 69 #[.agg #[.int .i64 op, .int .i64 rt], .pointer (some ⟨gf, 0, none⟩)] w fun e w' => e = .returned (.tuple #[]) ∧ FO W gb gr gm gf n w' (setB ms op) := by
  refine (has_any op rt gb gr gm gf n ms w h.marks h.fn).mono ?_
  rintro e w' ⟨rfl, h1, h2, h3, h4⟩
  have hl := h.low
  have hz := h.size
  exact ⟨rfl, h1, h.fn.on h2 ⟨by omega, hl.2.2⟩, h.on.trans (h2.less fun b hb => ⟨by omega, hb.2⟩), by omega, fun B hB => (h.below B hB).trans (h4 B hB), hl⟩
/-- All that processes hold is marked. -/
theorem FO.held {W : World} {gb gr gm gf n : Nat} {w : World} {ms : List Bool} (h : FO W gb gr gm gf n w ms) (P : List Sp.Prc) (v : Value) (S : Nat → Prop) (hv : Procs w S v P) (hS : ∀ b, S b → b < W.heap.size ∧ b ≠ gr) (eg : Enters Try.prog 69) :
    Calls Try.prog 65 #[v, .func (.func 69) #[] #[.pointer (some ⟨gf, 0, none⟩)]] w fun e w' => e = .returned (.tuple #[]) ∧ FO W gb gr gm gf n w' ((heldL P).foldl hadS ms) := by
  have hz := h.size
  have hl := h.low
  have hh := eachHeld_any 69 #[.pointer (some ⟨gf, 0, none⟩)] P v S w hv eg (fun xs w' => FO W gb gr gm gf n w' (xs.foldl hadS ms) ∧ On (fun b => b < W.heap.size ∧ b ≠ gr) w w' ∧ w.heap.size ≤ w'.heap.size)
    ⟨h, fun _ _ => rfl, Nat.le_refl _⟩ ⟨fun xs w' g => ⟨g.2.1.less fun b hb => hS b hb, g.2.2⟩, fun xs w' ob g => ⟨g.1.alloc ob, g.2.1.trans ((On.alloc w' ob).less fun b hb => by have := g.1.size; omega), by have := g.2.2; simp; omega⟩⟩ (fun xs s p w' g _ _ _ _ => ?_)
  · refine hh.mono ?_
    rintro e w' ⟨rfl, g, -⟩
    exact ⟨rfl, g⟩
  · refine (has_any s.op s.rt gb gr gm gf n _ w' g.1.marks g.1.fn).mono ?_
    rintro e w'' ⟨rfl, h1, h2, h3, h4⟩
    have hz' := g.1.size
    have hg2 := g.2.2
    refine ⟨rfl, ⟨by rw [List.foldl_append]; exact h1, g.1.fn.on h2 ⟨by omega, hl.2.2⟩, g.1.on.trans (h2.less fun b hb => ⟨by omega, hb.2⟩), by omega, fun B hB => (g.1.below B hB).trans (h4 B hB), hl⟩, g.2.1.trans (h2.less fun b hb => ⟨by omega, hb.2⟩), by omega⟩
end Go.Proofs.Ytdciohinlhbliaa


/-
  sweep.freeOpens, walked.
-/
namespace Go.Proofs.Ytdciohinlhbliaa
open Go.RowKit
open Wp
theorem Mine.two {w : World} {base g n c : Nat} {e : TypeId} {css : List (List Value)} (h : Mine w base e 2 (.slice (some ⟨g, 0, none⟩) n c) css) (hE : Even 2 css) (i : Nat) (hi : i < css.length) (c0 c1 : Value) (W : World)
    (hW : W = (w.setCell ⟨g, i * 2, none⟩ c0).setCell ⟨g, i * 2 + 1, none⟩ c1) :
    Mine W base e 2 (.slice (some ⟨g, 0, none⟩) n c) (css.set i [c0, c1]) ∧ On (fun k => k ≠ g) w W ∧ W.heap.size = w.heap.size := by
  subst hW
  obtain ⟨x0, x1, hx⟩ : ∃ x0 x1, css[i] = [x0, x1] := by
    have h4 := hE css[i] (List.getElem_mem hi)
    match css[i], h4 with
    | [a, b], _ => exact ⟨a, b, rfl⟩
  have hg : css[i]? = some [x0, x1] := by rw [List.getElem?_eq_getElem hi, hx]
  have ev : ∀ cs : List Value, cs.length = 2 → Even 2 (css.set i cs) := fun cs hcs x hx => by
    rcases List.mem_or_eq_of_mem_set hx with h1 | h1
    · exact hE x h1
    · rw [h1]; exact hcs
  have gt : ∀ cs : List Value, (css.set i cs)[i]? = some cs := fun cs => by rw [List.getElem?_set_self hi]
  have h0 := h.set hE i 0 _ c0 hg (by decide)
  have h1 := h0.set (ev _ rfl) i 1 _ c1 (gt _) (by decide)
  rw [List.set_set] at h1
  refine ⟨h1, fun b hb => ?_, by simp⟩
  rw [heap_setCell_other _ ⟨g, i * 2 + 1, none⟩ b _ hb, heap_setCell_other _ ⟨g, i * 2, none⟩ b _ hb]
theorem Mine.at {w : World} {base k n c : Nat} {e : TypeId} {pa : Option Addr} {css : List (List Value)} (h : Mine w base e k (.slice pa n c) css) (hn : 0 < n) : ∃ g, pa = some ⟨g, 0, none⟩ := by
  rcases h.2 with ⟨h1, _⟩ | ⟨g, cap, cur, hv, -⟩
  · have := (Value.slice.inj h1).2.1; omega
  · exact ⟨g, (Value.slice.inj hv).1⟩
end Go.Proofs.Ytdciohinlhbliaa


/-
  Sweep's rounds, plainly: what one round leaves, and that rounds come to an end.
-/
namespace Go.Proofs.Ytdciohinlhbliaa
open Go.RowKit
namespace Wp
theorem anyTo_some {α : Type} {p : Nat → α → Bool} {l : List α} : ∀ {k : Nat}, k ≤ l.length → anyTo p l k = true → ∃ i t, l[i]? = some t ∧ p i t = true
  | 0, _, h => by rw [anyTo_zero] at h; cases h
  | k + 1, hk, h => by
    obtain ⟨t, ht⟩ : ∃ t, l[k]? = some t := ⟨_, List.getElem?_eq_getElem (by omega)⟩
    rw [anyTo_next ht, Bool.or_eq_true] at h
    rcases h with h | h
    · exact anyTo_some (by omega) h
    · exact ⟨k, t, ht, h⟩
theorem count_le {α : Type} (q : α → Bool) : ∀ (l : List α) (f : Nat → α → α), (∀ i t, q (f i t) = true → q t = true) → (l.mapIdx f).countP q ≤ l.countP q
  | [], _, _ => by simp
  | a :: l, f, h => by
    rw [List.mapIdx_cons, List.countP_cons, List.countP_cons]
    have h1 := count_le q l (fun i => f (i + 1)) fun i t => h (i + 1) t
    have h2 := h 0 a
    by_cases hq : q (f 0 a) = true
    · rw [if_pos hq, if_pos (h2 hq)]; omega
    · rw [if_neg hq]; split <;> omega
theorem count_lt {α : Type} (q : α → Bool) : ∀ (l : List α) (f : Nat → α → α), (∀ i t, q (f i t) = true → q t = true) → (∃ i t, l[i]? = some t ∧ q t = true ∧ q (f i t) = false) → (l.mapIdx f).countP q < l.countP q
  | [], _, _, ⟨i, t, h, _⟩ => by simp at h
  | a :: l, f, h, ⟨i, t, h1, h2, h3⟩ => by
    rw [List.mapIdx_cons, List.countP_cons, List.countP_cons]
    cases i with
    | zero =>
      obtain rfl : a = t := by simpa using h1
      have h4 := count_le q l (fun i => f (i + 1)) fun i t => h (i + 1) t
      rw [if_neg (by rw [h3]; decide), if_pos h2]
      omega
    | succ i =>
      have h4 := count_lt q l (fun i => f (i + 1)) (fun i t => h (i + 1) t) ⟨i, t, by simpa using h1, h2, h3⟩
      have h5 := h 0 a
      by_cases hq : q (f 0 a) = true
      · rw [if_pos hq, if_pos (h5 hq)]; omega
      · rw [if_neg hq]; split <;> omega
/-- What is being swept: objects, open files, processes, with where their lists lie. -/
structure Swp where
  ts : List (Sls × Sp.Ob)
  O : List Sp.Opn
  ps : List (Sl × Sp.Prc)
namespace Swp
def kn (x : Swp) : Kn := ⟨x.ts.map Prod.snd, x.O, x.ps.map Prod.snd⟩
def ts1 (x : Swp) : List (Sls × Sp.Ob) := x.ts.mapIdx (fo (reachB x.kn) x.ts.length)
def O1 (x : Swp) : List Sp.Opn := x.O.mapIdx (op (hadB (x.ts1.map Prod.snd) (x.ps.map Prod.snd) x.O.length))
def kn1 (x : Swp) : List Bool := knownB (x.ts1.map Prod.snd) x.ps.length
/-- One round. -/
def rnd (x : Swp) : Swp := ⟨x.ts1, x.O1, x.ps.mapIdx (ep x.kn1)⟩
/-- Did a process end in it? -/
def more (x : Swp) : Bool := anyTo (epB x.kn1) x.ps x.ps.length
def live (x : Swp) : Nat := x.ps.countP fun t => t.2.live
theorem rnd_live {x : Swp} (h : x.more = true) : x.rnd.live < x.live := by
  obtain ⟨i, t, h1, h2⟩ := anyTo_some (Nat.le_refl _) h
  refine count_lt (fun t : Sl × Sp.Prc => t.2.live) x.ps (ep x.kn1) (fun i t hq => ?_) ⟨i, t, h1, ?_, ?_⟩
  · unfold ep at hq
    split at hq
    · cases hq
    · exact hq
  · unfold epB at h2
    cases hl : t.2.live with
    | true => rfl
    | false => rw [hl] at h2; simp at h2
  · unfold ep
    rw [if_pos h2]
    rfl
/-- All rounds. -/
def allN : Nat → Swp → Swp
  | 0, x => x.rnd
  | n + 1, x => if x.more = true then allN n x.rnd else x.rnd
def all (x : Swp) : Swp := allN x.live x
theorem allN_same : ∀ (n m : Nat) (x : Swp), x.live ≤ n → x.live ≤ m → allN n x = allN m x
  | 0, 0, _, _, _ => rfl
  | 0, m + 1, x, h, _ => by
    have hf : ¬ x.more = true := fun e => by have := rnd_live e; omega
    unfold allN
    rw [if_neg hf]
  | n + 1, 0, x, _, h => by
    have hf : ¬ x.more = true := fun e => by have := rnd_live e; omega
    unfold allN
    rw [if_neg hf]
  | n + 1, m + 1, x, h1, h2 => by
    unfold allN
    by_cases hm : x.more = true
    · have := rnd_live hm
      rw [if_pos hm, if_pos hm, allN_same n m x.rnd (by omega) (by omega)]
    · rw [if_neg hm, if_neg hm]
theorem all_more {x : Swp} (h : x.more = true) : x.all = x.rnd.all := by
  have h1 := rnd_live h
  unfold all
  obtain ⟨n, hn⟩ : ∃ n, x.live = n + 1 := ⟨x.live - 1, by omega⟩
  rw [hn, allN, if_pos h]
  exact allN_same n x.rnd.live x.rnd (by omega) (Nat.le_refl _)
theorem all_end {x : Swp} (h : x.more = false) : x.all = x.rnd := by
  unfold all
  cases hx : x.live with
  | zero => rfl
  | succ n => unfold allN; rw [if_neg (by rw [h]; decide)]
theorem rnd_kinds {x : Swp} (h : KindOk (x.ts.map Prod.snd)) : KindOk (x.rnd.ts.map Prod.snd) := by
  intro o ho
  obtain ⟨t, ht, rfl⟩ := List.mem_map.1 ho
  obtain ⟨i, hi, rfl⟩ := List.mem_mapIdx.1 (show t ∈ x.ts.mapIdx (fo (reachB x.kn) x.ts.length) from ht)
  have h0 := h x.ts[i].2 (List.mem_map_of_mem (List.getElem_mem hi))
  unfold fo
  split
  · exact ⟨fun _ => rfl, fun _ => rfl⟩
  · split
    · exact h0
    · exact h0
theorem rnd_lens (x : Swp) : x.rnd.ts.length = x.ts.length ∧ x.rnd.O.length = x.O.length ∧ x.rnd.ps.length = x.ps.length := by
  unfold rnd ts1 O1
  simp
end Swp
end Wp
end Go.Proofs.Ytdciohinlhbliaa
