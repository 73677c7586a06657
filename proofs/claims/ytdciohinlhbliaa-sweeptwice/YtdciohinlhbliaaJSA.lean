/-
  What chapter 8 says of kernels, as plain functions: what one can come to.
-/
import Derived.Test.YtdciohinlhbliaaBPlain
import Derived.Test.YtdciohinlhbliaaSWalkF
import Derived.Test.YtdciohinlhbliaaSWalkJ
import Derived.Test.YtdciohinlhbliaaSNine
import Derived.Shelf.Abstract
import Derived.Test.YtdciohinlhbliaaJBA
import Derived.Test.YtdciohinlhbliaaBW3
import Derived.Deep.LoopGhost
import Derived.Laws.EntriesVeiled
namespace Go.Proofs.Ytdciohinlhbliaa
open Go.RowKit
namespace Wp
/-- A kernel. -/
structure Kn where
  L : List Sp.Ob
  O : List Sp.Opn
  P : List Sp.Prc
def isObj (L : List Sp.Ob) (k : Int) : Bool := if 0 ≤ k then (match L[k.toNat]? with | some o => o.kind != 0 | none => false) else false
/-- What an open file's number leads to. -/
def leads (K : Kn) (op : Int) (n : Nat) : Bool := if 0 ≤ op then (match K.O[op.toNat]? with | some x => x.obj == (n : Int) && isObj K.L n | none => false) else false
def rootB (K : Kn) (n : Nat) : Bool := (n == 0 && isObj K.L 0) || K.P.any fun p => p.live && p.slots.any fun s => s.has && leads K s.op n
def nextB (K : Kn) (o : Sp.Ob) (n : Nat) : Bool := (o.ents.any fun e => e.obj == (n : Int) && isObj K.L n) || o.queue.any fun m => m.has && leads K m.op n
/-- One step more. -/
def stepB (K : Kn) (ms : List Bool) : List Bool := (List.range K.L.length).map fun n => ms.getD n false || rootB K n || (List.range K.L.length).any fun i => ms.getD i false && (match K.L[i]? with | some o => nextB K o n | none => false)
def iterB (K : Kn) : Nat → List Bool
  | 0 => List.replicate K.L.length false
  | t + 1 => stepB K (iterB K t)
/-- What one can come to. -/
def reachB (K : Kn) : List Bool := iterB K (K.L.length + 1)
/-- Marks that hold all that their own lead to. -/
def Closed (K : Kn) (M : Nat → Prop) : Prop := (∀ n, n < K.L.length → rootB K n = true → M n) ∧ ∀ (i n : Nat) (o : Sp.Ob), M i → K.L[i]? = some o → n < K.L.length → nextB K o n = true → M n
def Come (K : Kn) (n : Nat) : Prop := n < K.L.length ∧ ∀ M : Nat → Prop, Closed K M → M n
theorem stepB_len (K : Kn) (ms : List Bool) : (stepB K ms).length = K.L.length := by unfold stepB; simp
theorem stepB_get (K : Kn) (ms : List Bool) {n : Nat} (h : n < K.L.length) : (stepB K ms).getD n false = (ms.getD n false || rootB K n || (List.range K.L.length).any fun i => ms.getD i false && (match K.L[i]? with | some o => nextB K o n | none => false)) := by
  unfold stepB
  rw [List.getD_eq_getElem?_getD, List.getElem?_map, List.getElem?_range h]
  rfl
theorem iterB_len (K : Kn) (t : Nat) : (iterB K t).length = K.L.length := by
  cases t with
  | zero => simp [iterB]
  | succ t => exact stepB_len K _
theorem iterB_come (K : Kn) : ∀ (t n : Nat), n < K.L.length → (iterB K t).getD n false = true → Come K n
  | 0, n, hn, h => by
    unfold iterB at h
    rw [List.getD_eq_getElem?_getD, List.getElem?_replicate, if_pos hn] at h
    cases h
  | t + 1, n, hn, h => by
    rw [show iterB K (t + 1) = stepB K (iterB K t) from rfl, stepB_get K _ hn] at h
    rw [Bool.or_eq_true, Bool.or_eq_true] at h
    rcases h with (h | h) | h
    · exact iterB_come K t n hn h
    · exact ⟨hn, fun M hM => hM.1 n hn h⟩
    · obtain ⟨i, hi, hx⟩ := List.any_eq_true.1 h
      rw [Bool.and_eq_true] at hx
      have hil := List.mem_range.1 hi
      have hc := iterB_come K t i hil hx.1
      have ho : K.L[i]? = some K.L[i] := List.getElem?_eq_getElem hil
      rw [ho] at hx
      exact ⟨hn, fun M hM => hM.2 i n _ (hc.2 M hM) ho hn hx.2⟩
/-- How many are marked. -/
def cnt (ms : List Bool) : Nat := ms.countP id
theorem grow_get {K : Kn} {ms : List Bool} (hl : ms.length = K.L.length) (n : Nat) (h : ms.getD n false = true) : (stepB K ms).getD n false = true := by
  have hn : n < K.L.length := by
    rw [← hl]
    rcases Nat.lt_or_ge n ms.length with h1 | h1
    · exact h1
    · rw [List.getD_eq_getElem?_getD, List.getElem?_eq_none h1] at h; cases h
  rw [stepB_get K ms hn, h]
  rfl
theorem cnt_le : ∀ (a b : List Bool), a.length = b.length → (∀ n, a.getD n false = true → b.getD n false = true) → cnt a ≤ cnt b ∧ (cnt a = cnt b → a = b)
  | [], [], _, _ => ⟨Nat.le_refl _, fun _ => rfl⟩
  | [], y :: t, h, _ => by simp at h
  | x :: s, [], h, _ => by simp at h
  | x :: s, y :: t, hl, h => by
    have ht := cnt_le s t (by simpa using hl) (fun n hn => by have := h (n + 1) (by simpa using hn); simpa using this)
    have h0 := h 0
    unfold cnt at ht ⊢
    simp only [List.getD_cons_zero] at h0
    rw [List.countP_cons, List.countP_cons]
    cases x with
    | false =>
      cases y with
      | false => exact ⟨by simpa using ht.1, fun e => by rw [ht.2 (by simpa using e)]⟩
      | true => exact ⟨by simp; omega, fun e => by simp at e; have := ht.1; omega⟩
    | true =>
      rw [h0 rfl]
      exact ⟨by simpa using ht.1, fun e => by rw [ht.2 (by simpa using e)]⟩
theorem iterB_cnt (K : Kn) : ∀ t, iterB K (t + 1) = iterB K t ∨ t + 1 ≤ cnt (iterB K (t + 1))
  | 0 => by
    have h := cnt_le (iterB K 0) (iterB K 1) (by rw [iterB_len, iterB_len]) (fun n hn => grow_get (iterB_len K 0) n hn)
    by_cases e : iterB K 1 = iterB K 0
    · exact Or.inl e
    · refine Or.inr ?_
      rcases Nat.lt_or_ge (cnt (iterB K 0)) (cnt (iterB K 1)) with h1 | h1
      · exact Nat.lt_of_le_of_lt (Nat.zero_le _) h1
      · exact absurd (h.2 (by omega)).symm e
  | t + 1 => by
    have h := cnt_le (iterB K (t + 1)) (iterB K (t + 2)) (by rw [iterB_len, iterB_len]) (fun n hn => grow_get (iterB_len K (t + 1)) n hn)
    rcases iterB_cnt K t with ih | ih
    · refine Or.inl ?_
      show stepB K (iterB K (t + 1)) = stepB K (iterB K t)
      rw [ih]
    · by_cases e : iterB K (t + 2) = iterB K (t + 1)
      · exact Or.inl e
      · refine Or.inr ?_
        rcases Nat.lt_or_ge (cnt (iterB K (t + 1))) (cnt (iterB K (t + 2))) with h1 | h1
        · exact Nat.lt_of_le_of_lt ih h1
        · exact absurd (h.2 (by omega)).symm e
theorem reachB_fix (K : Kn) : stepB K (reachB K) = reachB K := by
  unfold reachB
  rcases iterB_cnt K (K.L.length + 1) with h | h
  · exact h
  · have : cnt (iterB K (K.L.length + 1 + 1)) ≤ (iterB K (K.L.length + 1 + 1)).length := List.countP_le_length
    rw [iterB_len] at this
    omega
theorem reachB_len (K : Kn) : (reachB K).length = K.L.length := iterB_len K _
/-- All that one can come to, and nothing else. -/
theorem reachB_iff (K : Kn) {n : Nat} (hn : n < K.L.length) : (reachB K).getD n false = true ↔ Come K n := by
  refine ⟨iterB_come K _ n hn, fun h => ?_⟩
  refine h.2 (fun n => (reachB K).getD n false = true) ⟨fun n hn hr => ?_, fun i n o hi ho hn hx => ?_⟩
  · show (reachB K).getD n false = true
    rw [← reachB_fix, stepB_get K _ hn, hr]
    simp
  · show (reachB K).getD n false = true
    have hi : (reachB K).getD i false = true := hi
    rw [← reachB_fix, stepB_get K _ hn]
    have : ((List.range K.L.length).any fun i => (reachB K).getD i false && (match K.L[i]? with | some o => nextB K o n | none => false)) = true := by
      refine List.any_eq_true.2 ⟨i, List.mem_range.2 (List.getElem?_eq_some_iff.1 ho).1, ?_⟩
      rw [hi, ho]
      simpa using hx
    rw [this]
    simp
/-- Marks that are justified, and closed, are these. -/
theorem reachB_uniq (K : Kn) {ms : List Bool} (hl : ms.length = K.L.length) (h1 : ∀ n, n < K.L.length → ms.getD n false = true → Come K n) (h2 : Closed K fun n => ms.getD n false = true) : ms = reachB K := by
  refine List.ext_getElem? fun n => ?_
  rcases Nat.lt_or_ge n K.L.length with hn | hn
  · have e1 : ms[n]? = some (ms.getD n false) := by rw [List.getD_eq_getElem?_getD, List.getElem?_eq_getElem (by omega)]; rfl
    have e2 : (reachB K)[n]? = some ((reachB K).getD n false) := by rw [List.getD_eq_getElem?_getD, List.getElem?_eq_getElem (by rw [reachB_len]; exact hn)]; rfl
    rw [e1, e2]
    congr 1
    rw [Bool.eq_iff_iff, reachB_iff K hn]
    exact ⟨fun h => h1 n hn h, fun h => h.2 _ h2⟩
  · rw [List.getElem?_eq_none (by omega), List.getElem?_eq_none (by rw [reachB_len]; exact hn)]
end Wp
end Go.Proofs.Ytdciohinlhbliaa


/-
  sweep.marks, and what it hands out, walked.
-/
namespace Go.Proofs.Ytdciohinlhbliaa
open Go.RowKit
def bC (x : Bool) : List Value := [.bool x]
theorem even_b (l : List Bool) : Even 1 (l.map bC) := by
  intro cs h
  obtain ⟨x, _, rfl⟩ := List.mem_map.1 h
  rfl
theorem Try.infoBool : (Try.prog.info? 4).map (fun i => (i.zero, i.size, i.bytes)) = some (some (.bool false), 1, 1) := by kernel_rfl
/-- A list of marks: the number's box, the row, the variable that holds the row. -/
structure Marks (w : World) (gb gr gm n : Nat) (ms : List Bool) : Prop where
  box : Blk w gb #[.int .i64 (n : Int)] 3
  row : Mine w gr 4 1 (.slice (some ⟨gr, 0, none⟩) n n) (ms.map bC)
  var : Blk w gm #[.slice (some ⟨gr, 0, none⟩) n n] 90
  len : ms.length = n
  apart : gb ≠ gr ∧ gb ≠ gm ∧ gr ≠ gm
/-- What marks: the function, with what it has captured. -/
def markF (gb gm : Nat) : Value := .func (.func 81) #[] #[.pointer (some ⟨gb, 0, none⟩), .pointer (some ⟨gm, 0, none⟩)]
theorem Marks.on {w w' : World} {gb gr gm n : Nat} {ms : List Bool} (h : Marks w gb gr gm n ms) {S : Nat → Prop} (ho : On S w w') (h0 : S gb) (h1 : S gr) (h2 : S gm) : Marks w' gb gr gm n ms :=
  ⟨h.box.on ho h0, h.row.on ho (fun j hj => by cases hj; exact h1), h.var.on ho h2, h.len, h.apart⟩
set_option maxRecDepth 100000 in
set_option maxHeartbeats 4000000 in
theorem marks_any (n : Nat) (hn : n ≤ 1000000) (w : World) :
    Calls Try.prog 61 #[.int .i64 (n : Int)] w fun e w' => ∃ gb gr gm : Nat, e = .returned (.tuple #[.slice (some ⟨gr, 0, none⟩) n n, markF gb gm]) ∧ Marks w' gb gr gm n (List.replicate n false) ∧ w.heap.size ≤ gb ∧ w.heap.size ≤ gr ∧ w.heap.size ≤ gm ∧ Below w.heap.size w w' := by
  unfold markF
  obtain ⟨i0, hi, hz0, hz1, hz2⟩ := info_parts Try.infoBool
  have HB : Hid (Blk (w.alloc (.cells #[.int .i64 (n : Int)] 3)) w.heap.size #[.int .i64 (n : Int)] 3) := Blk.new _ _ _
  have HL : Hid (Below w.heap.size w (w.alloc (.cells #[.int .i64 (n : Int)] 3))) := (Below.refl _ _).alloc (Nat.le_refl _) _
  have HSZ : Hid ((w.alloc (.cells #[.int .i64 (n : Int)] 3)).heap.size = w.heap.size + 1) := by unfold Hid; simp
  go_enter Try.func61, Try.ntmps61
  go_wp2_with (with_reducible refine stop_at (.makeSlice 90 (.tmp 5) (.tmp 5)) rfl ?_)
  unfold Hold
  generalize (w.alloc (.cells #[.int .i64 (n : Int)] 3)) = w1 at *
  refine wpList_make_full _ rfl _ _ _ rfl w1.heap.size 4 i0 (.bool false) 1 Try.underlying90 hi hz0 hz1 .i64 .i64 _ _ n rfl rfl rfl rfl ?a1 ?a2 (Nat.le_refl _) ?_
  case a1 => rw [hz2]; omega
  case a2 => unfold maxLen; omega
  intro w2 ho hg
  have hM : Mine w2 w1.heap.size 4 1 (.slice (some ⟨w1.heap.size, 0, none⟩) n n) (List.replicate n (bC false)) := Mine.made (by decide) rfl ho
  have hb2 : Below w1.heap.size w1 w2 := below_none hg
  have hlt := (hM.lt _ rfl).2
  have hsz := HSZ.out
  have HM : Hid (Mine w2 w1.heap.size 4 1 (.slice (some ⟨w1.heap.size, 0, none⟩) n n) (List.replicate n (bC false))) := hM
  have HB2 : Hid (Below w1.heap.size w1 w2) := hb2
  have HLT : Hid (w1.heap.size < w2.heap.size) := hlt
  clear ho hg hM hb2 hi hz0 hz1 hz2 hsz
  go_wp2
  have hsz := HSZ.out
  refine bodyPost_ret (v := .tuple #[.slice (some ⟨w1.heap.size, 0, none⟩) n n, .func (.func 81) #[] #[.pointer (some ⟨w.heap.size, 0, none⟩), .pointer (some ⟨w2.heap.size, 0, none⟩)]]) (by simp [results, Try.results61, go_sem]) rfl ?_
  refine ⟨w.heap.size, w1.heap.size, w2.heap.size, rfl, ⟨(HB.out.below HB2.out (by omega)).alloc _, ?_, Blk.new _ _ _, by simp, by omega, by omega, by omega⟩, Nat.le_refl _, by omega, by omega, (HL.out.trans (HB2.out.mono (by omega))).alloc (by omega) _⟩
  rw [List.map_replicate]
  exact HM.out.on (On.alloc w2 _) fun j hj => by cases hj; exact hlt
/-- What marking comes to. -/
def MarkR (at_ : Int) (gb gr gm n : Nat) (ms : List Bool) (w : World) (e : Ending) (w' : World) : Prop :=
  (e = .returned (.bool false) ∧ w' = w ∧ (at_ < 0 ∨ (n : Int) ≤ at_ ∨ ms.getD at_.toNat false = true)) ∨
  ∃ k : Nat, at_ = (k : Int) ∧ k < n ∧ ms.getD k false = false ∧ e = .returned (.bool true) ∧ Marks w' gb gr gm n (ms.set k true) ∧ On (fun b => b ≠ gr) w w' ∧ w'.heap.size = w.heap.size ∧ ∀ B, B ≤ gr → Below B w w'
set_option maxRecDepth 100000 in
set_option maxHeartbeats 4000000 in
theorem mark_any (at_ : Int) (gb gr gm n : Nat) (ms : List Bool) (w : World) (hm : Marks w gb gr gm n ms) :
    Calls Try.prog 81 #[.int .i64 at_, .pointer (some ⟨gb, 0, none⟩), .pointer (some ⟨gm, 0, none⟩)] w fun e w' => MarkR at_ gb gr gm n ms w e w' := by
  have b0 : w.cell? ⟨gb, 0, none⟩ = some (.int .i64 (n : Int)) := hm.box.cell 0
  have v0 : w.cell? ⟨gm, 0, none⟩ = some (.slice (some ⟨gr, 0, none⟩) n n) := hm.var.cell 0
  have HM : Hid (Marks w gb gr gm n ms) := hm
  by_cases h0 : at_ < 0
  · have HP : Hid (at_ < 0 ∨ (n : Int) ≤ at_ ∨ ms.getD at_.toNat false = true) := Or.inl h0
    clear hm
    go_enter Try.func81, Try.ntmps81
    go_wp2
    go_ret
    exact Or.inl ⟨rfl, rfl, HP.out⟩
  · by_cases h1 : (n : Int) ≤ at_
    · have HP : Hid (at_ < 0 ∨ (n : Int) ≤ at_ ∨ ms.getD at_.toNat false = true) := Or.inr (Or.inl h1)
      clear hm
      go_enter Try.func81, Try.ntmps81
      go_wp2
      go_ret
      exact Or.inl ⟨rfl, rfl, HP.out⟩
    · obtain ⟨k, rfl⟩ := Int.eq_ofNat_of_zero_le (by omega : 0 ≤ at_)
      have hk : k < n := by omega
      have hl := hm.len
      obtain ⟨x, hx⟩ : ∃ x, ms[k]? = some x := ⟨_, List.getElem?_eq_getElem (by omega)⟩
      have hg : ms.getD k false = x := by rw [List.getD_eq_getElem?_getD, hx]; rfl
      obtain ⟨cur, hbk, -, -, -, hsz, hcur⟩ := hm.row.blk
      have hc : w.cell? ⟨gr, k, none⟩ = some (.bool x) := by
        rw [hbk.cell k]
        refine hcur k _ ?_
        have := flatten_at (even_b ms) k (bC x) (by rw [List.getElem?_map, hx]; rfl) 0 (.bool x) rfl
        simpa using this
      have hf : w.frozen? ⟨gr, k, none⟩ = false := hbk.free k
      have hset := hm.row.set (even_b ms) k 0 (bC x) (.bool true) (by rw [List.getElem?_map, hx]; rfl) (by decide)
      rw [Nat.mul_one, Nat.add_zero] at hset
      cases x with
      | true =>
        have HP : Hid ((k : Int) < 0 ∨ (n : Int) ≤ (k : Int) ∨ ms.getD (k : Int).toNat false = true) := Or.inr (Or.inr (by rw [Int.toNat_natCast]; exact hg))
        clear hm hx hg hset hbk hcur
        go_enter Try.func81, Try.ntmps81
        go_wp2
        go_ret
        exact Or.inl ⟨rfl, rfl, HP.out⟩
      | false =>
        have HR : Hid (∃ k' : Nat, (k : Int) = (k' : Int) ∧ k' < n ∧ ms.getD k' false = false ∧ Marks (w.setCell ⟨gr, k, none⟩ (.bool true)) gb gr gm n (ms.set k' true) ∧ On (fun b => b ≠ gr) w (w.setCell ⟨gr, k, none⟩ (.bool true)) ∧ (w.setCell ⟨gr, k, none⟩ (.bool true)).heap.size = w.heap.size ∧ ∀ B, B ≤ gr → Below B w (w.setCell ⟨gr, k, none⟩ (.bool true))) := by
          refine ⟨k, rfl, hk, hg, ⟨hm.box.other hm.apart.1 _, ?_, hm.var.other (fun e => hm.apart.2.2 e.symm) _, by simp [hl], hm.apart⟩, On.set w ⟨gr, k, none⟩ _, by simp, fun B hB => (Below.refl B w).setCell (p := ⟨gr, k, none⟩) hB _⟩
          rw [List.map_set]
          exact hset
        clear hm hx hg hset hbk hcur
        go_enter Try.func81, Try.ntmps81
        go_wp2
        go_ret
        obtain ⟨k', h1, h2, h3, h4⟩ := HR.out
        exact Or.inr ⟨k', h1, h2, h3, rfl, h4⟩
end Go.Proofs.Ytdciohinlhbliaa


/-
  sweep.isObject, eachHeld, eachEntered, eachWaiting, walked: whatever function is handed to them.
-/
namespace Go.Proofs.Ytdciohinlhbliaa
open Go.RowKit
theorem wisObject_any (L : List Sp.Ob) (k : Int) (v : Value) (S : Nat → Prop) (w : World) (hv : Objs w S v L) :
    Calls Try.prog 63 #[v, .int .i64 k] w fun e w' => e = .returned (.bool (Wp.isObj L k)) ∧ w' = w := by
  by_cases h0 : 0 ≤ k
  · obtain ⟨n, rfl⟩ := Int.eq_ofNat_of_zero_le h0
    by_cases h1 : n < L.length
    · have hx : L[n]? = some L[n] := List.getElem?_eq_getElem h1
      have HE : Hid (Wp.isObj L (n : Int) = (L[n].kind != 0)) := by unfold Hid Wp.isObj; rw [if_pos (by omega), Int.toNat_natCast, hx]
      obtain ⟨b, o, c, s, rfl, hb, hc, hm, -, c0, -⟩ := hv.open hx
      generalize L[n] = x at *
      unfold maxLen at hm
      rw [HE.out]
      clear hv hx HE
      go_enter Try.func63, Try.ntmps63
      go_wp2
      go_ret
      exact ⟨rfl, rfl⟩
    · have HE : Hid (Wp.isObj L (n : Int) = false) := by
        unfold Hid Wp.isObj
        rw [if_pos (by omega), Int.toNat_natCast, List.getElem?_eq_none (by omega)]
      obtain ⟨a, c, rfl, -⟩ := hv.form
      rw [HE.out]
      clear hv HE
      go_enter Try.func63, Try.ntmps63
      go_wp2
      go_ret
      exact ⟨rfl, rfl⟩
  · have HE : Hid (Wp.isObj L k = false) := by unfold Hid Wp.isObj; rw [if_neg h0]
    rw [HE.out]
    obtain ⟨a, c, rfl, -⟩ := hv.form
    clear hv HE
    go_enter Try.func63, Try.ntmps63
    go_wp2
    go_ret
    exact ⟨rfl, rfl⟩
def hcapV (op rt : Int) : Value := .agg #[.int .i64 op, .int .i64 rt]
/-- An invariant of what has been handed on: it holds what it needs of the list, and what is made anew does not touch it. -/
structure Hands {α : Type} (S : Nat → Prop) (w : World) (I : List α → World → Prop) : Prop where
  on : ∀ (xs : List α) (w1 : World), I xs w1 → On S w w1 ∧ w.heap.size ≤ w1.heap.size
  new : ∀ (xs : List α) (w1 : World) (ob : Obj), I xs w1 → I xs (w1.alloc ob)
set_option maxRecDepth 100000 in
set_option maxHeartbeats 4000000 in
/-- What is entered is handed to a function, one by one. -/
theorem eachEntered_any (n : Nat) (caps : Array Value) (o : Sp.Ob) (s : Sls) (S : Nat → Prop) (w : World) (hl : Lists w S (s, o)) (hk : o.kind ≠ 2 → o.ents = []) (eg : Enters Try.prog n) (I : List Sp.Ent → World → Prop) (h0 : I [] w) (hH : Hands S w I)
    (hst : ∀ (es : List Sp.Ent) (x : Sp.Ent) (w1 : World), I es w1 → x ∈ o.ents → Calls Try.prog n (#[.int .i64 x.obj] ++ caps) w1 fun e w2 => e = .returned (.tuple #[]) ∧ I (es ++ [x]) w2) :
    Calls Try.prog 66 #[.agg (objC (s, o)).toArray, .func (.func n) #[] caps] w fun e w' => e = .returned (.tuple #[]) ∧ I o.ents w' := by
  obtain ⟨a, c, he, hm⟩ := Row.form hl.2.1
  have HR : Hid (Row w S 2 (.slice s.e.a s.e.n s.e.c) (o.ents.map entC)) := hl.2.1
  have HI : Hid (Hands S w I) := hH
  have HST : Hid (∀ (es : List Sp.Ent) (x : Sp.Ent) (w1 : World), I es w1 → x ∈ o.ents → Calls Try.prog n (#[.int .i64 x.obj] ++ caps) w1 fun e w2 => e = .returned (.tuple #[]) ∧ I (es ++ [x]) w2) := hst
  have H0 : Hid (I [] w) := h0
  have HK : Hid (o.kind ≠ 2 → o.ents = []) := hk
  obtain ⟨e1, e2, e3⟩ := Value.slice.inj he
  rw [List.length_map] at e2 hm
  unfold maxLen at hm
  unfold Enters at eg
  show Calls Try.prog 66 #[.agg #[.int .i64 o.kind, .slice s.d.a s.d.n s.d.c, .slice s.e.a s.e.n s.e.c, .string o.target, .int .i64 o.peer, .slice s.q.a s.q.n s.q.c, .int .i64 o.proc, .int .i64 o.links, .int .i64 o.up], .func (.func n) #[] caps] w _
  rw [e2] at HR ⊢
  clear hl hH hst h0 hk he e1 e3
  by_cases hk2 : o.kind = 2
  · have hk2' : (o.kind != 2) = false := by simp [hk2]
    have HN : Hid (∀ ob, I [] (w.alloc ob)) := fun ob => HI.out.new _ _ ob H0.out
    clear hk2
    go_enter Try.func66, Try.ntmps66
    go_wp2
    go_loopw [12] (fun i wr => ∃ k : Nat, k ≤ o.ents.length ∧ i = .int .i64 k ∧ I (o.ents.take k) wr) (fun i _ => o.ents.length - (intOf i).toNat)
    case atStart => exact ⟨0, Nat.zero_le _, rfl, HN.out _⟩
    case round =>
      obtain ⟨k, hk, rfl, hIk⟩ := hrel
      have HIK : Hid (I (o.ents.take k) wr) := hIk
      clear hIk
      by_cases hlt : k < o.ents.length
      · obtain ⟨x, hx⟩ : ∃ x, o.ents[k]? = some x := ⟨_, List.getElem?_eq_getElem hlt⟩
        obtain ⟨ho, hsz⟩ := HI.out.on _ _ HIK.out
        obtain ⟨b, of, c', he, hSb, hc, hcm, h5⟩ := (Row.on HR.out ho).some (by rw [List.length_map]; omega)
        obtain ⟨ea, -, rfl⟩ := Value.slice.inj he
        obtain ⟨c0, c1⟩ := ent_cells h5 hx
        rw [List.length_map] at hc
        unfold maxLen at hcm
        rw [ea]
        have HC : Hid (∀ ob, Calls Try.prog n (#[.int .i64 x.obj] ++ caps) (wr.alloc ob) fun e w2 => e = .returned (.tuple #[]) ∧ I (o.ents.take (k + 1)) w2) := fun ob => by
          have := HST.out (o.ents.take k) x (wr.alloc ob) (HI.out.new _ _ ob HIK.out) (List.mem_of_getElem? hx)
          rw [show o.ents.take k ++ [x] = o.ents.take (k + 1) by rw [List.take_add_one, hx]; rfl] at this
          exact this
        clear he ea h5 ho
        go_wp2_with fail
        refine Calls.mono (HC.out _) ?_
        rintro e w2 ⟨rfl, hI2⟩
        have HI2 : Hid (I (o.ents.take (k + 1)) w2) := hI2
        clear hI2 c0 c1
        go_wp2
        go_roundw
        case rel => exact ⟨k + 1, by omega, by go_num, HI2.out⟩
        case measure => simp [intOf]; omega
      · obtain rfl : k = o.ents.length := by omega
        have HF : Hid (I o.ents wr) := by have := HIK.out; rw [List.take_length] at this; exact this
        clear HIK
        go_wp2
        go_end0
        exact ⟨rfl, HF.out⟩
  · have hk2' : (o.kind != 2) = true := by simpa using hk2
    have HF : Hid (∀ ob, I o.ents (w.alloc ob)) := fun ob => by rw [HK.out hk2]; exact HI.out.new _ _ ob H0.out
    clear hk2
    go_enter Try.func66, Try.ntmps66
    go_wp2
    exact bodyPost_ret (v := .tuple #[]) (results_none rfl _ _ _) rfl ⟨rfl, HF.out _⟩
set_option maxRecDepth 100000 in
set_option maxHeartbeats 4000000 in
/-- The capabilities that wait are handed to a function, one by one. -/
theorem eachWaiting_any (n : Nat) (caps : Array Value) (o : Sp.Ob) (s : Sls) (S : Nat → Prop) (w : World) (hl : Lists w S (s, o)) (hk : o.kind ≠ 4 → o.queue = []) (eg : Enters Try.prog n) (I : List Sp.Msg → World → Prop) (h0 : I [] w) (hH : Hands S w I)
    (hst : ∀ (ms : List Sp.Msg) (m : Sp.Msg) (w1 : World), I ms w1 → m ∈ o.queue → m.has = true → Calls Try.prog n (#[hcapV m.op m.rt] ++ caps) w1 fun e w2 => e = .returned (.tuple #[]) ∧ I (ms ++ [m]) w2)
    (hsk : ∀ (ms : List Sp.Msg) (m : Sp.Msg) (w1 : World), I ms w1 → m ∈ o.queue → m.has = false → I (ms ++ [m]) w1) :
    Calls Try.prog 67 #[.agg (objC (s, o)).toArray, .func (.func n) #[] caps] w fun e w' => e = .returned (.tuple #[]) ∧ I o.queue w' := by
  obtain ⟨ts, hts, hrow, -⟩ := hl.2.2
  obtain ⟨a, c, he, hm⟩ := Row.form hrow
  have HR : Hid (Row w S 4 (.slice s.q.a s.q.n s.q.c) (ts.map msgC)) := hrow
  have HTS : Hid (o.queue = ts.map Prod.snd) := hts
  have HI : Hid (Hands S w I) := hH
  have HST : Hid (∀ (ms : List Sp.Msg) (m : Sp.Msg) (w1 : World), I ms w1 → m ∈ o.queue → m.has = true → Calls Try.prog n (#[hcapV m.op m.rt] ++ caps) w1 fun e w2 => e = .returned (.tuple #[]) ∧ I (ms ++ [m]) w2) := hst
  have HSK : Hid (∀ (ms : List Sp.Msg) (m : Sp.Msg) (w1 : World), I ms w1 → m ∈ o.queue → m.has = false → I (ms ++ [m]) w1) := hsk
  have H0 : Hid (I [] w) := h0
  have HK : Hid (o.kind ≠ 4 → o.queue = []) := hk
  obtain ⟨e1, e2, e3⟩ := Value.slice.inj he
  rw [List.length_map] at e2 hm
  unfold maxLen at hm
  unfold Enters at eg
  show Calls Try.prog 67 #[.agg #[.int .i64 o.kind, .slice s.d.a s.d.n s.d.c, .slice s.e.a s.e.n s.e.c, .string o.target, .int .i64 o.peer, .slice s.q.a s.q.n s.q.c, .int .i64 o.proc, .int .i64 o.links, .int .i64 o.up], .func (.func n) #[] caps] w _
  rw [e2] at HR ⊢
  clear hl hH hst h0 hk he e1 e3 hts hrow hsk
  by_cases hk2 : o.kind = 4
  · have hk2' : (o.kind != 4) = false := by simp [hk2]
    have HN : Hid (∀ ob, I [] (w.alloc ob)) := fun ob => HI.out.new _ _ ob H0.out
    clear hk2
    go_enter Try.func67, Try.ntmps67
    go_wp2
    go_loopw [12] (fun i wr => ∃ k : Nat, k ≤ ts.length ∧ i = .int .i64 k ∧ I (o.queue.take k) wr) (fun i _ => ts.length - (intOf i).toNat)
    case atStart => exact ⟨0, Nat.zero_le _, rfl, HN.out _⟩
    case round =>
      obtain ⟨k, hk, rfl, hIk⟩ := hrel
      have HIK : Hid (I (o.queue.take k) wr) := hIk
      clear hIk
      by_cases hlt : k < ts.length
      · obtain ⟨⟨sl, m⟩, hx⟩ : ∃ x, ts[k]? = some x := ⟨_, List.getElem?_eq_getElem hlt⟩
        have hq : o.queue[k]? = some m := by rw [HTS.out, List.getElem?_map, hx]; rfl
        have htk : o.queue.take k ++ [m] = o.queue.take (k + 1) := by rw [List.take_add_one, hq]; rfl
        obtain ⟨ho, hsz⟩ := HI.out.on _ _ HIK.out
        obtain ⟨b, of, c', he, hSb, hc, hcm, h5⟩ := (Row.on HR.out ho).some (by rw [List.length_map]; omega)
        obtain ⟨ea, -, rfl⟩ := Value.slice.inj he
        have hi := h5 k (msgC (sl, m)) (by rw [List.getElem?_map, hx]; rfl)
        have c0 := hi 0 _ rfl
        have c1 := hi 1 _ rfl
        have c2 := hi 2 _ rfl
        have c3 := hi 3 _ rfl
        rw [Nat.add_zero] at c0
        rw [List.length_map] at hc
        unfold maxLen at hcm
        rw [ea]
        cases hhas : m.has with
        | true =>
          have HC : Hid (∀ ob, Calls Try.prog n (#[.agg #[.int .i64 m.op, .int .i64 m.rt]] ++ caps) (wr.alloc ob) fun e w2 => e = .returned (.tuple #[]) ∧ I (o.queue.take (k + 1)) w2) := fun ob => by
            have := HST.out (o.queue.take k) m (wr.alloc ob) (HI.out.new _ _ ob HIK.out) (List.mem_of_getElem? hq) hhas
            rw [htk] at this
            exact this
          have c1' : wr.cell? ⟨b, of + k * 4 + 1, none⟩ = some (.bool true) := by rw [← hhas]; exact c1
          clear he ea h5 ho hi hq htk c1 hhas hx
          go_wp2_with fail
          refine Calls.mono (HC.out _) ?_
          rintro e w2 ⟨rfl, hI2⟩
          have HI2 : Hid (I (o.queue.take (k + 1)) w2) := hI2
          clear hI2 c0 c1' c2 c3
          go_wp2
          go_roundw
          case rel => exact ⟨k + 1, by omega, by go_num, HI2.out⟩
          case measure => simp [intOf]; omega
        | false =>
          have HC : Hid (∀ ob, I (o.queue.take (k + 1)) (wr.alloc ob)) := fun ob => by
            have := HSK.out (o.queue.take k) m (wr.alloc ob) (HI.out.new _ _ ob HIK.out) (List.mem_of_getElem? hq) hhas
            rw [htk] at this
            exact this
          have c1' : wr.cell? ⟨b, of + k * 4 + 1, none⟩ = some (.bool false) := by rw [← hhas]; exact c1
          clear he ea h5 ho hi hq htk c1 hhas hx
          go_wp2
          go_roundw
          case rel => exact ⟨k + 1, by omega, by go_num, HC.out _⟩
          case measure => simp [intOf]; omega
      · obtain rfl : k = ts.length := by omega
        have HF : Hid (I o.queue wr) := by
          have := HIK.out
          rw [List.take_of_length_le (by rw [HTS.out, List.length_map]; exact Nat.le_refl _)] at this
          exact this
        clear HIK
        go_wp2
        go_end0
        exact ⟨rfl, HF.out⟩
  · have hk2' : (o.kind != 4) = true := by simpa using hk2
    have HF : Hid (∀ ob, I o.queue (w.alloc ob)) := fun ob => by rw [HK.out hk2]; exact HI.out.new _ _ ob H0.out
    clear hk2
    go_enter Try.func67, Try.ntmps67
    go_wp2
    exact bodyPost_ret (v := .tuple #[]) (results_none rfl _ _ _) rfl ⟨rfl, HF.out _⟩
end Go.Proofs.Ytdciohinlhbliaa


/-
  sweep.eachHeld, walked: whatever function is handed to it.
-/
namespace Go.Proofs.Ytdciohinlhbliaa
open Go.RowKit
namespace Wp
/-- The capabilities that processes that live hold, in turn. -/
def heldP (p : Sp.Prc) : List Sp.Slt := if p.live then p.slots.filter (·.has) else []
def heldL (P : List Sp.Prc) : List Sp.Slt := P.flatMap heldP
theorem heldL_next {P : List Sp.Prc} {k : Nat} {p : Sp.Prc} (h : P[k]? = some p) : heldL (P.take (k + 1)) = heldL (P.take k) ++ heldP p := by
  unfold heldL
  rw [List.take_add_one, h, List.flatMap_append]
  simp
end Wp
set_option maxRecDepth 100000 in
set_option maxHeartbeats 8000000 in
theorem eachHeld_any (n : Nat) (caps : Array Value) (P : List Sp.Prc) (v : Value) (S : Nat → Prop) (w : World) (hv : Procs w S v P) (eg : Enters Try.prog n) (I : List Sp.Slt → World → Prop) (h0 : I [] w) (hH : Hands S w I)
    (hst : ∀ (xs : List Sp.Slt) (s : Sp.Slt) (p : Sp.Prc) (w1 : World), I xs w1 → p ∈ P → p.live = true → s ∈ p.slots → s.has = true → Calls Try.prog n (#[hcapV s.op s.rt] ++ caps) w1 fun e w2 => e = .returned (.tuple #[]) ∧ I (xs ++ [s]) w2) :
    Calls Try.prog 65 #[v, .func (.func n) #[] caps] w fun e w' => e = .returned (.tuple #[]) ∧ I (Wp.heldL P) w' := by
  obtain ⟨ts, hts, hrow, hsl⟩ := hv
  obtain ⟨a, c, rfl, hm⟩ := Row.form hrow
  rw [List.length_map] at hm hrow ⊢
  have HR : Hid (Row w S 4 (.slice a ts.length c) (ts.map prcC)) := hrow
  have HSL : Hid (∀ t ∈ ts, Row w S 3 (.slice t.1.a t.1.n t.1.c) (t.2.slots.map sltC)) := hsl
  have HTS : Hid (P = ts.map Prod.snd) := hts
  have HI : Hid (Hands S w I) := hH
  have HST : Hid (∀ (xs : List Sp.Slt) (s : Sp.Slt) (p : Sp.Prc) (w1 : World), I xs w1 → p ∈ P → p.live = true → s ∈ p.slots → s.has = true → Calls Try.prog n (#[hcapV s.op s.rt] ++ caps) w1 fun e w2 => e = .returned (.tuple #[]) ∧ I (xs ++ [s]) w2) := hst
  have H0 : Hid (I [] w) := h0
  unfold maxLen at hm
  unfold Enters at eg
  clear hrow hsl hts hH hst h0
  go_enter Try.func65, Try.ntmps65
  go_wp2
  go_loopw [10] (fun i wr => ∃ k : Nat, k ≤ ts.length ∧ i = .int .i64 k ∧ I (Wp.heldL (P.take k)) wr) (fun i _ => ts.length - (intOf i).toNat)
  case atStart => exact ⟨0, Nat.zero_le _, rfl, H0.out⟩
  case round =>
    obtain ⟨k, hk, rfl, hIk⟩ := hrel
    have HIK : Hid (I (Wp.heldL (P.take k)) wr) := hIk
    clear hIk
    by_cases hlt : k < ts.length
    · obtain ⟨⟨sl, p⟩, hx⟩ : ∃ x, ts[k]? = some x := ⟨_, List.getElem?_eq_getElem hlt⟩
      have hp : P[k]? = some p := by rw [HTS.out, List.getElem?_map, hx]; rfl
      have hnx := Wp.heldL_next hp
      have HPM : Hid (p ∈ P) := List.mem_of_getElem? hp
      obtain ⟨ho, hsz⟩ := HI.out.on _ _ HIK.out
      obtain ⟨b, of, c', he, hSb, hc, hcm, h5⟩ := (Row.on HR.out ho).some (by rw [List.length_map]; omega)
      obtain ⟨rfl, -, rfl⟩ := Value.slice.inj he
      have hi := h5 k (prcC (sl, p)) (by rw [List.getElem?_map, hx]; rfl)
      have c0 := hi 0 _ rfl
      have c1 := hi 1 _ rfl
      have c2 := hi 2 _ rfl
      have c3 := hi 3 _ rfl
      rw [Nat.add_zero] at c0
      rw [List.length_map] at hc
      unfold maxLen at hcm
      have HS3 : Hid (Row w S 3 (.slice sl.a sl.n sl.c) (p.slots.map sltC)) := HSL.out _ (List.mem_of_getElem? hx)
      clear he h5 ho hi hp hx
      cases hlv : p.live with
      | false =>
        have HF : Hid (∀ ob, I (Wp.heldL (P.take (k + 1))) (wr.alloc ob)) := fun ob => by
          rw [hnx]
          unfold Wp.heldP
          rw [hlv, if_neg (by decide), List.append_nil]
          exact HI.out.new _ _ ob HIK.out
        rw [hlv] at c0
        clear hnx hlv
        go_wp2
        go_roundw
        case rel => exact ⟨k + 1, by omega, by go_num, HF.out _⟩
        case measure => simp [intOf]; omega
      | true =>
        have HNX : Hid (Wp.heldL (P.take (k + 1)) = Wp.heldL (P.take k) ++ p.slots.filter (·.has)) := by unfold Hid; rw [hnx]; unfold Wp.heldP; rw [hlv, if_pos rfl]
        have HLV : Hid (p.live = true) := hlv
        have HN : Hid (∀ ob, I (Wp.heldL (P.take k)) (wr.alloc ob)) := fun ob => HI.out.new _ _ ob HIK.out
        obtain ⟨a3, c3', he3, hm3⟩ := Row.form HS3.out
        obtain ⟨e1, e2, e3⟩ := Value.slice.inj he3
        rw [List.length_map] at e2 hm3
        unfold maxLen at hm3
        rw [e2] at c3 HS3
        rw [hlv] at c0
        obtain ⟨wo, hwo⟩ : ∃ wo : World, wo = wr := ⟨_, rfl⟩
        clear hnx hlv e1 e3 he3
        go_wp2_with fail
        go_loopw [20] (fun i wz => ∃ j : Nat, j ≤ p.slots.length ∧ i = .int .i64 j ∧ I (Wp.heldL (P.take k) ++ (p.slots.take j).filter (·.has)) wz) (fun i _ => p.slots.length - (intOf i).toNat)
        case atStart => exact ⟨0, Nat.zero_le _, rfl, by rw [List.take_zero, List.filter_nil, List.append_nil]; exact HN.out _⟩
        case round =>
          obtain ⟨j, hj, rfl, hIj⟩ := hrel
          have HIJ : Hid (I (Wp.heldL (P.take k) ++ (p.slots.take j).filter (·.has)) wr) := hIj
          clear hIj
          by_cases hjl : j < p.slots.length
          · obtain ⟨x, hx⟩ : ∃ x, p.slots[j]? = some x := ⟨_, List.getElem?_eq_getElem hjl⟩
            have htk : p.slots.take (j + 1) = p.slots.take j ++ [x] := by rw [List.take_add_one, hx]; rfl
            have hxm := List.mem_of_getElem? hx
            obtain ⟨ho2, hsz2⟩ := HI.out.on _ _ HIJ.out
            obtain ⟨b2, of2, c2', he2, hSb2, hc2, hcm2, h52⟩ := (Row.on HS3 ho2).some (by rw [List.length_map]; omega)
            obtain ⟨ea2, -, ec2⟩ := Value.slice.inj he2
            have hi2 := h52 j (sltC x) (by rw [List.getElem?_map, hx]; rfl)
            have d0 := hi2 0 _ rfl
            have d1 := hi2 1 _ rfl
            have d2 := hi2 2 _ rfl
            rw [Nat.add_zero] at d0
            rw [List.length_map] at hc2
            unfold maxLen at hcm2
            rw [← ec2] at hc2 hcm2
            clear ec2
            rw [ea2]
            cases hhas : x.has with
            | true =>
              have HC : Hid (∀ ob, Calls Try.prog n (#[.agg #[.int .i64 x.op, .int .i64 x.rt]] ++ caps) (wr.alloc ob) fun e w2 => e = .returned (.tuple #[]) ∧ I (Wp.heldL (P.take k) ++ (p.slots.take (j + 1)).filter (·.has)) w2) := fun ob => by
                have := HST.out _ x p (wr.alloc ob) (HI.out.new _ _ ob HIJ.out) HPM.out HLV.out hxm hhas
                rw [htk, List.filter_append, List.filter_cons_of_pos hhas, List.filter_nil, ← List.append_assoc]
                exact this
              rw [hhas] at d0
              clear he2 ea2 h52 ho2 hi2 htk hhas hx hxm
              go_wp2_with fail
              refine Calls.mono (HC.out _) ?_
              rintro e w2 ⟨rfl, hI2⟩
              have HI2 : Hid (I (Wp.heldL (P.take k) ++ (p.slots.take (j + 1)).filter (·.has)) w2) := hI2
              clear hI2 d0 d1 d2
              go_wp2
              go_roundw
              case rel => exact ⟨j + 1, by omega, by go_num, HI2.out⟩
              case measure => simp [intOf]; omega
            | false =>
              have HC : Hid (∀ ob, I (Wp.heldL (P.take k) ++ (p.slots.take (j + 1)).filter (·.has)) (wr.alloc ob)) := fun ob => by
                rw [htk, List.filter_append, List.filter_cons_of_neg (by rw [hhas]; decide), List.filter_nil, List.append_nil]
                exact HI.out.new _ _ ob HIJ.out
              rw [hhas] at d0
              clear he2 ea2 h52 ho2 hi2 htk hhas hx hxm
              go_wp2
              go_roundw
              case rel => exact ⟨j + 1, by omega, by go_num, HC.out _⟩
              case measure => simp [intOf]; omega
          · obtain rfl : j = p.slots.length := by omega
            have HF : Hid (I (Wp.heldL (P.take (k + 1))) wr) := by
              have := HIJ.out
              rw [List.take_length] at this
              unfold Hid
              rw [HNX.out]
              exact this
            clear HIJ
            go_wp2
            go_roundw
            case rel => exact ⟨k + 1, by omega, by go_num, HF.out⟩
            case measure => simp [intOf]; omega
    · obtain rfl : k = ts.length := by omega
      have HF : Hid (I (Wp.heldL P) wr) := by
        have := HIK.out
        rw [List.take_of_length_le (by rw [HTS.out, List.length_map]; exact Nat.le_refl _)] at this
        exact this
      clear HIK
      go_wp2
      go_end0
      exact ⟨rfl, HF.out⟩
end Go.Proofs.Ytdciohinlhbliaa


/-
  sweep.knownProcs, walked: of which processes an object is.
-/
namespace Go.Proofs.Ytdciohinlhbliaa
open Go.RowKit
namespace Wp
def setB (ms : List Bool) (k : Int) : List Bool := if 0 ≤ k then ms.set k.toNat true else ms
def knowS (ms : List Bool) (o : Sp.Ob) : List Bool := if o.kind = 5 then setB ms o.proc else ms
/-- Of which processes an object is. -/
def knownB (L : List Sp.Ob) (n : Nat) : List Bool := L.foldl knowS (List.replicate n false)
theorem setB_len (ms : List Bool) (k : Int) : (setB ms k).length = ms.length := by unfold setB; split <;> simp
theorem setB_same {ms : List Bool} {k : Int} {n : Nat} (hn : ms.length = n) (h : k < 0 ∨ (n : Int) ≤ k ∨ ms.getD k.toNat false = true) : setB ms k = ms := by
  unfold setB
  by_cases h0 : 0 ≤ k
  · rw [if_pos h0]
    rcases h with h | h | h
    · omega
    · exact List.set_eq_of_length_le (by omega)
    · refine List.ext_getElem? fun i => ?_
      by_cases hi : i = k.toNat
      · subst hi
        rcases Nat.lt_or_ge k.toNat ms.length with hl | hl
        · rw [List.getElem?_set_self hl]
          rw [List.getD_eq_getElem?_getD, List.getElem?_eq_getElem hl] at h
          rw [List.getElem?_eq_getElem hl]
          simp at h
          rw [h]
        · rw [List.getElem?_eq_none (by simp; omega), List.getElem?_eq_none hl]
      · rw [List.getElem?_set_ne (by omega)]
  · rw [if_neg h0]
end Wp
/-- What marking comes to, in one word. -/
theorem MarkR.one {k : Int} {gb gr gm n : Nat} {ms : List Bool} {w w' : World} {e : Ending} (h : MarkR k gb gr gm n ms w e w') (hm : Marks w gb gr gm n ms) : (∃ b, e = .returned (.bool b)) ∧ Marks w' gb gr gm n (Wp.setB ms k) ∧ On (fun b => b ≠ gr) w w' ∧ w'.heap.size = w.heap.size ∧ ∀ B, B ≤ gr → Below B w w' := by
  rcases h with ⟨rfl, rfl, h⟩ | ⟨j, rfl, hj, _, rfl, h2, h3, h4, h5⟩
  · exact ⟨⟨_, rfl⟩, by rw [Wp.setB_same hm.len h]; exact hm, fun _ _ => rfl, rfl, fun B _ => Below.refl B _⟩
  · refine ⟨⟨_, rfl⟩, ?_, h3, h4, h5⟩
    unfold Wp.setB
    rw [if_pos (by omega), Int.toNat_natCast]
    exact h2
set_option maxRecDepth 100000 in
set_option maxHeartbeats 8000000 in
theorem known_any (L : List Sp.Ob) (np : Nat) (hn : np ≤ 1000000) (vo vp : Value) (pa : Option Addr) (pc : Nat) (S : Nat → Prop) (w : World) (hv : Objs w S vo L) (hS : ∀ b, S b → b < w.heap.size) :
    Calls Try.prog 70 #[.agg #[vo, vp, .slice pa np pc]] w fun e w' => ∃ gr : Nat, e = .returned (.slice (some ⟨gr, 0, none⟩) np np) ∧ Mine w' gr 4 1 (.slice (some ⟨gr, 0, none⟩) np np) ((Wp.knownB L np).map bC) ∧ w.heap.size ≤ gr ∧ Below w.heap.size w w' := by
  have HV : Hid (Objs w S vo L) := hv
  have HS : Hid (∀ b, S b → b < w.heap.size) := hS
  have HM : Hid (∀ w', Calls Try.prog 61 #[.int .i64 (np : Int)] w' _) := fun w' => marks_any np hn w'
  obtain ⟨a, c, rfl, hmx⟩ := hv.form
  unfold maxLen at hmx
  have HK0 : Hid (Blk (w.alloc (.cells #[.slice a L.length c, vp, .slice pa np pc] 27)) w.heap.size #[.slice a L.length c, vp, .slice pa np pc] 27) := Blk.new _ _ _
  have HB0 : Hid (Below w.heap.size w (w.alloc (.cells #[.slice a L.length c, vp, .slice pa np pc] 27))) := (Below.refl _ _).alloc (Nat.le_refl _) _
  clear hv hS
  go_enter Try.func70, Try.ntmps70
  go_wp2_with fail
  generalize (w.alloc (.cells #[.slice a L.length c, vp, .slice pa np pc] 27)) = w1 at *
  refine Calls.mono (HM.out w1) ?_
  rintro e w2 ⟨gb, gr, gm, rfl, hm2, hgb, hgr, hgm, hb2⟩
  have hK2 : Blk w2 w.heap.size #[.slice a L.length c, vp, .slice pa np pc] 27 := HK0.out.below hb2 HK0.out.lt
  have q0 := hK2.cell 0
  have HM2 : Hid (Marks w2 gb gr gm np (List.replicate np false)) := hm2
  have HB2 : Hid (Below w.heap.size w w2) := HB0.out.trans (hb2.mono HB0.out.size)
  have hz1 := HB0.out.size
  have HG : Hid (w.heap.size ≤ gb ∧ w.heap.size ≤ gr ∧ w.heap.size ≤ gm) := ⟨by omega, by omega, by omega⟩
  have eg : Enters Try.prog 81 := by unfold Enters; intro args w; rfl
  unfold Enters at eg
  clear hm2 hb2 hK2 HM hz1 hgb hgr hgm
  unfold markF
  go_wp2_with fail
  go_loopw [17] (fun i wr => ∃ k : Nat, k ≤ L.length ∧ i = .int .i64 k ∧ Marks wr gb gr gm np ((L.take k).foldl Wp.knowS (List.replicate np false)) ∧ Below w.heap.size w wr) (fun i _ => L.length - (intOf i).toNat)
  case atStart => exact ⟨0, Nat.zero_le _, rfl, HM2.out, HB2.out⟩
  case round =>
    obtain ⟨k, hk, rfl, hmk, hbk⟩ := hrel
    have HMK : Hid (Marks wr gb gr gm np ((L.take k).foldl Wp.knowS (List.replicate np false))) := hmk
    have HBK : Hid (Below w.heap.size w wr) := hbk
    clear hmk hbk
    by_cases hlt : k < L.length
    · obtain ⟨x, hx⟩ : ∃ x, L[k]? = some x := ⟨_, List.getElem?_eq_getElem hlt⟩
      have htk : (L.take (k + 1)).foldl Wp.knowS (List.replicate np false) = Wp.knowS ((L.take k).foldl Wp.knowS (List.replicate np false)) x := by
        rw [List.take_add_one, hx, List.foldl_append]; rfl
      obtain ⟨b, o, c', s, he, hSb, hc, hcm, -, c0, c1, c2, c3, c4, c5, c6, c7, c8⟩ := (HV.out.on ((On.of HBK.out).less HS.out)).open hx
      obtain ⟨rfl, -, rfl⟩ := Value.slice.inj he
      unfold maxLen at hcm
      have HAL : Hid (∀ ob, Marks (wr.alloc ob) gb gr gm np ((L.take k).foldl Wp.knowS (List.replicate np false)) ∧ Below w.heap.size w (wr.alloc ob)) := fun ob => ⟨HMK.out.on (On.alloc wr ob) HMK.out.box.lt (HMK.out.row.lt _ rfl).2 HMK.out.var.lt, HBK.out.alloc HBK.out.size _⟩
      clear he hx
      by_cases h5 : x.kind = 5
      · have HC : Hid (∀ ob, Calls Try.prog 81 #[.int .i64 x.proc, .pointer (some ⟨gb, 0, none⟩), .pointer (some ⟨gm, 0, none⟩)] (wr.alloc ob) fun e w2 => (∃ b, e = .returned (.bool b)) ∧ Marks w2 gb gr gm np ((L.take (k + 1)).foldl Wp.knowS (List.replicate np false)) ∧ Below w.heap.size w w2) := fun ob => by
          refine (mark_any x.proc gb gr gm np _ _ (HAL.out ob).1).mono fun e w2 h => ?_
          obtain ⟨h1, h2, -, -, h5'⟩ := h.one (HAL.out ob).1
          refine ⟨h1, ?_, (HAL.out ob).2.trans (h5' _ HG.out.2.1)⟩
          rw [htk]
          unfold Wp.knowS
          rw [if_pos h5]
          exact h2
        rw [h5] at c0
        clear htk h5
        go_wp2_with fail
        refine Calls.mono (HC.out _) ?_
        rintro e w3 ⟨⟨bb, rfl⟩, hm3, hb3⟩
        have HM3 : Hid _ := hm3
        have HB3 : Hid (Below w.heap.size w w3) := hb3
        clear hm3 hb3 c0 c1 c2 c3 c4 c5 c6 c7 c8
        go_wp2
        go_roundw
        case rel => exact ⟨k + 1, by omega, by go_num, HM3.out, HB3.out⟩
        case measure => simp [intOf]; omega
      · have h5' : (x.kind == 5) = false := by simpa using h5
        have HC : Hid (∀ ob, Marks (wr.alloc ob) gb gr gm np ((L.take (k + 1)).foldl Wp.knowS (List.replicate np false)) ∧ Below w.heap.size w (wr.alloc ob)) := fun ob => by
          rw [htk]
          unfold Wp.knowS
          rw [if_neg h5]
          exact HAL.out ob
        clear htk h5
        go_wp2
        go_roundw
        case rel => exact ⟨k + 1, by omega, by go_num, (HC.out _).1, (HC.out _).2⟩
        case measure => simp [intOf]; omega
    · obtain rfl : k = L.length := by omega
      rw [List.take_length] at HMK
      go_wp2
      go_ret
      exact ⟨gr, rfl, HMK.out.row, HG.out.2.1, HBK.out⟩
end Go.Proofs.Ytdciohinlhbliaa


/-
  What reached hands on objects to ('to'), walked.
-/
namespace Go.Proofs.Ytdciohinlhbliaa
open Go.RowKit
/-- A row of numbers, with one more behind it: where it lies then. -/
theorem more_int2 {w : World} {base : Nat} {v : Value} {es : List Int} {e : Int} {o : Oper} {ops : Array Oper} {rest : List Oper} {a : Act} {Q : Exit → Act → World → Prop} (hgd : o.guard = none) (s x : Operand)
    (ho : o.op = .call { callee := .builtin .append, args := #[s, x], argTypes := #[31, 31] }) (hs : a.eval s = v) (hown : Mine w base 3 1 v (es.map intC)) (b : Nat) (hxv : a.eval x = .slice (some ⟨b, 0, none⟩) 1 1) (hb : Blk w b #[.int .i64 e] 3) (hn : es.length ≤ 1000) (hbase : base ≤ w.heap.size)
    (h : ∀ r : Sl, ∀ w', Mine w' base 3 1 (.slice r.a r.n r.c) ((es ++ [e]).map intC) → w.heap.size ≤ w'.heap.size → (∀ B, B ≤ base → Below B w w') → On (fun b => b < w.heap.size ∧ some b ≠ v.ownBlock) w w' → ((Value.slice r.a r.n r.c).ownBlock = v.ownBlock ∨ (Value.slice r.a r.n r.c).ownBlock = some w.heap.size) → wpList Try.prog ops Q rest (a.put o.dst (.slice r.a r.n r.c)) w') : wpList Try.prog ops Q (o :: rest) a w := by
  obtain ⟨i0, hi, hz0, hz1, hz2⟩ := info_parts Try.infoInt
  refine wpList_append_row2 hgd s x _ ho base 3 i0 (.int .i64 0) 1 8 Try.underlying31 hi hz0 hz1 hz2 rfl (by decide) v (es.map intC) hs hown _ _ _ _ _ [intC e] hxv (one_row (cs := intC e) hb) (even_int [e]) (ones_int [e]) (even_int es) ?_ (by decide) hbase ?_
  · rw [List.length_map]; simp only [List.length_cons, List.length_nil]; omega
  · intro v' w' hm hg hw
    have hm' : Mine w' base 3 1 v' ((es ++ [e]).map intC) := by rw [List.map_append]; exact hm
    obtain ⟨r, rfl⟩ := hm'.sl
    have hB : ∀ B, B ≤ base → Below B w w' := fun B hB => Below.grown (Below.refl B w) hg (by omega) (fun k hk => by have := (hown.lt k hk).1; omega)
    exact h r w' hm' (hB 0 (Nat.zero_le _)).size hB (fun b hb => hg.block b hb.1 hb.2) hw
/-- Where reached stands: the kernel's box, the variable that marks, the variable of what is left, the marks; a block gx that is not touched. -/
structure Seek (w : World) (gk gv gl gb gr gm n lo gx : Nat) (kv : Array Value) (ms : List Bool) (left : List Int) : Prop where
  kern : Blk w gk kv 27
  fn : Blk w gv #[markF gb gm] 95
  lv : ∃ r : Sl, Blk w gl #[.slice r.a r.n r.c] 31 ∧ Mine w lo 3 1 (.slice r.a r.n r.c) (left.map intC) ∧ ∀ k, (Value.slice r.a r.n r.c).ownBlock = some k → k ≠ gx
  marks : Marks w gb gr gm n ms
  low : gk < lo ∧ gv < lo ∧ gl < lo ∧ gb < lo ∧ gr < lo ∧ gm < lo ∧ lo ≤ w.heap.size ∧ gx < w.heap.size
  apart : gr ≠ gk ∧ gr ≠ gv ∧ gr ≠ gl ∧ gl ≠ gk ∧ gl ≠ gv ∧ gl ≠ gb ∧ gl ≠ gm ∧ gx ≠ gr ∧ gx ≠ gl
namespace Wp
def toMs (L : List Sp.Ob) (ms : List Bool) (k : Int) : List Bool := if isObj L k = true ∧ ms.getD k.toNat false = false then ms.set k.toNat true else ms
def toLeft (L : List Sp.Ob) (ms : List Bool) (left : List Int) (k : Int) : List Int := if isObj L k = true ∧ ms.getD k.toNat false = false then left ++ [k] else left
end Wp
set_option maxRecDepth 100000 in
set_option maxHeartbeats 8000000 in
theorem to_any (L : List Sp.Ob) (k : Int) (vo vp vq : Value) (gk gv gl gb gr gm lo gx : Nat) (ms : List Bool) (left : List Int) (S : Nat → Prop) (w : World) (hs : Seek w gk gv gl gb gr gm L.length lo gx #[vo, vp, vq] ms left) (hv : Objs w S vo L) (hln : left.length ≤ 1000) :
    Calls Try.prog 62 #[.int .i64 k, .pointer (some ⟨gk, 0, none⟩), .pointer (some ⟨gv, 0, none⟩), .pointer (some ⟨gl, 0, none⟩)] w fun e w' => e = .returned (.tuple #[]) ∧ Seek w' gk gv gl gb gr gm L.length lo gx #[vo, vp, vq] (Wp.toMs L ms k) (Wp.toLeft L ms left k) ∧ On (fun b => (b < lo ∨ b = gx) ∧ b ≠ gr ∧ b ≠ gl) w w' ∧ ∀ B, B ≤ gr → B ≤ gl → Below B w w' := by
  have HS : Hid (Seek w gk gv gl gb gr gm L.length lo gx #[vo, vp, vq] ms left) := hs
  have HIO : Hid (Calls Try.prog 63 #[vo, .int .i64 k] w fun e w' => e = .returned (.bool (Wp.isObj L k)) ∧ w' = w) := wisObject_any L k vo S w hv
  have k0 : w.cell? ⟨gk, 0, none⟩ = some vo := hs.kern.cell 0
  have v0 : w.cell? ⟨gv, 0, none⟩ = some (markF gb gm) := hs.fn.cell 0
  have eg : Enters Try.prog 81 := by unfold Enters; intro args w; rfl
  unfold Enters at eg
  unfold markF at v0
  obtain ⟨a, c, rfl, -⟩ := hv.form
  clear hs hv
  cases ho : Wp.isObj L k with
  | false =>
    have e1 : Wp.toMs L ms k = ms := by unfold Wp.toMs; rw [if_neg (by rw [ho]; simp)]
    have e2 : Wp.toLeft L ms left k = left := by unfold Wp.toLeft; rw [if_neg (by rw [ho]; simp)]
    rw [e1, e2]
    rw [ho] at HIO
    clear ho e1 e2
    go_enter Try.func62, Try.ntmps62
    go_wp2_with fail
    refine Calls.mono HIO.out ?_
    rintro e w1 ⟨rfl, hw⟩
    rw [hw]
    clear hw
    go_wp2
    go_end0
    exact ⟨rfl, HS.out, fun _ _ => rfl, fun B _ _ => Below.refl B w⟩
  | true =>
    rw [ho] at HIO
    have HO : Hid (Wp.isObj L k = true) := ho
    have HMK : Hid (Calls Try.prog 81 #[.int .i64 k, .pointer (some ⟨gb, 0, none⟩), .pointer (some ⟨gm, 0, none⟩)] w fun e w' => MarkR k gb gr gm L.length ms w e w') := mark_any k gb gr gm L.length ms w HS.out.marks
    clear ho
    go_enter Try.func62, Try.ntmps62
    go_wp2_with fail
    refine Calls.mono HIO.out ?_
    rintro e w1 ⟨rfl, hw⟩
    rw [hw]
    clear hw
    go_wp2_with fail
    refine Calls.mono HMK.out ?_
    rintro e w2 h2
    rcases h2 with ⟨rfl, hw, hns⟩ | ⟨j, hkj, hj, hg, rfl, hm2, ho2, hs2, hb2⟩
    focus
      rw [hw]
      have hms : ms.getD k.toNat false = true := by
        rcases hns with h | h | h
        · have := HO.out; unfold Wp.isObj at this; rw [if_neg (by omega)] at this; cases this
        · have := HO.out
          unfold Wp.isObj at this
          rw [if_pos (by omega), List.getElem?_eq_none (by omega)] at this
          cases this
        · exact h
      have HE : Hid (Wp.toMs L ms k = ms ∧ Wp.toLeft L ms left k = left) := by
        unfold Hid Wp.toMs Wp.toLeft
        rw [if_neg (by rw [hms]; simp), if_neg (by rw [hms]; simp)]
        exact ⟨rfl, rfl⟩
      clear hw hns hms
      go_wp2
      go_end0
      exact ⟨rfl, by rw [HE.out.1, HE.out.2]; exact HS.out, fun _ _ => rfl, fun B _ _ => Below.refl B w⟩
    obtain ⟨r, hlv, hml, hox⟩ := HS.out.lv
    obtain ⟨q1, q2, q3, q4, q5, q6, q7, q8⟩ := HS.out.low
    obtain ⟨p1, p2, p3, p4, p5, p6, p7, p8, p9⟩ := HS.out.apart
    have hlv2 : Blk w2 gl #[.slice r.a r.n r.c] 31 := hlv.on ho2 (fun e => p3 e.symm)
    have hml2 : Mine w2 lo 3 1 (.slice r.a r.n r.c) (left.map intC) := hml.on ho2 (fun j hj => by have := (hml.lt j hj).1; omega)
    have l0 := hlv2.cell 0
    have HOX : Hid (∀ k, (Value.slice r.a r.n r.c).ownBlock = some k → lo ≤ k ∧ k ≠ gx) := fun k hk => ⟨(hml.lt k hk).1, hox k hk⟩
    have HLV : Hid (Blk w2 gl #[.slice r.a r.n r.c] 31) := hlv2
    have HML : Hid (Mine (w2.alloc (.cells #[.int .i64 k] 3)) lo 3 1 (.slice r.a r.n r.c) (left.map intC)) := hml2.on (On.alloc w2 _) (fun j hj => (hml2.lt j hj).2)
    have HNB : Hid (Blk (w2.alloc (.cells #[.int .i64 k] 3)) w2.heap.size #[.int .i64 k] 3) := Blk.new _ _ _
    have HE : Hid (Wp.toMs L ms k = ms.set j true ∧ Wp.toLeft L ms left k = left ++ [k]) := by
      unfold Hid Wp.toMs Wp.toLeft
      subst hkj
      rw [Int.toNat_natCast, if_pos ⟨HO.out, hg⟩, if_pos ⟨HO.out, hg⟩]
      exact ⟨rfl, rfl⟩
    have HM2 : Hid (Marks w2 gb gr gm L.length (ms.set j true)) := hm2
    have HO2 : Hid (On (fun b => b ≠ gr) w w2) := ho2
    have HS2 : Hid (w2.heap.size = w.heap.size) := hs2
    have HB2 : Hid (∀ B, B ≤ gr → Below B w w2) := hb2
    have hls2 : lo ≤ w2.heap.size := by omega
    clear hlv hml hox hlv2 hml2 hm2 ho2 hs2 hb2 hg hkj hj HMK
    go_wp2_with (with_reducible refine stop_at (.call { callee := .builtin .append, args := #[.tmp 14, .tmp 16], argTypes := #[31, 31] }) rfl ?_)
    unfold Hold
    refine more_int2 (v := .slice r.a r.n r.c) rfl _ _ rfl rfl HML.out w2.heap.size rfl HNB.out hln (by simp; omega) ?_
    intro r4 w4 hm4 hz4 hb4 hon4 hwh4
    have HW4 : Hid (∀ k, (Value.slice r4.a r4.n r4.c).ownBlock = some k → k ≠ gx) := fun k hk => by
      rcases hwh4 with h | h
      · exact (HOX.out k (by rw [← h]; exact hk)).2
      · rw [h] at hk
        have := HS2.out
        simp at hk
        omega
    have HON4 : Hid (On (fun b => b < w2.heap.size ∧ some b ≠ (Value.slice r.a r.n r.c).ownBlock) w2 w4) := ((On.alloc w2 (.cells #[.int .i64 k] 3)).less fun b hb => hb.1).trans (hon4.less fun b hb => ⟨by have := hb.1; simp; omega, hb.2⟩)
    have hB4 : Below lo w2 w4 := ((Below.refl lo w2).alloc hls2 _).trans (hb4 lo (Nat.le_refl _))
    have hlv4 : Blk w4 gl #[.slice r.a r.n r.c] 31 := HLV.out.below hB4 q3
    have l4 := hlv4.cell 0
    have f4 := hlv4.free 0
    have HLV4 : Hid (Blk w4 gl #[.slice r.a r.n r.c] 31) := hlv4
    have HM4 : Hid (Mine w4 lo 3 1 (.slice r4.a r4.n r4.c) ((left ++ [k]).map intC)) := hm4
    have HB4 : Hid (Below lo w2 w4) := hB4
    have HB4' : Hid (∀ B, B ≤ lo → Below B w2 w4) := fun B hB => ((Below.refl B w2).alloc (by omega) _).trans (hb4 B hB)
    clear hm4 hz4 hb4 hon4 hwh4 hB4 hlv4 l0 HML HNB
    go_wp2
    go_end0
    have o5 := On.set w4 ⟨gl, 0, none⟩ (.slice r4.a r4.n r4.c)
    have oAll : On (fun b => (b < lo ∨ b = gx) ∧ b ≠ gr ∧ b ≠ gl) w (w4.setCell ⟨gl, 0, none⟩ (.slice r4.a r4.n r4.c)) := ((HO2.out.less fun b hb => hb.2.1).trans (HON4.out.less fun b hb => by
      have hz := HS2.out
      refine ⟨by rcases hb.1 with h | h <;> omega, fun e => ?_⟩
      have := HOX.out b e.symm
      rcases hb.1 with h | h <;> omega)).trans (o5.less fun b hb => hb.2.2)
    refine ⟨rfl, ?_, oAll, fun B h1 h2 => ((HB2.out B h1).trans (HB4'.out B (by omega))).setCell (p := ⟨gl, 0, none⟩) h2 _⟩
    rw [HE.out.1, HE.out.2]
    have hmk4 : Marks w4 gb gr gm L.length (ms.set j true) := HM2.out.on (On.of HB4.out) q4 q5 q6
    refine ⟨HS.out.kern.on oAll ⟨Or.inl q1, fun e => p1 e.symm, fun e => p4 e.symm⟩, HS.out.fn.on oAll ⟨Or.inl q2, fun e => p2 e.symm, fun e => p5 e.symm⟩, ⟨r4, HLV4.out.set 0 _, HM4.out.on o5 (fun j hj => by have := (HM4.out.lt j hj).1; show j ≠ gl; omega), HW4.out⟩, hmk4.on o5 (fun e => p6 e.symm) p3 (fun e => p7 e.symm), ⟨q1, q2, q3, q4, q5, q6, ?_, ?_⟩, HS.out.apart⟩
    · have := HB4.out.size
      simp
      omega
    · have := HB4.out.size
      have := HS2.out
      simp
      omega
end Go.Proofs.Ytdciohinlhbliaa


/-
  What reached hands on capabilities to ('through'), walked.
-/
namespace Go.Proofs.Ytdciohinlhbliaa
open Go.RowKit
namespace Wp
/-- The object that a capability leads to; below 0: none. -/
def capObj (O : List Sp.Opn) (op : Int) : Int := if 0 ≤ op then (match O[op.toNat]? with | some x => x.obj | none => -1) else -1
end Wp
set_option maxRecDepth 100000 in
set_option maxHeartbeats 8000000 in
theorem through_w (L : List Sp.Ob) (O : List Sp.Opn) (op rt : Int) (vo vp vq : Value) (gk gv gl gt gb gr gm lo gx : Nat) (ms : List Bool) (left : List Int) (S : Nat → Prop) (w : World) (hs : Seek w gk gv gl gb gr gm L.length lo gx #[vo, vp, vq] ms left) (hv : Objs w S vo L) (hp : Row w S 2 vp (O.map opnC)) (hS : ∀ b, S b → b < lo ∧ b ≠ gr ∧ b ≠ gl) (ht : Blk w gt #[.func (.func 62) #[] #[.pointer (some ⟨gk, 0, none⟩), .pointer (some ⟨gv, 0, none⟩), .pointer (some ⟨gl, 0, none⟩)]] 84) (hln : left.length ≤ 1000) :
    Calls Try.prog 64 #[hcapV op rt, .pointer (some ⟨gk, 0, none⟩), .pointer (some ⟨gt, 0, none⟩)] w fun e w' => e = .returned (.tuple #[]) ∧ Seek w' gk gv gl gb gr gm L.length lo gx #[vo, vp, vq] (Wp.toMs L ms (Wp.capObj O op)) (Wp.toLeft L ms left (Wp.capObj O op)) ∧ On (fun b => (b < lo ∨ b = gx) ∧ b ≠ gr ∧ b ≠ gl) w w' ∧ ∀ B, B ≤ gr → B ≤ gl → B ≤ lo → Below B w w' := by
  obtain ⟨pa, pc, rfl, hpm⟩ := Row.form hp
  rw [List.length_map] at hp hpm hs
  have HNO : Hid (∀ k : Int, k < 0 → Wp.toMs L ms k = ms ∧ Wp.toLeft L ms left k = left) := fun k hk => by
    have : Wp.isObj L k = false := by unfold Wp.isObj; rw [if_neg (by omega)]
    unfold Wp.toMs Wp.toLeft
    rw [if_neg (by rw [this]; simp), if_neg (by rw [this]; simp)]
    exact ⟨rfl, rfl⟩
  have k1 : w.cell? ⟨gk, 1, none⟩ = some (.slice pa O.length pc) := hs.kern.cell 1
  have t0 : w.cell? ⟨gt, 0, none⟩ = some (.func (.func 62) #[] #[.pointer (some ⟨gk, 0, none⟩), .pointer (some ⟨gv, 0, none⟩), .pointer (some ⟨gl, 0, none⟩)]) := ht.cell 0
  have hgk := hs.kern.lt
  have hgt := ht.lt
  have hlow := hs.low
  have hbox : ∀ ob, Seek (w.alloc ob) gk gv gl gb gr gm L.length lo gx #[vo, .slice pa O.length pc, vq] ms left := fun ob => by
    obtain ⟨r, h1, h2, h3⟩ := hs.lv
    refine ⟨hs.kern.alloc _, hs.fn.alloc _, ⟨r, h1.alloc _, h2.on (On.alloc w _) (fun j hj => (h2.lt j hj).2), h3⟩, hs.marks.on (On.alloc w _) hs.marks.box.lt (hs.marks.row.lt _ rfl).2 hs.marks.var.lt, ⟨hlow.1, hlow.2.1, hlow.2.2.1, hlow.2.2.2.1, hlow.2.2.2.2.1, hlow.2.2.2.2.2.1, ?_, ?_⟩, hs.apart⟩
    · have := hlow.2.2.2.2.2.2.1
      simp
      omega
    · have := hlow.2.2.2.2.2.2.2
      simp
      omega
  have HBX : Hid _ := hbox
  have HV : Hid (Objs w S vo L) := hv
  have HSS : Hid (∀ b, S b → b < lo ∧ b ≠ gr ∧ b ≠ gl) := hS
  have HLO : Hid (lo ≤ w.heap.size ∧ gx < w.heap.size) := hlow.2.2.2.2.2.2
  unfold maxLen at hpm
  have eg : Enters Try.prog 62 := by unfold Enters; intro args w; rfl
  unfold Enters at eg
  by_cases h0 : 0 ≤ op
  · by_cases h1 : op < (O.length : Int)
    · obtain ⟨j, rfl⟩ := Int.eq_ofNat_of_zero_le h0
      have hj : j < O.length := by omega
      obtain ⟨x, hx⟩ : ∃ x, O[j]? = some x := ⟨_, List.getElem?_eq_getElem hj⟩
      have hc : Wp.capObj O (j : Int) = x.obj := by unfold Wp.capObj; rw [if_pos h0, Int.toNat_natCast, hx]
      rw [hc]
      obtain ⟨b, o, c', he, hSb, hcl, hcm, h5⟩ := hp.some (by rw [List.length_map]; omega)
      obtain ⟨rfl, -, rfl⟩ := Value.slice.inj he
      rw [List.length_map] at hcl
      have d0 := h5 j (opnC x) (by rw [List.getElem?_map, hx]; rfl) 0 _ rfl
      rw [Nat.add_zero] at d0
      have hbl := (hS b hSb).1
      have g1 : (w.alloc (.cells #[.int .i64 (j : Int), .int .i64 rt] 50)).cell? ⟨gk, 1, none⟩ = some (.slice (some ⟨b, o, none⟩) O.length pc) := by rw [(On.alloc w _).cell hgk]; exact k1
      have g2 : (w.alloc (.cells #[.int .i64 (j : Int), .int .i64 rt] 50)).cell? ⟨gt, 0, none⟩ = some (.func (.func 62) #[] #[.pointer (some ⟨gk, 0, none⟩), .pointer (some ⟨gv, 0, none⟩), .pointer (some ⟨gl, 0, none⟩)]) := by rw [(On.alloc w _).cell hgt]; exact t0
      have g3 : (w.alloc (.cells #[.int .i64 (j : Int), .int .i64 rt] 50)).cell? ⟨b, o + j * 2, none⟩ = some (.int .i64 x.obj) := by rw [(On.alloc w _).cell (by omega)]; exact d0
      have g4 : (w.alloc (.cells #[.int .i64 (j : Int), .int .i64 rt] 50)).cell? ⟨w.heap.size, 0, none⟩ = some (.int .i64 (j : Int)) := (Blk.new w #[.int .i64 (j : Int), .int .i64 rt] 50).cell 0
      have hb1 := hbox (.cells #[.int .i64 (j : Int), .int .i64 rt] 50)
      have HTO : Hid (Calls Try.prog 62 #[.int .i64 x.obj, .pointer (some ⟨gk, 0, none⟩), .pointer (some ⟨gv, 0, none⟩), .pointer (some ⟨gl, 0, none⟩)] (w.alloc (.cells #[.int .i64 (j : Int), .int .i64 rt] 50)).drew _) := to_any L x.obj vo (.slice (some ⟨b, o, none⟩) O.length pc) vq gk gv gl gb gr gm lo gx ms left S (w.alloc (.cells #[.int .i64 (j : Int), .int .i64 rt] 50)).drew ⟨hb1.kern, hb1.fn, hb1.lv, ⟨hb1.marks.box, hb1.marks.row, hb1.marks.var, hb1.marks.len, hb1.marks.apart⟩, hb1.low, hb1.apart⟩ (HV.out.on ((On.alloc w _).less fun b hb => by have := (HSS.out b hb).1; have := HLO.out; omega)) hln
      have HA : Hid (On (fun b => (b < lo ∨ b = gx) ∧ b ≠ gr ∧ b ≠ gl) w (w.alloc (.cells #[.int .i64 (j : Int), .int .i64 rt] 50)).drew ∧ ∀ B, B ≤ lo → Below B w (w.alloc (.cells #[.int .i64 (j : Int), .int .i64 rt] 50)).drew) := ⟨(On.alloc w _).less fun b hb => by have := HLO.out; omega, fun B h => ((Below.refl B w).alloc (by have := HLO.out; omega) _).drew⟩
      unfold hcapV
      clear hs hv hp ht hc hbox hb1 hlow hS he h5 d0 k1 t0 hx
      go_enter Try.func64, Try.ntmps64
      go_wp2_with fail
      generalize (w.alloc (.cells #[.int .i64 (j : Int), .int .i64 rt] 50)) = w1 at *
      go_region_with (go_at_call 62; refine Calls.mono HTO.out ?_; rintro e w2 ⟨rfl, hsk, hon, hbe⟩)
      all_goals
        have HSK : Hid _ := hsk
        have HON : Hid _ := hon
        have HBE : Hid _ := hbe
        clear hsk hon hbe
        go_wp2
        go_end0
        exact ⟨rfl, HSK.out, HA.out.1.trans HON.out, fun B h1 h2 h3 => (HA.out.2 B h3).trans (HBE.out B h1 h2)⟩
    · have hc : Wp.capObj O op = -1 := by unfold Wp.capObj; rw [if_pos h0, List.getElem?_eq_none (by omega)]
      obtain ⟨e1, e2⟩ := HNO.out (-1) (by decide)
      rw [hc, e1, e2]
      unfold hcapV
      clear hs hv hp ht hc e1 e2 hbox hlow hS
      go_enter Try.func64, Try.ntmps64
      go_wp2
      go_end0
      exact ⟨rfl, HBX.out _, (On.alloc w _).less fun b hb => by have := HLO.out; omega, fun B _ _ h => (Below.refl B w).alloc (by have := HLO.out; omega) _⟩
  · have hc : Wp.capObj O op = -1 := by unfold Wp.capObj; rw [if_neg h0]
    obtain ⟨e1, e2⟩ := HNO.out (-1) (by decide)
    rw [hc, e1, e2]
    unfold hcapV
    clear hs hv hp ht hc e1 e2 hbox hlow hS
    go_enter Try.func64, Try.ntmps64
    go_wp2
    go_end0
    exact ⟨rfl, HBX.out _, (On.alloc w _).less fun b hb => by have := HLO.out; omega, fun B _ _ h => (Below.refl B w).alloc (by have := HLO.out; omega) _⟩
end Go.Proofs.Ytdciohinlhbliaa


/-
  What is pushed on while one seeks what one can come to: plain facts.
-/
namespace Go.Proofs.Ytdciohinlhbliaa
open Go.RowKit
namespace Wp
def pushK (L : List Sp.Ob) (st : List Bool × List Int) (k : Int) : List Bool × List Int := (toMs L st.1 k, toLeft L st.1 st.2 k)
def pushAll (L : List Sp.Ob) (st : List Bool × List Int) (ks : List Int) : List Bool × List Int := ks.foldl (pushK L) st
theorem pushAll_one (L : List Sp.Ob) (st : List Bool × List Int) (ks : List Int) (k : Int) : pushAll L st (ks ++ [k]) = pushK L (pushAll L st ks) k := by
  unfold pushAll
  rw [List.foldl_append]
  rfl
theorem isObj_nat {L : List Sp.Ob} {k : Int} (h : isObj L k = true) : ∃ n : Nat, k = n ∧ n < L.length := by
  unfold isObj at h
  by_cases h0 : 0 ≤ k
  · obtain ⟨n, rfl⟩ := Int.eq_ofNat_of_zero_le h0
    rw [if_pos h0, Int.toNat_natCast] at h
    refine ⟨n, rfl, ?_⟩
    cases hx : L[n]? with
    | none => rw [hx] at h; cases h
    | some o => exact (List.getElem?_eq_some_iff.1 hx).1
  · rw [if_neg h0] at h; cases h
theorem getD_lt {ms : List Bool} {j : Nat} (h : ms.getD j false = true) : j < ms.length := by
  rcases Nat.lt_or_ge j ms.length with h1 | h1
  · exact h1
  · rw [List.getD_eq_getElem?_getD, List.getElem?_eq_none h1] at h; cases h
theorem getD_set {ms : List Bool} {j i : Nat} : (ms.set i true).getD j false = true ↔ ms.getD j false = true ∨ (j = i ∧ i < ms.length) := by
  rw [List.getD_eq_getElem?_getD, List.getD_eq_getElem?_getD, List.getElem?_set]
  by_cases h : i = j
  · subst h
    by_cases hl : i < ms.length
    · simp [hl]
    · rw [if_pos rfl, if_neg hl, List.getElem?_eq_none (by omega)]
      simp [hl]
  · rw [if_neg h]
    constructor
    · exact Or.inl
    · rintro (h1 | ⟨h1, _⟩)
      · exact h1
      · exact absurd h1.symm h
theorem cnt_set : ∀ {ms : List Bool} {i : Nat}, i < ms.length → ms.getD i false = false → cnt (ms.set i true) = cnt ms + 1
  | [], i, h, _ => by simp at h
  | b :: t, 0, _, h => by
    simp at h
    subst h
    unfold cnt
    simp
  | b :: t, i + 1, hl, h => by
    have h' : t.getD i false = false := by simpa using h
    have := cnt_set (ms := t) (i := i) (by simpa using hl) h'
    unfold cnt at this ⊢
    rw [List.set_cons_succ, List.countP_cons, List.countP_cons, this]
    omega
theorem cnt_len (ms : List Bool) : cnt ms ≤ ms.length := List.countP_le_length
/-- What has been pushed on. -/
structure Pushed (L : List Sp.Ob) (st st' : List Bool × List Int) (ks : List Int) : Prop where
  len : st'.1.length = st.1.length
  mono : ∀ j : Nat, st.1.getD j false = true → st'.1.getD j false = true
  new : ∀ j : Nat, st'.1.getD j false = true → st.1.getD j false = true ∨ ((j : Int) ∈ ks ∧ isObj L (j : Int) = true ∧ (j : Int) ∈ st'.2)
  keep : ∀ x ∈ st.2, x ∈ st'.2
  from_ : ∀ x ∈ st'.2, x ∈ st.2 ∨ ∃ j : Nat, x = j ∧ st'.1.getD j false = true
  all : ∀ j : Nat, (j : Int) ∈ ks → isObj L (j : Int) = true → st'.1.getD j false = true
  count : st'.2.length + cnt st.1 = st.2.length + cnt st'.1
theorem pushK_ok (L : List Sp.Ob) (st : List Bool × List Int) (k : Int) (hl : st.1.length = L.length) : Pushed L st (pushK L st k) [k] := by
  unfold pushK toMs toLeft
  by_cases h : isObj L k = true ∧ st.1.getD k.toNat false = false
  · obtain ⟨n, rfl, hn⟩ := isObj_nat h.1
    rw [if_pos h, if_pos h]
    have hg : st.1.getD n false = false := by simpa using h.2
    have ho := h.1
    rw [Int.toNat_natCast]
    refine ⟨by simp, fun j hj => getD_set.2 (Or.inl hj), fun j hj => ?_, fun x hx => List.mem_append_left _ hx, fun x hx => ?_, fun j hj _ => ?_, ?_⟩
    · rcases getD_set.1 hj with h1 | ⟨rfl, _⟩
      · exact Or.inl h1
      · exact Or.inr ⟨List.mem_singleton.2 rfl, ho, List.mem_append_right _ (List.mem_singleton.2 rfl)⟩
    · rcases List.mem_append.1 hx with h1 | h1
      · exact Or.inl h1
      · exact Or.inr ⟨n, List.mem_singleton.1 h1, getD_set.2 (Or.inr ⟨rfl, by omega⟩)⟩
    · have : j = n := by have := List.mem_singleton.1 hj; omega
      subst this
      exact getD_set.2 (Or.inr ⟨rfl, by omega⟩)
    · dsimp only
      rw [cnt_set (by omega) hg, List.length_append, List.length_singleton]
      omega
  · rw [if_neg h, if_neg h]
    refine ⟨rfl, fun j hj => hj, fun j hj => Or.inl hj, fun x hx => hx, fun x hx => Or.inl hx, fun j hj ho => ?_, rfl⟩
    have : k = (j : Int) := (List.mem_singleton.1 hj).symm
    subst this
    rw [Int.toNat_natCast] at h
    cases hg : st.1.getD j false with
    | true => rfl
    | false => exact absurd ⟨ho, hg⟩ h
theorem Pushed.refl (L : List Sp.Ob) (st : List Bool × List Int) : Pushed L st st [] := ⟨rfl, fun _ h => h, fun _ h => Or.inl h, fun _ h => h, fun _ h => Or.inl h, fun _ h => absurd h List.not_mem_nil, rfl⟩
theorem Pushed.trans {L : List Sp.Ob} {a b c : List Bool × List Int} {ks ks' : List Int} (h : Pushed L a b ks) (h' : Pushed L b c ks') : Pushed L a c (ks ++ ks') := by
  refine ⟨h'.len.trans h.len, fun j hj => h'.mono j (h.mono j hj), fun j hj => ?_, fun x hx => h'.keep x (h.keep x hx), fun x hx => ?_, fun j hj ho => ?_, by have := h.count; have := h'.count; omega⟩
  · rcases h'.new j hj with h1 | ⟨h1, h2, h3⟩
    · rcases h.new j h1 with g1 | ⟨g1, g2, g3⟩
      · exact Or.inl g1
      · exact Or.inr ⟨List.mem_append_left _ g1, g2, h'.keep _ g3⟩
    · exact Or.inr ⟨List.mem_append_right _ h1, h2, h3⟩
  · rcases h'.from_ x hx with h1 | h1
    · rcases h.from_ x h1 with g1 | ⟨j, rfl, g2⟩
      · exact Or.inl g1
      · exact Or.inr ⟨j, rfl, h'.mono j g2⟩
    · exact Or.inr h1
  · rcases List.mem_append.1 hj with h1 | h1
    · exact h'.mono j (h.all j h1 ho)
    · exact h'.all j h1 ho
theorem pushAll_ok (L : List Sp.Ob) : ∀ (ks : List Int) (st : List Bool × List Int), st.1.length = L.length → Pushed L st (pushAll L st ks) ks
  | [], st, _ => Pushed.refl L st
  | k :: ks, st, hl => by
    have h1 := pushK_ok L st k hl
    have h2 := pushAll_ok L ks (pushK L st k) (by rw [h1.len]; exact hl)
    exact h1.trans h2
/-- The capabilities' objects. -/
def entK (o : Sp.Ob) : List Int := o.ents.map fun e => e.obj
def queK (K : Kn) (o : Sp.Ob) : List Int := (o.queue.filter fun m => m.has).map fun m => capObj K.O m.op
def heldK (K : Kn) : List Int := (heldL K.P).map fun s => capObj K.O s.op
def seek0 (K : Kn) : List Bool × List Int := pushAll K.L (pushK K.L (List.replicate K.L.length false, []) 0) (heldK K)
/-- Where the search stands: nothing is marked that one can't come to; roots are; of all that is marked and not left, what it leads to is. -/
structure Seeking (K : Kn) (st : List Bool × List Int) : Prop where
  len : st.1.length = K.L.length
  just : ∀ n : Nat, st.1.getD n false = true → Come K n
  root : ∀ n : Nat, n < K.L.length → rootB K n = true → st.1.getD n false = true
  left : ∀ x ∈ st.2, ∃ j : Nat, x = j ∧ st.1.getD j false = true
  next : ∀ (i n : Nat) (o : Sp.Ob), st.1.getD i false = true → (i : Int) ∉ st.2 → K.L[i]? = some o → n < K.L.length → nextB K o n = true → st.1.getD n false = true
  count : st.2.length ≤ cnt st.1
theorem leads_cap {K : Kn} {op : Int} {n : Nat} : leads K op n = true ↔ capObj K.O op = (n : Int) ∧ isObj K.L n = true := by
  unfold leads capObj
  by_cases h0 : 0 ≤ op
  · rw [if_pos h0, if_pos h0]
    cases K.O[op.toNat]? with
    | none => simp
    | some x => simp
  · rw [if_neg h0, if_neg h0]
    simp
theorem rootB_iff {K : Kn} {n : Nat} : rootB K n = true ↔ isObj K.L (n : Int) = true ∧ (n = 0 ∨ (n : Int) ∈ heldK K) := by
  unfold rootB heldK heldL
  rw [Bool.or_eq_true, Bool.and_eq_true, List.any_eq_true]
  constructor
  · rintro (⟨h1, h2⟩ | ⟨p, hp, h⟩)
    · have : n = 0 := by simpa using h1
      subst this
      exact ⟨h2, Or.inl rfl⟩
    · rw [Bool.and_eq_true, List.any_eq_true] at h
      obtain ⟨hl, s, hs, h⟩ := h
      rw [Bool.and_eq_true, leads_cap] at h
      refine ⟨h.2.2, Or.inr (List.mem_map.2 ⟨s, List.mem_flatMap.2 ⟨p, hp, ?_⟩, h.2.1⟩)⟩
      unfold heldP
      rw [if_pos hl]
      exact List.mem_filter.2 ⟨hs, h.1⟩
  · rintro ⟨ho, h | h⟩
    · subst h
      exact Or.inl ⟨by simp, ho⟩
    · obtain ⟨s, hs, he⟩ := List.mem_map.1 h
      obtain ⟨p, hp, hsp⟩ := List.mem_flatMap.1 hs
      refine Or.inr ⟨p, hp, ?_⟩
      unfold heldP at hsp
      split at hsp
      · rename_i hl
        obtain ⟨h1, h2⟩ := List.mem_filter.1 hsp
        rw [Bool.and_eq_true, List.any_eq_true]
        exact ⟨hl, s, h1, by rw [Bool.and_eq_true, leads_cap]; exact ⟨h2, he, ho⟩⟩
      · exact absurd hsp List.not_mem_nil
theorem nextB_iff {K : Kn} {o : Sp.Ob} {n : Nat} : nextB K o n = true ↔ isObj K.L (n : Int) = true ∧ ((n : Int) ∈ entK o ∨ (n : Int) ∈ queK K o) := by
  unfold nextB entK queK
  rw [Bool.or_eq_true, List.any_eq_true, List.any_eq_true]
  constructor
  · rintro (⟨e, he, h⟩ | ⟨m, hm, h⟩)
    · rw [Bool.and_eq_true] at h
      exact ⟨h.2, Or.inl (List.mem_map.2 ⟨e, he, by simpa using h.1⟩)⟩
    · rw [Bool.and_eq_true, leads_cap] at h
      exact ⟨h.2.2, Or.inr (List.mem_map.2 ⟨m, List.mem_filter.2 ⟨hm, h.1⟩, h.2.1⟩)⟩
  · rintro ⟨ho, h | h⟩
    · obtain ⟨e, he, h1⟩ := List.mem_map.1 h
      exact Or.inl ⟨e, he, by rw [Bool.and_eq_true]; exact ⟨by simpa using h1, ho⟩⟩
    · obtain ⟨m, hm, h1⟩ := List.mem_map.1 h
      obtain ⟨h2, h3⟩ := List.mem_filter.1 hm
      exact Or.inr ⟨m, h2, by rw [Bool.and_eq_true, leads_cap]; exact ⟨h3, h1, ho⟩⟩
theorem seek0_ok (K : Kn) : Seeking K (seek0 K) := by
  have h1 := pushK_ok K.L (List.replicate K.L.length false, []) 0 (by simp)
  have h2 := pushAll_ok K.L (heldK K) (pushK K.L (List.replicate K.L.length false, []) 0) (by rw [h1.len]; simp)
  have h := h1.trans h2
  have h0 : ∀ n : Nat, (List.replicate K.L.length false).getD n false = false := fun n => by
    rw [List.getD_eq_getElem?_getD, List.getElem?_replicate]
    split <;> rfl
  have hc0 : cnt (List.replicate K.L.length false) = 0 := by unfold cnt; simp
  refine ⟨by have := h.len; unfold seek0; simpa using this, fun n hn => ?_, fun n hn hr => ?_, fun x hx => ?_, fun i n o hi hni _ _ _ => ?_, by have := h.count; simp [hc0] at this; unfold seek0; omega⟩
  · rcases h.new n hn with h3 | ⟨h3, h4, _⟩
    · rw [show ((List.replicate K.L.length false, []) : List Bool × List Int).1 = List.replicate K.L.length false from rfl, h0] at h3; cases h3
    · obtain ⟨m, hm, hml⟩ := isObj_nat h4
      have : n = m := by omega
      subst this
      refine ⟨hml, fun M hM => hM.1 n hml (rootB_iff.2 ⟨h4, ?_⟩)⟩
      rcases List.mem_append.1 h3 with g | g
      · exact Or.inl (by have := List.mem_singleton.1 g; omega)
      · exact Or.inr g
  · obtain ⟨g1, g2⟩ := rootB_iff.1 hr
    refine h.all n ?_ g1
    rcases g2 with g | g
    · subst g; exact List.mem_append_left _ (List.mem_singleton.2 rfl)
    · exact List.mem_append_right _ g
  · rcases h.from_ x hx with h3 | h3
    · exact absurd h3 List.not_mem_nil
    · exact h3
  · rcases h.new i hi with h3 | ⟨_, _, h5⟩
    · rw [show ((List.replicate K.L.length false, []) : List Bool × List Int).1 = List.replicate K.L.length false from rfl, h0] at h3; cases h3
    · exact absurd h5 hni
/-- One is taken: what it leads to is pushed on. -/
theorem seeking_next {K : Kn} {ms : List Bool} {lf : List Int} {i : Nat} {o : Sp.Ob} (h : Seeking K (ms, lf ++ [(i : Int)])) (ho : K.L[i]? = some o) : Seeking K (pushAll K.L (pushAll K.L (ms, lf) (entK o)) (queK K o)) ∧ (pushAll K.L (pushAll K.L (ms, lf) (entK o)) (queK K o)).2.length + cnt ms = lf.length + cnt (pushAll K.L (pushAll K.L (ms, lf) (entK o)) (queK K o)).1 := by
  have hl : ms.length = K.L.length := h.len
  have h1 := pushAll_ok K.L (entK o) (ms, lf) hl
  have h2 := pushAll_ok K.L (queK K o) (pushAll K.L (ms, lf) (entK o)) (by rw [h1.len]; exact hl)
  have hp := h1.trans h2
  have hil : i < K.L.length := (List.getElem?_eq_some_iff.1 ho).1
  obtain ⟨_, hij, him⟩ := h.left (i : Int) (List.mem_append_right _ (List.mem_singleton.2 rfl))
  have him' : ms.getD i false = true := by
    have : i = _ := Int.ofNat.inj hij
    rw [this]
    exact him
  refine ⟨⟨by rw [hp.len]; exact hl, fun n hn => ?_, fun n hn hr => hp.mono n (h.root n hn hr), fun x hx => ?_, fun a n oa ha hna hoa hn hx => ?_, ?_⟩, hp.count⟩
  · rcases hp.new n hn with h3 | ⟨h3, h4, _⟩
    · exact h.just n h3
    · obtain ⟨m, hm, hml⟩ := isObj_nat h4
      have : n = m := by omega
      subst this
      have hci := h.just i him'
      exact ⟨hml, fun M hM => hM.2 i n o (hci.2 M hM) ho hml (nextB_iff.2 ⟨h4, List.mem_append.1 h3⟩)⟩
  · rcases hp.from_ x hx with h3 | h3
    · obtain ⟨j, hj, hm⟩ := h.left x (List.mem_append_left _ h3)
      exact ⟨j, hj, hp.mono j hm⟩
    · exact h3
  · rcases hp.new a ha with h3 | ⟨_, _, h5⟩
    · by_cases hai : a = i
      · subst hai
        rw [ho] at hoa
        cases hoa
        obtain ⟨g1, g2⟩ := nextB_iff.1 hx
        exact hp.all n (List.mem_append.2 g2) g1
      · refine hp.mono n (h.next a n oa h3 (fun hm => ?_) hoa hn hx)
        rcases List.mem_append.1 hm with g | g
        · exact hna (hp.keep _ g)
        · exact hai (by have := List.mem_singleton.1 g; omega)
    · exact absurd h5 hna
  · have := hp.count
    have hc := h.count
    rw [List.length_append, List.length_singleton] at hc
    dsimp only at hc this
    omega
theorem seeking_end {K : Kn} {ms : List Bool} (h : Seeking K (ms, [])) : ms = reachB K := reachB_uniq K h.len (fun n _ hn => h.just n hn) ⟨h.root, fun i n o hi ho hn hx => h.next i n o hi List.not_mem_nil ho hn hx⟩
end Wp
end Go.Proofs.Ytdciohinlhbliaa


/-
  sweep.reached, walked.
-/
namespace Go.Proofs.Ytdciohinlhbliaa
open Go.RowKit
open Wp
theorem Seek.alloc {w : World} {gk gv gl gb gr gm n lo gx : Nat} {kv : Array Value} {ms : List Bool} {left : List Int} (h : Seek w gk gv gl gb gr gm n lo gx kv ms left) (o : Obj) : Seek (w.alloc o) gk gv gl gb gr gm n lo gx kv ms left := by
  obtain ⟨r, h1, h2, h3⟩ := h.lv
  obtain ⟨q1, q2, q3, q4, q5, q6, q7, q8⟩ := h.low
  refine ⟨h.kern.alloc _, h.fn.alloc _, ⟨r, h1.alloc _, h2.on (On.alloc w _) (fun j hj => (h2.lt j hj).2), h3⟩, h.marks.on (On.alloc w _) h.marks.box.lt (h.marks.row.lt _ rfl).2 h.marks.var.lt, ⟨q1, q2, q3, q4, q5, q6, ?_, ?_⟩, h.apart⟩
  · simp
    omega
  · simp
    omega
/-- Where the search stands in memory: nothing else has been touched. -/
structure RS (n lo gx gk gv gl gt gb gr gm : Nat) (kv : Array Value) (W w1 : World) (st : List Bool × List Int) : Prop where
  seek : Seek w1 gk gv gl gb gr gm n lo gx kv st.1 st.2
  on : On (fun b => b < lo ∧ b ≠ gr ∧ b ≠ gl) W w1
  size : W.heap.size ≤ w1.heap.size
  below : ∀ B, B ≤ gr → B ≤ gl → B ≤ lo → Below B W w1
  tv : Blk w1 gt #[.func (.func 62) #[] #[.pointer (some ⟨gk, 0, none⟩), .pointer (some ⟨gv, 0, none⟩), .pointer (some ⟨gl, 0, none⟩)]] 84
  tlow : gt < lo ∧ gt ≠ gr ∧ gt ≠ gl
  len : st.1.length = n
  many : st.2.length ≤ cnt st.1
theorem RS.alloc {n lo gx gk gv gl gt gb gr gm : Nat} {kv : Array Value} {W w1 : World} {st : List Bool × List Int} (h : RS n lo gx gk gv gl gt gb gr gm kv W w1 st) (o : Obj) : RS n lo gx gk gv gl gt gb gr gm kv W (w1.alloc o) st := by
  have hlo := h.seek.low.2.2.2.2.2.2.1
  exact ⟨h.seek.alloc o, h.on.trans ((On.alloc w1 o).less fun b hb => by omega), by have := h.size; simp; omega, fun B h1 h2 h3 => (h.below B h1 h2 h3).alloc (by omega) _, h.tv.alloc o, h.tlow, h.len, h.many⟩
theorem RS.to {L : List Sp.Ob} {lo gx gk gv gl gt gb gr gm : Nat} {vo vp vq : Value} {W w1 : World} {st : List Bool × List Int} (h : RS L.length lo gx gk gv gl gt gb gr gm #[vo, vp, vq] W w1 st) (k : Int) (S : Nat → Prop) (hv : Objs w1 S vo L) (hL : L.length ≤ 1000) :
    Calls Try.prog 62 #[.int .i64 k, .pointer (some ⟨gk, 0, none⟩), .pointer (some ⟨gv, 0, none⟩), .pointer (some ⟨gl, 0, none⟩)] w1 fun e w' => e = .returned (.tuple #[]) ∧ RS L.length lo gx gk gv gl gt gb gr gm #[vo, vp, vq] W w' (pushK L st k) ∧ On (fun b => (b < lo ∨ b = gx) ∧ b ≠ gr ∧ b ≠ gl) w1 w' ∧ w1.heap.size ≤ w'.heap.size := by
  have hc := cnt_len st.1
  have hm := h.many
  have hl := h.len
  have hp := pushK_ok L st k hl
  refine (to_any L k vo vp vq gk gv gl gb gr gm lo gx st.1 st.2 S w1 h.seek hv (by omega)).mono ?_
  rintro e w' ⟨rfl, hs, hon, hb⟩
  have hz : w1.heap.size ≤ w'.heap.size := (hb 0 (Nat.zero_le _) (Nat.zero_le _)).size
  refine ⟨rfl, ⟨hs, h.on.trans (hon.less fun b hb => ⟨Or.inl hb.1, hb.2⟩), Nat.le_trans h.size hz, fun B h1 h2 h3 => (h.below B h1 h2 h3).trans (hb B h1 h2), h.tv.on hon ⟨Or.inl h.tlow.1, h.tlow.2⟩, h.tlow, by rw [hp.len]; exact hl, by have := hp.count; omega⟩, hon, hz⟩
theorem RS.through {L : List Sp.Ob} {O : List Sp.Opn} {lo gx gk gv gl gt gb gr gm : Nat} {vo vp vq : Value} {W w1 : World} {st : List Bool × List Int} (h : RS L.length lo gx gk gv gl gt gb gr gm #[vo, vp, vq] W w1 st) (op rt : Int) (S : Nat → Prop) (hv : Objs w1 S vo L) (hp : Row w1 S 2 vp (O.map opnC)) (hS : ∀ b, S b → b < lo ∧ b ≠ gr ∧ b ≠ gl) (hL : L.length ≤ 1000) :
    Calls Try.prog 64 #[hcapV op rt, .pointer (some ⟨gk, 0, none⟩), .pointer (some ⟨gt, 0, none⟩)] w1 fun e w' => e = .returned (.tuple #[]) ∧ RS L.length lo gx gk gv gl gt gb gr gm #[vo, vp, vq] W w' (pushK L st (capObj O op)) ∧ On (fun b => (b < lo ∨ b = gx) ∧ b ≠ gr ∧ b ≠ gl) w1 w' ∧ w1.heap.size ≤ w'.heap.size := by
  have hc := cnt_len st.1
  have hm := h.many
  have hl := h.len
  have hpk := pushK_ok L st (capObj O op) hl
  refine (through_w L O op rt vo vp vq gk gv gl gt gb gr gm lo gx st.1 st.2 S w1 h.seek hv hp hS h.tv (by omega)).mono ?_
  rintro e w' ⟨rfl, hs, hon, hb⟩
  have hz : w1.heap.size ≤ w'.heap.size := (hb 0 (Nat.zero_le _) (Nat.zero_le _) (Nat.zero_le _)).size
  refine ⟨rfl, ⟨hs, h.on.trans (hon.less fun b hb => ⟨Or.inl hb.1, hb.2⟩), Nat.le_trans h.size hz, fun B h1 h2 h3 => (h.below B h1 h2 h3).trans (hb B h1 h2 h3), h.tv.on hon ⟨Or.inl h.tlow.1, h.tlow.2⟩, h.tlow, by rw [hpk.len]; exact hl, by have := hpk.count; omega⟩, hon, hz⟩
theorem Mine.init {w : World} {base g n c : Nat} {e : TypeId} {es : List Int} {x : Int} (h : Mine w base e 1 (.slice (some ⟨g, 0, none⟩) n c) ((es ++ [x]).map intC)) : Mine w base e 1 (.slice (some ⟨g, 0, none⟩) es.length c) (es.map intC) := by
  rcases h.2 with ⟨hn, _⟩ | ⟨g', cap, cur, hv, hb, hg, h1, h2, h3, h4⟩
  · cases hn
  · obtain ⟨q1, q2, rfl⟩ := Value.slice.inj hv
    cases q1
    rw [List.length_map, List.length_append, List.length_singleton] at h1 h4
    refine ⟨(even_int es).flatten, Or.inr ⟨g, c, cur, by rw [List.length_map], hb, hg, by rw [List.length_map]; omega, h2, h3, ?_⟩⟩
    rw [List.length_map]
    have e1 : cur.toList.take (es.length * 1) = (cur.toList.take ((es.length + 1) * 1)).take (es.length * 1) := by rw [List.take_take]; congr 1; omega
    rw [e1, h4, List.map_append, List.flatten_append]
    have e2 : ((es.map intC).flatten).length = es.length * 1 := by have := (even_int es).flatten; rw [List.length_map] at this; exact this
    rw [List.take_append_of_le_length (by omega), List.take_of_length_le (by omega)]
/-- What is left, without its last one; a block is made for what it leads to. -/
theorem RS.pop {n lo gx gk gv gl gt gb gr gm g c : Nat} {kv cs : Array Value} {W w1 : World} {ms : List Bool} {lf : List Int} {x : Int} (h : RS n lo gx gk gv gl gt gb gr gm kv W w1 (ms, lf ++ [x])) (hl : Blk w1 gl #[.slice (some ⟨g, 0, none⟩) (lf.length + 1) c] 31) (hr : Mine w1 lo 3 1 (.slice (some ⟨g, 0, none⟩) (lf.length + 1) c) ((lf ++ [x]).map intC)) (t : TypeId) :
    RS n lo w1.heap.size gk gv gl gt gb gr gm kv W ((w1.setCell ⟨gl, 0, none⟩ (.slice (some ⟨g, 0, none⟩) lf.length c)).alloc (.cells cs t)).drew (ms, lf) ∧ Blk ((w1.setCell ⟨gl, 0, none⟩ (.slice (some ⟨g, 0, none⟩) lf.length c)).alloc (.cells cs t)).drew w1.heap.size cs t ∧ On (fun b => b < w1.heap.size ∧ b ≠ gl) w1 ((w1.setCell ⟨gl, 0, none⟩ (.slice (some ⟨g, 0, none⟩) lf.length c)).alloc (.cells cs t)).drew ∧ w1.heap.size < ((w1.setCell ⟨gl, 0, none⟩ (.slice (some ⟨g, 0, none⟩) lf.length c)).alloc (.cells cs t)).drew.heap.size := by
  obtain ⟨q1, q2, q3, q4, q5, q6, q7, q8⟩ := h.seek.low
  obtain ⟨p1, p2, p3, p4, p5, p6, p7, p8, p9⟩ := h.seek.apart
  have hz : (w1.setCell ⟨gl, 0, none⟩ (.slice (some ⟨g, 0, none⟩) lf.length c)).heap.size = w1.heap.size := by simp
  have on1 : On (fun b => b ≠ gl) w1 (w1.setCell ⟨gl, 0, none⟩ (.slice (some ⟨g, 0, none⟩) lf.length c)) := On.set w1 ⟨gl, 0, none⟩ _
  have on2 : On (fun b => b < w1.heap.size ∧ b ≠ gl) w1 ((w1.setCell ⟨gl, 0, none⟩ (.slice (some ⟨g, 0, none⟩) lf.length c)).alloc (.cells cs t)).drew := (on1.less fun b hb => hb.2).trans ((On.alloc (w1.setCell ⟨gl, 0, none⟩ (.slice (some ⟨g, 0, none⟩) lf.length c)) (.cells cs t)).less fun b hb => by rw [hz]; exact hb.1)
  have hz2 : ((w1.setCell ⟨gl, 0, none⟩ (.slice (some ⟨g, 0, none⟩) lf.length c)).alloc (.cells cs t)).drew.heap.size = w1.heap.size + 1 := by
    show ((w1.setCell ⟨gl, 0, none⟩ (.slice (some ⟨g, 0, none⟩) lf.length c)).alloc (.cells cs t)).heap.size = _
    simp
  have hgl := hl.lt
  have hg := hr.lt g rfl
  have hbox : Blk ((w1.setCell ⟨gl, 0, none⟩ (.slice (some ⟨g, 0, none⟩) lf.length c)).alloc (.cells cs t)).drew w1.heap.size cs t := by
    have h1 := Blk.new (w1.setCell ⟨gl, 0, none⟩ (.slice (some ⟨g, 0, none⟩) lf.length c)) cs t
    rw [hz] at h1
    exact h1
  have hB : ∀ B, B ≤ gl → Below B w1 ((w1.setCell ⟨gl, 0, none⟩ (.slice (some ⟨g, 0, none⟩) lf.length c)).alloc (.cells cs t)).drew := fun B hB => (((Below.refl B w1).setCell (p := ⟨gl, 0, none⟩) hB _).alloc (by rw [hz]; omega) _).drew
  have hm := h.many
  dsimp only at hm
  rw [List.length_append, List.length_singleton] at hm
  have hlv : Blk ((w1.setCell ⟨gl, 0, none⟩ (.slice (some ⟨g, 0, none⟩) lf.length c)).alloc (.cells cs t)).drew gl #[.slice (some ⟨g, 0, none⟩) lf.length c] 31 := (hl.set 0 _).alloc _
  have hrow : Mine ((w1.setCell ⟨gl, 0, none⟩ (.slice (some ⟨g, 0, none⟩) lf.length c)).alloc (.cells cs t)).drew lo 3 1 (.slice (some ⟨g, 0, none⟩) lf.length c) (lf.map intC) := hr.init.on on2 fun k hk => by
    simp [Value.ownBlock] at hk
    subst hk
    exact ⟨hg.2, by omega⟩
  refine ⟨⟨⟨h.seek.kern.on on2 ⟨by omega, fun e => p4 e.symm⟩, h.seek.fn.on on2 ⟨by omega, fun e => p5 e.symm⟩, ⟨⟨some ⟨g, 0, none⟩, lf.length, c⟩, hlv, hrow, fun k hk => ?_⟩, h.seek.marks.on on2 ⟨by omega, fun e => p6 e.symm⟩ ⟨by omega, p3⟩ ⟨by omega, fun e => p7 e.symm⟩, ⟨q1, q2, q3, q4, q5, q6, by omega, by omega⟩, ⟨p1, p2, p3, p4, p5, p6, p7, by omega, by omega⟩⟩, h.on.trans (on2.less fun b hb => ⟨by omega, hb.2.2⟩), by have := h.size; omega, fun B h1 h2 h3 => (h.below B h1 h2 h3).trans (hB B h2), h.tv.on on2 ⟨by have := h.tlow.1; omega, h.tlow.2.2⟩, h.tlow, h.len, by dsimp only; omega⟩, hbox, on2, by omega⟩
  simp [Value.ownBlock] at hk
  subst hk
  omega
/-- Another block that is not touched: the kernel's box. -/
theorem RS.back {n lo gx gk gv gl gt gb gr gm : Nat} {kv : Array Value} {W w1 : World} {st : List Bool × List Int} (h : RS n lo gx gk gv gl gt gb gr gm kv W w1 st) : RS n lo gk gk gv gl gt gb gr gm kv W w1 st := by
  obtain ⟨q1, q2, q3, q4, q5, q6, q7, q8⟩ := h.seek.low
  obtain ⟨p1, p2, p3, p4, p5, p6, p7, p8, p9⟩ := h.seek.apart
  obtain ⟨r, h1, h2, h3⟩ := h.seek.lv
  exact ⟨⟨h.seek.kern, h.seek.fn, ⟨r, h1, h2, fun k hk => by have := (h2.lt k hk).1; omega⟩, h.seek.marks, ⟨q1, q2, q3, q4, q5, q6, q7, by omega⟩, ⟨p1, p2, p3, p4, p5, p6, p7, fun e => p1 e.symm, fun e => p4 e.symm⟩⟩, h.on, h.size, h.below, h.tv, h.tlow, h.len, h.many⟩
end Go.Proofs.Ytdciohinlhbliaa


/-
  sweep.reached, walked: all that one can come to, and nothing else.
-/
namespace Go.Proofs.Ytdciohinlhbliaa
open Go.RowKit
open Wp
/-- Kernels whose objects have what their kind has. -/
def KindOk (L : List Sp.Ob) : Prop := ∀ o ∈ L, (o.kind ≠ 2 → o.ents = []) ∧ (o.kind ≠ 4 → o.queue = [])
theorem blk_new1w (W : World) (a : Obj) (cs : Array Value) (t : TypeId) : Blk ((W.alloc a).alloc (.cells cs t)) (W.heap.size + 1) cs t := by
  have h := Blk.new (W.alloc a) cs t
  have e : (W.alloc a).heap.size = W.heap.size + 1 := by simp
  rw [e] at h
  exact h
theorem blk_new2w (W : World) (a b : Obj) (cs : Array Value) (t : TypeId) : Blk (((W.alloc a).alloc b).alloc (.cells cs t)) (W.heap.size + 1 + 1) cs t := by
  have h := Blk.new ((W.alloc a).alloc b) cs t
  have e : ((W.alloc a).alloc b).heap.size = W.heap.size + 1 + 1 := by simp
  rw [e] at h
  exact h
theorem procs_on {w w' : World} {S : Nat → Prop} {v : Value} {P : List Sp.Prc} (h : Procs w S v P) (ho : On S w w') : Procs w' S v P := by
  obtain ⟨ts, h1, h2, h3⟩ := h
  exact ⟨ts, h1, h2.on ho, fun t ht => Row.on (h3 t ht) ho⟩
theorem procs_more {w : World} {S T : Nat → Prop} {v : Value} {P : List Sp.Prc} (h : Procs w S v P) (hT : ∀ b, S b → T b) : Procs w T v P := by
  obtain ⟨ts, h1, h2, h3⟩ := h
  exact ⟨ts, h1, h2.more hT, fun t ht => Row.more (h3 t ht) hT⟩
set_option maxRecDepth 100000 in
set_option maxHeartbeats 16000000 in
theorem reached_any (K : Kn) (vo vp vq : Value) (S : Nat → Prop) (w : World) (hv : Objs w S vo K.L) (hp : Row w S 2 vp (K.O.map opnC)) (hq : Procs w S vq K.P) (hS : ∀ b, S b → b < w.heap.size) (hL : K.L.length ≤ 1000) (hk : KindOk K.L) :
    Calls Try.prog 36 #[.agg #[vo, vp, vq]] w fun e w' => ∃ gr : Nat, e = .returned (.slice (some ⟨gr, 0, none⟩) K.L.length K.L.length) ∧ Mine w' gr 4 1 (.slice (some ⟨gr, 0, none⟩) K.L.length K.L.length) ((reachB K).map bC) ∧ w.heap.size ≤ gr ∧ Below w.heap.size w w' := by
  obtain ⟨oa, oc, rfl, hom⟩ := hv.form
  have HV : Hid (Objs w S (.slice oa K.L.length oc) K.L) := hv
  have HP : Hid (Row w S 2 vp (K.O.map opnC)) := hp
  have HQ : Hid (Procs w S vq K.P) := hq
  have HS : Hid (∀ b, S b → b < w.heap.size) := hS
  have HK : Hid (KindOk K.L) := hk
  have HL : Hid (K.L.length ≤ 1000) := hL
  unfold maxLen at hom
  have HM : Hid (∀ w', Calls Try.prog 61 #[.int .i64 (K.L.length : Int)] w' _) := fun w' => marks_any K.L.length (by omega) w'
  have hmk := fun (fn : Fn) (first cap : Array Value) (w : World) => (rfl : (Instr.makeFunc fn first cap).run Try.prog w = .ok (.func fn first cap) w)
  have HK0 : Hid (Blk (w.alloc (.cells #[.slice oa K.L.length oc, vp, vq] 27)) w.heap.size #[.slice oa K.L.length oc, vp, vq] 27) := Blk.new _ _ _
  have HB0 : Hid (Below w.heap.size w (w.alloc (.cells #[.slice oa K.L.length oc, vp, vq] 27))) := (Below.refl _ _).alloc (Nat.le_refl _) _
  have eg : Enters Try.prog 62 := by unfold Enters; intro args w; rfl
  have eg2 : Enters Try.prog 64 := by unfold Enters; intro args w; rfl
  have HEG : Hid (Enters Try.prog 62) := eg
  have HEG2 : Hid (Enters Try.prog 64) := eg2
  unfold Enters at eg eg2
  clear hv hp hq hS hk
  go_enter Try.func36, Try.ntmps36
  go_wp2_with fail
  generalize (w.alloc (.cells #[.slice oa K.L.length oc, vp, vq] 27)) = w1 at *
  refine Calls.mono (HM.out w1) ?_
  rintro e w2 ⟨gb, gr, gm, rfl, hm2, hgb, hgr, hgm, hb2⟩
  have hk1 := HK0.out.lt
  have HK2 : Hid (Blk w2 w.heap.size #[.slice oa K.L.length oc, vp, vq] 27) := HK0.out.below hb2 hk1
  have HM2 : Hid (Marks w2 gb gr gm K.L.length (List.replicate K.L.length false)) := hm2
  have HB2 : Hid (Below w.heap.size w w2) := HB0.out.trans (hb2.mono HB0.out.size)
  have hz2 : w1.heap.size ≤ w2.heap.size := hb2.size
  have hgbl := hm2.box.lt
  have hgrl := (hm2.row.lt _ rfl).2
  have hgml := hm2.var.lt
  have k2 := Blk.cell HK2.out
  unfold markF
  clear hm2 hb2 HM HK0 HB0
  go_wp2_with fail
  have HRS3 : Hid (RS K.L.length (w2.heap.size + 3) w.heap.size w.heap.size w2.heap.size (w2.heap.size + 1) (w2.heap.size + 1 + 1) gb gr gm #[.slice oa K.L.length oc, vp, vq] (((w2.alloc (.cells #[.func (.func 81) #[] #[.pointer (some ⟨gb, 0, none⟩), .pointer (some ⟨gm, 0, none⟩)]] 95)).alloc (.cells #[.slice none 0 0] 31)).alloc (.cells #[.func (.func 62) #[] #[.pointer (some ⟨w.heap.size, 0, none⟩), .pointer (some ⟨w2.heap.size, 0, none⟩), .pointer (some ⟨w2.heap.size + 1, 0, none⟩)]] 84)) (((w2.alloc (.cells #[.func (.func 81) #[] #[.pointer (some ⟨gb, 0, none⟩), .pointer (some ⟨gm, 0, none⟩)]] 95)).alloc (.cells #[.slice none 0 0] 31)).alloc (.cells #[.func (.func 62) #[] #[.pointer (some ⟨w.heap.size, 0, none⟩), .pointer (some ⟨w2.heap.size, 0, none⟩), .pointer (some ⟨w2.heap.size + 1, 0, none⟩)]] 84)) (List.replicate K.L.length false, [])) := by
    have hf : Blk (((w2.alloc (.cells #[.func (.func 81) #[] #[.pointer (some ⟨gb, 0, none⟩), .pointer (some ⟨gm, 0, none⟩)]] 95)).alloc (.cells #[.slice none 0 0] 31)).alloc (.cells #[.func (.func 62) #[] #[.pointer (some ⟨w.heap.size, 0, none⟩), .pointer (some ⟨w2.heap.size, 0, none⟩), .pointer (some ⟨w2.heap.size + 1, 0, none⟩)]] 84)) w2.heap.size #[.func (.func 81) #[] #[.pointer (some ⟨gb, 0, none⟩), .pointer (some ⟨gm, 0, none⟩)]] 95 := ((Blk.new w2 _ _).alloc _).alloc _
    have hl : Blk (((w2.alloc (.cells #[.func (.func 81) #[] #[.pointer (some ⟨gb, 0, none⟩), .pointer (some ⟨gm, 0, none⟩)]] 95)).alloc (.cells #[.slice none 0 0] 31)).alloc (.cells #[.func (.func 62) #[] #[.pointer (some ⟨w.heap.size, 0, none⟩), .pointer (some ⟨w2.heap.size, 0, none⟩), .pointer (some ⟨w2.heap.size + 1, 0, none⟩)]] 84)) (w2.heap.size + 1) #[.slice none 0 0] 31 := (blk_new1w w2 _ _ _).alloc _
    have ht : Blk (((w2.alloc (.cells #[.func (.func 81) #[] #[.pointer (some ⟨gb, 0, none⟩), .pointer (some ⟨gm, 0, none⟩)]] 95)).alloc (.cells #[.slice none 0 0] 31)).alloc (.cells #[.func (.func 62) #[] #[.pointer (some ⟨w.heap.size, 0, none⟩), .pointer (some ⟨w2.heap.size, 0, none⟩), .pointer (some ⟨w2.heap.size + 1, 0, none⟩)]] 84)) (w2.heap.size + 1 + 1) #[.func (.func 62) #[] #[.pointer (some ⟨w.heap.size, 0, none⟩), .pointer (some ⟨w2.heap.size, 0, none⟩), .pointer (some ⟨w2.heap.size + 1, 0, none⟩)]] 84 := blk_new2w w2 _ _ _ _
    have hz : ((((w2.alloc (.cells #[.func (.func 81) #[] #[.pointer (some ⟨gb, 0, none⟩), .pointer (some ⟨gm, 0, none⟩)]] 95)).alloc (.cells #[.slice none 0 0] 31)).alloc (.cells #[.func (.func 62) #[] #[.pointer (some ⟨w.heap.size, 0, none⟩), .pointer (some ⟨w2.heap.size, 0, none⟩), .pointer (some ⟨w2.heap.size + 1, 0, none⟩)]] 84))).heap.size = w2.heap.size + 3 := by simp
    have hon : On (fun b => b < w2.heap.size) w2 (((w2.alloc (.cells #[.func (.func 81) #[] #[.pointer (some ⟨gb, 0, none⟩), .pointer (some ⟨gm, 0, none⟩)]] 95)).alloc (.cells #[.slice none 0 0] 31)).alloc (.cells #[.func (.func 62) #[] #[.pointer (some ⟨w.heap.size, 0, none⟩), .pointer (some ⟨w2.heap.size, 0, none⟩), .pointer (some ⟨w2.heap.size + 1, 0, none⟩)]] 84)) := ((On.alloc w2 _).trans ((On.alloc _ _).less fun b hb => by simp; omega)).trans ((On.alloc _ _).less fun b hb => by simp; omega)
    refine ⟨⟨HK2.out.on hon (by show w.heap.size < w2.heap.size; omega), hf, ⟨⟨none, 0, 0⟩, hl, Mine.nil _ _ _ _, fun k hk => by simp [Value.ownBlock] at hk⟩, HM2.out.on hon hgbl hgrl hgml, ⟨by omega, by omega, by omega, by omega, by omega, by omega, by omega, by omega⟩, ⟨by omega, by omega, by omega, by omega, by omega, by omega, by omega, by omega, by omega⟩⟩, fun _ _ => rfl, Nat.le_refl _, fun B _ _ _ => Below.refl B _, ht, ⟨by omega, by omega, by omega⟩, by simp, Nat.zero_le _⟩
  have HB3 : Hid (Below w.heap.size w (((w2.alloc (.cells #[.func (.func 81) #[] #[.pointer (some ⟨gb, 0, none⟩), .pointer (some ⟨gm, 0, none⟩)]] 95)).alloc (.cells #[.slice none 0 0] 31)).alloc (.cells #[.func (.func 62) #[] #[.pointer (some ⟨w.heap.size, 0, none⟩), .pointer (some ⟨w2.heap.size, 0, none⟩), .pointer (some ⟨w2.heap.size + 1, 0, none⟩)]] 84))) := ((HB2.out.alloc HB2.out.size _).alloc (by have := HB2.out.size; simp; omega) _).alloc (by have := HB2.out.size; simp; omega) _
  have HZ3 : Hid (((((w2.alloc (.cells #[.func (.func 81) #[] #[.pointer (some ⟨gb, 0, none⟩), .pointer (some ⟨gm, 0, none⟩)]] 95)).alloc (.cells #[.slice none 0 0] 31)).alloc (.cells #[.func (.func 62) #[] #[.pointer (some ⟨w.heap.size, 0, none⟩), .pointer (some ⟨w2.heap.size, 0, none⟩), .pointer (some ⟨w2.heap.size + 1, 0, none⟩)]] 84))).heap.size = w2.heap.size + 3) := by unfold Hid; simp
  have HLO : Hid (w.heap.size < w2.heap.size ∧ w.heap.size ≤ gr ∧ w1.heap.size ≤ gr ∧ gr < w2.heap.size) := ⟨by omega, by omega, by omega, hgrl⟩
  generalize (((w2.alloc (.cells #[.func (.func 81) #[] #[.pointer (some ⟨gb, 0, none⟩), .pointer (some ⟨gm, 0, none⟩)]] 95)).alloc (.cells #[.slice none 0 0] 31)).alloc (.cells #[.func (.func 62) #[] #[.pointer (some ⟨w.heap.size, 0, none⟩), .pointer (some ⟨w2.heap.size, 0, none⟩), .pointer (some ⟨w2.heap.size + 1, 0, none⟩)]] 84)) = W3 at *
  have hv3 : Objs W3 S (.slice oa K.L.length oc) K.L := HV.out.on ((On.of HB3.out).less HS.out)
  have hS3 : ∀ b, S b → b < w2.heap.size + 3 ∧ b ≠ gr ∧ b ≠ w2.heap.size + 1 := fun b hb => by have := HS.out b hb; have := HLO.out; omega
  have HS3 : Hid (∀ b, S b → b < w2.heap.size + 3 ∧ b ≠ gr ∧ b ≠ w2.heap.size + 1) := hS3
  refine Calls.mono (HRS3.out.to 0 S hv3 hL) ?_
  rintro e w4 ⟨rfl, hrs4, hon4, hz4⟩
  have HRS4 : Hid (RS K.L.length (w2.heap.size + 3) w.heap.size w.heap.size w2.heap.size (w2.heap.size + 1) (w2.heap.size + 1 + 1) gb gr gm #[.slice oa K.L.length oc, vp, vq] W3 w4 (pushK K.L (List.replicate K.L.length false, []) 0)) := hrs4
  have k4 := hrs4.seek.kern.cell
  have HEH : Hid (Calls Try.prog 65 #[vq, .func (.func 64) #[] #[.pointer (some ⟨w.heap.size, 0, none⟩), .pointer (some ⟨w2.heap.size + 1 + 1, 0, none⟩)]] w4 fun e w' => e = .returned (.tuple #[]) ∧ RS K.L.length (w2.heap.size + 3) w.heap.size w.heap.size w2.heap.size (w2.heap.size + 1) (w2.heap.size + 1 + 1) gb gr gm #[.slice oa K.L.length oc, vp, vq] W3 w' (seek0 K)) := by
    have hon34 : On S W3 w4 := hrs4.on.less fun b hb => hS3 b hb
    have hS4 : ∀ b, S b → b < w4.heap.size := fun b hb => by have := HS.out b hb; have := HLO.out; have := hrs4.size; have := HZ3.out; omega
    have hpq : On S w w4 := ((On.of HB3.out).less HS.out).trans hon34
    have h := eachHeld_any 64 #[.pointer (some ⟨w.heap.size, 0, none⟩), .pointer (some ⟨w2.heap.size + 1 + 1, 0, none⟩)] K.P vq S w4 (procs_on HQ.out hpq) HEG2.out (fun xs w' => RS K.L.length (w2.heap.size + 3) w.heap.size w.heap.size w2.heap.size (w2.heap.size + 1) (w2.heap.size + 1 + 1) gb gr gm #[.slice oa K.L.length oc, vp, vq] W3 w' (pushAll K.L (pushK K.L (List.replicate K.L.length false, []) 0) (xs.map fun (s : Sp.Slt) => capObj K.O s.op)) ∧ On (fun b => (b < w2.heap.size + 3 ∨ b = w.heap.size) ∧ b ≠ gr ∧ b ≠ w2.heap.size + 1) w4 w' ∧ w4.heap.size ≤ w'.heap.size)
      ⟨hrs4, fun _ _ => rfl, Nat.le_refl _⟩ ⟨fun xs w' h => ⟨h.2.1.less fun b hb => ⟨Or.inl (hS3 b hb).1, (hS3 b hb).2⟩, h.2.2⟩, fun xs w' ob h => ⟨h.1.alloc ob, h.2.1.trans ((On.alloc w' ob).less fun b hb => by have h1 := h.1.seek.low.2.2.2.2.2.2; rcases hb.1 with h2 | h2 <;> omega), by have := h.2.2; simp; omega⟩⟩ (fun xs s p w' h _ _ _ _ => ?_)
    · refine h.mono ?_
      rintro e w' ⟨rfl, h1, -⟩
      exact ⟨rfl, h1⟩
    · have hon' : On S w w' := hpq.trans (h.2.1.less fun b hb => ⟨Or.inl (hS3 b hb).1, (hS3 b hb).2⟩)
      refine (h.1.through s.op s.rt S (HV.out.on hon') (Row.on HP.out hon') hS3 hL).mono ?_
      rintro e w'' ⟨rfl, g1, g2, g3⟩
      refine ⟨rfl, ?_, h.2.1.trans g2, Nat.le_trans h.2.2 g3⟩
      rw [List.map_append, List.map_singleton, pushAll_one]
      exact g1
  clear hv3 hrs4 hon4 hz4 HRS3 HM2 HK2 HB2 k2 hgbl hgrl hgml hS3
  go_wp2_with fail
  refine Calls.mono HEH.out ?_
  rintro e w5 ⟨rfl, hrs5⟩
  have HRS5 : Hid (RS K.L.length (w2.heap.size + 3) w.heap.size w.heap.size w2.heap.size (w2.heap.size + 1) (w2.heap.size + 1 + 1) gb gr gm #[.slice oa K.L.length oc, vp, vq] W3 w5 (seek0 K)) := hrs5
  clear hrs5 HEH HRS4 k4
  go_wp2_with fail
  go_loopg [8] ((seek0 K).2.length + K.L.length) (fun gk _ wr => ∃ st, RS K.L.length (w2.heap.size + 3) w.heap.size w.heap.size w2.heap.size (w2.heap.size + 1) (w2.heap.size + 1 + 1) gb gr gm #[.slice oa K.L.length oc, vp, vq] W3 wr st ∧ Seeking K st ∧ st.2.length + K.L.length ≤ gk + cnt st.1)
  case atStart => exact ⟨seek0 K, HRS5.out, seek0_ok K, by omega⟩
  case round =>
    clear HRS5
    obtain ⟨⟨ms, left⟩, hrs, hsk, hgk⟩ := hrel
    have HRS : Hid (RS K.L.length (w2.heap.size + 3) w.heap.size w.heap.size w2.heap.size (w2.heap.size + 1) (w2.heap.size + 1 + 1) gb gr gm #[.slice oa K.L.length oc, vp, vq] W3 wr (ms, left)) := hrs
    have HSK : Hid (Seeking K (ms, left)) := hsk
    have HGK : Hid (left.length + K.L.length ≤ gk + cnt ms) := hgk
    obtain ⟨r, hlv, hrow, -⟩ := hrs.seek.lv
    obtain ⟨ra, rc, hre, hrm, hrg⟩ := hrow.form
    obtain ⟨e1, e2, e3⟩ := Value.slice.inj hre
    rw [List.length_map] at e2 hrm hrg
    have k5 := hrs.seek.kern.cell
    have l5 := hlv.cell
    have t5 := hrs.tv.cell
    have kl5 := hrs.seek.kern.lt
    have ll5 := hlv.lt
    have tl5 := hrs.tv.lt
    rcases List.eq_nil_or_concat left with rfl | ⟨lf, x, rfl⟩
    · rw [e2] at l5
      have HF : Hid (Mine wr gr 4 1 (.slice (some ⟨gr, 0, none⟩) K.L.length K.L.length) ((reachB K).map bC)) := by
        rw [← seeking_end hsk]
        exact hrs.seek.marks.row.base fun k hk => by simp [Value.ownBlock] at hk; omega
      have HBF : Hid (Below w.heap.size w wr) := HB3.out.trans (hrs.below _ (by have := HLO.out; omega) (by have := HLO.out; omega) (by have := HLO.out; omega))
      clear hrs hsk hgk hlv hrow hre e1 e2 e3 hrg
      go_wp2
      go_ret
      exact ⟨gr, rfl, HF.out, HLO.out.2.1, HBF.out⟩
    · rw [List.concat_eq_append] at *
      obtain ⟨i, hxi, him⟩ := hsk.left x (List.mem_append_right _ (List.mem_singleton.2 rfl))
      subst hxi
      have hil : i < K.L.length := by
        have h1 := getD_lt him
        have h2 : ms.length = K.L.length := hsk.len
        dsimp only at h1
        omega
      obtain ⟨o, ho⟩ : ∃ o, K.L[i]? = some o := ⟨_, List.getElem?_eq_getElem hil⟩
      rw [List.length_append, List.length_singleton] at e2 hrm hrg
      obtain ⟨g, hg, hg1, hg2⟩ := hrg (by omega)
      rw [hg] at e1
      rw [e1, e2] at hlv l5 hrow
      have hon : On S w wr := ((On.of HB3.out).less HS.out).trans (hrs.on.less HS3.out)
      obtain ⟨ob, oo, occ, so, hve, hSb, hoc, hocm, hol, c0, c1, c2, c3, c4, c5, c6, c7, c8⟩ := (HV.out.on hon).open ho
      obtain ⟨rfl, -, rfl⟩ := Value.slice.inj hve
      obtain ⟨cur, hblk, -, hrc, hrcm, -, hcur⟩ := hrow.blk
      have x5 : wr.cell? ⟨g, lf.length, none⟩ = some (.int .i64 (i : Int)) := by
        rw [hblk.cell]
        refine hcur _ _ ?_
        have := flatten_at (even_int (lf ++ [(i : Int)])) lf.length (intC i) (by rw [List.getElem?_map, List.getElem?_append_right (Nat.le_refl _), Nat.sub_self]; rfl) 0 _ rfl
        simpa using this
      unfold maxLen at hocm hrcm hrm
      have HO : Hid (K.L[i]? = some o) := ho
      have HOL : Hid (Lists wr S (so, o)) := hol
      have HLV : Hid (Blk wr (w2.heap.size + 1) #[.slice (some ⟨g, 0, none⟩) (lf.length + 1) r.c] 31) := hlv
      have HROW : Hid (Mine wr (w2.heap.size + 3) 3 1 (.slice (some ⟨g, 0, none⟩) (lf.length + 1) r.c) ((lf ++ [(i : Int)]).map intC)) := hrow
      have hgl : g < wr.heap.size := hblk.lt
      have hrc' : lf.length + 1 ≤ r.c := hrc
      have hobl : ob < wr.heap.size := by have := HS3.out ob hSb; have := hrs.size; have := HZ3.out; omega
      have hpop := hrs.pop (cs := #[.int .i64 o.kind, .slice so.d.a so.d.n so.d.c, .slice so.e.a so.e.n so.e.c, .string o.target, .int .i64 o.peer, .slice so.q.a so.q.n so.q.c, .int .i64 o.proc, .int .i64 o.links, .int .i64 o.up]) hlv hrow 40
      have lf5 := hlv.free
      have HPOP : Hid _ := hpop
      have HSR : Hid (∀ b, S b → b < wr.heap.size) := fun b hb => by have := HS3.out b hb; have := hrs.size; have := HZ3.out; omega
      have HNX : Hid _ := seeking_next hsk ho
      have HKO : Hid ((o.kind ≠ 2 → o.ents = []) ∧ (o.kind ≠ 4 → o.queue = [])) := HK.out o (List.mem_of_getElem? ho)
      have HONW : Hid (On S w wr) := hon
      have HGR : Hid (gr < wr.heap.size) := by have := HLO.out; have := HZ3.out; have := hrs.size; unfold Hid; omega
      clear hpop hrs hsk hgk hlv hrow hre hrg hon hve hSb ho hol hblk hcur hrc him hg e3
      go_wp2_with fail
      go_region
      go_wp2_with fail
      obtain ⟨hrs6, hbx6, hon6, hz6⟩ := HPOP.out
      generalize ((wr.setCell ⟨w2.heap.size + 1, 0, none⟩ (.slice (some ⟨g, 0, none⟩) lf.length r.c)).alloc (.cells #[.int .i64 o.kind, .slice so.d.a so.d.n so.d.c, .slice so.e.a so.e.n so.e.c, .string o.target, .int .i64 o.peer, .slice so.q.a so.q.n so.q.c, .int .i64 o.proc, .int .i64 o.links, .int .i64 o.up] 40)).drew = w6 at *
      have hS6 : ∀ b, S b → b < w6.heap.size := fun b hb => by have := HSR.out b hb; omega
      have hS6' : ∀ b, S b → (b < w2.heap.size + 3 ∨ b = wr.heap.size) ∧ b ≠ gr ∧ b ≠ w2.heap.size + 1 := fun b hb => ⟨Or.inl (HS3.out b hb).1, (HS3.out b hb).2⟩
      have hon6S : On S wr w6 := hon6.less fun b hb => ⟨HSR.out b hb, (HS3.out b hb).2.2⟩
      have hxg : (wr.heap.size < w2.heap.size + 3 ∨ wr.heap.size = wr.heap.size) ∧ wr.heap.size ≠ gr ∧ wr.heap.size ≠ w2.heap.size + 1 := ⟨Or.inr rfl, by have := HGR.out; omega, by omega⟩
      have HEE : Hid (Calls Try.prog 66 #[.agg #[.int .i64 o.kind, .slice so.d.a so.d.n so.d.c, .slice so.e.a so.e.n so.e.c, .string o.target, .int .i64 o.peer, .slice so.q.a so.q.n so.q.c, .int .i64 o.proc, .int .i64 o.links, .int .i64 o.up], .func (.func 62) #[] #[.pointer (some ⟨w.heap.size, 0, none⟩), .pointer (some ⟨w2.heap.size, 0, none⟩), .pointer (some ⟨w2.heap.size + 1, 0, none⟩)]] w6 fun e w' => e = .returned (.tuple #[]) ∧ RS K.L.length (w2.heap.size + 3) wr.heap.size w.heap.size w2.heap.size (w2.heap.size + 1) (w2.heap.size + 1 + 1) gb gr gm #[.slice (some ⟨ob, oo, none⟩) K.L.length oc, vp, vq] W3 w' (pushAll K.L (ms, lf) (entK o)) ∧ On (fun b => (b < w2.heap.size + 3 ∨ b = wr.heap.size) ∧ b ≠ gr ∧ b ≠ w2.heap.size + 1) w6 w' ∧ w6.heap.size ≤ w'.heap.size) := by
        have h := eachEntered_any 62 #[.pointer (some ⟨w.heap.size, 0, none⟩), .pointer (some ⟨w2.heap.size, 0, none⟩), .pointer (some ⟨w2.heap.size + 1, 0, none⟩)] o so S w6 (HOL.out.on hon6S) HKO.out.1 HEG.out (fun es w' => RS K.L.length (w2.heap.size + 3) wr.heap.size w.heap.size w2.heap.size (w2.heap.size + 1) (w2.heap.size + 1 + 1) gb gr gm #[.slice (some ⟨ob, oo, none⟩) K.L.length oc, vp, vq] W3 w' (pushAll K.L (ms, lf) (es.map fun (e : Sp.Ent) => e.obj)) ∧ On (fun b => (b < w2.heap.size + 3 ∨ b = wr.heap.size) ∧ b ≠ gr ∧ b ≠ w2.heap.size + 1) w6 w' ∧ w6.heap.size ≤ w'.heap.size)
          ⟨hrs6, fun _ _ => rfl, Nat.le_refl _⟩ ⟨fun xs w' h => ⟨h.2.1.less hS6', h.2.2⟩, fun xs w' ob h => ⟨h.1.alloc ob, h.2.1.trans ((On.alloc w' ob).less fun b hb => by have h1 := h.1.seek.low.2.2.2.2.2.2; rcases hb.1 with h2 | h2 <;> omega), by have := h.2.2; simp; omega⟩⟩ (fun xs x w' h _ => ?_)
        · rw [objV_eq] at h
          exact h
        · have hon' : On S w w' := (HONW.out.trans hon6S).trans (h.2.1.less hS6')
          refine (h.1.to x.obj S (HV.out.on hon') hL).mono ?_
          rintro e w'' ⟨rfl, g1, g2, g3⟩
          refine ⟨rfl, ?_, h.2.1.trans g2, Nat.le_trans h.2.2 g3⟩
          rw [List.map_append, List.map_singleton, pushAll_one]
          exact g1
      have HBX6 : Hid (Blk w6 wr.heap.size #[.int .i64 o.kind, .slice so.d.a so.d.n so.d.c, .slice so.e.a so.e.n so.e.c, .string o.target, .int .i64 o.peer, .slice so.q.a so.q.n so.q.c, .int .i64 o.proc, .int .i64 o.links, .int .i64 o.up] 40) := hbx6
      have HON6 : Hid (On S wr w6) := hon6S
      have HS6 : Hid (∀ b, S b → (b < w2.heap.size + 3 ∨ b = wr.heap.size) ∧ b ≠ gr ∧ b ≠ w2.heap.size + 1) := hS6'
      have HXG : Hid _ := hxg
      clear hrs6 hbx6 hon6 HPOP c0 c1 c2 c3 c4 c5 c6 c7 c8 k5 l5 t5 x5 lf5 hS6 hS6' hon6S hxg
      refine Calls.mono HEE.out ?_
      rintro e w7 ⟨rfl, hrs7, hon7, hz7⟩
      have bx7 := (HBX6.out.on hon7 HXG.out).cell
      have bl7 := (HBX6.out.on hon7 HXG.out).lt
      have HEW : Hid (Calls Try.prog 67 #[.agg #[.int .i64 o.kind, .slice so.d.a so.d.n so.d.c, .slice so.e.a so.e.n so.e.c, .string o.target, .int .i64 o.peer, .slice so.q.a so.q.n so.q.c, .int .i64 o.proc, .int .i64 o.links, .int .i64 o.up], .func (.func 64) #[] #[.pointer (some ⟨w.heap.size, 0, none⟩), .pointer (some ⟨w2.heap.size + 1 + 1, 0, none⟩)]] w7 fun e w' => e = .returned (.tuple #[]) ∧ RS K.L.length (w2.heap.size + 3) wr.heap.size w.heap.size w2.heap.size (w2.heap.size + 1) (w2.heap.size + 1 + 1) gb gr gm #[.slice (some ⟨ob, oo, none⟩) K.L.length oc, vp, vq] W3 w' (pushAll K.L (pushAll K.L (ms, lf) (entK o)) (queK K o))) := by
        have hon7S : On S wr w7 := HON6.out.trans (hon7.less HS6.out)
        have h := eachWaiting_any 64 #[.pointer (some ⟨w.heap.size, 0, none⟩), .pointer (some ⟨w2.heap.size + 1 + 1, 0, none⟩)] o so S w7 (HOL.out.on hon7S) HKO.out.2 HEG2.out (fun xs w' => RS K.L.length (w2.heap.size + 3) wr.heap.size w.heap.size w2.heap.size (w2.heap.size + 1) (w2.heap.size + 1 + 1) gb gr gm #[.slice (some ⟨ob, oo, none⟩) K.L.length oc, vp, vq] W3 w' (pushAll K.L (pushAll K.L (ms, lf) (entK o)) ((xs.filter fun (m : Sp.Msg) => m.has).map fun (m : Sp.Msg) => capObj K.O m.op)) ∧ On (fun b => (b < w2.heap.size + 3 ∨ b = wr.heap.size) ∧ b ≠ gr ∧ b ≠ w2.heap.size + 1) w7 w' ∧ w7.heap.size ≤ w'.heap.size)
          ⟨hrs7, fun _ _ => rfl, Nat.le_refl _⟩ ⟨fun xs w' h => ⟨h.2.1.less HS6.out, h.2.2⟩, fun xs w' ob h => ⟨h.1.alloc ob, h.2.1.trans ((On.alloc w' ob).less fun b hb => by have h1 := h.1.seek.low.2.2.2.2.2.2; rcases hb.1 with h2 | h2 <;> omega), by have := h.2.2; simp; omega⟩⟩ (fun xs m w' h _ hhas => ?_) (fun xs m w' h _ hhas => ?_)
        · rw [objV_eq] at h
          refine h.mono ?_
          rintro e w' ⟨rfl, h1, -⟩
          exact ⟨rfl, h1⟩
        · have hon' : On S w w' := (HONW.out.trans hon7S).trans (h.2.1.less HS6.out)
          refine (h.1.through m.op m.rt S (HV.out.on hon') (Row.on HP.out hon') HS3.out hL).mono ?_
          rintro e w'' ⟨rfl, g1, g2, g3⟩
          refine ⟨rfl, ?_, h.2.1.trans g2, Nat.le_trans h.2.2 g3⟩
          rw [List.filter_append, List.filter_cons_of_pos hhas, List.filter_nil, List.map_append, List.map_singleton, pushAll_one]
          exact g1
        · rw [List.filter_append, List.filter_cons_of_neg (by rw [hhas]; decide), List.filter_nil, List.append_nil]
          exact h
      clear hrs7 hon7 HEE HBX6
      go_wp2_with fail
      refine Calls.mono HEW.out ?_
      rintro e w8 ⟨rfl, hrs8⟩
      have HRS8 : Hid (RS K.L.length (w2.heap.size + 3) w.heap.size w.heap.size w2.heap.size (w2.heap.size + 1) (w2.heap.size + 1 + 1) gb gr gm #[.slice (some ⟨ob, oo, none⟩) K.L.length oc, vp, vq] W3 w8 (pushAll K.L (pushAll K.L (ms, lf) (entK o)) (queK K o))) := hrs8.back
      clear hrs8 HEW bx7 bl7
      go_wp2
      have hg1' := HGK.out
      have hc1 := cnt_len ms
      have hml : ms.length = K.L.length := HSK.out.len
      rw [List.length_append, List.length_singleton] at hg1'
      have hnx : Seeking K (pushAll K.L (pushAll K.L (ms, lf) (entK o)) (queK K o)) ∧ (pushAll K.L (pushAll K.L (ms, lf) (entK o)) (queK K o)).2.length + cnt ms = lf.length + cnt (pushAll K.L (pushAll K.L (ms, lf) (entK o)) (queK K o)).1 := HNX.out
      go_roundg (gk - 1)
      case measure => omega
      case rel => exact ⟨_, HRS8.out, hnx.1, by omega⟩
end Go.Proofs.Ytdciohinlhbliaa


/-
  sweep.Reach, walked: the numbers of all that one can come to, in their order.
-/
namespace Go.Proofs.Ytdciohinlhbliaa
open Go.RowKit
namespace Wp
/-- The marked numbers below k. -/
def nums (ms : List Bool) (k : Nat) : List Int := ((List.range k).filter fun n => ms.getD n false).map Int.ofNat
theorem nums_next (ms : List Bool) (k : Nat) : nums ms (k + 1) = if ms.getD k false = true then nums ms k ++ [(k : Int)] else nums ms k := by
  unfold nums
  rw [List.range_succ, List.filter_append]
  cases h : ms.getD k false with
  | true => rw [if_pos rfl]; simp only [List.filter_cons, List.filter_nil, h, if_true, List.map_append, List.map_cons, List.map_nil]; rfl
  | false => rw [if_neg (by decide)]; simp only [List.filter_cons, List.filter_nil, h, Bool.false_eq_true, if_false, List.append_nil]
theorem nums_len (ms : List Bool) (k : Nat) : (nums ms k).length ≤ k := by
  unfold nums
  rw [List.length_map]
  have := List.length_filter_le (fun n => ms.getD n false) (List.range k)
  rw [List.length_range] at this
  exact this
end Wp
open Wp
set_option maxRecDepth 100000 in
set_option maxHeartbeats 2000000 in
theorem sreach_any (K : Kn) (vo vp vq : Value) (S : Nat → Prop) (w : World) (hv : Objs w S vo K.L) (hp : Row w S 2 vp (K.O.map opnC)) (hq : Procs w S vq K.P) (hS : ∀ b, S b → b < w.heap.size) (hL : K.L.length ≤ 1000) (hk : KindOk K.L) :
    Calls Try.prog 11 #[.agg #[vo, vp, vq]] w fun e w' => ∃ r : Sl, e = .returned (.slice r.a r.n r.c) ∧ Mine w' w.heap.size 3 1 (.slice r.a r.n r.c) ((nums (reachB K) K.L.length).map intC) ∧ Below w.heap.size w w' := by
  have HR : Hid (∀ W, Below w.heap.size w W → Calls Try.prog 36 #[.agg #[vo, vp, vq]] W fun e w' => ∃ gr : Nat, e = .returned (.slice (some ⟨gr, 0, none⟩) K.L.length K.L.length) ∧ Mine w' gr 4 1 (.slice (some ⟨gr, 0, none⟩) K.L.length K.L.length) ((reachB K).map bC) ∧ W.heap.size ≤ gr ∧ Below W.heap.size W w') := fun W h => reached_any K vo vp vq S W (hv.on ((On.of h).less hS)) (Row.on hp ((On.of h).less hS)) (procs_on hq ((On.of h).less hS)) (fun b hb => Nat.lt_of_lt_of_le (hS b hb) h.size) hL hk
  have HB0 : Hid (Below w.heap.size w (w.alloc (.cells #[vo, vp, vq] 27))) := (Below.refl _ _).alloc (Nat.le_refl _) _
  have hlen := reachB_len K
  obtain ⟨ms, hms⟩ : ∃ ms, reachB K = ms := ⟨_, rfl⟩
  rw [hms] at HR hlen ⊢
  have HLEN : Hid (ms.length = K.L.length) := hlen
  obtain ⟨oa, oc, rfl, -⟩ := hv.form
  obtain ⟨pa, pc, rfl, -⟩ := Row.form hp
  obtain ⟨ts, -, hq4, -⟩ := hq
  obtain ⟨qa, qc, rfl, -⟩ := Row.form hq4
  generalize K.L.length = N at *
  clear hv hp hq4 hS hk hms
  generalize (K.O.map opnC).length = NP at *
  generalize (ts.map prcC).length = NQ at *
  go_enter Try.func11, Try.ntmps11
  go_wp2_with fail
  refine Calls.mono (HR.out _ HB0.out) ?_
  rintro e w2 ⟨gr, rfl, hm2, hgr, hb2⟩
  have HM2 : Hid (Mine w2 gr 4 1 (.slice (some ⟨gr, 0, none⟩) N N) (ms.map bC)) := hm2
  have HB2 : Hid (Below w.heap.size w w2) := HB0.out.trans (hb2.mono HB0.out.size)
  have hgl := (hm2.lt gr rfl).2
  have hwg : w.heap.size ≤ gr := by have := HB0.out.size; omega
  clear hm2 hb2 HR hgr
  go_wp2
  go_loopw [3, 9] (fun s3 s9 wr => ∃ (k : Nat) (r : Sl), k ≤ N ∧ s9 = .int .i64 k ∧ s3 = .slice r.a r.n r.c ∧ Mine wr w2.heap.size 3 1 s3 ((nums ms k).map intC) ∧ Below w2.heap.size w2 wr) (fun _ s9 _ => N - (intOf s9).toNat)
  case atStart => exact ⟨0, ⟨none, 0, 0⟩, Nat.zero_le _, rfl, rfl, Mine.nil _ _ _ _, Below.refl _ _⟩
  case round =>
    obtain ⟨k, r, hk, rfl, rfl, hmr, hbr⟩ := hrel
    have HMR : Hid (Mine wr w2.heap.size 3 1 (.slice r.a r.n r.c) ((nums ms k).map intC)) := hmr
    have HBR : Hid (Below w2.heap.size w2 wr) := hbr
    by_cases hlt : k < N
    · have hM : Mine wr gr 4 1 (.slice (some ⟨gr, 0, none⟩) N N) (ms.map bC) := HM2.out.on (On.of hbr) fun g hg => by simp [Value.ownBlock] at hg; omega
      obtain ⟨cur, hblk, -, -, -, -, hcur⟩ := hM.blk
      obtain ⟨x, hx⟩ : ∃ x, ms[k]? = some x := ⟨_, List.getElem?_eq_getElem (by have := HLEN.out; omega)⟩
      have c0 : wr.cell? ⟨gr, k, none⟩ = some (.bool x) := by
        rw [hblk.cell k]
        refine hcur k _ ?_
        have := flatten_at (even_b ms) k (bC x) (by rw [List.getElem?_map, hx]; rfl) 0 (.bool x) rfl
        simpa using this
      have hnx := nums_next ms k
      have hgd : ms.getD k false = x := by rw [List.getD_eq_getElem?_getD, hx]; rfl
      rw [hgd] at hnx
      have hkN : (k : Int) < (N : Int) := by omega
      have hnl := nums_len ms k
      cases x with
      | false =>
        have HNX : Hid (nums ms (k + 1) = nums ms k) := by rw [if_neg (by decide)] at hnx; exact hnx
        clear hmr hbr hM hblk hcur hx hnx hgd
        go_wp2
        exact ⟨⟨k + 1, r, by omega, by go_num, rfl, by rw [HNX.out]; exact HMR.out, HBR.out⟩, by simp [intOf]; omega⟩
      | true =>
        have HNX : Hid (nums ms (k + 1) = nums ms k ++ [(k : Int)]) := by rw [if_pos rfl] at hnx; exact hnx
        have HNL : Hid ((nums ms k).length ≤ 1000) := by unfold Hid; omega
        clear hmr hbr hM hblk hcur hx hnx hgd hnl
        go_wp2_with (with_reducible refine stop_at (.call { callee := .builtin .append, args := #[.tmp 15, .tmp 17], argTypes := #[31, 31] }) rfl ?_)
        unfold Hold
        refine more_int rfl _ _ rfl rfl (HMR.out.on (On.alloc wr _) fun g hg => (HMR.out.lt g hg).2) wr.heap.size rfl (Blk.new wr _ _) HNL.out (by have := HBR.out.size; simp; omega) ?_
        intro r4 w4 hm4 hz4 hb4
        have HM4 : Hid (Mine w4 w2.heap.size 3 1 (.slice r4.a r4.n r4.c) ((nums ms (k + 1)).map intC)) := by unfold Hid; rw [HNX.out]; exact hm4
        have HB4 : Hid (Below w2.heap.size w2 w4) := (HBR.out.alloc HBR.out.size _).trans (hb4 _ (Nat.le_refl _))
        clear hm4 hz4 hb4
        go_wp2
        exact ⟨⟨k + 1, r4, by omega, by go_num, rfl, HM4.out, HB4.out⟩, by simp [intOf]; omega⟩
    · obtain rfl : k = N := by omega
      have HF : Hid (Below w.heap.size w wr) := HB2.out.trans (hbr.mono HB2.out.size)
      have HMF : Hid (Mine wr w.heap.size 3 1 (.slice r.a r.n r.c) ((nums ms k).map intC)) := hmr.base fun g hg => by have := (hmr.lt g hg).1; have := HB2.out.size; omega
      clear hmr hbr
      go_wp2
      go_ret
      exact ⟨r, rfl, HMF.out, HF.out⟩
end Go.Proofs.Ytdciohinlhbliaa


/-
  sweep.freeObjects, walked: what one can't come to is made none; an end whose other end is none is alone.
-/
namespace Go.Proofs.Ytdciohinlhbliaa
open Go.RowKit
namespace Wp
def obZ0 : Sp.Ob := ⟨0, [], [], ⟨#[]⟩, 0, [], 0, 0, 0⟩
def sl0 : Sls := ⟨⟨none, 0, 0⟩, ⟨none, 0, 0⟩, ⟨none, 0, 0⟩⟩
/-- Is an end's other end none? -/
def alone (ms : List Bool) (n : Nat) (o : Sp.Ob) : Prop := o.kind = 4 ∧ 0 ≤ o.peer ∧ o.peer < (n : Int) ∧ ms.getD o.peer.toNat false = false
def foB (ms : List Bool) (n : Nat) (o : Sp.Ob) : Bool := o.kind == 4 && decide (0 ≤ o.peer) && decide (o.peer < (n : Int)) && !ms.getD o.peer.toNat false
def fo (ms : List Bool) (n : Nat) (i : Nat) (t : Sls × Sp.Ob) : Sls × Sp.Ob := if ms.getD i false = false then (sl0, obZ0) else if foB ms n t.2 = true then (t.1, { t.2 with peer := -1 }) else t
def foRow (ms : List Bool) (n : Nat) (ts : List (Sls × Sp.Ob)) (k : Nat) : List (Sls × Sp.Ob) := ts.mapIdx fun i t => if i < k then fo ms n i t else t
theorem foRow_zero (ms : List Bool) (n : Nat) (ts : List (Sls × Sp.Ob)) : foRow ms n ts 0 = ts := by
  refine List.ext_getElem? fun i => ?_
  unfold foRow
  rw [List.getElem?_mapIdx]
  cases ts[i]? <;> simp
theorem foRow_len (ms : List Bool) (n : Nat) (ts : List (Sls × Sp.Ob)) (k : Nat) : (foRow ms n ts k).length = ts.length := by unfold foRow; simp
theorem foRow_at {ms : List Bool} {n : Nat} {ts : List (Sls × Sp.Ob)} {k : Nat} {t : Sls × Sp.Ob} (h : ts[k]? = some t) : (foRow ms n ts k)[k]? = some t := by
  unfold foRow
  rw [List.getElem?_mapIdx, h]
  simp
theorem foRow_next {ms : List Bool} {n : Nat} {ts : List (Sls × Sp.Ob)} {k : Nat} {t : Sls × Sp.Ob} (h : ts[k]? = some t) : foRow ms n ts (k + 1) = (foRow ms n ts k).set k (fo ms n k t) := by
  have hk := (List.getElem?_eq_some_iff.1 h).1
  refine List.ext_getElem? fun i => ?_
  rw [List.getElem?_set, foRow_len]
  unfold foRow
  rw [List.getElem?_mapIdx, List.getElem?_mapIdx]
  by_cases hi : k = i
  · subst hi
    rw [if_pos rfl, if_pos hk, h]
    simp
  · rw [if_neg hi]
    cases ts[i]? with
    | none => rfl
    | some x =>
      simp only [Option.map_some]
      by_cases hl : i < k
      · rw [if_pos (by omega), if_pos hl]
      · rw [if_neg (by omega), if_neg hl]
theorem foRow_end (ms : List Bool) (n : Nat) (ts : List (Sls × Sp.Ob)) : foRow ms n ts ts.length = ts.mapIdx (fo ms n) := by
  refine List.ext_getElem? fun i => ?_
  unfold foRow
  rw [List.getElem?_mapIdx, List.getElem?_mapIdx]
  cases h : ts[i]? with
  | none => rfl
  | some x =>
    have := (List.getElem?_eq_some_iff.1 h).1
    simp only [Option.map_some]
    rw [if_pos this]
end Wp
open Wp
theorem set_same {α : Type} {l : List α} {k : Nat} {t : α} (h : l[k]? = some t) : l.set k t = l := by
  obtain ⟨h1, rfl⟩ := List.getElem?_eq_some_iff.1 h
  exact List.set_getElem_self h1
theorem set_peer (s : Sls) (o : Sp.Ob) (p : Int) : (objC (s, o)).set 4 (.int .i64 p) = objC (s, { o with peer := p }) := rfl
theorem zero_objC : objC (sl0, obZ0) = [.int .i64 0, .slice none 0 0, .slice none 0 0, .string ⟨#[]⟩, .int .i64 0, .slice none 0 0, .int .i64 0, .int .i64 0, .int .i64 0] := rfl
set_option maxRecDepth 100000 in
set_option maxHeartbeats 2000000 in
theorem freeObjs_any (ts : List (Sls × Sp.Ob)) (O : List Sp.Opn) (P : List Sp.Prc) (vp vq : Value) (S : Nat → Prop) (g c base : Nat) (w : World) (hM : Mine w base 40 9 (.slice (some ⟨g, 0, none⟩) ts.length c) (ts.map objC)) (hl : ∀ t ∈ ts, Lists w S t) (hp : Row w S 2 vp (O.map opnC)) (hq : Procs w S vq P) (hS : ∀ b, S b → b < w.heap.size ∧ b ≠ g) (hL : ts.length ≤ 1000) (hk : KindOk (ts.map Prod.snd)) :
    Calls Try.prog 38 #[.agg #[.slice (some ⟨g, 0, none⟩) ts.length c, vp, vq]] w fun e w' => e = .returned (.tuple #[]) ∧ Mine w' base 40 9 (.slice (some ⟨g, 0, none⟩) ts.length c) ((ts.mapIdx (fo (reachB ⟨ts.map Prod.snd, O, P⟩) ts.length)).map objC) ∧ On (fun b => b < w.heap.size ∧ b ≠ g) w w' ∧ w.heap.size ≤ w'.heap.size ∧ ∀ B, B ≤ g → Below B w w' := by
  have hgl := (hM.lt g rfl).2
  have HB0 : Hid (Below w.heap.size w (w.alloc (.cells #[.slice (some ⟨g, 0, none⟩) ts.length c, vp, vq] 27))) := (Below.refl _ _).alloc (Nat.le_refl _) _
  have HK0 : Hid (Blk (w.alloc (.cells #[.slice (some ⟨g, 0, none⟩) ts.length c, vp, vq] 27)) w.heap.size #[.slice (some ⟨g, 0, none⟩) ts.length c, vp, vq] 27) := Blk.new _ _ _
  have hO : Objs w (fun b => b < w.heap.size) (.slice (some ⟨g, 0, none⟩) ts.length c) (ts.map Prod.snd) := hM.objs (fun b hb => hb.2) fun t ht => (hl t ht).more fun b hb => (hS b hb).1
  have HR : Hid (Calls Try.prog 36 #[.agg #[.slice (some ⟨g, 0, none⟩) ts.length c, vp, vq]] (w.alloc (.cells #[.slice (some ⟨g, 0, none⟩) ts.length c, vp, vq] 27)) fun e w' => ∃ gr : Nat, e = .returned (.slice (some ⟨gr, 0, none⟩) ts.length ts.length) ∧ Mine w' gr 4 1 (.slice (some ⟨gr, 0, none⟩) ts.length ts.length) ((reachB ⟨ts.map Prod.snd, O, P⟩).map bC) ∧ w.heap.size < gr ∧ Below w.heap.size w w' ∧ Blk w' w.heap.size #[.slice (some ⟨g, 0, none⟩) ts.length c, vp, vq] 27) := by
    have h := reached_any ⟨ts.map Prod.snd, O, P⟩ (.slice (some ⟨g, 0, none⟩) ts.length c) vp vq (fun b => b < w.heap.size) (w.alloc (.cells #[.slice (some ⟨g, 0, none⟩) ts.length c, vp, vq] 27)) (hO.on (On.of HB0.out)) ((Row.more hp fun b hb => (hS b hb).1).on (On.of HB0.out)) (procs_on (procs_more hq fun b hb => (hS b hb).1) (On.of HB0.out)) (fun b hb => by simp; omega) (by simpa using hL) hk
    simp only [List.length_map] at h
    refine h.mono ?_
    rintro e w' ⟨gr, rfl, h1, h2, h3⟩
    exact ⟨gr, rfl, h1, by simp at h2; omega, HB0.out.trans (h3.mono (by simp)), HK0.out.below h3 (by simp)⟩
  have hmsl := reachB_len ⟨ts.map Prod.snd, O, P⟩
  rw [List.length_map] at hmsl
  generalize reachB ⟨ts.map Prod.snd, O, P⟩ = ms at *
  have HMS : Hid (ms.length = ts.length) := hmsl
  have HM : Hid (Mine w base 40 9 (.slice (some ⟨g, 0, none⟩) ts.length c) (ts.map objC)) := hM
  obtain ⟨-, -, -, hcc, hcm, -, -⟩ := hM.blk
  unfold maxLen at hcm
  clear hM hl hp hq hS hk hO hmsl
  go_enter Try.func38, Try.ntmps38
  go_wp2_with fail
  refine Calls.mono HR.out ?_
  rintro e w2 ⟨gr, rfl, hmr, hgr, hb2, hk2⟩
  have hz2 : w.heap.size ≤ w2.heap.size := hb2.size
  have HMR : Hid (Mine w2 gr 4 1 (.slice (some ⟨gr, 0, none⟩) ts.length ts.length) (ms.map bC)) := hmr
  have hgrl := (hmr.lt gr rfl).2
  have HK2 : Hid (Blk w2 w.heap.size #[.slice (some ⟨g, 0, none⟩) ts.length c, vp, vq] 27) := hk2
  have HB2 : Hid (Below w.heap.size w w2) := hb2
  have k0 := hk2.cell 0
  have f0 := hk2.free 0
  simp at k0
  clear hmr hk2 hb2
  go_wp2
  have HM2 : Hid (Mine w2 base 40 9 (.slice (some ⟨g, 0, none⟩) ts.length c) ((foRow ms ts.length ts 0).map objC)) := by unfold Hid; rw [foRow_zero]; exact HM.out.on (On.of HB2.out) fun b hb => by simp [Value.ownBlock] at hb; omega
  go_loopw [10] (fun s10 wr => ∃ k : Nat, k ≤ ts.length ∧ s10 = .int .i64 k ∧ Mine wr base 40 9 (.slice (some ⟨g, 0, none⟩) ts.length c) ((foRow ms ts.length ts k).map objC) ∧ On (fun b => b ≠ g) w2 wr ∧ wr.heap.size = w2.heap.size ∧ ∀ B, B ≤ g → Below B w2 wr) (fun s10 _ => ts.length - (intOf s10).toNat)
  case atStart => exact ⟨0, Nat.zero_le _, rfl, HM2.out, fun _ _ => rfl, rfl, fun B _ => Below.refl B _⟩
  case round =>
    obtain ⟨k, hk, rfl, hmr, hor, hsr, hbr⟩ := hrel
    have HMR2 : Hid (Mine wr base 40 9 (.slice (some ⟨g, 0, none⟩) ts.length c) ((foRow ms ts.length ts k).map objC)) := hmr
    have HOR : Hid (On (fun b => b ≠ g) w2 wr) := hor
    have HSR : Hid (wr.heap.size = w2.heap.size) := hsr
    have HBR : Hid (∀ B, B ≤ g → Below B w2 wr) := hbr
    by_cases hlt : k < ts.length
    · have hK : Blk wr w.heap.size #[.slice (some ⟨g, 0, none⟩) ts.length c, vp, vq] 27 := HK2.out.on hor (by show w.heap.size ≠ g; omega)
      have r0 := hK.cell 0
      have rf := hK.free 0
      simp at r0
      obtain ⟨x, hx⟩ : ∃ x, ms[k]? = some x := ⟨_, List.getElem?_eq_getElem (by have := HMS.out; omega)⟩
      obtain ⟨⟨s, o⟩, ho⟩ : ∃ t, ts[k]? = some t := ⟨_, List.getElem?_eq_getElem hlt⟩
      have hMr : Mine wr gr 4 1 (.slice (some ⟨gr, 0, none⟩) ts.length ts.length) (ms.map bC) := HMR.out.on hor fun b hb => by simp [Value.ownBlock] at hb; subst hb; show gr ≠ g; omega
      obtain ⟨cm, hbm, -, -, -, -, hcm2⟩ := hMr.blk
      have hmark : ∀ (j : Nat) (y : Bool), ms[j]? = some y → wr.cell? ⟨gr, j, none⟩ = some (.bool y) := fun j y hj => by
        rw [hbm.cell j]
        refine hcm2 j _ ?_
        have := flatten_at (even_b ms) j (bC y) (by rw [List.getElem?_map, hj]; rfl) 0 (.bool y) rfl
        simpa using this
      have m0 := hmark k x hx
      have mf := hbm.free
      have hgd : ms.getD k false = x := by rw [List.getD_eq_getElem?_getD, hx]; rfl
      obtain ⟨cur, hblk, -, -, -, -, hcur⟩ := hmr.blk
      have hget : ((foRow ms ts.length ts k).map objC)[k]? = some (objC (s, o)) := by rw [List.getElem?_map, foRow_at ho]; rfl
      have hcell : ∀ j u, (objC (s, o))[j]? = some u → wr.cell? ⟨g, k * 9 + j, none⟩ = some u := fun j u hj => by
        rw [hblk.cell]
        exact hcur _ u (flatten_at (even_obj _) k _ hget j u hj)
      have y0 := hcell 0 _ rfl
      have y1 := hcell 1 _ rfl
      have y2 := hcell 2 _ rfl
      have y3 := hcell 3 _ rfl
      have y4 := hcell 4 _ rfl
      have y5 := hcell 5 _ rfl
      have y6 := hcell 6 _ rfl
      have y7 := hcell 7 _ rfl
      have y8 := hcell 8 _ rfl
      have yf := hblk.free
      rw [Nat.add_zero] at y0
      have HN : Hid (foRow ms ts.length ts (k + 1) = (foRow ms ts.length ts k).set k (fo ms ts.length k (s, o))) := foRow_next ho
      have HLT : Hid (k < (foRow ms ts.length ts k).length) := by unfold Hid; rw [foRow_len]; exact hlt
      have HG : Hid _ := hget
      have HSM : Hid ((foRow ms ts.length ts k).set k (s, o) = foRow ms ts.length ts k) := set_same (foRow_at ho)
      have hkN : (k : Int) < (ts.length : Int) := by omega
      clear hmr hor hsr hbr hK hMr hbm hcm2 hblk hcur hcell hget hx ho k0 f0
      cases x with
      | false =>
        have HF : Hid (fo ms ts.length k (s, o) = (sl0, obZ0)) := by unfold Hid fo; rw [if_pos hgd]
        clear hgd hmark
        go_wp2
        generalize hW : (((((((((wr.setCell ⟨g, k * 9, none⟩ (.int .i64 0)).setCell ⟨g, k * 9 + 1, none⟩ (.slice none 0 0)).setCell ⟨g, k * 9 + 2, none⟩ (.slice none 0 0)).setCell ⟨g, k * 9 + 3, none⟩ (.string ⟨#[]⟩)).setCell ⟨g, k * 9 + 4, none⟩ (.int .i64 0)).setCell ⟨g, k * 9 + 5, none⟩ (.slice none 0 0)).setCell ⟨g, k * 9 + 6, none⟩ (.int .i64 0)).setCell ⟨g, k * 9 + 7, none⟩ (.int .i64 0)).setCell ⟨g, k * 9 + 8, none⟩ (.int .i64 0)) = W9
        obtain ⟨h9, hon9, hsz9⟩ := HMR2.out.nine (even_obj _) k (by rw [List.length_map]; exact HLT.out) _ _ _ _ _ _ _ _ _ W9 hW.symm
        have hB9 : ∀ B, B ≤ g → Below B w2 W9 := fun B hB => by
          rw [← hW]
          exact (((((((((HBR.out B hB).setCell hB _).setCell hB _).setCell hB _).setCell hB _).setCell hB _).setCell hB _).setCell hB _).setCell hB _).setCell hB _
        exact ⟨⟨k + 1, by omega, by go_num, by rw [HN.out, HF.out, List.map_set]; exact h9, HOR.out.trans hon9, hsz9.trans HSR.out, hB9⟩, by simp [intOf]; omega⟩
      | true =>
        by_cases h4 : o.kind = 4
        · have h4' : (o.kind == 4) = true := by simpa using h4
          by_cases hp0 : 0 ≤ o.peer
          · by_cases hp1 : o.peer < (ts.length : Int)
            · obtain ⟨p, hp⟩ := Int.eq_ofNat_of_zero_le hp0
              have hpl : p < ts.length := by omega
              obtain ⟨y, hy⟩ : ∃ y, ms[p]? = some y := ⟨_, List.getElem?_eq_getElem (by have := HMS.out; omega)⟩
              have m1 := hmark p y hy
              have hgp : ms.getD o.peer.toNat false = y := by rw [hp, Int.toNat_natCast, List.getD_eq_getElem?_getD, hy]; rfl
              cases y with
              | true =>
                have HF : Hid (fo ms ts.length k (s, o) = (s, o)) := by unfold Hid fo; rw [if_neg (by rw [hgd]; decide), if_neg]; unfold foB; rw [hgp]; simp
                rw [hp] at y4
                have hpN : (p : Int) < (ts.length : Int) := by omega
                have hp9 : (0 : Int) ≤ (p : Int) := by omega
                clear hgd hmark hy hgp h4 hp0 hp1 hp
                go_wp2
                exact ⟨⟨k + 1, by omega, by go_num, by rw [HN.out, HF.out, HSM.out]; exact HMR2.out, HOR.out, HSR.out, HBR.out⟩, by simp [intOf]; omega⟩
              | false =>
                have HF : Hid (fo ms ts.length k (s, o) = (s, { o with peer := -1 })) := by unfold Hid fo; rw [if_neg (by rw [hgd]; decide), if_pos]; unfold foB; rw [hgp, h4']; simp [hp0, hp1]
                have hset := HMR2.out.set (even_obj _) k 4 _ (.int .i64 (-1)) HG.out (by decide)
                have HS9 : Hid (Mine (wr.setCell ⟨g, k * 9 + 4, none⟩ (.int .i64 (-1))) base 40 9 (.slice (some ⟨g, 0, none⟩) ts.length c) ((foRow ms ts.length ts (k + 1)).map objC)) := by unfold Hid; rw [HN.out, HF.out, List.map_set]; exact hset
                rw [hp] at y4
                have hpN : (p : Int) < (ts.length : Int) := by omega
                have hp9 : (0 : Int) ≤ (p : Int) := by omega
                clear hgd hmark hy hgp h4 hp0 hp1 hp hset
                go_wp2
                exact ⟨⟨k + 1, by omega, by go_num, HS9.out, HOR.out.trans (On.set _ ⟨g, k * 9 + 4, none⟩ _), by simp [HSR.out], fun B hB => (HBR.out B hB).setCell hB _⟩, by simp [intOf]; omega⟩
            · have HF : Hid (fo ms ts.length k (s, o) = (s, o)) := by unfold Hid fo; rw [if_neg (by rw [hgd]; decide), if_neg]; unfold foB; simp [hp1]
              have hp1' : (ts.length : Int) ≤ o.peer := by omega
              clear hgd hmark h4 hp1
              go_wp2
              exact ⟨⟨k + 1, by omega, by go_num, by rw [HN.out, HF.out, HSM.out]; exact HMR2.out, HOR.out, HSR.out, HBR.out⟩, by simp [intOf]; omega⟩
          · have HF : Hid (fo ms ts.length k (s, o) = (s, o)) := by unfold Hid fo; rw [if_neg (by rw [hgd]; decide), if_neg]; unfold foB; simp [hp0]
            have hp0' : o.peer < 0 := by omega
            clear hgd hmark h4 hp0
            go_wp2
            exact ⟨⟨k + 1, by omega, by go_num, by rw [HN.out, HF.out, HSM.out]; exact HMR2.out, HOR.out, HSR.out, HBR.out⟩, by simp [intOf]; omega⟩
        · have h4' : (o.kind == 4) = false := by simpa using h4
          have HF : Hid (fo ms ts.length k (s, o) = (s, o)) := by unfold Hid fo; rw [if_neg (by rw [hgd]; decide), if_neg]; unfold foB; rw [h4']; simp
          clear hgd hmark h4
          go_wp2
          exact ⟨⟨k + 1, by omega, by go_num, by rw [HN.out, HF.out, HSM.out]; exact HMR2.out, HOR.out, HSR.out, HBR.out⟩, by simp [intOf]; omega⟩
    · obtain rfl : k = ts.length := by omega
      have HE : Hid (On (fun b => b < w.heap.size ∧ b ≠ g) w wr) := ((On.of HB2.out).less fun b hb => hb.1).trans (hor.less fun b hb => hb.2)
      have HZ : Hid (w.heap.size ≤ wr.heap.size) := by unfold Hid; omega
      have HBE : Hid (∀ B, B ≤ g → Below B w wr) := fun B hB => (HB2.out.mono (by omega)).trans (hbr B hB)
      clear hmr hor hsr hbr
      go_wp2
      go_end0
      exact ⟨rfl, by rw [← foRow_end]; exact HMR2.out, HE.out, HZ.out, HBE.out⟩
end Go.Proofs.Ytdciohinlhbliaa


/-
  A row that is gone through from its first to its last, each turned as its number says.
-/
namespace Go.Proofs.Ytdciohinlhbliaa
open Go.RowKit
namespace Wp
def rowTo {α : Type} (f : Nat → α → α) (l : List α) (k : Nat) : List α := l.mapIdx fun i t => if i < k then f i t else t
theorem rowTo_zero {α : Type} (f : Nat → α → α) (l : List α) : rowTo f l 0 = l := by
  refine List.ext_getElem? fun i => ?_
  unfold rowTo
  rw [List.getElem?_mapIdx]
  cases l[i]? <;> simp
theorem rowTo_len {α : Type} (f : Nat → α → α) (l : List α) (k : Nat) : (rowTo f l k).length = l.length := by unfold rowTo; simp
theorem rowTo_at {α : Type} {f : Nat → α → α} {l : List α} {k : Nat} {t : α} (h : l[k]? = some t) : (rowTo f l k)[k]? = some t := by
  unfold rowTo
  rw [List.getElem?_mapIdx, h]
  simp
theorem rowTo_next {α : Type} {f : Nat → α → α} {l : List α} {k : Nat} {t : α} (h : l[k]? = some t) : rowTo f l (k + 1) = (rowTo f l k).set k (f k t) := by
  have hk := (List.getElem?_eq_some_iff.1 h).1
  refine List.ext_getElem? fun i => ?_
  rw [List.getElem?_set, rowTo_len]
  unfold rowTo
  rw [List.getElem?_mapIdx, List.getElem?_mapIdx]
  by_cases hi : k = i
  · subst hi
    rw [if_pos rfl, if_pos hk, h]
    simp
  · rw [if_neg hi]
    cases l[i]? with
    | none => rfl
    | some x =>
      simp only [Option.map_some]
      by_cases hl : i < k
      · rw [if_pos (by omega), if_pos hl]
      · rw [if_neg (by omega), if_neg hl]
theorem rowTo_end {α : Type} (f : Nat → α → α) (l : List α) {k : Nat} (hk : l.length ≤ k) : rowTo f l k = l.mapIdx f := by
  refine List.ext_getElem? fun i => ?_
  unfold rowTo
  rw [List.getElem?_mapIdx, List.getElem?_mapIdx]
  cases h : l[i]? with
  | none => rfl
  | some x =>
    have := (List.getElem?_eq_some_iff.1 h).1
    simp only [Option.map_some]
    rw [if_pos (by omega)]
/-- Is it so of one of the first k? -/
def anyTo {α : Type} (p : Nat → α → Bool) (l : List α) (k : Nat) : Bool := (l.take k).zipIdx.any fun x => p x.2 x.1
theorem anyTo_zero {α : Type} (p : Nat → α → Bool) (l : List α) : anyTo p l 0 = false := rfl
theorem anyTo_next {α : Type} {p : Nat → α → Bool} {l : List α} {k : Nat} {t : α} (h : l[k]? = some t) : anyTo p l (k + 1) = (anyTo p l k || p k t) := by
  have hk := (List.getElem?_eq_some_iff.1 h).1
  unfold anyTo
  rw [List.take_add_one, h, List.zipIdx_append, List.any_append, List.length_take, Nat.min_eq_left (by omega)]
  simp
end Wp
end Go.Proofs.Ytdciohinlhbliaa


/-
  sweep.endProcs, walked: processes that live, but the first, end where no object is of them.
-/
namespace Go.Proofs.Ytdciohinlhbliaa
open Go.RowKit
namespace Wp
def prcZ0 : Sl × Sp.Prc := (⟨none, 0, 0⟩, ⟨false, false, 0, []⟩)
/-- Does a process end? -/
def epB (ms : List Bool) (i : Nat) (t : Sl × Sp.Prc) : Bool := decide (1 ≤ i) && t.2.live && !ms.getD i false
def ep (ms : List Bool) (i : Nat) (t : Sl × Sp.Prc) : Sl × Sp.Prc := if epB ms i t = true then prcZ0 else t
end Wp
open Wp
theorem Mine.four {w : World} {base g n c : Nat} {e : TypeId} {css : List (List Value)} (h : Mine w base e 4 (.slice (some ⟨g, 0, none⟩) n c) css) (hE : Even 4 css) (i : Nat) (hi : i < css.length) (c0 c1 c2 c3 : Value) (W : World)
    (hW : W = ((((w.setCell ⟨g, i * 4, none⟩ c0).setCell ⟨g, i * 4 + 1, none⟩ c1).setCell ⟨g, i * 4 + 2, none⟩ c2).setCell ⟨g, i * 4 + 3, none⟩ c3)) :
    Mine W base e 4 (.slice (some ⟨g, 0, none⟩) n c) (css.set i [c0, c1, c2, c3]) ∧ On (fun k => k ≠ g) w W ∧ W.heap.size = w.heap.size ∧ ∀ B, B ≤ g → Below B w W := by
  subst hW
  obtain ⟨x0, x1, x2, x3, hx⟩ : ∃ x0 x1 x2 x3, css[i] = [x0, x1, x2, x3] := by
    have h4 := hE css[i] (List.getElem_mem hi)
    match css[i], h4 with
    | [a, b, c, d], _ => exact ⟨a, b, c, d, rfl⟩
  have hg : css[i]? = some [x0, x1, x2, x3] := by rw [List.getElem?_eq_getElem hi, hx]
  have ev : ∀ cs : List Value, cs.length = 4 → Even 4 (css.set i cs) := fun cs hcs x hx => by
    rcases List.mem_or_eq_of_mem_set hx with h1 | h1
    · exact hE x h1
    · rw [h1]; exact hcs
  have gt : ∀ cs : List Value, (css.set i cs)[i]? = some cs := fun cs => by rw [List.getElem?_set_self hi]
  have h0 := h.set hE i 0 _ c0 hg (by decide)
  have h1 := h0.set (ev _ rfl) i 1 _ c1 (gt _) (by decide)
  rw [List.set_set] at h1
  have h2 := h1.set (ev _ rfl) i 2 _ c2 (gt _) (by decide)
  rw [List.set_set] at h2
  have h3 := h2.set (ev _ rfl) i 3 _ c3 (gt _) (by decide)
  rw [List.set_set] at h3
  refine ⟨h3, fun b hb => ?_, by simp, fun B hB => ((((Below.refl B w).setCell hB _).setCell hB _).setCell hB _).setCell hB _⟩
  rw [heap_setCell_other _ ⟨g, i * 4 + 3, none⟩ b _ hb, heap_setCell_other _ ⟨g, i * 4 + 2, none⟩ b _ hb, heap_setCell_other _ ⟨g, i * 4 + 1, none⟩ b _ hb, heap_setCell_other _ ⟨g, i * 4, none⟩ b _ hb]
set_option maxRecDepth 100000 in
set_option maxHeartbeats 2000000 in
theorem endProcs_any (L : List Sp.Ob) (ts : List (Sl × Sp.Prc)) (vo vp : Value) (S : Nat → Prop) (g c base : Nat) (w : World) (hM : Mine w base 43 4 (.slice (some ⟨g, 0, none⟩) ts.length c) (ts.map prcC)) (hv : Objs w S vo L) (hS : ∀ b, S b → b < w.heap.size ∧ b ≠ g) (hL : ts.length ≤ 1000) (hpos : 1 ≤ ts.length) :
    Calls Try.prog 40 #[.agg #[vo, vp, .slice (some ⟨g, 0, none⟩) ts.length c]] w fun e w' => e = .returned (.bool (anyTo (epB (knownB L ts.length)) ts ts.length)) ∧ Mine w' base 43 4 (.slice (some ⟨g, 0, none⟩) ts.length c) ((ts.mapIdx (ep (knownB L ts.length))).map prcC) ∧ On (fun b => b < w.heap.size ∧ b ≠ g) w w' ∧ w.heap.size ≤ w'.heap.size ∧ ∀ B, B ≤ g → Below B w w' := by
  have hgl := (hM.lt g rfl).2
  have HB0 : Hid (Below w.heap.size w (w.alloc (.cells #[vo, vp, .slice (some ⟨g, 0, none⟩) ts.length c] 27))) := (Below.refl _ _).alloc (Nat.le_refl _) _
  have HK0 : Hid (Blk (w.alloc (.cells #[vo, vp, .slice (some ⟨g, 0, none⟩) ts.length c] 27)) w.heap.size #[vo, vp, .slice (some ⟨g, 0, none⟩) ts.length c] 27) := Blk.new _ _ _
  have HR : Hid (Calls Try.prog 70 #[.agg #[vo, vp, .slice (some ⟨g, 0, none⟩) ts.length c]] (w.alloc (.cells #[vo, vp, .slice (some ⟨g, 0, none⟩) ts.length c] 27)) fun e w' => ∃ gr : Nat, e = .returned (.slice (some ⟨gr, 0, none⟩) ts.length ts.length) ∧ Mine w' gr 4 1 (.slice (some ⟨gr, 0, none⟩) ts.length ts.length) ((knownB L ts.length).map bC) ∧ w.heap.size < gr ∧ Below w.heap.size w w' ∧ Blk w' w.heap.size #[vo, vp, .slice (some ⟨g, 0, none⟩) ts.length c] 27 ∧ (knownB L ts.length).length = ts.length) := by
    have h := known_any L ts.length (by omega) vo vp (some ⟨g, 0, none⟩) c S (w.alloc (.cells #[vo, vp, .slice (some ⟨g, 0, none⟩) ts.length c] 27)) (hv.on ((On.of HB0.out).less fun b hb => (hS b hb).1)) (fun b hb => by have := (hS b hb).1; simp; omega)
    refine h.mono ?_
    rintro e w' ⟨gr, rfl, h1, h2, h3⟩
    exact ⟨gr, rfl, h1, by simp at h2; omega, HB0.out.trans (h3.mono (by simp)), HK0.out.below h3 (by simp), by obtain ⟨-, -, hh, -⟩ := h1.blk; rw [List.length_map] at hh; exact hh.symm⟩
  generalize knownB L ts.length = ms at *
  have HM : Hid (Mine w base 43 4 (.slice (some ⟨g, 0, none⟩) ts.length c) (ts.map prcC)) := hM
  obtain ⟨-, -, -, hcc, hcm, -, -⟩ := hM.blk
  unfold maxLen at hcm
  clear hM hv hS
  go_enter Try.func40, Try.ntmps40
  go_wp2_with fail
  refine Calls.mono HR.out ?_
  rintro e w2 ⟨gr, rfl, hmr, hgr, hb2, hk2, hmsl⟩
  have HMS : Hid (ms.length = ts.length) := hmsl
  have hz2 : w.heap.size ≤ w2.heap.size := hb2.size
  have HMR : Hid (Mine w2 gr 4 1 (.slice (some ⟨gr, 0, none⟩) ts.length ts.length) (ms.map bC)) := hmr
  have hgrl := (hmr.lt gr rfl).2
  have HK2 : Hid (Blk w2 w.heap.size #[vo, vp, .slice (some ⟨g, 0, none⟩) ts.length c] 27) := hk2
  have HB2 : Hid (Below w.heap.size w w2) := hb2
  have k0 := hk2.cell 2
  have f0 := hk2.free 2
  simp at k0
  clear hmr hk2 hb2 hmsl
  go_wp2
  have HM2 : Hid (Mine w2 base 43 4 (.slice (some ⟨g, 0, none⟩) ts.length c) ((rowTo (ep ms) ts 1).map prcC)) := by
    unfold Hid
    obtain ⟨t0, ht0⟩ : ∃ t, ts[0]? = some t := ⟨_, List.getElem?_eq_getElem hpos⟩
    rw [rowTo_next ht0, rowTo_zero, show ep ms 0 t0 = t0 from rfl, set_same ht0]
    exact HM.out.on (On.of HB2.out) fun b hb => by simp [Value.ownBlock] at hb; omega
  have HA1 : Hid (anyTo (epB ms) ts 1 = false) := by
    unfold Hid
    obtain ⟨t0, ht0⟩ : ∃ t, ts[0]? = some t := ⟨_, List.getElem?_eq_getElem hpos⟩
    rw [anyTo_next ht0, anyTo_zero]
    rfl
  go_loopw [3, 5] (fun s3 s5 wr => ∃ k : Nat, 1 ≤ k ∧ k ≤ ts.length ∧ s5 = .int .i64 k ∧ s3 = .bool (anyTo (epB ms) ts k) ∧ Mine wr base 43 4 (.slice (some ⟨g, 0, none⟩) ts.length c) ((rowTo (ep ms) ts k).map prcC) ∧ On (fun b => b ≠ g) w2 wr ∧ wr.heap.size = w2.heap.size ∧ ∀ B, B ≤ g → Below B w2 wr) (fun _ s5 _ => ts.length - (intOf s5).toNat)
  case atStart => exact ⟨1, Nat.le_refl _, hpos, rfl, by rw [HA1.out], HM2.out, fun _ _ => rfl, rfl, fun B _ => Below.refl B _⟩
  case round =>
    obtain ⟨k, hk1, hk, rfl, rfl, hmr, hor, hsr, hbr⟩ := hrel
    have HMR2 : Hid (Mine wr base 43 4 (.slice (some ⟨g, 0, none⟩) ts.length c) ((rowTo (ep ms) ts k).map prcC)) := hmr
    have HOR : Hid (On (fun b => b ≠ g) w2 wr) := hor
    have HSR : Hid (wr.heap.size = w2.heap.size) := hsr
    have HBR : Hid (∀ B, B ≤ g → Below B w2 wr) := hbr
    have hK : Blk wr w.heap.size #[vo, vp, (.slice (some ⟨g, 0, none⟩) ts.length c)] 27 := HK2.out.on hor (by show w.heap.size ≠ g; omega)
    have r2 := hK.cell 2
    have rf := hK.free
    simp at r2
    by_cases hlt : k < ts.length
    · obtain ⟨x, hx⟩ : ∃ x, ms[k]? = some x := ⟨_, List.getElem?_eq_getElem (by have := HMS.out; omega)⟩
      obtain ⟨⟨s, p⟩, ho⟩ : ∃ t, ts[k]? = some t := ⟨_, List.getElem?_eq_getElem hlt⟩
      have hMr : Mine wr gr 4 1 (.slice (some ⟨gr, 0, none⟩) ts.length ts.length) (ms.map bC) := HMR.out.on hor fun b hb => by simp [Value.ownBlock] at hb; subst hb; show gr ≠ g; omega
      obtain ⟨cm, hbm, -, -, -, -, hcm2⟩ := hMr.blk
      have m0 : wr.cell? ⟨gr, k, none⟩ = some (.bool x) := by
        rw [hbm.cell k]
        refine hcm2 k _ ?_
        have := flatten_at (even_b ms) k (bC x) (by rw [List.getElem?_map, hx]; rfl) 0 (.bool x) rfl
        simpa using this
      have mf := hbm.free
      have hgd : ms.getD k false = x := by rw [List.getD_eq_getElem?_getD, hx]; rfl
      obtain ⟨cur, hblk, -, -, -, -, hcur⟩ := hmr.blk
      have hget : ((rowTo (ep ms) ts k).map prcC)[k]? = some (prcC (s, p)) := by rw [List.getElem?_map, rowTo_at ho]; rfl
      have hcell : ∀ j u, (prcC (s, p))[j]? = some u → wr.cell? ⟨g, k * 4 + j, none⟩ = some u := fun j u hj => by
        rw [hblk.cell]
        exact hcur _ u (flatten_at (even_prc _) k _ hget j u hj)
      have y0 := hcell 0 _ rfl
      have y1 := hcell 1 _ rfl
      have y2 := hcell 2 _ rfl
      have y3 := hcell 3 _ rfl
      have yf := hblk.free
      rw [Nat.add_zero] at y0
      dsimp only at y0 y1 y2 y3
      have HN : Hid (rowTo (ep ms) ts (k + 1) = (rowTo (ep ms) ts k).set k (ep ms k (s, p))) := rowTo_next ho
      have HAN : Hid (anyTo (epB ms) ts (k + 1) = (anyTo (epB ms) ts k || epB ms k (s, p))) := anyTo_next ho
      have HLT : Hid (k < (rowTo (ep ms) ts k).length) := by unfold Hid; rw [rowTo_len]; exact hlt
      have HSM : Hid ((rowTo (ep ms) ts k).set k (s, p) = rowTo (ep ms) ts k) := set_same (rowTo_at ho)
      have HGE : Hid _ := hget
      have hkN : (k : Int) < (ts.length : Int) := by omega
      have HE : Hid (epB ms k (s, p) = (p.live && !x)) := by unfold Hid epB; rw [hgd]; simp [hk1]
      obtain ⟨A, hA⟩ : ∃ A, anyTo (epB ms) ts k = A := ⟨_, rfl⟩
      rw [hA] at HAN
      rw [hA]
      clear hmr hor hsr hbr hK hMr hbm hcm2 hblk hcur hcell hget hx ho k0 f0 hgd hA
      cases hlv : p.live with
      | false =>
        rw [hlv] at HE y0
        have HF : Hid (ep ms k (s, p) = (s, p)) := by unfold Hid ep; rw [HE.out]; rfl
        have HA : Hid (anyTo (epB ms) ts (k + 1) = A) := by unfold Hid; rw [HAN.out, HE.out]; simp
        clear hlv
        go_wp2
        exact ⟨⟨k + 1, by omega, by omega, by go_num, by rw [HA.out], by rw [HN.out, HF.out, HSM.out]; exact HMR2.out, HOR.out, HSR.out, HBR.out⟩, by simp [intOf]; omega⟩
      | true =>
        rw [hlv] at HE y0
        cases x with
        | true =>
          have HF : Hid (ep ms k (s, p) = (s, p)) := by unfold Hid ep; rw [HE.out]; rfl
          have HA : Hid (anyTo (epB ms) ts (k + 1) = A) := by unfold Hid; rw [HAN.out, HE.out]; simp
          clear hlv
          go_wp2
          exact ⟨⟨k + 1, by omega, by omega, by go_num, by rw [HA.out], by rw [HN.out, HF.out, HSM.out]; exact HMR2.out, HOR.out, HSR.out, HBR.out⟩, by simp [intOf]; omega⟩
        | false =>
          have HF : Hid (ep ms k (s, p) = prcZ0) := by unfold Hid ep; rw [HE.out]; rfl
          have HA : Hid (anyTo (epB ms) ts (k + 1) = true) := by unfold Hid; rw [HAN.out, HE.out]; simp
          clear hlv
          go_wp2
          generalize hW : ((((wr.setCell ⟨g, k * 4, none⟩ (.bool false)).setCell ⟨g, k * 4 + 1, none⟩ (.bool false)).setCell ⟨g, k * 4 + 2, none⟩ (.int .i64 0)).setCell ⟨g, k * 4 + 3, none⟩ (.slice none 0 0)) = W4
          obtain ⟨h4, hon4, hsz4, hb4⟩ := HMR2.out.four (even_prc _) k (by rw [List.length_map]; exact HLT.out) _ _ _ _ W4 hW.symm
          exact ⟨⟨k + 1, by omega, by omega, by go_num, by rw [HA.out], by rw [HN.out, HF.out, List.map_set]; exact h4, HOR.out.trans hon4, hsz4.trans HSR.out, fun B hB => (HBR.out B hB).trans (hb4 B hB)⟩, by simp [intOf]; omega⟩
    · obtain rfl : k = ts.length := by omega
      have HE : Hid (On (fun b => b < w.heap.size ∧ b ≠ g) w wr) := ((On.of HB2.out).less fun b hb => hb.1).trans (hor.less fun b hb => hb.2)
      have HZ : Hid (w.heap.size ≤ wr.heap.size) := by unfold Hid; omega
      have HBE : Hid (∀ B, B ≤ g → Below B w wr) := fun B hB => (HB2.out.mono (by omega)).trans (hbr B hB)
      clear hmr hor hsr hbr hK k0 f0
      go_wp2
      go_ret
      exact ⟨rfl, by rw [← rowTo_end (ep ms) ts (Nat.le_refl _)]; exact HMR2.out, HE.out, HZ.out, HBE.out⟩
end Go.Proofs.Ytdciohinlhbliaa


/-
  sweep.forgetProcs and what it answers, walked: processes, but the first, are forgotten that live no more and of which no object is.
-/
namespace Go.Proofs.Ytdciohinlhbliaa
open Go.RowKit
namespace Wp
def fpB (ms : List Bool) (i : Nat) (t : Sl × Sp.Prc) : Bool := decide (1 ≤ i) && !t.2.live && !ms.getD i false
def fp (ms : List Bool) (i : Nat) (t : Sl × Sp.Prc) : Sl × Sp.Prc := if fpB ms i t = true then prcZ0 else t
end Wp
open Wp
set_option maxRecDepth 100000 in
set_option maxHeartbeats 2000000 in
theorem forgot_any (ms : List Bool) (n k g c gr base : Nat) (vo vp : Value) (gk gm : Nat) (live x : Bool) (w : World) (hK : Blk w gk #[vo, vp, .slice (some ⟨g, 0, none⟩) n c] 27) (hV : Blk w gm #[.slice (some ⟨gr, 0, none⟩) n n] 90) (hM : Mine w base 4 1 (.slice (some ⟨gr, 0, none⟩) n n) (ms.map bC)) (hk : k < n) (_hn : n ≤ 1000) (_hcm : c ≤ 2 ^ 63 - 1) (hx : ms[k]? = some x) (y0 : w.cell? ⟨g, k * 4, none⟩ = some (.bool live)) (_yf : w.frozen? ⟨g, k * 4, none⟩ = false) :
    Calls Try.prog 71 #[.int .i64 (k : Int), .pointer (some ⟨gk, 0, none⟩), .pointer (some ⟨gm, 0, none⟩)] w fun e w' => e = .returned (.bool (!live && !x)) ∧ w' = w := by
  obtain ⟨cm, hbm, -, -, -, -, hcm2⟩ := hM.blk
  have m0 : w.cell? ⟨gr, k, none⟩ = some (.bool x) := by
    rw [hbm.cell k]
    refine hcm2 k _ ?_
    have := flatten_at (even_b ms) k (bC x) (by rw [List.getElem?_map, hx]; rfl) 0 (.bool x) rfl
    simpa using this
  have k0 := hK.cell 0
  have k1 := hK.cell 1
  have k2 := hK.cell 2
  simp at k0 k1 k2
  have v0 := hV.cell 0
  simp at v0
  have hkN : (k : Int) < (n : Int) := by omega
  clear hK hV hM hbm hcm2 hx
  cases live <;> cases x <;>
  · go_enter Try.func71, Try.ntmps71
    go_wp2
    go_ret
    exact ⟨rfl, rfl⟩
set_option maxRecDepth 100000 in
set_option maxHeartbeats 2000000 in
theorem forgetProcs_any (L : List Sp.Ob) (ts : List (Sl × Sp.Prc)) (vo vp : Value) (S : Nat → Prop) (g c base : Nat) (w : World) (hM : Mine w base 43 4 (.slice (some ⟨g, 0, none⟩) ts.length c) (ts.map prcC)) (hv : Objs w S vo L) (hS : ∀ b, S b → b < w.heap.size ∧ b ≠ g) (hL : ts.length ≤ 1000) (hpos : 1 ≤ ts.length) :
    Calls Try.prog 41 #[.agg #[vo, vp, .slice (some ⟨g, 0, none⟩) ts.length c]] w fun e w' => ∃ gk gr gm : Nat, e = .returned (.func (.func 71) #[] #[.pointer (some ⟨gk, 0, none⟩), .pointer (some ⟨gm, 0, none⟩)]) ∧ w.heap.size ≤ gk ∧ w.heap.size ≤ gr ∧ w.heap.size ≤ gm ∧ Blk w' gk #[vo, vp, .slice (some ⟨g, 0, none⟩) ts.length c] 27 ∧ Blk w' gm #[.slice (some ⟨gr, 0, none⟩) ts.length ts.length] 90 ∧ Mine w' gr 4 1 (.slice (some ⟨gr, 0, none⟩) ts.length ts.length) ((knownB L ts.length).map bC) ∧ Mine w' base 43 4 (.slice (some ⟨g, 0, none⟩) ts.length c) ((ts.mapIdx (fp (knownB L ts.length))).map prcC) ∧ On (fun b => b < w.heap.size ∧ b ≠ g) w w' ∧ w.heap.size ≤ w'.heap.size ∧ ∀ B, B ≤ g → Below B w w' := by
  have hgl := (hM.lt g rfl).2
  have HB0 : Hid (Below w.heap.size w (w.alloc (.cells #[vo, vp, .slice (some ⟨g, 0, none⟩) ts.length c] 27))) := (Below.refl _ _).alloc (Nat.le_refl _) _
  have HK0 : Hid (Blk (w.alloc (.cells #[vo, vp, .slice (some ⟨g, 0, none⟩) ts.length c] 27)) w.heap.size #[vo, vp, .slice (some ⟨g, 0, none⟩) ts.length c] 27) := Blk.new _ _ _
  have HR : Hid (Calls Try.prog 70 #[.agg #[vo, vp, .slice (some ⟨g, 0, none⟩) ts.length c]] (w.alloc (.cells #[vo, vp, .slice (some ⟨g, 0, none⟩) ts.length c] 27)) fun e w' => ∃ gr : Nat, e = .returned (.slice (some ⟨gr, 0, none⟩) ts.length ts.length) ∧ Mine w' gr 4 1 (.slice (some ⟨gr, 0, none⟩) ts.length ts.length) ((knownB L ts.length).map bC) ∧ w.heap.size < gr ∧ Below w.heap.size w w' ∧ Blk w' w.heap.size #[vo, vp, .slice (some ⟨g, 0, none⟩) ts.length c] 27 ∧ (knownB L ts.length).length = ts.length) := by
    have h := known_any L ts.length (by omega) vo vp (some ⟨g, 0, none⟩) c S (w.alloc (.cells #[vo, vp, .slice (some ⟨g, 0, none⟩) ts.length c] 27)) (hv.on ((On.of HB0.out).less fun b hb => (hS b hb).1)) (fun b hb => by have := (hS b hb).1; simp; omega)
    refine h.mono ?_
    rintro e w' ⟨gr, rfl, h1, h2, h3⟩
    exact ⟨gr, rfl, h1, by simp at h2; omega, HB0.out.trans (h3.mono (by simp)), HK0.out.below h3 (by simp), by obtain ⟨-, -, hh, -⟩ := h1.blk; rw [List.length_map] at hh; exact hh.symm⟩
  generalize knownB L ts.length = ms at *
  have HM : Hid (Mine w base 43 4 (.slice (some ⟨g, 0, none⟩) ts.length c) (ts.map prcC)) := hM
  obtain ⟨-, -, -, hcc, hcm, -, -⟩ := hM.blk
  unfold maxLen at hcm
  clear hM hv hS
  go_enter Try.func41, Try.ntmps41
  go_wp2_with fail
  refine Calls.mono HR.out ?_
  rintro e w2 ⟨gr, rfl, hmr, hgr, hb2, hk2, hmsl⟩
  have HMS : Hid (ms.length = ts.length) := hmsl
  have hz2 : w.heap.size ≤ w2.heap.size := hb2.size
  have HMR : Hid (Mine w2 gr 4 1 (.slice (some ⟨gr, 0, none⟩) ts.length ts.length) (ms.map bC)) := hmr
  have hgrl := (hmr.lt gr rfl).2
  have HK2 : Hid (Blk w2 w.heap.size #[vo, vp, .slice (some ⟨g, 0, none⟩) ts.length c] 27) := hk2
  have HB2 : Hid (Below w.heap.size w w2) := hb2
  have k0 := hk2.cell 2
  have f0 := hk2.free 2
  simp at k0
  clear hmr hk2 hb2 hmsl
  go_wp2
  have HW3 : Hid (Blk (w2.alloc (.cells #[.slice (some ⟨gr, 0, none⟩) ts.length ts.length] 90)) w2.heap.size #[.slice (some ⟨gr, 0, none⟩) ts.length ts.length] 90) := Blk.new _ _ _
  have HZ3 : Hid ((w2.alloc (.cells #[.slice (some ⟨gr, 0, none⟩) ts.length ts.length] 90)).heap.size = w2.heap.size + 1) := by unfold Hid; simp
  have HO3 : Hid (On (fun b => b < w2.heap.size) w2 (w2.alloc (.cells #[.slice (some ⟨gr, 0, none⟩) ts.length ts.length] 90))) := On.alloc _ _
  have HB3 : Hid (Below w.heap.size w (w2.alloc (.cells #[.slice (some ⟨gr, 0, none⟩) ts.length ts.length] 90))) := HB2.out.alloc HB2.out.size _
  generalize (w2.alloc (.cells #[.slice (some ⟨gr, 0, none⟩) ts.length ts.length] 90)) = w3 at *
  have HMR3 : Hid (Mine w3 gr 4 1 (.slice (some ⟨gr, 0, none⟩) ts.length ts.length) (ms.map bC)) := HMR.out.on HO3.out fun b hb => by simp [Value.ownBlock] at hb; subst hb; exact hgrl
  have HK3 : Hid (Blk w3 w.heap.size #[vo, vp, (.slice (some ⟨g, 0, none⟩) ts.length c)] 27) := HK2.out.on HO3.out HK2.out.lt
  have hgkl := HK2.out.lt
  have HM3 : Hid (Mine w3 base 43 4 (.slice (some ⟨g, 0, none⟩) ts.length c) ((rowTo (fp ms) ts 1).map prcC)) := by
    unfold Hid
    obtain ⟨t0, ht0⟩ : ∃ t, ts[0]? = some t := ⟨_, List.getElem?_eq_getElem hpos⟩
    rw [rowTo_next ht0, rowTo_zero, show fp ms 0 t0 = t0 from rfl, set_same ht0]
    exact HM.out.on (On.of HB3.out) fun b hb => by simp [Value.ownBlock] at hb; omega
  clear k0 f0
  go_loopw [5] (fun s5 wr => ∃ k : Nat, 1 ≤ k ∧ k ≤ ts.length ∧ s5 = .int .i64 k ∧ Mine wr base 43 4 (.slice (some ⟨g, 0, none⟩) ts.length c) ((rowTo (fp ms) ts k).map prcC) ∧ On (fun b => b ≠ g) w3 wr ∧ wr.heap.size = w3.heap.size ∧ ∀ B, B ≤ g → Below B w3 wr) (fun s5 _ => ts.length - (intOf s5).toNat)
  case atStart => exact ⟨1, Nat.le_refl _, hpos, rfl, HM3.out, fun _ _ => rfl, rfl, fun B _ => Below.refl B _⟩
  case round =>
    obtain ⟨k, hk1, hk, rfl, hmr, hor, hsr, hbr⟩ := hrel
    have HMR2 : Hid (Mine wr base 43 4 (.slice (some ⟨g, 0, none⟩) ts.length c) ((rowTo (fp ms) ts k).map prcC)) := hmr
    have HOR : Hid (On (fun b => b ≠ g) w3 wr) := hor
    have HSR : Hid (wr.heap.size = w3.heap.size) := hsr
    have HBR : Hid (∀ B, B ≤ g → Below B w3 wr) := hbr
    have hK : Blk wr w.heap.size #[vo, vp, (.slice (some ⟨g, 0, none⟩) ts.length c)] 27 := HK3.out.on hor (by show w.heap.size ≠ g; omega)
    have hV : Blk wr w2.heap.size #[.slice (some ⟨gr, 0, none⟩) ts.length ts.length] 90 := HW3.out.on hor (by show w2.heap.size ≠ g; omega)
    have hMr : Mine wr gr 4 1 (.slice (some ⟨gr, 0, none⟩) ts.length ts.length) (ms.map bC) := HMR3.out.on hor fun b hb => by simp [Value.ownBlock] at hb; subst hb; show gr ≠ g; omega
    have r2 := hK.cell 2
    have rf := hK.free
    simp at r2
    by_cases hlt : k < ts.length
    · obtain ⟨x, hx⟩ : ∃ x, ms[k]? = some x := ⟨_, List.getElem?_eq_getElem (by have := HMS.out; omega)⟩
      obtain ⟨⟨s, p⟩, ho⟩ : ∃ t, ts[k]? = some t := ⟨_, List.getElem?_eq_getElem hlt⟩
      have hgd : ms.getD k false = x := by rw [List.getD_eq_getElem?_getD, hx]; rfl
      obtain ⟨cur, hblk, -, -, -, -, hcur⟩ := hmr.blk
      have hget : ((rowTo (fp ms) ts k).map prcC)[k]? = some (prcC (s, p)) := by rw [List.getElem?_map, rowTo_at ho]; rfl
      have hcell : ∀ j u, (prcC (s, p))[j]? = some u → wr.cell? ⟨g, k * 4 + j, none⟩ = some u := fun j u hj => by
        rw [hblk.cell]
        exact hcur _ u (flatten_at (even_prc _) k _ hget j u hj)
      have y0 := hcell 0 _ rfl
      have y1 := hcell 1 _ rfl
      have y2 := hcell 2 _ rfl
      have y3 := hcell 3 _ rfl
      have yf := hblk.free
      rw [Nat.add_zero] at y0
      dsimp only at y0 y1 y2 y3
      have HC : Hid (Calls Try.prog 71 #[.int .i64 (k : Int), .pointer (some ⟨w.heap.size, 0, none⟩), .pointer (some ⟨w2.heap.size, 0, none⟩)] wr fun e w' => e = .returned (.bool (!p.live && !x)) ∧ w' = wr) := forgot_any ms ts.length k g c gr gr vo vp w.heap.size w2.heap.size p.live x wr hK hV hMr hlt (by omega) hcm hx y0 (yf _)
      have HN : Hid (rowTo (fp ms) ts (k + 1) = (rowTo (fp ms) ts k).set k (fp ms k (s, p))) := rowTo_next ho
      have HLT : Hid (k < (rowTo (fp ms) ts k).length) := by unfold Hid; rw [rowTo_len]; exact hlt
      have HSM : Hid ((rowTo (fp ms) ts k).set k (s, p) = rowTo (fp ms) ts k) := set_same (rowTo_at ho)
      have hkN : (k : Int) < (ts.length : Int) := by omega
      have HE : Hid (fpB ms k (s, p) = (!p.live && !x)) := by unfold Hid fpB; rw [hgd]; simp [hk1]
      have eg : Enters Try.prog 71 := by unfold Enters; intro args w; rfl
      unfold Enters at eg
      clear hmr hor hsr hbr hK hV hMr hblk hcur hcell hget hx ho hgd
      obtain ⟨b, hb⟩ : ∃ b, (!p.live && !x) = b := ⟨_, rfl⟩
      rw [hb] at HC HE
      go_wp2_with fail
      refine Calls.mono HC.out ?_
      rintro e w4 ⟨rfl, hw⟩
      rw [hw]
      clear hw hb
      cases b with
      | false =>
        have HF : Hid (fp ms k (s, p) = (s, p)) := by unfold Hid fp; rw [HE.out]; rfl
        go_wp2
        exact ⟨⟨k + 1, by omega, by omega, by go_num, by rw [HN.out, HF.out, HSM.out]; exact HMR2.out, HOR.out, HSR.out, HBR.out⟩, by simp [intOf]; omega⟩
      | true =>
        have HF : Hid (fp ms k (s, p) = prcZ0) := by unfold Hid fp; rw [HE.out]; rfl
        go_wp2
        generalize hW : ((((wr.setCell ⟨g, k * 4, none⟩ (.bool false)).setCell ⟨g, k * 4 + 1, none⟩ (.bool false)).setCell ⟨g, k * 4 + 2, none⟩ (.int .i64 0)).setCell ⟨g, k * 4 + 3, none⟩ (.slice none 0 0)) = W4
        obtain ⟨h4, hon4, hsz4, hb4⟩ := HMR2.out.four (even_prc _) k (by rw [List.length_map]; exact HLT.out) _ _ _ _ W4 hW.symm
        exact ⟨⟨k + 1, by omega, by omega, by go_num, by rw [HN.out, HF.out, List.map_set]; exact h4, HOR.out.trans hon4, hsz4.trans HSR.out, fun B hB => (HBR.out B hB).trans (hb4 B hB)⟩, by simp [intOf]; omega⟩
    · obtain rfl : k = ts.length := by omega
      have HE : Hid (On (fun b => b < w.heap.size ∧ b ≠ g) w wr) := ((On.of HB3.out).less fun b hb => hb.1).trans (hor.less fun b hb => hb.2)
      have HZ : Hid (w.heap.size ≤ wr.heap.size) := by have := HB3.out.size; unfold Hid; omega
      have HBE : Hid (∀ B, B ≤ g → Below B w wr) := fun B hB => (HB3.out.mono (by omega)).trans (hbr B hB)
      have HKF : Hid _ := hK
      have HVF : Hid _ := hV
      have HMF : Hid _ := hMr
      clear hmr hor hsr hbr hK hV hMr
      go_wp2
      go_ret
      exact ⟨w.heap.size, gr, w2.heap.size, rfl, Nat.le_refl _, by omega, by omega, HKF.out, HVF.out, HMF.out, by rw [← rowTo_end (fp ms) ts (Nat.le_refl _)]; exact HMR2.out, HE.out, HZ.out, HBE.out⟩
end Go.Proofs.Ytdciohinlhbliaa


/-
  sweep.trimmed, walked, for objects, open files and processes: what goes at the end is left out.
-/
namespace Go.Proofs.Ytdciohinlhbliaa
open Go.RowKit
namespace Wp
/-- How many of n are left. -/
def trimN (G : Nat → Bool) (stay : Nat) : Nat → Nat
  | 0 => 0
  | n + 1 => if stay ≤ n ∧ G n = true then trimN G stay n else n + 1
theorem trimN_le (G : Nat → Bool) (stay : Nat) : ∀ n, trimN G stay n ≤ n
  | 0 => Nat.le_refl _
  | n + 1 => by
    unfold trimN
    split
    · exact Nat.le_succ_of_le (trimN_le G stay n)
    · exact Nat.le_refl _
theorem trimN_low {G : Nat → Bool} {stay k : Nat} (h : k ≤ stay) : trimN G stay k = k := by
  cases k with
  | zero => rfl
  | succ k => unfold trimN; rw [if_neg (by omega)]
theorem trimN_go {G : Nat → Bool} {stay k : Nat} (h : stay ≤ k) (hg : G k = true) : trimN G stay (k + 1) = trimN G stay k := by
  rw [trimN, if_pos ⟨h, hg⟩]
theorem trimN_end {G : Nat → Bool} {stay k : Nat} (hg : G k = false) : trimN G stay (k + 1) = k + 1 := by
  rw [trimN, if_neg (by rw [hg]; simp)]
end Wp
open Wp
set_option maxRecDepth 100000 in
set_option maxHeartbeats 2000000 in
theorem trimmedObject_any (G : Nat → Bool) (stay : Nat) (fn : Nat) (caps : Array Value) (g n c : Nat) (_hn : n ≤ 1000) (hs : stay ≤ 1) (hnc : n ≤ c) (hcm : c ≤ 2 ^ 63 - 1) (w : World) (eg : Enters Try.prog fn)
    (hC : ∀ k : Nat, stay ≤ k → k < n → Calls Try.prog fn (#[.int .i64 (k : Int)] ++ caps) w fun e w' => e = .returned (.bool (G k)) ∧ w' = w) :
    Calls Try.prog 42 #[.slice (some ⟨g, 0, none⟩) n c, .int .i64 (stay : Int), .func (.func fn) #[] caps] w fun e w' => e = .returned (.slice (some ⟨g, 0, none⟩) (trimN G stay n) c) ∧ w' = w := by
  have HC : Hid (∀ k : Nat, stay ≤ k → k < n → Calls Try.prog fn (#[.int .i64 (k : Int)] ++ caps) w fun e w' => e = .returned (.bool (G k)) ∧ w' = w) := hC
  unfold Enters at eg
  clear hC
  go_enter Try.func42, Try.ntmps42
  go_wp2
  go_loopw [7] (fun s7 wr => ∃ k : Nat, k ≤ n ∧ s7 = .int .i64 k ∧ wr = w ∧ trimN G stay n = trimN G stay k) (fun s7 _ => (intOf s7).toNat)
  case atStart => exact ⟨n, Nat.le_refl _, rfl, rfl, rfl⟩
  case round =>
    obtain ⟨k, hk, rfl, rfl, htr⟩ := hrel
    have HTR : Hid (trimN G stay n = trimN G stay k) := htr
    clear htr
    by_cases hlt : stay < k
    · obtain ⟨j, rfl⟩ : ∃ j, k = j + 1 := ⟨k - 1, by omega⟩
      have HCJ : Hid _ := HC.out j (by omega) (by omega)
      have hj1 : (stay : Int) < (j : Int) + 1 := by omega
      have hjs : ((j + 1 : Nat) : Int) - 1 = (j : Int) := by omega
      obtain ⟨b, hb⟩ : ∃ b, G j = b := ⟨_, rfl⟩
      rw [hb] at HCJ
      cases b with
      | true =>
        have HN : Hid (trimN G stay n = trimN G stay j) := HTR.out.trans (trimN_go (by omega) hb)
        clear hb
        go_wp2_with fail
        refine Calls.mono HCJ.out ?_
        rintro e w4 ⟨rfl, hw⟩
        rw [hw]
        clear hw
        go_wp2
        exact ⟨⟨j, by omega, by go_num, trivial, HN.out⟩, by simp [intOf]⟩
      | false =>
        have HN : Hid (trimN G stay n = j + 1) := HTR.out.trans (trimN_end hb)
        clear hb
        go_wp2_with fail
        refine Calls.mono HCJ.out ?_
        rintro e w4 ⟨rfl, hw⟩
        rw [hw]
        clear hw
        go_wp2
        go_ret
        exact ⟨by rw [HN.out]; rfl, rfl⟩
    · have HN : Hid (trimN G stay n = k) := HTR.out.trans (trimN_low (by omega))
      have hks : (k : Int) ≤ (stay : Int) := by omega
      go_wp2
      go_ret
      exact ⟨by rw [HN.out]; rfl, rfl⟩
set_option maxRecDepth 100000 in
set_option maxHeartbeats 2000000 in
theorem trimmedOpen_any (G : Nat → Bool) (stay : Nat) (fn : Nat) (caps : Array Value) (g n c : Nat) (_hn : n ≤ 1000) (hs : stay ≤ 1) (hnc : n ≤ c) (hcm : c ≤ 2 ^ 63 - 1) (w : World) (eg : Enters Try.prog fn)
    (hC : ∀ k : Nat, stay ≤ k → k < n → Calls Try.prog fn (#[.int .i64 (k : Int)] ++ caps) w fun e w' => e = .returned (.bool (G k)) ∧ w' = w) :
    Calls Try.prog 44 #[.slice (some ⟨g, 0, none⟩) n c, .int .i64 (stay : Int), .func (.func fn) #[] caps] w fun e w' => e = .returned (.slice (some ⟨g, 0, none⟩) (trimN G stay n) c) ∧ w' = w := by
  have HC : Hid (∀ k : Nat, stay ≤ k → k < n → Calls Try.prog fn (#[.int .i64 (k : Int)] ++ caps) w fun e w' => e = .returned (.bool (G k)) ∧ w' = w) := hC
  unfold Enters at eg
  clear hC
  go_enter Try.func44, Try.ntmps44
  go_wp2
  go_loopw [7] (fun s7 wr => ∃ k : Nat, k ≤ n ∧ s7 = .int .i64 k ∧ wr = w ∧ trimN G stay n = trimN G stay k) (fun s7 _ => (intOf s7).toNat)
  case atStart => exact ⟨n, Nat.le_refl _, rfl, rfl, rfl⟩
  case round =>
    obtain ⟨k, hk, rfl, rfl, htr⟩ := hrel
    have HTR : Hid (trimN G stay n = trimN G stay k) := htr
    clear htr
    by_cases hlt : stay < k
    · obtain ⟨j, rfl⟩ : ∃ j, k = j + 1 := ⟨k - 1, by omega⟩
      have HCJ : Hid _ := HC.out j (by omega) (by omega)
      have hj1 : (stay : Int) < (j : Int) + 1 := by omega
      have hjs : ((j + 1 : Nat) : Int) - 1 = (j : Int) := by omega
      obtain ⟨b, hb⟩ : ∃ b, G j = b := ⟨_, rfl⟩
      rw [hb] at HCJ
      cases b with
      | true =>
        have HN : Hid (trimN G stay n = trimN G stay j) := HTR.out.trans (trimN_go (by omega) hb)
        clear hb
        go_wp2_with fail
        refine Calls.mono HCJ.out ?_
        rintro e w4 ⟨rfl, hw⟩
        rw [hw]
        clear hw
        go_wp2
        exact ⟨⟨j, by omega, by go_num, trivial, HN.out⟩, by simp [intOf]⟩
      | false =>
        have HN : Hid (trimN G stay n = j + 1) := HTR.out.trans (trimN_end hb)
        clear hb
        go_wp2_with fail
        refine Calls.mono HCJ.out ?_
        rintro e w4 ⟨rfl, hw⟩
        rw [hw]
        clear hw
        go_wp2
        go_ret
        exact ⟨by rw [HN.out]; rfl, rfl⟩
    · have HN : Hid (trimN G stay n = k) := HTR.out.trans (trimN_low (by omega))
      have hks : (k : Int) ≤ (stay : Int) := by omega
      go_wp2
      go_ret
      exact ⟨by rw [HN.out]; rfl, rfl⟩
set_option maxRecDepth 100000 in
set_option maxHeartbeats 2000000 in
theorem trimmedProc_any (G : Nat → Bool) (stay : Nat) (fn : Nat) (caps : Array Value) (g n c : Nat) (_hn : n ≤ 1000) (hs : stay ≤ 1) (hnc : n ≤ c) (hcm : c ≤ 2 ^ 63 - 1) (w : World) (eg : Enters Try.prog fn)
    (hC : ∀ k : Nat, stay ≤ k → k < n → Calls Try.prog fn (#[.int .i64 (k : Int)] ++ caps) w fun e w' => e = .returned (.bool (G k)) ∧ w' = w) :
    Calls Try.prog 46 #[.slice (some ⟨g, 0, none⟩) n c, .int .i64 (stay : Int), .func (.func fn) #[] caps] w fun e w' => e = .returned (.slice (some ⟨g, 0, none⟩) (trimN G stay n) c) ∧ w' = w := by
  have HC : Hid (∀ k : Nat, stay ≤ k → k < n → Calls Try.prog fn (#[.int .i64 (k : Int)] ++ caps) w fun e w' => e = .returned (.bool (G k)) ∧ w' = w) := hC
  unfold Enters at eg
  clear hC
  go_enter Try.func46, Try.ntmps46
  go_wp2
  go_loopw [7] (fun s7 wr => ∃ k : Nat, k ≤ n ∧ s7 = .int .i64 k ∧ wr = w ∧ trimN G stay n = trimN G stay k) (fun s7 _ => (intOf s7).toNat)
  case atStart => exact ⟨n, Nat.le_refl _, rfl, rfl, rfl⟩
  case round =>
    obtain ⟨k, hk, rfl, rfl, htr⟩ := hrel
    have HTR : Hid (trimN G stay n = trimN G stay k) := htr
    clear htr
    by_cases hlt : stay < k
    · obtain ⟨j, rfl⟩ : ∃ j, k = j + 1 := ⟨k - 1, by omega⟩
      have HCJ : Hid _ := HC.out j (by omega) (by omega)
      have hj1 : (stay : Int) < (j : Int) + 1 := by omega
      have hjs : ((j + 1 : Nat) : Int) - 1 = (j : Int) := by omega
      obtain ⟨b, hb⟩ : ∃ b, G j = b := ⟨_, rfl⟩
      rw [hb] at HCJ
      cases b with
      | true =>
        have HN : Hid (trimN G stay n = trimN G stay j) := HTR.out.trans (trimN_go (by omega) hb)
        clear hb
        go_wp2_with fail
        refine Calls.mono HCJ.out ?_
        rintro e w4 ⟨rfl, hw⟩
        rw [hw]
        clear hw
        go_wp2
        exact ⟨⟨j, by omega, by go_num, trivial, HN.out⟩, by simp [intOf]⟩
      | false =>
        have HN : Hid (trimN G stay n = j + 1) := HTR.out.trans (trimN_end hb)
        clear hb
        go_wp2_with fail
        refine Calls.mono HCJ.out ?_
        rintro e w4 ⟨rfl, hw⟩
        rw [hw]
        clear hw
        go_wp2
        go_ret
        exact ⟨by rw [HN.out]; rfl, rfl⟩
    · have HN : Hid (trimN G stay n = k) := HTR.out.trans (trimN_low (by omega))
      have hks : (k : Int) ≤ (stay : Int) := by omega
      go_wp2
      go_ret
      exact ⟨by rw [HN.out]; rfl, rfl⟩
end Go.Proofs.Ytdciohinlhbliaa


/-
  What Sweep hands to trimmed, walked: is an object none, is an open file of none?
-/
namespace Go.Proofs.Ytdciohinlhbliaa
open Go.RowKit
open Wp
set_option maxRecDepth 100000 in
set_option maxHeartbeats 2000000 in
theorem goneOb_any (k g n c gk : Nat) (vp vq : Value) (kind : Int) (w : World) (hK : Blk w gk #[.slice (some ⟨g, 0, none⟩) n c, vp, vq] 27) (hk : k < n) (y0 : w.cell? ⟨g, k * 9, none⟩ = some (.int .i64 kind)) :
    Calls Try.prog 43 #[.int .i64 (k : Int), .pointer (some ⟨gk, 0, none⟩)] w fun e w' => e = .returned (.bool (kind == 0)) ∧ w' = w := by
  have k0 := hK.cell 0
  simp at k0
  have hkN : (k : Int) < (n : Int) := by omega
  clear hK
  go_enter Try.func43, Try.ntmps43
  go_wp2
  go_ret
  exact ⟨rfl, rfl⟩
set_option maxRecDepth 100000 in
set_option maxHeartbeats 2000000 in
theorem goneOp_any (k g n c gk : Nat) (vo vq : Value) (obj : Int) (w : World) (hK : Blk w gk #[vo, .slice (some ⟨g, 0, none⟩) n c, vq] 27) (hk : k < n) (y0 : w.cell? ⟨g, k * 2, none⟩ = some (.int .i64 obj)) :
    Calls Try.prog 45 #[.int .i64 (k : Int), .pointer (some ⟨gk, 0, none⟩)] w fun e w' => e = .returned (.bool (obj == -1)) ∧ w' = w := by
  have k0 := hK.cell 0
  have k1 := hK.cell 1
  simp at k0 k1
  have hkN : (k : Int) < (n : Int) := by omega
  clear hK
  go_enter Try.func45, Try.ntmps45
  go_wp2
  go_ret
  exact ⟨rfl, rfl⟩
set_option maxRecDepth 100000 in
set_option maxHeartbeats 2000000 in
/-- What freeOpens hands on: a capability's open file is marked. -/
theorem has_any (op rt : Int) (gb gr gm gf n : Nat) (ms : List Bool) (w : World) (hm : Marks w gb gr gm n ms) (hf : Blk w gf #[markF gb gm] 95) :
    Calls Try.prog 69 #[.agg #[.int .i64 op, .int .i64 rt], .pointer (some ⟨gf, 0, none⟩)] w fun e w' => e = .returned (.tuple #[]) ∧ Marks w' gb gr gm n (setB ms op) ∧ On (fun b => (b < w.heap.size ∧ b ≠ gr)) w w' ∧ w.heap.size ≤ w'.heap.size ∧ ∀ B, B ≤ gr → Below B w w' := by
  have hfl := hf.lt
  have HC : Hid (∀ ob, Calls Try.prog 81 #[.int .i64 op, .pointer (some ⟨gb, 0, none⟩), .pointer (some ⟨gm, 0, none⟩)] (w.alloc ob) fun e w' => (∃ b, e = .returned (.bool b)) ∧ Marks w' gb gr gm n (setB ms op) ∧ On (fun b => (b < w.heap.size ∧ b ≠ gr)) w w' ∧ w.heap.size ≤ w'.heap.size ∧ ∀ B, B ≤ gr → Below B w w') := fun ob => by
    have hma : Marks (w.alloc ob) gb gr gm n ms := hm.on (On.alloc w ob) hm.box.lt (hm.row.lt _ rfl).2 hm.var.lt
    have hgr : gr < w.heap.size := (hm.row.lt gr rfl).2
    refine (mark_any op gb gr gm n ms _ hma).mono fun e w' h => ?_
    obtain ⟨h1, h2, h3, h4, h5⟩ := h.one hma
    refine ⟨h1, h2, ((On.alloc w ob).less fun b hb => hb.1).trans (h3.less fun b hb => hb.2), by rw [h4]; simp, fun B hB => ((Below.refl B w).alloc (by omega) ob).trans (h5 B hB)⟩
  have f0 := hf.cell 0
  simp [markF] at f0
  have eg : Enters Try.prog 81 := by unfold Enters; intro args w; rfl
  unfold Enters at eg
  clear hm hf
  go_enter Try.func69, Try.ntmps69
  go_wp2_with fail
  refine Calls.mono (HC.out _) ?_
  rintro e w2 ⟨⟨b, rfl⟩, h1, h2, h3, h4⟩
  have H1 : Hid _ := h1
  have H2 : Hid _ := h2
  have H3 : Hid _ := h3
  have H4 : Hid _ := h4
  clear h1 h2 h3 h4
  go_wp2
  go_end0
  exact ⟨rfl, H1.out, H2.out, H3.out, H4.out⟩
end Go.Proofs.Ytdciohinlhbliaa


/-
  sweep.freeOpens, walked: open files that no process holds and that wait nowhere are made none.
-/
namespace Go.Proofs.Ytdciohinlhbliaa
open Go.RowKit
namespace Wp
def hadS (ms : List Bool) (s : Sp.Slt) : List Bool := setB ms s.op
def hadM (ms : List Bool) (m : Sp.Msg) : List Bool := if m.has = true then setB ms m.op else ms
def hadO (ms : List Bool) (o : Sp.Ob) : List Bool := o.queue.foldl hadM ms
/-- Which open files are had. -/
def hadB (L : List Sp.Ob) (P : List Sp.Prc) (n : Nat) : List Bool := L.foldl hadO ((heldL P).foldl hadS (List.replicate n false))
def opnZ : Sp.Opn := ⟨-1, 0⟩
def op (ms : List Bool) (i : Nat) (x : Sp.Opn) : Sp.Opn := if ms.getD i false = false then opnZ else x
end Wp
open Wp
structure FO (W : World) (gb gr gm gf n : Nat) (w : World) (ms : List Bool) : Prop where
  marks : Marks w gb gr gm n ms
  fn : Blk w gf #[markF gb gm] 95
  on : On (fun b => b < W.heap.size ∧ b ≠ gr) W w
  size : W.heap.size ≤ w.heap.size
  below : ∀ B, B ≤ gr → Below B W w
  low : gr < W.heap.size ∧ gf < W.heap.size ∧ gf ≠ gr
theorem FO.alloc {W : World} {gb gr gm gf n : Nat} {w : World} {ms : List Bool} (h : FO W gb gr gm gf n w ms) (ob : Obj) : FO W gb gr gm gf n (w.alloc ob) ms := by
  have hl := h.low
  have hz := h.size
  refine ⟨h.marks.on (On.alloc w ob) h.marks.box.lt (h.marks.row.lt gr rfl).2 h.marks.var.lt, h.fn.alloc ob, h.on.trans ((On.alloc w ob).less fun b hb => by omega), by simp; omega, fun B hB => (h.below B hB).alloc (by omega) ob, hl⟩
theorem FO.has {W : World} {gb gr gm gf n : Nat} {w : World} {ms : List Bool} (h : FO W gb gr gm gf n w ms) (op rt : Int) :
    Calls Try.prog 69 #[.agg #[.int .i64 op, .int .i64 rt], .pointer (some ⟨gf, 0, none⟩)] w fun e w' => e = .returned (.tuple #[]) ∧ FO W gb gr gm gf n w' (setB ms op) := by
  refine (has_any op rt gb gr gm gf n ms w h.marks h.fn).mono ?_
  rintro e w' ⟨rfl, h1, h2, h3, h4⟩
  have hl := h.low
  have hz := h.size
  exact ⟨rfl, h1, h.fn.on h2 ⟨by omega, hl.2.2⟩, h.on.trans (h2.less fun b hb => ⟨by omega, hb.2⟩), by omega, fun B hB => (h.below B hB).trans (h4 B hB), hl⟩
/-- All that processes hold is marked. -/
theorem FO.held {W : World} {gb gr gm gf n : Nat} {w : World} {ms : List Bool} (h : FO W gb gr gm gf n w ms) (P : List Sp.Prc) (v : Value) (S : Nat → Prop) (hv : Procs w S v P) (hS : ∀ b, S b → b < W.heap.size ∧ b ≠ gr) (eg : Enters Try.prog 69) :
    Calls Try.prog 65 #[v, .func (.func 69) #[] #[.pointer (some ⟨gf, 0, none⟩)]] w fun e w' => e = .returned (.tuple #[]) ∧ FO W gb gr gm gf n w' ((heldL P).foldl hadS ms) := by
  have hz := h.size
  have hl := h.low
  have hh := eachHeld_any 69 #[.pointer (some ⟨gf, 0, none⟩)] P v S w hv eg (fun xs w' => FO W gb gr gm gf n w' (xs.foldl hadS ms) ∧ On (fun b => b < W.heap.size ∧ b ≠ gr) w w' ∧ w.heap.size ≤ w'.heap.size)
    ⟨h, fun _ _ => rfl, Nat.le_refl _⟩ ⟨fun xs w' g => ⟨g.2.1.less fun b hb => hS b hb, g.2.2⟩, fun xs w' ob g => ⟨g.1.alloc ob, g.2.1.trans ((On.alloc w' ob).less fun b hb => by have := g.1.size; omega), by have := g.2.2; simp; omega⟩⟩ (fun xs s p w' g _ _ _ _ => ?_)
  · refine hh.mono ?_
    rintro e w' ⟨rfl, g, -⟩
    exact ⟨rfl, g⟩
  · refine (has_any s.op s.rt gb gr gm gf n _ w' g.1.marks g.1.fn).mono ?_
    rintro e w'' ⟨rfl, h1, h2, h3, h4⟩
    have hz' := g.1.size
    have hg2 := g.2.2
    refine ⟨rfl, ⟨by rw [List.foldl_append]; exact h1, g.1.fn.on h2 ⟨by omega, hl.2.2⟩, g.1.on.trans (h2.less fun b hb => ⟨by omega, hb.2⟩), by omega, fun B hB => (g.1.below B hB).trans (h4 B hB), hl⟩, g.2.1.trans (h2.less fun b hb => ⟨by omega, hb.2⟩), by omega⟩
/-- All that waits at an object is marked. -/
theorem FO.wait {W : World} {gb gr gm gf n : Nat} {w : World} {ms : List Bool} (h : FO W gb gr gm gf n w ms) (o : Sp.Ob) (s : Sls) (S : Nat → Prop) (hv : Lists w S (s, o)) (hk : o.kind ≠ 4 → o.queue = []) (hS : ∀ b, S b → b < W.heap.size ∧ b ≠ gr) (eg : Enters Try.prog 69) :
    Calls Try.prog 67 #[.agg (objC (s, o)).toArray, .func (.func 69) #[] #[.pointer (some ⟨gf, 0, none⟩)]] w fun e w' => e = .returned (.tuple #[]) ∧ FO W gb gr gm gf n w' (hadO ms o) := by
  have hz := h.size
  have hl := h.low
  have hh := eachWaiting_any 69 #[.pointer (some ⟨gf, 0, none⟩)] o s S w hv hk eg (fun xs w' => FO W gb gr gm gf n w' (xs.foldl hadM ms) ∧ On (fun b => b < W.heap.size ∧ b ≠ gr) w w' ∧ w.heap.size ≤ w'.heap.size)
    ⟨h, fun _ _ => rfl, Nat.le_refl _⟩ ⟨fun xs w' g => ⟨g.2.1.less fun b hb => hS b hb, g.2.2⟩, fun xs w' ob g => ⟨g.1.alloc ob, g.2.1.trans ((On.alloc w' ob).less fun b hb => by have := g.1.size; omega), by have := g.2.2; simp; omega⟩⟩ (fun xs m w' g _ hm => ?_) (fun xs m w' g _ hm => ?_)
  · refine hh.mono ?_
    rintro e w' ⟨rfl, g, -⟩
    exact ⟨rfl, g⟩
  · refine (has_any m.op m.rt gb gr gm gf n _ w' g.1.marks g.1.fn).mono ?_
    rintro e w'' ⟨rfl, h1, h2, h3, h4⟩
    have hz' := g.1.size
    have hg2 := g.2.2
    refine ⟨rfl, ⟨by rw [List.foldl_append]; simp only [List.foldl_cons, List.foldl_nil]; unfold hadM; rw [if_pos hm]; exact h1, g.1.fn.on h2 ⟨by omega, hl.2.2⟩, g.1.on.trans (h2.less fun b hb => ⟨by omega, hb.2⟩), by omega, fun B hB => (g.1.below B hB).trans (h4 B hB), hl⟩, g.2.1.trans (h2.less fun b hb => ⟨by omega, hb.2⟩), by omega⟩
  · rw [List.foldl_append]
    simp only [List.foldl_cons, List.foldl_nil]
    rw [show hadM (xs.foldl hadM ms) m = xs.foldl hadM ms by unfold hadM; rw [if_neg (by rw [hm]; decide)]]
    exact g
end Go.Proofs.Ytdciohinlhbliaa


/-
  sweep.freeOpens, walked.
-/
namespace Go.Proofs.Ytdciohinlhbliaa
open Go.RowKit
open Wp
theorem hadB_len (L : List Sp.Ob) (P : List Sp.Prc) (n : Nat) : (hadB L P n).length = n := by
  have h1 : ∀ (xs : List Sp.Slt) (ms : List Bool), (xs.foldl hadS ms).length = ms.length := by
    intro xs
    induction xs with
    | nil => intro ms; rfl
    | cons x xs ih => intro ms; rw [List.foldl_cons, ih]; exact setB_len ms _
  have h2 : ∀ (xs : List Sp.Msg) (ms : List Bool), (xs.foldl hadM ms).length = ms.length := by
    intro xs
    induction xs with
    | nil => intro ms; rfl
    | cons x xs ih =>
      intro ms
      rw [List.foldl_cons, ih]
      unfold hadM
      split
      · exact setB_len ms _
      · rfl
  have h3 : ∀ (xs : List Sp.Ob) (ms : List Bool), (xs.foldl hadO ms).length = ms.length := by
    intro xs
    induction xs with
    | nil => intro ms; rfl
    | cons x xs ih => intro ms; rw [List.foldl_cons, ih]; exact h2 _ ms
  unfold hadB
  rw [h3, h1, List.length_replicate]
theorem Mine.two {w : World} {base g n c : Nat} {e : TypeId} {css : List (List Value)} (h : Mine w base e 2 (.slice (some ⟨g, 0, none⟩) n c) css) (hE : Even 2 css) (i : Nat) (hi : i < css.length) (c0 c1 : Value) (W : World)
    (hW : W = (w.setCell ⟨g, i * 2, none⟩ c0).setCell ⟨g, i * 2 + 1, none⟩ c1) :
    Mine W base e 2 (.slice (some ⟨g, 0, none⟩) n c) (css.set i [c0, c1]) ∧ On (fun k => k ≠ g) w W ∧ W.heap.size = w.heap.size := by
  subst hW
  obtain ⟨x0, x1, hx⟩ : ∃ x0 x1, css[i] = [x0, x1] := by
    have h4 := hE css[i] (List.getElem_mem hi)
    match css[i], h4 with
    | [a, b], _ => exact ⟨a, b, rfl⟩
  have hg : css[i]? = some [x0, x1] := by rw [List.getElem?_eq_getElem hi, hx]
  have ev : ∀ cs : List Value, cs.length = 2 → Even 2 (css.set i cs) := fun cs hcs x hx => by
    rcases List.mem_or_eq_of_mem_set hx with h1 | h1
    · exact hE x h1
    · rw [h1]; exact hcs
  have gt : ∀ cs : List Value, (css.set i cs)[i]? = some cs := fun cs => by rw [List.getElem?_set_self hi]
  have h0 := h.set hE i 0 _ c0 hg (by decide)
  have h1 := h0.set (ev _ rfl) i 1 _ c1 (gt _) (by decide)
  rw [List.set_set] at h1
  refine ⟨h1, fun b hb => ?_, by simp⟩
  rw [heap_setCell_other _ ⟨g, i * 2 + 1, none⟩ b _ hb, heap_setCell_other _ ⟨g, i * 2, none⟩ b _ hb]
theorem Mine.at {w : World} {base k n c : Nat} {e : TypeId} {pa : Option Addr} {css : List (List Value)} (h : Mine w base e k (.slice pa n c) css) (hn : 0 < n) : ∃ g, pa = some ⟨g, 0, none⟩ := by
  rcases h.2 with ⟨h1, _⟩ | ⟨g, cap, cur, hv, -⟩
  · have := (Value.slice.inj h1).2.1; omega
  · exact ⟨g, (Value.slice.inj hv).1⟩
set_option maxRecDepth 100000 in
set_option maxHeartbeats 2000000 in
theorem freeOpens_any (L : List Sp.Ob) (O : List Sp.Opn) (P : List Sp.Prc) (vo vq : Value) (pa : Option Addr) (S : Nat → Prop) (c base : Nat) (w : World) (hM : Mine w base 54 2 (.slice pa O.length c) (O.map opnC)) (hv : Objs w S vo L) (hq : Procs w S vq P) (hS : ∀ b, S b → b < w.heap.size ∧ pa ≠ some ⟨b, 0, none⟩) (hL : O.length ≤ 1000) (hk : KindOk L) :
    Calls Try.prog 39 #[.agg #[vo, .slice pa O.length c, vq]] w fun e w' => e = .returned (.tuple #[]) ∧ Mine w' base 54 2 (.slice pa O.length c) ((O.mapIdx (op (hadB L P O.length))).map opnC) ∧ On (fun b => b < w.heap.size ∧ pa ≠ some ⟨b, 0, none⟩) w w' ∧ w.heap.size ≤ w'.heap.size := by
  obtain ⟨oa, oc, rfl, hom⟩ := hv.form
  have HV : Hid (Objs w S (.slice oa L.length oc) L) := hv
  have HQ : Hid (Procs w S vq P) := hq
  have HMO : Hid (Mine w base 54 2 (.slice pa O.length c) (O.map opnC)) := hM
  have HS : Hid (∀ b, S b → b < w.heap.size ∧ pa ≠ some ⟨b, 0, none⟩) := hS
  have HK : Hid (KindOk L) := hk
  unfold maxLen at hom
  have HM : Hid (∀ w', Calls Try.prog 61 #[.int .i64 (O.length : Int)] w' _) := fun w' => marks_any O.length (by omega) w'
  have hmk := fun (fn : Fn) (first cap : Array Value) (w : World) => (rfl : (Instr.makeFunc fn first cap).run Try.prog w = .ok (.func fn first cap) w)
  have HK0 : Hid (Blk (w.alloc (.cells #[.slice oa L.length oc, .slice pa O.length c, vq] 27)) w.heap.size #[.slice oa L.length oc, .slice pa O.length c, vq] 27) := Blk.new _ _ _
  have HB0 : Hid (Below w.heap.size w (w.alloc (.cells #[.slice oa L.length oc, .slice pa O.length c, vq] 27))) := (Below.refl _ _).alloc (Nat.le_refl _) _
  have eg : Enters Try.prog 69 := by unfold Enters; intro args w; rfl
  have HEG : Hid (Enters Try.prog 69) := eg
  unfold Enters at eg
  clear hv hq hM hS hk
  go_enter Try.func39, Try.ntmps39
  go_wp2_with fail
  generalize (w.alloc (.cells #[.slice oa L.length oc, .slice pa O.length c, vq] 27)) = w1 at *
  refine Calls.mono (HM.out w1) ?_
  rintro e w2 ⟨gb, gr, gm, rfl, hm2, hgb, hgr, hgm, hb2⟩
  have hk1 := HK0.out.lt
  have HK2 : Hid (Blk w2 w.heap.size #[.slice oa L.length oc, .slice pa O.length c, vq] 27) := HK0.out.below hb2 hk1
  have HB2 : Hid (Below w.heap.size w w2) := HB0.out.trans (hb2.mono HB0.out.size)
  have hgrl := (hm2.row.lt gr rfl).2
  have HFO : Hid (FO (w2.alloc (.cells #[markF gb gm] 95)) gb gr gm w2.heap.size O.length (w2.alloc (.cells #[markF gb gm] 95)) (List.replicate O.length false)) := by
    refine ⟨hm2.on (On.alloc _ _) hm2.box.lt hgrl hm2.var.lt, Blk.new _ _ _, fun _ _ => rfl, Nat.le_refl _, fun B _ => Below.refl B _, by simp; omega, by simp, by omega⟩
  have HB3 : Hid (Below w.heap.size w (w2.alloc (.cells #[markF gb gm] 95))) := HB2.out.alloc HB2.out.size _
  have HK3 : Hid (Blk (w2.alloc (.cells #[markF gb gm] 95)) w.heap.size #[.slice oa L.length oc, .slice pa O.length c, vq] 27) := HK2.out.alloc _
  have k2 := HK2.out.cell
  have kf := HK2.out.free
  have kl := HK2.out.lt
  have hwr : w.heap.size < gr := by omega
  unfold markF at *
  clear hm2 hb2 HM HK0 HB0
  go_wp2_with fail
  generalize (w2.alloc (.cells #[.func (.func 81) #[] #[.pointer (some ⟨gb, 0, none⟩), .pointer (some ⟨gm, 0, none⟩)]] 95)) = w3 at *
  have HZ3 : Hid (w.heap.size ≤ w3.heap.size) := HB3.out.size
  have HS3 : Hid (∀ b, S b → b < w3.heap.size ∧ b ≠ gr) := fun b hb => by have := (HS.out b hb).1; have := HZ3.out; omega
  have HWS : Hid (On S w w3) := (On.of HB3.out).less fun b hb => (HS.out b hb).1
  refine Calls.mono (HFO.out.held P vq S (procs_on HQ.out HWS.out) HS3.out HEG.out) ?_
  rintro e w4 ⟨rfl, hfo⟩
  have HFO4 : Hid (FO w3 gb gr gm w2.heap.size O.length w4 ((heldL P).foldl hadS (List.replicate O.length false))) := hfo
  have HKL3 : Hid (w.heap.size < w3.heap.size) := HK3.out.lt
  have hK4 : Blk w4 w.heap.size #[.slice oa L.length oc, .slice pa O.length c, vq] 27 := HK3.out.on hfo.on ⟨HKL3.out, by omega⟩
  have k4 := hK4.cell 0
  have kf4 := hK4.free
  simp at k4
  clear hfo hK4 k2 kf kl
  go_wp2_with fail
  have HKF : Hid (∀ wr ms, FO w3 gb gr gm w2.heap.size O.length wr ms → Blk wr w.heap.size #[.slice oa L.length oc, .slice pa O.length c, vq] 27) := fun wr ms h => HK3.out.on h.on ⟨HKL3.out, by omega⟩
  have HOF : Hid (∀ wr ms, FO w3 gb gr gm w2.heap.size O.length wr ms → Objs wr S (.slice oa L.length oc) L) := fun wr ms h => (HV.out.on HWS.out).on (h.on.less fun b hb => HS3.out b hb)
  clear k4 kf4
  go_loopw [23] (fun s23 wr => ∃ k : Nat, k ≤ L.length ∧ s23 = .int .i64 k ∧ FO w3 gb gr gm w2.heap.size O.length wr ((L.take k).foldl hadO ((heldL P).foldl hadS (List.replicate O.length false)))) (fun s23 _ => L.length - (intOf s23).toNat)
  case atStart => exact ⟨0, Nat.zero_le _, rfl, HFO4.out⟩
  case round =>
    clear HFO4
    obtain ⟨k, hk, rfl, hfr⟩ := hrel
    by_cases hlt : k < L.length
    · obtain ⟨x, hx⟩ : ∃ x, L[k]? = some x := ⟨_, List.getElem?_eq_getElem hlt⟩
      have htk : (L.take (k + 1)).foldl hadO ((heldL P).foldl hadS (List.replicate O.length false)) = hadO ((L.take k).foldl hadO ((heldL P).foldl hadS (List.replicate O.length false))) x := by
        rw [List.take_add_one, hx, List.foldl_append]; rfl
      obtain ⟨b, o, c', s, he, hSb, hc, hcm, hli, c0, c1, c2, c3, c4, c5, c6, c7, c8⟩ := (HOF.out wr _ hfr).open hx
      obtain ⟨rfl, -, rfl⟩ := Value.slice.inj he
      unfold maxLen at hcm
      have HC : Hid (∀ ob, Calls Try.prog 67 #[.agg #[.int .i64 x.kind, .slice s.d.a s.d.n s.d.c, .slice s.e.a s.e.n s.e.c, .string x.target, .int .i64 x.peer, .slice s.q.a s.q.n s.q.c, .int .i64 x.proc, .int .i64 x.links, .int .i64 x.up], .func (.func 69) #[] #[.pointer (some ⟨w2.heap.size, 0, none⟩)]] (wr.alloc ob) fun e w' => e = .returned (.tuple #[]) ∧ FO w3 gb gr gm w2.heap.size O.length w' ((L.take (k + 1)).foldl hadO ((heldL P).foldl hadS (List.replicate O.length false)))) := fun ob => by
        rw [htk]
        exact (hfr.alloc ob).wait x s S (hli.on ((On.alloc wr ob).less fun b hb => by have := (HS3.out b hb).1; have := hfr.size; omega)) (HK.out x (List.mem_of_getElem? hx)).2 HS3.out HEG.out
      have kr := (HKF.out wr _ hfr).cell 0
      have kfr := (HKF.out wr _ hfr).free
      simp at kr
      clear hfr htk hx hli he
      go_wp2_with fail
      refine Calls.mono (HC.out _) ?_
      rintro e w5 ⟨rfl, hf5⟩
      have HF5 : Hid _ := hf5
      clear hf5 c0 c1 c2 c3 c4 c5 c6 c7 c8 kr kfr
      go_wp2
      go_roundw
      case rel => exact ⟨k + 1, by omega, by go_num, HF5.out⟩
      case measure => simp [intOf]; omega
    · obtain rfl : k = L.length := by omega
      rename World => wz
      rw [List.take_length] at hfr
      have hfr' : FO w3 gb gr gm w2.heap.size O.length wz (hadB L P O.length) := hfr
      have HFR : Hid (FO w3 gb gr gm w2.heap.size O.length wz (hadB L P O.length)) := hfr'
      have hkr := HKF.out wz _ hfr
      have k1 := hkr.cell 1
      have kf1 := hkr.free
      simp at k1
      have HON : Hid (On (fun b => b < w.heap.size) w wz) := (On.of HB3.out).trans (hfr.on.less fun b hb => by have := HZ3.out; omega)
      have HZR : Hid (w.heap.size ≤ wz.heap.size) := Nat.le_trans HZ3.out hfr.size
      clear hfr hfr' hkr
      go_wp2
      have hml := hadB_len L P O.length
      obtain ⟨ms, hms⟩ : ∃ ms, hadB L P O.length = ms := ⟨_, rfl⟩
      rw [hms] at HFR hml
      have HMSE : Hid (hadB L P O.length = ms) := hms
      clear hms
      have HMS : Hid (ms.length = O.length) := hml
      have HMW : Hid (Mine wz base 54 2 (.slice pa O.length c) ((rowTo (op ms) O 0).map opnC)) := by unfold Hid; rw [rowTo_zero]; exact HMO.out.on HON.out fun b hb => (HMO.out.lt b hb).2
      clear hml k1 kf1
      go_loopw [34] (fun s34 wr => ∃ k : Nat, k ≤ O.length ∧ s34 = .int .i64 k ∧ Mine wr base 54 2 (.slice pa O.length c) ((rowTo (op ms) O k).map opnC) ∧ On (fun b => pa ≠ some ⟨b, 0, none⟩) wz wr ∧ wr.heap.size = wz.heap.size) (fun s34 _ => O.length - (intOf s34).toNat)
      case atStart => exact ⟨0, Nat.zero_le _, rfl, HMW.out, fun _ _ => rfl, rfl⟩
      case round =>
        obtain ⟨k, hk, rfl, hmq, hoq, hsq⟩ := hrel
        by_cases hlt : k < O.length
        · obtain ⟨g, rfl⟩ := hmq.at (by omega)
          have hgw : g < w.heap.size := (HMO.out.lt g rfl).2
          have HMQ : Hid (Mine wr base 54 2 (.slice (some ⟨g, 0, none⟩) O.length c) ((rowTo (op ms) O k).map opnC)) := hmq
          have HOQ : Hid (On (fun b => some (⟨g, 0, none⟩ : Addr) ≠ some ⟨b, 0, none⟩) wz wr) := hoq
          have HSQ : Hid (wr.heap.size = wz.heap.size) := hsq
          have hog : On (fun b => b ≠ g) wz wr := hoq.less fun b hb e => hb (by cases e; rfl)
          have hkq : Blk wr w.heap.size #[.slice oa L.length oc, .slice (some ⟨g, 0, none⟩) O.length c, vq] 27 := (HKF.out wz _ HFR.out).on hog (by show w.heap.size ≠ g; omega)
          have q1 := hkq.cell 1
          have qf := hkq.free
          simp at q1
          obtain ⟨x, hx⟩ : ∃ x, ms[k]? = some x := ⟨_, List.getElem?_eq_getElem (by have := HMS.out; omega)⟩
          obtain ⟨o, ho⟩ : ∃ t, O[k]? = some t := ⟨_, List.getElem?_eq_getElem hlt⟩
          have hmr := HFR.out.marks.row.on hog fun b hb => by simp [Value.ownBlock] at hb; subst hb; show gr ≠ g; omega
          obtain ⟨cm, hbm, -, -, -, -, hcm2⟩ := hmr.blk
          have m0 : wr.cell? ⟨gr, k, none⟩ = some (.bool x) := by
            rw [hbm.cell k]
            refine hcm2 k _ ?_
            have := flatten_at (even_b ms) k (bC x) (by rw [List.getElem?_map, hx]; rfl) 0 (.bool x) rfl
            simpa using this
          have mf := hbm.free
          have hgd : ms.getD k false = x := by rw [List.getD_eq_getElem?_getD, hx]; rfl
          obtain ⟨cur, hblk, -, hcc, hccm, -, hcur⟩ := hmq.blk
          unfold maxLen at hccm
          have hget : ((rowTo (op ms) O k).map opnC)[k]? = some (opnC o) := by rw [List.getElem?_map, rowTo_at ho]; rfl
          have hcell : ∀ j u, (opnC o)[j]? = some u → wr.cell? ⟨g, k * 2 + j, none⟩ = some u := fun j u hj => by
            rw [hblk.cell]
            exact hcur _ u (flatten_at (even_opn _) k _ hget j u hj)
          have y0 := hcell 0 _ rfl
          have y1 := hcell 1 _ rfl
          have yf := hblk.free
          rw [Nat.add_zero] at y0
          have HN : Hid (rowTo (op ms) O (k + 1) = (rowTo (op ms) O k).set k (op ms k o)) := rowTo_next ho
          have HLT : Hid (k < (rowTo (op ms) O k).length) := by unfold Hid; rw [rowTo_len]; exact hlt
          have HSM : Hid ((rowTo (op ms) O k).set k o = rowTo (op ms) O k) := set_same (rowTo_at ho)
          have hkN : (k : Int) < (O.length : Int) := by omega
          clear hmq hoq hsq hog hkq hmr hbm hcm2 hblk hcur hget hcell hx ho
          cases x with
          | true =>
            have HF : Hid (op ms k o = o) := by unfold Hid op; rw [if_neg (by rw [hgd]; decide)]
            clear hgd
            go_wp2
            exact ⟨⟨k + 1, by omega, by go_num, by rw [HN.out, HF.out, HSM.out]; exact HMQ.out, HOQ.out, HSQ.out⟩, by simp [intOf]; omega⟩
          | false =>
            have HF : Hid (op ms k o = opnZ) := by unfold Hid op; rw [if_pos hgd]
            clear hgd
            go_wp2
            generalize hW : ((wr.setCell ⟨g, k * 2, none⟩ (.int .i64 (-1))).setCell ⟨g, k * 2 + 1, none⟩ (.int .i64 0)) = W2
            obtain ⟨h2, hon2, hsz2⟩ := HMQ.out.two (even_opn _) k (by rw [List.length_map]; exact HLT.out) _ _ W2 hW.symm
            exact ⟨⟨k + 1, by omega, by go_num, by rw [HN.out, HF.out, List.map_set]; exact h2, HOQ.out.trans (hon2.less fun b hb e => hb (by rw [e])), hsz2.trans HSQ.out⟩, by simp [intOf]; omega⟩
        · obtain rfl : k = O.length := by omega
          have HE : Hid (On (fun b => b < w.heap.size ∧ pa ≠ some ⟨b, 0, none⟩) w wr) := (HON.out.less fun b hb => hb.1).trans (hoq.less fun b hb => hb.2)
          have HZ : Hid (w.heap.size ≤ wr.heap.size) := by have := HZR.out; unfold Hid; omega
          have HMF : Hid _ := hmq
          clear hmq hoq hsq
          go_wp2
          go_end0
          exact ⟨rfl, by rw [HMSE.out, ← rowTo_end (op ms) O (Nat.le_refl _)]; exact HMF.out, HE.out, HZ.out⟩
end Go.Proofs.Ytdciohinlhbliaa


/-
  Sweep's rounds, plainly: what one round leaves, and that rounds come to an end.
-/
namespace Go.Proofs.Ytdciohinlhbliaa
open Go.RowKit
namespace Wp
theorem anyTo_some {α : Type} {p : Nat → α → Bool} {l : List α} : ∀ {k : Nat}, k ≤ l.length → anyTo p l k = true → ∃ i t, l[i]? = some t ∧ p i t = true
  | 0, _, h => by rw [anyTo_zero] at h; cases h
  | k + 1, hk, h => by
    obtain ⟨t, ht⟩ : ∃ t, l[k]? = some t := ⟨_, List.getElem?_eq_getElem (by omega)⟩
    rw [anyTo_next ht, Bool.or_eq_true] at h
    rcases h with h | h
    · exact anyTo_some (by omega) h
    · exact ⟨k, t, ht, h⟩
theorem count_le {α : Type} (q : α → Bool) : ∀ (l : List α) (f : Nat → α → α), (∀ i t, q (f i t) = true → q t = true) → (l.mapIdx f).countP q ≤ l.countP q
  | [], _, _ => by simp
  | a :: l, f, h => by
    rw [List.mapIdx_cons, List.countP_cons, List.countP_cons]
    have h1 := count_le q l (fun i => f (i + 1)) fun i t => h (i + 1) t
    have h2 := h 0 a
    by_cases hq : q (f 0 a) = true
    · rw [if_pos hq, if_pos (h2 hq)]; omega
    · rw [if_neg hq]; split <;> omega
theorem count_lt {α : Type} (q : α → Bool) : ∀ (l : List α) (f : Nat → α → α), (∀ i t, q (f i t) = true → q t = true) → (∃ i t, l[i]? = some t ∧ q t = true ∧ q (f i t) = false) → (l.mapIdx f).countP q < l.countP q
  | [], _, _, ⟨i, t, h, _⟩ => by simp at h
  | a :: l, f, h, ⟨i, t, h1, h2, h3⟩ => by
    rw [List.mapIdx_cons, List.countP_cons, List.countP_cons]
    cases i with
    | zero =>
      obtain rfl : a = t := by simpa using h1
      have h4 := count_le q l (fun i => f (i + 1)) fun i t => h (i + 1) t
      rw [if_neg (by rw [h3]; decide), if_pos h2]
      omega
    | succ i =>
      have h4 := count_lt q l (fun i => f (i + 1)) (fun i t => h (i + 1) t) ⟨i, t, by simpa using h1, h2, h3⟩
      have h5 := h 0 a
      by_cases hq : q (f 0 a) = true
      · rw [if_pos hq, if_pos (h5 hq)]; omega
      · rw [if_neg hq]; split <;> omega
/-- What is being swept: objects, open files, processes, with where their lists lie. -/
structure Swp where
  ts : List (Sls × Sp.Ob)
  O : List Sp.Opn
  ps : List (Sl × Sp.Prc)
namespace Swp
def kn (x : Swp) : Kn := ⟨x.ts.map Prod.snd, x.O, x.ps.map Prod.snd⟩
def ts1 (x : Swp) : List (Sls × Sp.Ob) := x.ts.mapIdx (fo (reachB x.kn) x.ts.length)
def O1 (x : Swp) : List Sp.Opn := x.O.mapIdx (op (hadB (x.ts1.map Prod.snd) (x.ps.map Prod.snd) x.O.length))
def kn1 (x : Swp) : List Bool := knownB (x.ts1.map Prod.snd) x.ps.length
/-- One round. -/
def rnd (x : Swp) : Swp := ⟨x.ts1, x.O1, x.ps.mapIdx (ep x.kn1)⟩
/-- Did a process end in it? -/
def more (x : Swp) : Bool := anyTo (epB x.kn1) x.ps x.ps.length
def live (x : Swp) : Nat := x.ps.countP fun t => t.2.live
theorem rnd_live {x : Swp} (h : x.more = true) : x.rnd.live < x.live := by
  obtain ⟨i, t, h1, h2⟩ := anyTo_some (Nat.le_refl _) h
  refine count_lt (fun t : Sl × Sp.Prc => t.2.live) x.ps (ep x.kn1) (fun i t hq => ?_) ⟨i, t, h1, ?_, ?_⟩
  · unfold ep at hq
    split at hq
    · cases hq
    · exact hq
  · unfold epB at h2
    cases hl : t.2.live with
    | true => rfl
    | false => rw [hl] at h2; simp at h2
  · unfold ep
    rw [if_pos h2]
    rfl
/-- All rounds. -/
def allN : Nat → Swp → Swp
  | 0, x => x.rnd
  | n + 1, x => if x.more = true then allN n x.rnd else x.rnd
def all (x : Swp) : Swp := allN x.live x
theorem allN_same : ∀ (n m : Nat) (x : Swp), x.live ≤ n → x.live ≤ m → allN n x = allN m x
  | 0, 0, _, _, _ => rfl
  | 0, m + 1, x, h, _ => by
    have hf : ¬ x.more = true := fun e => by have := rnd_live e; omega
    unfold allN
    rw [if_neg hf]
  | n + 1, 0, x, _, h => by
    have hf : ¬ x.more = true := fun e => by have := rnd_live e; omega
    unfold allN
    rw [if_neg hf]
  | n + 1, m + 1, x, h1, h2 => by
    unfold allN
    by_cases hm : x.more = true
    · have := rnd_live hm
      rw [if_pos hm, if_pos hm, allN_same n m x.rnd (by omega) (by omega)]
    · rw [if_neg hm, if_neg hm]
theorem all_more {x : Swp} (h : x.more = true) : x.all = x.rnd.all := by
  have h1 := rnd_live h
  unfold all
  obtain ⟨n, hn⟩ : ∃ n, x.live = n + 1 := ⟨x.live - 1, by omega⟩
  rw [hn, allN, if_pos h]
  exact allN_same n x.rnd.live x.rnd (by omega) (Nat.le_refl _)
theorem all_end {x : Swp} (h : x.more = false) : x.all = x.rnd := by
  unfold all
  cases hx : x.live with
  | zero => rfl
  | succ n => unfold allN; rw [if_neg (by rw [h]; decide)]
theorem rnd_kinds {x : Swp} (h : KindOk (x.ts.map Prod.snd)) : KindOk (x.rnd.ts.map Prod.snd) := by
  intro o ho
  obtain ⟨t, ht, rfl⟩ := List.mem_map.1 ho
  obtain ⟨i, hi, rfl⟩ := List.mem_mapIdx.1 (show t ∈ x.ts.mapIdx (fo (reachB x.kn) x.ts.length) from ht)
  have h0 := h x.ts[i].2 (List.mem_map_of_mem (List.getElem_mem hi))
  unfold fo
  split
  · exact ⟨fun _ => rfl, fun _ => rfl⟩
  · split
    · exact h0
    · exact h0
theorem rnd_lens (x : Swp) : x.rnd.ts.length = x.ts.length ∧ x.rnd.O.length = x.O.length ∧ x.rnd.ps.length = x.ps.length := by
  unfold rnd ts1 O1
  simp
end Swp
end Wp
end Go.Proofs.Ytdciohinlhbliaa