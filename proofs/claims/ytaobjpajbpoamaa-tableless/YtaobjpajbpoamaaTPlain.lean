/-
  Tables of capabilities as lists: what chapter 7 says, as plain functions.
-/
import Derived.Test.YtaobjpajbpoamaaSOwn
namespace Go.Proofs.Ytaobjpajbpoamaa
open Go.RowKit
namespace Tb
/-- A slot: whether it has a capability; its open file, its rights. -/
structure Slt where
  has : Bool
  op : Int
  rt : Int
def none0 : Slt := ⟨false, 0, 0⟩
def within (a b : Nat) : Bool := a &&& b == a
def withinZ (a b : Int) : Bool := within a.toNat b.toNat
/-- The slot fd, if it has one. -/
def get (l : List Slt) (fd : Int) : Option Slt := if 0 ≤ fd then (l[fd.toNat]?).filter (fun x => x.has) else none
def right (n : Int) : Bool := decide (0 ≤ n ∧ n ≤ 4095)
def freeFrom : List Slt → Nat → Option Nat
  | [], _ => none
  | x :: t, i => if x.has = true then freeFrom t (i + 1) else some i
def putR (l : List Slt) (op rt : Int) : List Slt × Int × Int :=
  if right rt = false ∨ op < 0 then ([], 0, 3)
  else match freeFrom l 0 with
    | some k => (l.set k ⟨true, op, rt⟩, (k : Int), 0)
    | none => if 10 ≤ l.length then ([], 0, 15) else (l ++ [⟨true, op, rt⟩], (l.length : Int), 0)
/-- How many slots are left when those at the end go that have none. -/
def lastN : List Slt → Nat
  | [] => 0
  | x :: t => if lastN t = 0 then (if x.has = true then 1 else 0) else lastN t + 1
def trim (l : List Slt) : List Slt := l.take (lastN l)
def closeR (l : List Slt) (fd : Int) : List Slt × Int := match get l fd with
  | none => ([], 6)
  | some _ => (trim (l.set fd.toNat none0), 0)
def limitR (l : List Slt) (fd n : Int) : List Slt × Int := match get l fd with
  | none => ([], 6)
  | some x => if right n = false then ([], 3) else if withinZ n x.rt = false then ([], 10) else (l.set fd.toNat ⟨true, x.op, n⟩, 0)
def allF : List Slt → Nat → List Int
  | [], _ => []
  | x :: t, i => if x.has = true then (i : Int) :: allF t (i + 1) else allF t (i + 1)
theorem get_nat (l : List Slt) (k : Nat) : get l (k : Int) = (l[k]?).filter (fun x => x.has) := by unfold get; rw [if_pos (by omega), Int.toNat_natCast]
theorem get_some {l : List Slt} {fd : Int} {x : Slt} (h : get l fd = some x) : ∃ k : Nat, fd = (k : Int) ∧ l[k]? = some x ∧ x.has = true := by
  unfold get at h
  by_cases h0 : 0 ≤ fd
  · obtain ⟨k, rfl⟩ := Int.eq_ofNat_of_zero_le h0
    rw [if_pos h0, Int.toNat_natCast] at h
    obtain ⟨h1, h2⟩ := Option.filter_eq_some_iff.1 h
    exact ⟨k, rfl, h1, h2⟩
  · rw [if_neg h0] at h; cases h
theorem get_ok {l : List Slt} {k : Nat} {x : Slt} (h : l[k]? = some x) (hx : x.has = true) : get l (k : Int) = some x := by
  rw [get_nat, h, Option.filter_some, if_pos hx]
theorem get_none {l : List Slt} {fd : Int} (h : get l fd = none) : fd < 0 ∨ (l.length : Int) ≤ fd ∨ ∃ (k : Nat) (x : Slt), fd = (k : Int) ∧ l[k]? = some x ∧ x.has = false := by
  by_cases h0 : fd < 0
  · exact Or.inl h0
  · obtain ⟨k, rfl⟩ := Int.eq_ofNat_of_zero_le (by omega : 0 ≤ fd)
    by_cases h1 : k < l.length
    · refine Or.inr (Or.inr ⟨k, l[k], rfl, List.getElem?_eq_getElem h1, ?_⟩)
      rw [get_nat, List.getElem?_eq_getElem h1, Option.filter_some] at h
      cases hx : l[k].has with
      | false => rfl
      | true => rw [hx] at h; simp at h
    · exact Or.inr (Or.inl (by omega))
theorem freeFrom_drop (l : List Slt) (k : Nat) (x : Slt) (hx : l[k]? = some x) : freeFrom (l.drop k) k = if x.has = true then freeFrom (l.drop (k + 1)) (k + 1) else some k := by
  obtain ⟨hk, rfl⟩ := List.getElem?_eq_some_iff.1 hx
  rw [List.drop_eq_getElem_cons hk, freeFrom]
theorem freeFrom_end (l : List Slt) : freeFrom (l.drop l.length) l.length = none := by rw [List.drop_length]; rfl
theorem freeFrom_lt : ∀ (l : List Slt) (i k : Nat), freeFrom l i = some k → i ≤ k ∧ k < i + l.length ∧ ∃ x, l[k - i]? = some x ∧ x.has = false
  | [], _, _, h => by simp [freeFrom] at h
  | x :: t, i, k, h => by
    rw [freeFrom] at h
    cases hx : x.has with
    | true =>
      rw [hx, if_pos rfl] at h
      obtain ⟨h1, h2, y, h3, h4⟩ := freeFrom_lt t (i + 1) k h
      refine ⟨by omega, by rw [List.length_cons]; omega, y, ?_, h4⟩
      rw [show k - i = (k - (i + 1)) + 1 by omega, List.getElem?_cons_succ]
      exact h3
    | false =>
      rw [hx] at h
      simp at h
      subst h
      exact ⟨Nat.le_refl _, by rw [List.length_cons]; omega, x, by simp, hx⟩
theorem freeFrom_all : ∀ (l : List Slt) (i : Nat), freeFrom l i = none → ∀ x ∈ l, x.has = true
  | [], _, _, x, hx => by simp at hx
  | y :: t, i, h, x, hx => by
    rw [freeFrom] at h
    cases hy : y.has with
    | true =>
      rw [hy, if_pos rfl] at h
      rcases List.mem_cons.1 hx with rfl | hx
      · exact hy
      · exact freeFrom_all t (i + 1) h x hx
    | false => rw [hy] at h; simp at h
theorem lastN_le : ∀ l : List Slt, lastN l ≤ l.length
  | [] => Nat.le_refl _
  | x :: t => by
    have := lastN_le t
    rw [lastN, List.length_cons]
    split
    · split <;> omega
    · omega
theorem lastN_snoc : ∀ (l : List Slt) (x : Slt), lastN (l ++ [x]) = if x.has = true then l.length + 1 else lastN l
  | [], x => by simp [lastN]
  | y :: t, x => by
    rw [List.cons_append, lastN, lastN_snoc t x, lastN, List.length_cons]
    cases x.has with
    | true => simp
    | false => simp
theorem allF_drop (l : List Slt) (k : Nat) (x : Slt) (hx : l[k]? = some x) : allF (l.drop k) k = if x.has = true then (k : Int) :: allF (l.drop (k + 1)) (k + 1) else allF (l.drop (k + 1)) (k + 1) := by
  obtain ⟨hk, rfl⟩ := List.getElem?_eq_some_iff.1 hx
  rw [List.drop_eq_getElem_cons hk, allF]
theorem allF_end (l : List Slt) : allF (l.drop l.length) l.length = [] := by rw [List.drop_length]; rfl
theorem allF_length : ∀ (l : List Slt) (i : Nat), (allF l i).length ≤ l.length
  | [], _ => Nat.le_refl _
  | x :: t, i => by
    have := allF_length t (i + 1)
    rw [allF, List.length_cons]
    split
    · rw [List.length_cons]; omega
    · omega
theorem allF_full : ∀ (l : List Slt) (i : Nat), (∀ x ∈ l, x.has = true) → (allF l i).length = l.length
  | [], _, _ => rfl
  | x :: t, i, h => by
    rw [allF, if_pos (h x List.mem_cons_self), List.length_cons, List.length_cons, allF_full t (i + 1) fun y hy => h y (List.mem_cons_of_mem _ hy)]
theorem putR_length (l : List Slt) (op rt : Int) : (putR l op rt).1.length ≤ l.length + 1 := by
  unfold putR
  split
  · simp
  · split
    · simp
    · split
      · simp
      · simp
end Tb
theorem Tb.infoSlot : (Try.prog.info? 60).map (fun i => (i.zero, i.size, i.bytes)) = some (some (.agg #[.bool false, .int .i64 0, .int .i64 0]), 3, 24) := by kernel_rfl
theorem Tb.infoInt : (Try.prog.info? 3).map (fun i => (i.zero, i.size, i.bytes)) = some (some (.int .i64 0), 1, 8) := by kernel_rfl
def tC (x : Tb.Slt) : List Value := [.bool x.has, .int .i64 x.op, .int .i64 x.rt]
def tI (x : Int) : List Value := [.int .i64 x]
def capV (x : Tb.Slt) : Value := .agg #[.int .i64 x.op, .int .i64 x.rt]
theorem even_t (l : List Tb.Slt) : Even 3 (l.map tC) := by
  intro cs h
  obtain ⟨x, _, rfl⟩ := List.mem_map.1 h
  rfl
theorem ones_t (l : List Tb.Slt) : Ones (l.map tC) := by
  intro cs h u hu
  obtain ⟨x, _, rfl⟩ := List.mem_map.1 h
  simp [tC] at hu
  rcases hu with rfl | rfl | rfl <;> rfl
theorem even_i (l : List Int) : Even 1 (l.map tI) := by
  intro cs h
  obtain ⟨x, _, rfl⟩ := List.mem_map.1 h
  rfl
theorem ones_i (l : List Int) : Ones (l.map tI) := by
  intro cs h u hu
  obtain ⟨x, _, rfl⟩ := List.mem_map.1 h
  simp [tI] at hu
  subst hu; rfl
/-- A table lies there. -/
def Tab (w : World) (S : Nat → Prop) (v : Value) (l : List Tb.Slt) : Prop := Row w S 3 v (l.map tC)
theorem Tab.open {w : World} {S : Nat → Prop} {v : Value} {l : List Tb.Slt} (h : Tab w S v l) {k : Nat} {x : Tb.Slt} (hx : l[k]? = some x) :
    ∃ b o c, v = .slice (some ⟨b, o, none⟩) l.length c ∧ S b ∧ l.length ≤ c ∧ c ≤ maxLen ∧ w.cell? ⟨b, o + k * 3, none⟩ = some (.bool x.has) ∧ w.cell? ⟨b, o + k * 3 + 1, none⟩ = some (.int .i64 x.op) ∧ w.cell? ⟨b, o + k * 3 + 2, none⟩ = some (.int .i64 x.rt) := by
  have hlt := (List.getElem?_eq_some_iff.1 hx).1
  obtain ⟨b, o, c, h1, h2, h3, h4, h5⟩ := Row.some h (by rw [List.length_map]; omega)
  rw [List.length_map] at h1 h3
  have hk := h5 k (tC x) (by rw [List.getElem?_map, hx]; rfl)
  exact ⟨b, o, c, h1, h2, h3, h4, by simpa using hk 0 _ rfl, hk 1 _ rfl, hk 2 _ rfl⟩
theorem Tab.form {w : World} {S : Nat → Prop} {v : Value} {l : List Tb.Slt} (h : Tab w S v l) : ∃ a c, v = .slice a l.length c ∧ l.length ≤ maxLen := by
  obtain ⟨a, c, h1, h2⟩ := Row.form h
  rw [List.length_map] at h1 h2
  exact ⟨a, c, h1, h2⟩
theorem Tab.on {w w' : World} {S : Nat → Prop} {v : Value} {l : List Tb.Slt} (h : Tab w S v l) (ho : On S w w') : Tab w' S v l := Row.on h ho
theorem Tab.below {w w' : World} {B : Nat} {S : Nat → Prop} {v : Value} {l : List Tb.Slt} (h : Tab w S v l) (hb : Below B w w') (hS : ∀ b, S b → b < B) : Tab w' S v l := Row.on h ((On.of hb).less hS)
theorem Tab.more {w : World} {S T : Nat → Prop} {v : Value} {l : List Tb.Slt} (h : Tab w S v l) (hT : ∀ b, S b → T b) : Tab w T v l := Row.more h hT
/-- A goal that is held. -/
def HoldT (p : Prop) : Prop := p
theorem stop_t {P : Program} {w : World} {ops : Array Oper} {rest : List Oper} {o : Oper} {a : Act} {Q : Exit → Act → World → Prop} (op : Op) (_ : o.op = op) (h : HoldT (wpList P ops Q (o :: rest) a w)) : wpList P ops Q (o :: rest) a w := h
end Go.Proofs.Ytaobjpajbpoamaa
