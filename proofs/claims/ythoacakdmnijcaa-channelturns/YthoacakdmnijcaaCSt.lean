/-
  Two ends behind a list, with what waits at each: what Pair, Send, Recv make of it.
-/
import Derived.Test.YthoacakdmnijcaaCRecv
namespace Go.Proofs.Ythoacakdmnijcaa
open Go.RowKit
namespace Ch
def eQ (p : Int) (q : List Sp.Msg) : Sp.Ob := ⟨4, [], [], ⟨#[]⟩, p, q, -1, 0, 0⟩
def st (L : List Sp.Ob) (q : Bool → List Sp.Msg) : List Sp.Ob := L ++ [eQ (L.length + 1 : Int) (q false), eQ L.length (q true)]
def num (L : List Sp.Ob) (x : Bool) : Nat := L.length + x.toNat
def upd (q : Bool → List Sp.Msg) (y : Bool) (l : List Sp.Msg) : Bool → List Sp.Msg := fun z => if z = y then l else q z
def okQ (q : Bool → List Sp.Msg) : Prop := ∀ x, (q x).length ≤ 4 ∧ ∀ m ∈ q x, m.data.length ≤ 60
theorem st_len (L : List Sp.Ob) (q : Bool → List Sp.Msg) : (st L q).length = L.length + 2 := by unfold st; simp
theorem st_at (L : List Sp.Ob) (q : Bool → List Sp.Msg) (x : Bool) : (st L q)[num L x]? = some (eQ (num L (!x)) (q x)) := by
  unfold st num
  cases x with
  | false =>
    rw [List.getElem?_append_right (by simp)]
    simp
  | true =>
    rw [List.getElem?_append_right (by simp)]
    simp
theorem st_obj (L : List Sp.Ob) (q : Bool → List Sp.Msg) (x : Bool) : Sp.objAt (st L q) (num L x) = some (eQ (num L (!x)) (q x)) := by
  rw [objAt_nat, st_at]
  rfl
theorem st_is (L : List Sp.Ob) (q : Bool → List Sp.Msg) (x : Bool) : Sp.is (st L q) (num L x) 4 = true := by
  unfold Sp.is
  rw [st_obj]
  rfl
theorem st_peer (L : List Sp.Ob) (q : Bool → List Sp.Msg) (x : Bool) : peerOf (st L q) (num L x) = num L (!x) := by
  unfold peerOf
  rw [st_obj]
  rfl
theorem st_waits (L : List Sp.Ob) (q : Bool → List Sp.Msg) (x : Bool) : waits (st L q) (num L x) = (q x).length := by
  unfold waits
  rw [st_obj]
  rfl
theorem st_noSend (L : List Sp.Ob) (q : Bool → List Sp.Msg) (x : Bool) (n : Nat) : noSend (st L q) (num L x) n = if 60 < n then 4 else if 4 ≤ (q (!x)).length then 15 else 0 := by
  unfold noSend
  rw [st_is, if_neg (by decide), st_peer, st_is, if_neg (by decide), st_waits]
theorem st_noRecv (L : List Sp.Ob) (q : Bool → List Sp.Msg) (x : Bool) : noRecv (st L q) (num L x) = if 0 < (q x).length then 0 else 16 := by
  unfold noRecv
  rw [st_is, if_neg (by decide), st_waits, st_peer, st_is]
  rfl
theorem st_with (L : List Sp.Ob) (q : Bool → List Sp.Msg) (x : Bool) (l : List Sp.Msg) : withQ (st L q) (num L x) (eQ (num L (!x)) (q x)) l = st L (upd q x l) := by
  unfold withQ st num upd
  cases x with
  | false =>
    rw [List.set_append_right _ _ (by simp)]
    simp [eQ]
  | true =>
    rw [List.set_append_right _ _ (by simp)]
    simp [eQ]
theorem st_fits {L : List Sp.Ob} {q : Bool → List Sp.Msg} (hf : ∀ o ∈ L, Fits o) (hq : okQ q) : ∀ o ∈ st L q, Fits o := by
  intro o ho
  rcases List.mem_append.1 ho with h | h
  · exact hf o h
  · have key : ∀ (p : Int) (x : Bool), Fits (eQ p (q x)) := fun p x => ⟨Nat.zero_le _, Nat.zero_le _, by have := (hq x).1; show (q x).length ≤ _; omega, fun m hm => by have := (hq x).2 m hm; omega⟩
    simp at h
    rcases h with rfl | rfl
    · exact key _ _
    · exact key _ _
theorem okQ_none : okQ (fun _ => []) := fun _ => ⟨Nat.zero_le _, fun m hm => by simp at hm⟩
theorem okQ_upd {q : Bool → List Sp.Msg} (hq : okQ q) (y : Bool) {l : List Sp.Msg} (h1 : l.length ≤ 4) (h2 : ∀ m ∈ l, m.data.length ≤ 60) : okQ (upd q y l) := by
  intro x
  unfold upd
  split
  · exact ⟨h1, h2⟩
  · exact hq x
end Ch
theorem spair (L : List Sp.Ob) (v : Value) (S : Nat → Prop) (w : World) (hv : Objs w S v L) (hS : ∀ b, S b → b < w.heap.size) (hf : ∀ o ∈ L, Fits o) (hn : L.length < 38) (hnf : ∀ o ∈ L, o.kind ≠ 0) :
    Calls Try.prog 19 #[v] w fun e w' => ∃ a c, e = .returned (.tuple #[.slice a (L.length + 2) c, .agg #[.int .i64 L.length, .int .i64 (L.length + 1 : Int)], .int .i64 0]) ∧ Objs w' (fun b => b < w'.heap.size) (.slice a (L.length + 2) c) (Ch.st L fun _ => []) ∧ Below w.heap.size w w' := by
  refine (cpair_ok L v S w hv hS hf hn hnf).mono ?_
  rintro e w' ⟨a, c, rfl, ho, hb⟩
  exact ⟨a, c, rfl, ho.more fun b hb => hb.2, hb⟩
theorem ssend_ok (L : List Sp.Ob) (q : Bool → List Sp.Msg) (x : Bool) (t : Sl × Sp.Msg) (v : Value) (S : Nat → Prop) (w : World) (hv : Objs w S v (Ch.st L q)) (hS : ∀ b, S b → b < w.heap.size) (hm : Bytes w S (.slice t.1.a t.1.n t.1.c) t.2.data) (hf : ∀ o ∈ L, Fits o) (hq : Ch.okQ q) (hn : L.length ≤ 1000) (h60 : t.2.data.length ≤ 60) (h4 : (q (!x)).length < 4) :
    Calls Try.prog 22 #[v, .int .i64 (Ch.num L x), msgV t] w fun e w' => ∃ a c, e = .returned (.tuple #[.slice a (L.length + 2) c, .int .i64 0]) ∧ Objs w' (fun b => b < w'.heap.size) (.slice a (L.length + 2) c) (Ch.st L (Ch.upd q (!x) (q (!x) ++ [t.2]))) ∧ Below w.heap.size w w' := by
  have h := csend_ok (Ch.st L q) (Ch.num L x) (Ch.num L (!x)) (Ch.eQ (Ch.num L (!x)) (q x)) (Ch.eQ (Ch.num L x) (q (!x))) t v S w hv hS hm (Ch.st_fits hf hq) (by rw [Ch.st_len]; omega) (by rw [Ch.st_noSend, if_neg (by omega), if_neg (by omega)]) (Ch.st_at L q x) rfl (by have := Ch.st_at L q (!x); rw [Bool.not_not] at this; exact this) h60 h4
  have e := Ch.st_with L q (!x) (q (!x) ++ [t.2])
  rw [Bool.not_not] at e
  rw [show (Ch.eQ (Ch.num L x) (q (!x))).queue = q (!x) from rfl, e, Ch.st_len] at h
  refine h.mono ?_
  rintro e w' ⟨a, c, rfl, ho, hb⟩
  exact ⟨a, c, rfl, ho.more fun b hb => hb.2, hb⟩
theorem ssend_err (L : List Sp.Ob) (q : Bool → List Sp.Msg) (x : Bool) (t : Sl × Sp.Msg) (v : Value) (S : Nat → Prop) (w : World) (hv : Objs w S v (Ch.st L q)) (hS : ∀ b, S b → b < w.heap.size) (hm : Bytes w S (.slice t.1.a t.1.n t.1.c) t.2.data) (h : 60 < t.2.data.length ∨ 4 ≤ (q (!x)).length) :
    Calls Try.prog 22 #[v, .int .i64 (Ch.num L x), msgV t] w fun e w' => e = .returned (.tuple #[.slice none 0 0, .int .i64 (if 60 < t.2.data.length then 4 else 15)]) ∧ Below w.heap.size w w' := by
  have e : Ch.noSend (Ch.st L q) (Ch.num L x) t.2.data.length = if 60 < t.2.data.length then 4 else 15 := by
    rw [Ch.st_noSend]
    by_cases h1 : 60 < t.2.data.length
    · rw [if_pos h1, if_pos h1]
    · rw [if_neg h1, if_neg h1, if_pos (by omega)]
  have := csend_err (Ch.st L q) (Ch.num L x) t v S w hv hS hm (by rw [e]; split <;> decide)
  rw [e] at this
  exact this
theorem srecv_ok (L : List Sp.Ob) (q : Bool → List Sp.Msg) (x : Bool) (m : Sp.Msg) (rest : List Sp.Msg) (v : Value) (S : Nat → Prop) (w : World) (hv : Objs w S v (Ch.st L q)) (hS : ∀ b, S b → b < w.heap.size) (hf : ∀ o ∈ L, Fits o) (hq : Ch.okQ q) (hn : L.length ≤ 1000) (hm : q x = m :: rest) :
    Calls Try.prog 24 #[v, .int .i64 (Ch.num L x)] w fun e w' => ∃ a c r, e = .returned (.tuple #[.slice a (L.length + 2) c, msgV (r, m), .int .i64 0]) ∧ Objs w' (fun b => b < w'.heap.size) (.slice a (L.length + 2) c) (Ch.st L (Ch.upd q x rest)) ∧ Bytes w' (fun b => b < w'.heap.size) (.slice r.a r.n r.c) m.data ∧ Below w.heap.size w w' := by
  have h := crecv_ok (Ch.st L q) (Ch.num L x) (Ch.eQ (Ch.num L (!x)) (q x)) m rest v S w hv hS (Ch.st_fits hf hq) (by rw [Ch.st_len]; omega) (by rw [Ch.st_noRecv, if_pos (by rw [hm]; simp)]) (Ch.st_at L q x) hm
  rw [Ch.st_with, Ch.st_len] at h
  refine h.mono ?_
  rintro e w' ⟨a, c, r, rfl, ho, hr, hb⟩
  exact ⟨a, c, r, rfl, ho.more fun b hb => hb.2, Row.more hr fun b hb => hb.2, hb⟩
theorem srecv_err (L : List Sp.Ob) (q : Bool → List Sp.Msg) (x : Bool) (v : Value) (S : Nat → Prop) (w : World) (hv : Objs w S v (Ch.st L q)) (hS : ∀ b, S b → b < w.heap.size) (hm : q x = []) :
    Calls Try.prog 24 #[v, .int .i64 (Ch.num L x)] w fun e w' => e = .returned (.tuple #[.slice none 0 0, .agg #[.slice none 0 0, .bool false, .int .i64 0, .int .i64 0], .int .i64 16]) ∧ Below w.heap.size w w' := by
  have e : Ch.noRecv (Ch.st L q) (Ch.num L x) = 16 := by rw [Ch.st_noRecv, hm]; rfl
  have := crecv_err (Ch.st L q) (Ch.num L x) v S w hv hS (by rw [e]; decide)
  rw [e] at this
  exact this
end Go.Proofs.Ythoacakdmnijcaa
