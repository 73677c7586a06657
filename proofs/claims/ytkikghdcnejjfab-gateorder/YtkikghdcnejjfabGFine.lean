/-
  Policies with which nothing is wrong, and the program that is made of them: plain facts.
-/
import Derived.Test.YtkikghdcnejjfabGPlain
import Derived.Test.YtkikghdcnejjfabEndsP
namespace Go.Proofs.Ytkikghdcnejjfab
open Go.RowKit
namespace Gp
open Bp
structure OkP (P : Pol) : Prop where
  lo : 0 ≤ P.call
  hi : P.call < 2147483648
  few : P.masks.length ≤ 3
  good : anyBad P.masks = false
theorem polErr_zero (ks : List Int) (P : Pol) : polErr ks P = 0 ↔ OkP P ∧ P.call ∉ ks := by
  unfold polErr
  constructor
  · intro h
    split at h
    · simp at h
    split at h
    · simp at h
    split at h
    · simp at h
    split at h
    · simp at h
    rename_i h1 h2 h3 h4
    exact ⟨⟨by omega, by omega, by omega, by simpa using h4⟩, h2⟩
  · rintro ⟨⟨h1, h2, h3, h4⟩, h5⟩
    rw [if_neg (by omega), if_neg h5, if_neg (by omega), if_neg (by rw [h4]; simp)]
theorem firstP_none : ∀ (l : List Pol) (ks : List Int) (a : Nat), firstP l ks a = none ↔ (∀ P ∈ l, OkP P) ∧ (l.map Pol.call).Nodup ∧ ∀ P ∈ l, P.call ∉ ks
  | [], _, _ => by simp [firstP]
  | P :: t, ks, a => by
    rw [firstP]
    have ih := firstP_none t (P.call :: ks) (a + 1)
    by_cases h : polErr ks P = 0
    · have hz := (polErr_zero ks P).1 h
      rw [if_neg (by simpa using h), ih]
      simp only [List.mem_cons, forall_eq_or_imp, List.map_cons, List.nodup_cons, List.mem_map, not_exists, not_and, not_or]
      constructor
      · rintro ⟨h1, h2, h3⟩
        exact ⟨⟨hz.1, h1⟩, ⟨fun x hx => (h3 x hx).1, h2⟩, hz.2, fun x hx => (h3 x hx).2⟩
      · rintro ⟨⟨-, h1⟩, ⟨h2, h3⟩, -, h4⟩
        exact ⟨h1, h3, fun x hx => ⟨h2 x hx, h4 x hx⟩⟩
    · rw [if_pos h]
      constructor
      · intro h'; cases h'
      · rintro ⟨h1, -, h3⟩
        exact absurd ((polErr_zero ks P).2 ⟨h1 P (by simp), h3 P (by simp)⟩) h
theorem firstP_ne : ∀ (l : List Pol) (ks : List Int) (a : Nat) (f : Int × Nat), firstP l ks a = some f → f.1 ≠ 0
  | [], _, _, _, h => by simp [firstP] at h
  | P :: t, ks, a, f, h => by
    rw [firstP] at h
    split at h
    · rename_i h0; cases h; exact h0
    · exact firstP_ne t _ _ f h
structure Fine (l : List Pol) : Prop where
  few : l.length ≤ 30
  each : ∀ P ∈ l, OkP P
  one : (l.map Pol.call).Nodup
theorem fine_iff (l : List Pol) : (wrongP l).1 = 0 ↔ Fine l := by
  unfold wrongP
  constructor
  · intro h
    split at h
    · simp at h
    cases hf : firstP l [] 0 with
    | none =>
      have := (firstP_none l [] 0).1 hf
      exact ⟨by omega, this.1, this.2.1⟩
    | some f =>
      rw [hf] at h
      exact absurd h (firstP_ne l [] 0 f hf)
  · rintro ⟨h1, h2, h3⟩
    rw [if_neg (by omega), (firstP_none l [] 0).2 ⟨h2, h3, by simp⟩]
    rfl
theorem wrongP_fine {l : List Pol} (h : Fine l) : wrongP l = (0, 0) := by
  unfold wrongP
  rw [if_neg (by have := h.few; omega), (firstP_none l [] 0).2 ⟨h.each, h.one, by simp⟩]
  rfl
theorem anyBad_mem : ∀ {ms : List (Int × Int)}, anyBad ms = false → ∀ m ∈ ms, 1 ≤ m.1 ∧ m.1 ≤ 5 ∧ 1 ≤ m.2 ∧ m.2 < 2147483648
  | [], _, m, hm => by simp at hm
  | x :: t, h, m, hm => by
    rw [anyBad, Bool.or_eq_false_iff] at h
    rcases List.mem_cons.1 hm with rfl | hm
    · have := of_decide_eq_false h.1
      omega
    · exact anyBad_mem h.2 m hm
theorem Fine.worded {l : List Pol} (h : Fine l) : Worded l := fun P hP m hm => by
  have := anyBad_mem (h.each P hP).good m hm
  omega
theorem Fine.reverse {l : List Pol} (h : Fine l) : Fine l.reverse :=
  ⟨by simpa using h.few, fun P hP => h.each P (by simpa using hP), by rw [List.map_reverse]; unfold List.Nodup; rw [List.pairwise_reverse]; exact h.one.imp (fun hab e => hab e.symm)⟩
theorem Fine.tail {P : Pol} {t : List Pol} (h : Fine (P :: t)) : Fine t :=
  ⟨by have := h.few; simp at this; omega, fun Q hQ => h.each Q (by simp [hQ]), by have := h.one; simp only [List.map_cons, List.nodup_cons] at this; exact this.2⟩
/-- Is a record let pass? By one of them, whatever order they lie in. -/
theorem anyHit_eq (r : Nat → Int) (ms : List (Int × Int)) : anyHit r ms = ms.any (hit r) := by
  induction ms with
  | nil => rfl
  | cons m t ih => rw [anyHit, List.any_cons, ih]
def pass (r : Nat → Int) (P : Pol) : Bool := decide (P.call = r 0) && !(P.masks.any (hit r))
theorem pass_none {r : Nat → Int} : ∀ {t : List Pol}, (r 0 ∉ t.map Pol.call) → t.any (pass r) = false
  | [], _ => rfl
  | P :: t, h => by
    simp only [List.map_cons, List.mem_cons, not_or] at h
    rw [List.any_cons, pass_none h.2]
    unfold pass
    rw [decide_eq_false (fun e => h.1 e.symm)]
    rfl
theorem allows_pass (r : Nat → Int) : ∀ (l : List Pol), (l.map Pol.call).Nodup → allows r l = l.any (pass r)
  | [], _ => rfl
  | P :: t, h => by
    simp only [List.map_cons, List.nodup_cons] at h
    rw [allows, List.any_cons]
    by_cases e : P.call = r 0
    · rw [if_pos e, pass_none (by rw [← e]; exact h.1), anyHit_eq]
      unfold pass
      rw [decide_eq_true e]
      simp
    · rw [if_neg e, allows_pass r t h.2]
      unfold pass
      rw [decide_eq_false e]
      simp
theorem allows_reverse (r : Nat → Int) {l : List Pol} (h : Fine l) : allows r l.reverse = allows r l := by
  rw [allows_pass r _ h.reverse.one, allows_pass r _ h.one, List.any_reverse]
theorem allows_tail (r : Nat → Int) {P : Pol} {t : List Pol} (h : Fine (P :: t)) (hp : allows r t = true) : allows r (P :: t) = true := by
  rw [allows_pass r _ h.tail.one] at hp
  rw [allows_pass r _ h.one, List.any_cons, hp, Bool.or_true]
/-! The program. -/
def vm : List (Int × Int) → List Ins
  | [] => [⟨6, 0, 0, 1⟩]
  | m :: t => ⟨1, 0, 0, m.1⟩ :: ⟨4, 2 * (t.length : Int) + 1, 0, m.2⟩ :: vm t
def verdict (ms : List (Int × Int)) : List Ins := vm ms ++ (if 0 < ms.length then [⟨6, 0, 0, 0⟩] else [])
def part (P : Pol) : List Ins := ⟨2, 0, ((verdict P.masks).length : Int), P.call⟩ :: verdict P.masks
def body (l : List Pol) : List Ins := l.flatMap part ++ [⟨6, 0, 0, 0⟩]
def comp (l : List Pol) : List Ins := ⟨1, 0, 0, 0⟩ :: body l
theorem vm_length (ms : List (Int × Int)) : (vm ms).length = 2 * ms.length + 1 := by
  induction ms with
  | nil => rfl
  | cons m t ih => simp [vm, ih]; omega
theorem verdict_length (ms : List (Int × Int)) : 1 ≤ (verdict ms).length ∧ (verdict ms).length ≤ 2 * ms.length + 2 := by
  unfold verdict
  rw [List.length_append, vm_length]
  split <;> simp <;> omega
theorem body_cons (P : Pol) (t : List Pol) : body (P :: t) = part P ++ body t := by
  unfold body
  rw [List.flatMap_cons, List.append_assoc]
theorem body_pos (l : List Pol) : 1 ≤ (body l).length := by unfold body; simp
theorem body_length : ∀ (l : List Pol), (∀ P ∈ l, OkP P) → (body l).length ≤ 9 * l.length + 1
  | [], _ => by simp [body]
  | P :: t, h => by
    have ih := body_length t (fun Q hQ => h Q (by simp [hQ]))
    have h1 := (verdict_length P.masks).2
    have h2 := (h P (by simp)).few
    rw [body_cons, List.length_append]
    unfold part
    simp only [List.length_cons]
    omega
/-- What comes of the masks. -/
theorem from_vm (r : Nat → Int) (rest : List Ins) : ∀ (ms : List (Int × Int)) (acc : Int), (∀ m ∈ ms, 0 ≤ m.1 ∧ m.1 < 6) → (from' r (vm ms ++ ⟨6, 0, 0, 0⟩ :: rest) acc).1 = if anyHit r ms then 0 else 1
  | [], acc, _ => by
    unfold vm
    rw [List.cons_append, from', if_pos rfl]
    rfl
  | m :: t, acc, h => by
    unfold vm
    rw [List.cons_append, List.cons_append, from', if_neg (by simp)]
    have e0 : over ⟨1, 0, 0, m.1⟩ acc = 0 := rfl
    have ea : acc' r ⟨1, 0, 0, m.1⟩ acc = r m.1.toNat := rfl
    rw [e0, ea]
    simp only [Int.toNat_zero, List.drop_zero]
    rw [from', if_neg (by simp)]
    have ea2 : acc' r ⟨4, 2 * (t.length : Int) + 1, 0, m.2⟩ (r m.1.toNat) = r m.1.toNat := rfl
    have eo : over ⟨4, 2 * (t.length : Int) + 1, 0, m.2⟩ (r m.1.toNat) = if hit r m then 2 * (t.length : Int) + 1 else 0 := rfl
    rw [ea2, eo, anyHit]
    cases hh : hit r m
    · have ih := from_vm r rest t (r m.1.toNat) (fun x hx => h x (by simp [hx]))
      simpa using ih
    · have : (2 * (t.length : Int) + 1).toNat = (vm t).length := by rw [vm_length]; omega
      simp only [if_true, Bool.true_or, this, List.drop_left]
      rw [from', if_pos rfl]
theorem from_verdict (r : Nat → Int) (rest : List Ins) (ms : List (Int × Int)) (acc : Int) (h : ∀ m ∈ ms, 0 ≤ m.1 ∧ m.1 < 6) : (from' r (verdict ms ++ rest) acc).1 = if anyHit r ms then 0 else 1 := by
  cases ms with
  | nil =>
    show (from' r (⟨6, 0, 0, 1⟩ :: rest) acc).1 = 1
    rw [from', if_pos rfl]
  | cons m t =>
    have := from_vm r rest (m :: t) acc h
    unfold verdict
    rw [if_pos (by simp), List.append_assoc]
    exact this
theorem from_body (r : Nat → Int) : ∀ (l : List Pol), Worded l → (from' r (body l) (r 0)).1 = if allows r l then 1 else 0
  | [], _ => by
    show (from' r [⟨6, 0, 0, 0⟩] (r 0)).1 = 0
    rw [from', if_pos rfl]
  | P :: t, h => by
    have ih := from_body r t (fun Q hQ => h Q (by simp [hQ]))
    have hv := from_verdict r (body t) P.masks (r 0) (fun m hm => h P (by simp) m hm)
    rw [body_cons]
    unfold part
    rw [List.cons_append, from', if_neg (by simp)]
    have ea : acc' r ⟨2, 0, ((verdict P.masks).length : Int), P.call⟩ (r 0) = r 0 := rfl
    have eo : over ⟨2, 0, ((verdict P.masks).length : Int), P.call⟩ (r 0) = if decide (r 0 = P.call) then 0 else ((verdict P.masks).length : Int) := rfl
    rw [ea, eo, allows]
    by_cases e : P.call = r 0
    · rw [if_pos e, decide_eq_true e.symm]
      simp only [if_true, Int.toNat_zero, List.drop_zero]
      rw [hv]
      cases anyHit r P.masks <;> rfl
    · rw [if_neg e, decide_eq_false (fun x => e x.symm)]
      simp only [Bool.false_eq_true, if_false, Int.toNat_natCast, List.drop_left]
      exact ih
theorem from_comp (r : Nat → Int) {l : List Pol} (h : Worded l) : (from' r (comp l) 0).1 = if allows r l then 1 else 0 := by
  unfold comp
  rw [from', if_neg (by simp)]
  have e0 : over ⟨1, 0, 0, 0⟩ 0 = 0 := rfl
  have ea : acc' r ⟨1, 0, 0, 0⟩ 0 = r 0 := rfl
  rw [e0, ea]
  simp only [Int.toNat_zero, List.drop_zero]
  exact from_body r l h
/-- Nothing is wrong with it. -/
def AllOk : List Ins → Prop
  | [] => True
  | i :: t => wrong i t.length = 0 ∧ AllOk t
theorem allOk_each : ∀ {p : List Ins}, AllOk p → ∀ (k : Nat) (x : Ins), p[k]? = some x → wrong x (p.length - 1 - k : Nat) = 0
  | [], _, k, x, hx => by simp at hx
  | i :: t, h, 0, x, hx => by simp at hx; subst hx; exact h.1
  | i :: t, h, k + 1, x, hx => by
    have := allOk_each h.2 k x (by simpa using hx)
    rw [show (i :: t).length - 1 - (k + 1) = t.length - 1 - k by simp; omega]
    exact this
theorem ok_load {k : Int} {m : Int} (h0 : 0 ≤ k) (h6 : k < 6) : wrong ⟨1, 0, 0, k⟩ m = 0 := by
  unfold wrong
  rw [if_neg (by simp), if_neg (by simp [fits, bel]; omega), if_neg (by simp)]
theorem ok_back {k : Int} {m : Int} (h : k = 0 ∨ k = 1) : wrong ⟨6, 0, 0, k⟩ m = 0 := by
  unfold wrong
  rw [if_neg (by simp), if_neg (by simp [fits]; omega), if_neg (by simp)]
theorem ok_jump {op jt jf k m : Int} (ho : op = 2 ∨ op = 4) (h0 : 0 ≤ k) (h1 : k < 2147483648) (h2 : 0 ≤ jt) (h3 : jt ≤ 40) (h4 : jt < m) (h5 : 0 ≤ jf) (h6 : jf ≤ 40) (h7 : jf < m) : wrong ⟨op, jt, jf, k⟩ m = 0 := by
  unfold wrong
  have a1 : op = 2 ∨ op = 3 ∨ op = 4 := by omega
  have a2 : op ≠ 1 := by omega
  rw [if_neg (by dsimp only; omega), if_neg (by simp [fits, bel, a1, a2]; omega), if_neg (by simp [br, a1])]
theorem ok_vm {rest : List Ins} (hr : AllOk rest) (hp : 1 ≤ rest.length) : ∀ (ms : List (Int × Int)), ms.length ≤ 3 → anyBad ms = false → AllOk (vm ms ++ rest) ∧ (ms ≠ [] → True)
  | [], _, _ => ⟨⟨ok_back (Or.inr rfl), hr⟩, fun _ => trivial⟩
  | m :: t, h3, hb => by
    rw [anyBad, Bool.or_eq_false_iff] at hb
    have hm := of_decide_eq_false hb.1
    simp only [List.length_cons] at h3
    have ih := (ok_vm hr hp t (by omega) hb.2).1
    unfold vm
    refine ⟨⟨ok_load (by omega) (by omega), ?_, ih⟩, fun _ => trivial⟩
    have hl : (vm t ++ rest).length = 2 * t.length + 1 + rest.length := by rw [List.length_append, vm_length]
    show wrong _ ((vm t ++ rest).length : Nat) = 0
    rw [hl]
    exact ok_jump (Or.inr rfl) (by omega) (by omega) (by omega) (by omega) (by omega) (by omega) (by omega) (by omega)
theorem ok_part {P : Pol} (hP : OkP P) {rest : List Ins} (hr : AllOk rest) (hp : 1 ≤ rest.length) : AllOk (part P ++ rest) := by
  have hv := verdict_length P.masks
  have hf := hP.few
  have h1 := hP.lo
  have h2 := hP.hi
  unfold part
  refine ⟨?_, ?_⟩
  · show wrong _ ((verdict P.masks ++ rest).length : Nat) = 0
    rw [List.length_append]
    exact ok_jump (Or.inl rfl) h1 h2 (by omega) (by omega) (by omega) (by omega) (by omega) (by omega)
  · show AllOk (verdict P.masks ++ rest)
    unfold verdict
    split
    · rw [List.append_assoc]
      exact (ok_vm (rest := ⟨6, 0, 0, 0⟩ :: rest) ⟨ok_back (Or.inl rfl), hr⟩ (by simp) P.masks hf hP.good).1
    · rw [List.append_nil]
      exact (ok_vm hr hp P.masks hf hP.good).1
theorem ok_body : ∀ (l : List Pol), (∀ P ∈ l, OkP P) → AllOk (body l)
  | [], _ => ⟨ok_back (Or.inl rfl), trivial⟩
  | P :: t, h => by
    rw [body_cons]
    exact ok_part (h P (by simp)) (ok_body t (fun Q hQ => h Q (by simp [hQ]))) (body_pos t)
theorem comp_good {l : List Pol} (h : Fine l) : Bp.Good (comp l) := by
  have hl := body_length l h.each
  have h30 := h.few
  refine ⟨by simp [comp], by simp [comp]; omega, allOk_each (p := comp l) ⟨ok_load (by omega) (by omega), ok_body l h.each⟩, ?_⟩
  intro x hx
  have hp := body_pos l
  unfold comp at hx
  simp only [List.length_cons, Nat.add_sub_cancel] at hx
  rw [show (body l).length = ((body l).length - 1) + 1 by omega, List.getElem?_cons_succ] at hx
  have hb : (body l).length - 1 = (l.flatMap part).length := by unfold body; simp
  rw [hb] at hx
  unfold body at hx
  rw [List.getElem?_append_right (Nat.le_refl _)] at hx
  simp at hx
  rw [← hx]
/-- What comes of the program, of a record. -/
theorem run_comp (r : Nat → Int) {l : List Pol} (h : Fine l) : (run (comp l) r).1 = if allows r l then 1 else 0 := by
  unfold run
  rw [if_neg (by rw [chk_good (comp_good h)]; simp)]
  exact from_comp r h.worded
end Gp
end Go.Proofs.Ytkikghdcnejjfab
