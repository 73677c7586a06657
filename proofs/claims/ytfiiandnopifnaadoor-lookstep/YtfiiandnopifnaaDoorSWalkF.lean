
/-
  store.isObject, store.place, walked.
-/
import Derived.Test.YtfiiandnopifnaaDoorSWalkE
namespace Go.Proofs.YtfiiandnopifnaaDoor
open Go.RowKit
theorem Objs.open {w : World} {S : Nat → Prop} {v : Value} {L : List Sp.Ob} (h : Objs w S v L) {k : Nat} {x : Sp.Ob} (hx : L[k]? = some x) :
    ∃ b o c s, v = .slice (some ⟨b, o, none⟩) L.length c ∧ S b ∧ L.length ≤ c ∧ c ≤ maxLen ∧ Lists w S (s, x) ∧ w.cell? ⟨b, o + k * 9, none⟩ = some (.int .i64 x.kind) ∧ w.cell? ⟨b, o + k * 9 + 1, none⟩ = some (.slice s.d.a s.d.n s.d.c) ∧ w.cell? ⟨b, o + k * 9 + 2, none⟩ = some (.slice s.e.a s.e.n s.e.c) ∧ w.cell? ⟨b, o + k * 9 + 3, none⟩ = some (.string x.target) ∧ w.cell? ⟨b, o + k * 9 + 4, none⟩ = some (.int .i64 x.peer) ∧ w.cell? ⟨b, o + k * 9 + 5, none⟩ = some (.slice s.q.a s.q.n s.q.c) ∧ w.cell? ⟨b, o + k * 9 + 6, none⟩ = some (.int .i64 x.proc) ∧ w.cell? ⟨b, o + k * 9 + 7, none⟩ = some (.int .i64 x.links) ∧ w.cell? ⟨b, o + k * 9 + 8, none⟩ = some (.int .i64 x.up) := by
  obtain ⟨ts, rfl, hr, hl⟩ := h
  rw [List.getElem?_map] at hx
  cases ht : ts[k]? with
  | none => rw [ht] at hx; cases hx
  | some t =>
    rw [ht] at hx
    simp at hx
    subst hx
    obtain ⟨s, x⟩ := t
    have hlt := (List.getElem?_eq_some_iff.1 ht).1
    obtain ⟨b, o, c, h1, h2, h3, h4, h5⟩ := hr.some (by rw [List.length_map]; omega)
    rw [List.length_map] at h1 h3 ⊢
    exact ⟨b, o, c, s, h1, h2, h3, h4, hl _ (List.mem_of_getElem? ht), obj_cells h5 ht⟩
theorem Objs.form {w : World} {S : Nat → Prop} {v : Value} {L : List Sp.Ob} (h : Objs w S v L) : ∃ a c, v = .slice a L.length c ∧ L.length ≤ maxLen := by
  obtain ⟨ts, rfl, hr, hl⟩ := h
  obtain ⟨a, c, h1, h2⟩ := hr.form
  rw [List.length_map] at h1 h2 ⊢
  exact ⟨a, c, h1, h2⟩
theorem objAt_neg {L : List Sp.Ob} {k : Int} (h : ¬ 0 ≤ k) : Sp.objAt L k = none := by unfold Sp.objAt; rw [if_neg h]
theorem objAt_nat (L : List Sp.Ob) (k : Nat) : Sp.objAt L (k : Int) = (L[k]?).filter (fun o => o.kind != 0) := by unfold Sp.objAt; rw [if_pos (by omega), Int.toNat_natCast]
theorem isObject_any (L : List Sp.Ob) (k : Int) (v : Value) (S : Nat → Prop) (w : World) (hv : Objs w S v L) :
    Calls Tryd.prog 44 #[v, .int .i64 k] w fun e w' => e = .returned (.bool (Sp.objAt L k).isSome) ∧ w' = w := by
  by_cases h0 : 0 ≤ k
  · obtain ⟨n, rfl⟩ := Int.eq_ofNat_of_zero_le h0
    by_cases h1 : n < L.length
    · have hx : L[n]? = some L[n] := List.getElem?_eq_getElem h1
      have HE : Hid ((Sp.objAt L (n : Int)).isSome = (L[n].kind != 0)) := by
        unfold Hid
        rw [objAt_nat, hx, Option.filter_some]
        cases L[n].kind != 0 <;> rfl
      obtain ⟨b, o, c, s, rfl, hb, hc, hm, -, c0, -⟩ := hv.open hx
      generalize L[n] = x at *
      unfold maxLen at hm
      rw [HE.out]
      clear hv hx HE
      go_enter Tryd.func44, Tryd.ntmps44
      go_wp2
      go_ret
      exact ⟨rfl, rfl⟩
    · have HE : Hid ((Sp.objAt L (n : Int)).isSome = false) := by
        unfold Hid
        rw [objAt_nat, List.getElem?_eq_none (by omega)]
        rfl
      obtain ⟨a, c, rfl, -⟩ := hv.form
      rw [HE.out]
      clear hv HE
      go_enter Tryd.func44, Tryd.ntmps44
      go_wp2
      go_ret
      exact ⟨rfl, rfl⟩
  · rw [objAt_neg h0]
    obtain ⟨a, c, rfl, -⟩ := hv.form
    clear hv
    go_enter Tryd.func44, Tryd.ntmps44
    go_wp2
    go_ret
    exact ⟨rfl, rfl⟩
theorem placeF_any (x : Sp.Ent) (name : ByteArray) (g : Nat) (w : World) (hg : w.cell? ⟨g, 0, none⟩ = some (.string name)) (hs : g < w.heap.size) :
    Calls Tryd.prog 46 #[.agg #[.string x.name, .int .i64 x.obj], .pointer (some ⟨g, 0, none⟩)] w fun e w' => e = .returned (.bool (Sp.eqB x.name name)) ∧ Below w.heap.size w w' := by
  go_enter Tryd.func46, Tryd.ntmps46
  go_wp2
  go_ret
  exact ⟨rfl, (Below.refl _ _).alloc (Nat.le_refl _) _⟩
theorem placeFrom_drop (name : ByteArray) (es : List Sp.Ent) (k : Nat) (x : Sp.Ent) (hx : es[k]? = some x) : Sp.placeFrom name (es.drop k) k = if Sp.eqB x.name name = true then (k : Int) else Sp.placeFrom name (es.drop (k + 1)) (k + 1) := by
  obtain ⟨hk, rfl⟩ := List.getElem?_eq_some_iff.1 hx
  rw [List.drop_eq_getElem_cons hk, Sp.placeFrom]
/-- A function of entries, with what it has captured, asks for that name. -/
def EPred (n : Nat) (caps : Array Value) (w : World) (name : ByteArray) : Prop :=
  ∀ (W : World) (x : Sp.Ent), Below w.heap.size w W → Calls Tryd.prog n (#[.agg #[.string x.name, .int .i64 x.obj]] ++ caps) W fun e w' => e = .returned (.bool (Sp.eqB x.name name)) ∧ Below W.heap.size W w'
theorem idxE_any (n : Nat) (caps : Array Value) (es : List Sp.Ent) (name : ByteArray) (v : Value) (S : Nat → Prop) (w : World) (hv : Ents w S v es) (hS : ∀ b, S b → b < w.heap.size) (hp : EPred n caps w name) (eg : Enters Tryd.prog n) :
    Calls Tryd.prog 45 #[v, .func (.func n) #[] caps] w fun e w' => e = .returned (.int .i64 (Sp.place es name)) ∧ Below w.heap.size w w' := by
  obtain ⟨a, c, rfl, hm⟩ := Row.form hv
  have HV : Hid (Ents w S (.slice a (es.map entC).length c) es) := hv
  rw [List.length_map] at HV hm ⊢
  have HP : Hid (EPred n caps w name) := hp
  have HS : Hid (∀ b, S b → b < w.heap.size) := hS
  unfold maxLen at hm
  clear hv hp hS
  unfold Enters at eg
  go_enter Tryd.func45, Tryd.ntmps45
  go_wp2
  go_loopw [8] (fun i wr => ∃ k : Nat, k ≤ es.length ∧ i = .int .i64 k ∧ Below w.heap.size w wr ∧ Sp.place es name = Sp.placeFrom name (es.drop k) k) (fun i _ => es.length - (intOf i).toNat)
  case atStart => exact ⟨0, Nat.zero_le _, rfl, Below.refl _ _, by rw [List.drop_zero]; rfl⟩
  case round =>
    obtain ⟨k, hk, rfl, hB, hF⟩ := hrel
    have HF : Hid (Sp.place es name = Sp.placeFrom name (es.drop k) k) := hF
    clear hF
    by_cases hlt : k < es.length
    · have hx : es[k]? = some es[k] := List.getElem?_eq_getElem hlt
      obtain ⟨b, o, c', he, hSb, h3, h4, h5⟩ := (Row.on HV.out ((On.of hB).less HS.out)).some (by rw [List.length_map]; omega)
      rw [List.length_map] at he h3
      obtain ⟨rfl, -, rfl⟩ := Value.slice.inj he
      obtain ⟨c0, c1⟩ := ent_cells h5 hx
      have HD : Hid (Sp.placeFrom name (es.drop k) k = _) := placeFrom_drop name es k _ hx
      clear hx h5 he
      generalize es[k] = x at *
      go_wp2_with fail
      refine (HP.out _ x hB).mono ?_
      rintro e w2 ⟨rfl, hb2⟩
      have hB2 := hB.trans (hb2.mono hB.size)
      have HE : Hid (Sp.place es name = if Sp.eqB x.name name = true then (k : Int) else Sp.placeFrom name (es.drop (k + 1)) (k + 1)) := HF.out.trans HD.out
      clear HD HF hb2 hB c0 c1
      generalize Sp.eqB x.name name = y at *
      cases y
      · have HN : Hid (Sp.place es name = Sp.placeFrom name (es.drop (k + 1)) (k + 1)) := HE.out.trans (if_neg (by simp))
        clear HE
        go_wp2
        exact ⟨⟨k + 1, by omega, by go_num, hB2, HN.out⟩, by simp [intOf]; omega⟩
      · have HN : Hid (Sp.place es name = (k : Int)) := HE.out.trans (if_pos rfl)
        clear HE
        go_wp2
        go_ret
        exact ⟨by rw [HN.out]; rfl, hB2⟩
    · obtain rfl : k = es.length := by omega
      have HN : Hid (Sp.place es name = -1) := by unfold Hid; rw [HF.out, List.drop_length]; rfl
      clear HF
      go_wp2
      go_ret
      exact ⟨by rw [HN.out]; rfl, hB⟩
theorem place_any (es : List Sp.Ent) (name : ByteArray) (v : Value) (S : Nat → Prop) (w : World) (hv : Ents w S v es) (hS : ∀ b, S b → b < w.heap.size) :
    Calls Tryd.prog 41 #[v, .string name] w fun e w' => e = .returned (.int .i64 (Sp.place es name)) ∧ Below w.heap.size w w' := by
  have hmk := fun (fn : Fn) (first cap : Array Value) (w : World) => (rfl : (Instr.makeFunc fn first cap).run Tryd.prog w = .ok (.func fn first cap) w)
  obtain ⟨a, c, rfl, hm⟩ := Row.form hv
  have HV : Hid (Ents w S (.slice a (es.map entC).length c) es) := hv
  rw [List.length_map] at HV ⊢
  have HS : Hid (∀ b, S b → b < w.heap.size) := hS
  clear hv hS hm
  go_enter Tryd.func41, Tryd.ntmps41
  go_wp2_with fail
  refine (idxE_any 46 #[.pointer (some ⟨w.heap.size, 0, none⟩)] es name _ S _ (Row.on HV.out ((On.alloc w _).less HS.out)) (fun b hb => by have := HS.out b hb; simp; omega) (fun W x hB => ?_) ?_).mono ?_
  · refine placeF_any x name w.heap.size W ((hB.cell (p := ⟨w.heap.size, 0, none⟩) (by simp)).trans (by simp)) (by have := hB.size; simp at this; omega)
  · exact enters_of Tryd.func46 (by kernel_rfl) rfl
  rintro e w2 ⟨rfl, hb2⟩
  go_wp2
  go_ret
  exact ⟨rfl, ((Below.refl _ _).alloc (Nat.le_refl _) _).trans (hb2.mono (by simp))⟩
end Go.Proofs.YtfiiandnopifnaaDoor
