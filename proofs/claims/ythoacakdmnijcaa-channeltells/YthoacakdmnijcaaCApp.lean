/-
  append: one thing more, out of a block of its own.
-/
import Derived.Test.YthoacakdmnijcaaSAppend
import Derived.Deep.RegionLaw
namespace Go.Proofs.Ythoacakdmnijcaa
open Go.RowKit
theorem row_one {w : World} {g : Nat} {t : TypeId} {cs : List Value} (h : Blk w g cs.toArray t) : Row w (fun b => b = g) cs.length (.slice (some ⟨g, 0, none⟩) 1 1) [cs] := by
  refine Or.inr ⟨g, 0, 1, rfl, rfl, Nat.le_refl _, by decide, fun i cs' hi j u hj => ?_⟩
  match i, hi with
  | 0, hi =>
    simp at hi
    subst hi
    rw [h.cell]
    simp only [Nat.zero_mul, Nat.zero_add]
    simpa using hj
  | i + 1, hi => simp at hi
section
variable {P : Program}
/-- append: one thing more, out of a block of its own. -/
theorem run_append_own1 (w : World) (base : Nat) (t ty e e' : TypeId) (i : TypeInfo) (z : Value) (k bytes : Nat) (ht : P.underlying t = some (.slice e)) (hi : P.info? e = some i) (hz : i.zero = some z)
    (hsize : i.size = k) (hby : i.bytes = bytes) (hzs : z.cells.size = k) (hk : 0 < k) (v : Value) (css : List (List Value)) (hown : Mine w base e k v css) (hE0 : Even k css)
    (b : Nat) (cs : List Value) (hb : Blk w b cs.toArray e') (hck : cs.length = k) (h1 : ∀ u ∈ cs, u.oneCell' = true) (hbytes : (css.length + 1) * bytes ≤ 140737488355328) (hb1 : 1 ≤ bytes) (hbase : base ≤ w.heap.size) :
    ∃ r : Sl, ∃ w', (Builtin.append_ #[t, t] ty #[v, .slice (some ⟨b, 0, none⟩) 1 1]).run P w = .ok (.slice r.a r.n r.c) w' ∧ Mine w' base e k (.slice r.a r.n r.c) (css ++ [cs]) ∧ w.grownBy w' v.ownBlock ∧ ((Value.slice r.a r.n r.c).ownBlock = v.ownBlock ∨ (Value.slice r.a r.n r.c).ownBlock = some w.heap.size) := by
  subst hck
  obtain ⟨v', w', h2, h3, h4, h5⟩ := run_append_row2 (P := P) w base t ty e i z cs.length bytes ht hi hz hsize hby hzs hk v css hown b 0 1 1 _ [cs] (row_one hb) (fun x hx => by simp at hx; rw [hx]) (fun x hx u hu => by simp at hx; subst hx; exact h1 u hu) hE0 hbytes hb1 hbase
  obtain ⟨r, rfl⟩ := h3.sl
  exact ⟨r, w', h2, h3, h4, h5⟩
theorem step_append_own1 {ops : Array Oper} {o : Oper} {a : Act} {w : World} {K : Act → World → Prop} {Q : Exit → Act → World → Prop} {E : Prop} (hgd : o.guard = none) (s x : Operand) (t : TypeId)
    (ho : o.op = .call { callee := .builtin .append, args := #[s, x], argTypes := #[t, t] }) (base : Nat) (e e' : TypeId) (i : TypeInfo) (z : Value) (k bytes : Nat) (ht : P.underlying t = some (.slice e)) (hi : P.info? e = some i) (hz : i.zero = some z)
    (hsize : i.size = k) (hby : i.bytes = bytes) (hzs : z.cells.size = k) (hk : 0 < k) (v : Value) (css : List (List Value)) (hs : a.eval s = v) (hown : Mine w base e k v css) (hE0 : Even k css)
    (b : Nat) (hxv : a.eval x = .slice (some ⟨b, 0, none⟩) 1 1) (cs : List Value) (hb : Blk w b cs.toArray e') (hck : cs.length = k) (h1 : ∀ u ∈ cs, u.oneCell' = true) (hbytes : (css.length + 1) * bytes ≤ 140737488355328) (hb1 : 1 ≤ bytes) (hbase : base ≤ w.heap.size)
    (h : ∀ r : Sl, ∀ w', Mine w' base e k (.slice r.a r.n r.c) (css ++ [cs]) → w.grownBy w' v.ownBlock → ((Value.slice r.a r.n r.c).ownBlock = v.ownBlock ∨ (Value.slice r.a r.n r.c).ownBlock = some w.heap.size) → K (a.put o.dst (.slice r.a r.n r.c)) w') :
    if Region.wanted o (yielded ops a.tmps) = true then Oper.wp P o a w K Q else E := by
  have hw : Region.wanted o (yielded ops a.tmps) = true := by simp [Region.wanted, hgd]
  rw [if_pos hw]
  obtain ⟨r, w', hr, h2, h3, h4⟩ := run_append_own1 (P := P) w base t o.type e e' i z k bytes ht hi hz hsize hby hzs hk v css hown hE0 b cs hb hck h1 hbytes hb1 hbase
  unfold Oper.wp execOp
  simp only [ho, resolve, invoke, builtin, Sem.run_bind, Sem.run_pure, Result.andThen_ok, List.map_toArray, List.map_cons, List.map_nil, hs, hxv, hr]
  exact h r w' h2 h3 h4
end
end Go.Proofs.Ythoacakdmnijcaa
