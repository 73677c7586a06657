
/-
  append: where the row lies behind it.
-/
import Derived.Test.YtdciohinlhbliaaSSortW
namespace Go.Proofs.Ytdciohinlhbliaa
open Go.RowKit
section
variable {P : Program}
theorem run_append_row2 (w : World) (base : Nat) (t ty e : TypeId) (i : TypeInfo) (z : Value) (k bytes : Nat) (ht : P.underlying t = some (.slice e)) (hi : P.info? e = some i) (hz : i.zero = some z)
    (hsize : i.size = k) (hby : i.bytes = bytes) (hzs : z.cells.size = k) (hk : 0 < k)
    (v : Value) (css : List (List Value)) (hown : Mine w base e k v css)
    (b o c m : Nat) (S : Nat → Prop) (dss : List (List Value)) (hx : Row w S k (.slice (some ⟨b, o, none⟩) m c) dss) (hE : Even k dss) (h1 : Ones dss) (hE0 : Even k css)
    (hbytes : (css.length + dss.length) * bytes ≤ 140737488355328) (hb1 : 1 ≤ bytes) (hbase : base ≤ w.heap.size) :
    ∃ v' w', (Builtin.append_ #[t, t] ty #[v, .slice (some ⟨b, o, none⟩) m c]).run P w = .ok v' w' ∧ Mine w' base e k v' (css ++ dss) ∧ w.grownBy w' v.ownBlock ∧ ((v'.ownBlock = v.ownBlock) ∨ v'.ownBlock = some w.heap.size) := by
  obtain ⟨v', w', hr, hM, hg⟩ := run_append_row (P := P) w base t ty e i z k bytes ht hi hz hsize hby hzs hk v css hown _ S dss hx hE h1 hbytes hb1 hbase
  refine ⟨v', w', hr, hM, hg, ?_⟩
  have hm : m = dss.length := Row.eqNil hx
  subst hm
  subst hsize
  subst hby
  have h63 : css.length + dss.length ≤ 140737488355328 := Nat.le_trans (Nat.le_mul_of_pos_right _ hb1) hbytes
  have hn : ∀ j u, dss.flatten[j]? = some u → w.cell? ((⟨b, o, none⟩ : Addr).add j) = some u := by
    rcases hx with ⟨a, c', _, rfl⟩ | ⟨b', o', c', e', _, _, _, h5⟩
    · intro j u hj; simp at hj
    · obtain ⟨q1, -, -⟩ := Value.slice.inj e'
      obtain ⟨rfl, rfl, -⟩ := Addr.mk.inj (Option.some.inj q1)
      exact Row.src hk hE h5
  rcases hown.2 with ⟨rfl, h0⟩ | ⟨g, cap, cur, rfl, hbg, hgg, hnc, hcm, hcs, htake⟩
  · by_cases hm0 : dss.length = 0
    · left
      have hd := List.length_eq_zero_iff.1 hm0
      subst hd
      have hr' : (Builtin.append_ #[t, t] ty #[.slice none 0 0, .slice (some ⟨b, o, none⟩) 0 c]).run P w = .ok (.slice none 0 0) w := by
        simp [Builtin.append_, run_underlying ht, sizeOf, typeInfo, hi, Builtin.lenOf, Builtin.firstCells, loadCells, loadCellsFrom]
      rw [List.length_nil, hr'] at hr
      injection hr with e1 e2
      rw [← e1]
    · right
      have hr' := run_append_nil (P := P) w t ty e i z ht hi hz ⟨b, o, none⟩ dss.length c dss.flatten hE.flatten hn (by omega) (by omega) (by have hb := hbytes; rw [h0, Nat.zero_add] at hb; omega)
      rw [hr'] at hr
      injection hr with e1 e2
      rw [← e1]
      rfl
  · by_cases hroom : css.length + dss.length ≤ cap
    · left
      have hfit : css.length * i.size + dss.flatten.length ≤ cur.size := by rw [hE.flatten, hcs, ← Nat.add_mul]; exact Nat.mul_le_mul_right _ hroom
      have hr' := run_append_room (P := P) w t ty e i ht hi g css.length cap cur hgg ⟨b, o, none⟩ dss.length c dss.flatten hE.flatten hn h1.flatten hroom hfit
      rw [hr'] at hr
      injection hr with e1 e2
      rw [← e1]
      rfl
    · right
      have holds : ∀ j u, css.flatten[j]? = some u → w.cell? ((⟨g, 0, none⟩ : Addr).add j) = some u := World.ownsRow.cells hown (g := g) rfl
      have hr' := run_append_grow (P := P) w t ty e i z ht hi hz ⟨g, 0, none⟩ css.length cap css.flatten hE0.flatten holds ⟨b, o, none⟩ dss.length c dss.flatten hE.flatten hn (by omega) (by omega) (growslice_fits (by omega) hbytes)
      rw [hr'] at hr
      injection hr with e1 e2
      rw [← e1]
      rfl
theorem wpList_append_row2 {w : World} {ops : Array Oper} {rest : List Oper} {o : Oper} {a : Act} {Q : Exit → Act → World → Prop} (hgd : o.guard = none) (s x : Operand) (t : TypeId)
    (ho : o.op = .call { callee := .builtin .append, args := #[s, x], argTypes := #[t, t] })
    (base : Nat) (e : TypeId) (i : TypeInfo) (z : Value) (k bytes : Nat) (ht : P.underlying t = some (.slice e)) (hi : P.info? e = some i) (hz : i.zero = some z)
    (hsize : i.size = k) (hby : i.bytes = bytes) (hzs : z.cells.size = k) (hk : 0 < k)
    (v : Value) (css : List (List Value)) (hs : a.eval s = v) (hown : Mine w base e k v css)
    (xb xo xc xm : Nat) (S : Nat → Prop) (dss : List (List Value)) (hxv : a.eval x = .slice (some ⟨xb, xo, none⟩) xm xc) (hx : Row w S k (.slice (some ⟨xb, xo, none⟩) xm xc) dss) (hE : Even k dss) (h1 : Ones dss) (hE0 : Even k css)
    (hbytes : (css.length + dss.length) * bytes ≤ 140737488355328) (hb1 : 1 ≤ bytes) (hbase : base ≤ w.heap.size)
    (h : ∀ v' w', Mine w' base e k v' (css ++ dss) → w.grownBy w' v.ownBlock → ((v'.ownBlock = v.ownBlock) ∨ v'.ownBlock = some w.heap.size) → wpList P ops Q rest (a.put o.dst v') w') : wpList P ops Q (o :: rest) a w := by
  refine wpList_plain hgd fun K hK => ?_
  obtain ⟨v', w', hr, h2, h3, h4⟩ := run_append_row2 (P := P) w base t o.type e i z k bytes ht hi hz hsize hby hzs hk v css hown xb xo xc xm S dss hx hE h1 hE0 hbytes hb1 hbase
  unfold Oper.wp execOp
  simp only [ho, resolve, invoke, builtin, Sem.run_bind, Sem.run_pure, Result.andThen_ok, List.map_toArray, List.map_cons, List.map_nil, hs, hxv, hr]
  exact hK _ _ (h v' w' h2 h3 h4)
end
end Go.Proofs.Ytdciohinlhbliaa
