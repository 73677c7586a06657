
/-
  Rows of things of some cells each, as they lie in memory; append.
-/
import Derived.Test.YtdciohinlhbliaaSPlain
import Derived.Deep.AppendSrc
import Derived.Deep.LoopGhost
import Derived.Deep.QuietTactic
import Derived.Deep.RegionWith
import Derived.BigQuiet
import Derived.BigRegion
import Derived.Handy
import Derived.Shelf.Abstract
import Derived.Laws.AppendOwn
namespace Go.Proofs.Ytdciohinlhbliaa
open Go.RowKit
/-- In these blocks memory is as it was. -/
def On (S : Nat → Prop) (w w' : World) : Prop := ∀ b, S b → w'.heap[b]? = w.heap[b]?
theorem On.cell {S : Nat → Prop} {w w' : World} (h : On S w w') {b o : Nat} (hb : S b) : w'.cell? ⟨b, o, none⟩ = w.cell? ⟨b, o, none⟩ := World.cell?_of_block (h b hb)
theorem On.of {B : Nat} {w w' : World} (h : Below B w w') : On (· < B) w w' := fun b hb => h.block b hb
theorem On.less {S T : Nat → Prop} {w w' : World} (h : On S w w') (hT : ∀ b, T b → S b) : On T w w' := fun b hb => h b (hT b hb)
theorem On.trans {S : Nat → Prop} {w w' w'' : World} (h : On S w w') (h' : On S w' w'') : On S w w'' := fun b hb => (h' b hb).trans (h b hb)
/-- Things of k cells lie there. -/
def Row (w : World) (S : Nat → Prop) (k : Nat) (v : Value) (css : List (List Value)) : Prop :=
  (∃ a c, v = .slice a 0 c ∧ css = []) ∨ ∃ b o c, v = .slice (some ⟨b, o, none⟩) css.length c ∧ S b ∧ css.length ≤ c ∧ c ≤ maxLen ∧ ∀ i cs, css[i]? = some cs → ∀ j u, cs[j]? = some u → w.cell? ⟨b, o + i * k + j, none⟩ = some u
theorem Row.on {w w' : World} {S : Nat → Prop} {k : Nat} {v : Value} {css : List (List Value)} (h : Row w S k v css) (ho : On S w w') : Row w' S k v css := by
  rcases h with h | ⟨b, o, c, h1, h2, h3, h4, h5⟩
  · exact Or.inl h
  · exact Or.inr ⟨b, o, c, h1, h2, h3, h4, fun i cs hi j u hj => (ho.cell h2).trans (h5 i cs hi j u hj)⟩
theorem Row.more {w : World} {S T : Nat → Prop} {k : Nat} {v : Value} {css : List (List Value)} (h : Row w S k v css) (hT : ∀ b, S b → T b) : Row w T k v css := by
  rcases h with h | ⟨b, o, c, h1, h2, h3, h4, h5⟩
  · exact Or.inl h
  · exact Or.inr ⟨b, o, c, h1, hT b h2, h3, h4, h5⟩
theorem Row.form {w : World} {S : Nat → Prop} {k : Nat} {v : Value} {css : List (List Value)} (h : Row w S k v css) : ∃ a c, v = .slice a css.length c ∧ css.length ≤ maxLen := by
  rcases h with ⟨a, c, rfl, rfl⟩ | ⟨b, o, c, rfl, h2, h3, h4, h5⟩
  · exact ⟨a, c, rfl, Nat.zero_le _⟩
  · exact ⟨_, c, rfl, Nat.le_trans h3 h4⟩
theorem Row.nil (w : World) (S : Nat → Prop) (k : Nat) (a : Option Addr) (c : Nat) : Row w S k (.slice a 0 c) [] := Or.inl ⟨a, c, rfl, rfl⟩
theorem Row.eqNil {w : World} {S : Nat → Prop} {k : Nat} {a : Option Addr} {c n : Nat} {css : List (List Value)} (h : Row w S k (.slice a n c) css) : n = css.length := by
  obtain ⟨a', c', e, _⟩ := h.form
  cases e; rfl
theorem Row.some {w : World} {S : Nat → Prop} {k : Nat} {v : Value} {css : List (List Value)} (h : Row w S k v css) (hn : 1 ≤ css.length) : ∃ b o c, v = .slice (some ⟨b, o, none⟩) css.length c ∧ S b ∧ css.length ≤ c ∧ c ≤ maxLen ∧ ∀ i cs, css[i]? = some cs → ∀ j u, cs[j]? = some u → w.cell? ⟨b, o + i * k + j, none⟩ = some u := by
  rcases h with ⟨a, c, rfl, rfl⟩ | h
  · simp at hn
  · exact h
/-- All of k cells. -/
def Even (k : Nat) (css : List (List Value)) : Prop := ∀ cs ∈ css, cs.length = k
theorem Even.flatten {k : Nat} {css : List (List Value)} (h : Even k css) : css.flatten.length = css.length * k := by
  induction css with
  | nil => simp
  | cons a t ih =>
    rw [List.flatten_cons, List.length_append, ih (fun cs hcs => h cs (List.mem_cons_of_mem _ hcs)), h a List.mem_cons_self, List.length_cons, Nat.add_mul]
    omega
theorem flatten_at {k : Nat} : ∀ {css : List (List Value)}, Even k css → ∀ (i : Nat) (cs : List Value), css[i]? = .some cs → ∀ (j : Nat) (u : Value), cs[j]? = .some u → css.flatten[i * k + j]? = .some u
  | [], _, i, cs, hi, _, _, _ => by simp at hi
  | a :: t, h, 0, cs, hi, j, u, hj => by
    simp at hi
    subst hi
    have hl := (List.getElem?_eq_some_iff.1 hj).1
    rw [List.flatten_cons, List.getElem?_append_left (by omega)]
    simpa using hj
  | a :: t, h, i + 1, cs, hi, j, u, hj => by
    have ha := h a List.mem_cons_self
    have hm : (i + 1) * k = i * k + k := Nat.succ_mul i k
    rw [List.flatten_cons, List.getElem?_append_right (by omega), ha, show (i + 1) * k + j - k = i * k + j by omega]
    exact flatten_at (fun cs hcs => h cs (List.mem_cons_of_mem _ hcs)) i cs (by simpa using hi) j u hj
theorem at_flatten {k : Nat} (hk : 0 < k) {css : List (List Value)} (h : Even k css) {n : Nat} {u : Value} (hn : css.flatten[n]? = .some u) : ∃ cs, css[n / k]? = .some cs ∧ cs[n % k]? = .some u := by
  have hl := (List.getElem?_eq_some_iff.1 hn).1
  rw [h.flatten] at hl
  have hi : n / k < css.length := Nat.div_lt_of_lt_mul (by rw [Nat.mul_comm]; exact hl)
  refine ⟨css[n / k], List.getElem?_eq_getElem hi, ?_⟩
  have hlen := h css[n / k] (List.getElem_mem hi)
  have hj : n % k < (css[n / k]).length := by rw [hlen]; exact Nat.mod_lt _ hk
  have e := flatten_at h (n / k) _ (List.getElem?_eq_getElem hi) (n % k) _ (List.getElem?_eq_getElem hj)
  rw [Nat.mul_comm, Nat.div_add_mod, hn] at e
  rw [List.getElem?_eq_getElem hj]
  exact e.symm
theorem Row.src {w : World} {b o k : Nat} (hk : 0 < k) {css : List (List Value)} (h : Even k css) (h5 : ∀ i cs, css[i]? = .some cs → ∀ j u, cs[j]? = .some u → w.cell? ⟨b, o + i * k + j, none⟩ = .some u) : ∀ j u, css.flatten[j]? = .some u → w.cell? ((⟨b, o, none⟩ : Addr).add j) = .some u := by
  intro j u hj
  obtain ⟨cs, h1, h2⟩ := at_flatten hk h hj
  have := h5 _ cs h1 _ u h2
  rw [Addr.add_lit]
  rw [Nat.add_assoc, Nat.mul_comm, Nat.div_add_mod] at this
  exact this
/-- All of one cell each. -/
def Ones (css : List (List Value)) : Prop := ∀ cs ∈ css, ∀ u ∈ cs, u.oneCell' = true
theorem Ones.flatten {css : List (List Value)} (h : Ones css) : ∀ u ∈ css.flatten, u.oneCell' = true := by
  intro u hu
  obtain ⟨cs, h1, h2⟩ := List.mem_flatten.1 hu
  exact h cs h1 u h2
/-- A row of one's own. -/
def Mine (w : World) (base : Nat) (e : TypeId) (k : Nat) (v : Value) (css : List (List Value)) : Prop := w.ownsRow base e k v css.length css.flatten
theorem Mine.nil (w : World) (base : Nat) (e : TypeId) (k : Nat) : Mine w base e k (.slice none 0 0) [] := World.ownsRow_nil w base e k
theorem Mine.row {w : World} {base k : Nat} {e : TypeId} {v : Value} {css : List (List Value)} (h : Mine w base e k v css) (hk : Even k css) : Row w (fun b => base ≤ b ∧ b < w.heap.size) k v css := by
  have hlt := World.ownsRow.lt h
  have hc := fun g hg => World.ownsRow.cells h (g := g) hg
  rcases h.2 with ⟨rfl, h0⟩ | ⟨g, cap, cur, rfl, _, _, h1, h2, _, _⟩
  · rw [List.length_eq_zero_iff.1 h0]; exact Row.nil _ _ _ _ _
  · refine Or.inr ⟨g, 0, cap, rfl, hlt g rfl, h1, h2, fun i cs hi j u hj => ?_⟩
    have := hc g rfl _ u (flatten_at hk i cs hi j u hj)
    rw [Addr.add_lit] at this
    rw [Nat.add_assoc]
    exact this
theorem Mine.form {w : World} {base k : Nat} {e : TypeId} {v : Value} {css : List (List Value)} (h : Mine w base e k v css) : ∃ a c, v = .slice a css.length c ∧ css.length ≤ maxLen ∧ (1 ≤ css.length → ∃ g, a = some ⟨g, 0, none⟩ ∧ base ≤ g ∧ g < w.heap.size) := by
  have hlt := World.ownsRow.lt h
  rcases h.2 with ⟨rfl, h0⟩ | ⟨g, cap, cur, rfl, _, _, h1, h2, _, _⟩
  · exact ⟨none, 0, by rw [h0], by omega, fun h => by omega⟩
  · exact ⟨_, cap, rfl, by omega, fun _ => ⟨g, rfl, hlt g rfl⟩⟩
section
variable {P : Program}
/-- append: a row of one's own, and whatever lies there. -/
theorem run_append_row (w : World) (base : Nat) (t ty e : TypeId) (i : TypeInfo) (z : Value) (k bytes : Nat) (ht : P.underlying t = some (.slice e)) (hi : P.info? e = some i) (hz : i.zero = some z)
    (hsize : i.size = k) (hby : i.bytes = bytes) (hzs : z.cells.size = k) (hk : 0 < k)
    (v : Value) (css : List (List Value)) (hown : Mine w base e k v css)
    (x : Value) (S : Nat → Prop) (dss : List (List Value)) (hx : Row w S k x dss) (hE : Even k dss) (h1 : Ones dss)
    (hbytes : (css.length + dss.length) * bytes ≤ 140737488355328) (hb1 : 1 ≤ bytes) (hbase : base ≤ w.heap.size) :
    ∃ v' w', (Builtin.append_ #[t, t] ty #[v, x]).run P w = .ok v' w' ∧ Mine w' base e k v' (css ++ dss) ∧ w.grownBy w' v.ownBlock := by
  have h63 : css.length + dss.length ≤ 140737488355328 := Nat.le_trans (Nat.le_mul_of_pos_right _ hb1) hbytes
  have h63' : css.length + dss.length ≤ maxLen := by unfold maxLen; omega
  have key : ∀ (ad : Addr) (c : Nat), x = .slice (some ad) dss.length c → (∀ j u, dss.flatten[j]? = some u → w.cell? (ad.add j) = some u) → ∃ v' w', (Builtin.append_ #[t, t] ty #[v, x]).run P w = .ok v' w' ∧ Mine w' base e k v' (css ++ dss) ∧ w.grownBy w' v.ownBlock := by
    rintro ad c rfl hn
    obtain ⟨v', w', hr, h2, h3, _⟩ := run_append_own (P := P) w base t ty e i z k bytes ht hi hz hsize hby hzs hk v css.length css.flatten hown ad dss.length c dss.flatten hE.flatten hn h1.flatten h63' hbytes hbase
    refine ⟨v', w', hr, ?_, h3⟩
    unfold Mine
    rw [List.length_append, List.flatten_append]
    exact h2
  rcases hx with ⟨a, c, rfl, rfl⟩ | ⟨b, o, c, rfl, _, _, _, h5⟩
  · cases a with
    | some a => exact key a c rfl (fun j u hj => by simp at hj)
    | none =>
      subst hsize
      have hg0 : ∀ row, w.grownBy w row := fun row => ⟨rfl, rfl, rfl, Nat.le_refl _, fun _ _ _ => rfl⟩
      rcases hown.2 with ⟨rfl, h0⟩ | ⟨g, cap, cur, rfl, hbg, hg, hnc, hcm, hcs, htake⟩
      · refine ⟨.slice none 0 0, w, ?_, by rw [List.append_nil]; exact hown, hg0 _⟩
        simp [Builtin.append_, run_underlying ht, sizeOf, typeInfo, hi, Builtin.lenOf, Builtin.firstCells]
      · have hr := run_append_room_src (P := P) w t t ty e i ht hi g 0 css.length cap _ 0 [] (Src.ofNil w ht c) (by omega) (fun j hj => by simp at hj) (fun j hj => by simp at hj)
        refine ⟨_, _, hr, ?_, ?_⟩
        · rw [List.append_nil]; exact hown
        · exact hg0 _
  · exact key ⟨b, o, none⟩ c rfl (Row.src hk hE h5)
theorem wpList_append_row {w : World} {ops : Array Oper} {rest : List Oper} {o : Oper} {a : Act} {Q : Exit → Act → World → Prop} (hgd : o.guard = none) (s x : Operand) (t : TypeId)
    (ho : o.op = .call { callee := .builtin .append, args := #[s, x], argTypes := #[t, t] })
    (base : Nat) (e : TypeId) (i : TypeInfo) (z : Value) (k bytes : Nat) (ht : P.underlying t = some (.slice e)) (hi : P.info? e = some i) (hz : i.zero = some z)
    (hsize : i.size = k) (hby : i.bytes = bytes) (hzs : z.cells.size = k) (hk : 0 < k)
    (v : Value) (css : List (List Value)) (hs : a.eval s = v) (hown : Mine w base e k v css)
    (xv : Value) (S : Nat → Prop) (dss : List (List Value)) (hxv : a.eval x = xv) (hx : Row w S k xv dss) (hE : Even k dss) (h1 : Ones dss)
    (hbytes : (css.length + dss.length) * bytes ≤ 140737488355328) (hb1 : 1 ≤ bytes) (hbase : base ≤ w.heap.size)
    (h : ∀ v' w', Mine w' base e k v' (css ++ dss) → w.grownBy w' v.ownBlock → wpList P ops Q rest (a.put o.dst v') w') : wpList P ops Q (o :: rest) a w := by
  refine wpList_plain hgd fun K hK => ?_
  obtain ⟨v', w', hr, h2, h3⟩ := run_append_row (P := P) w base t o.type e i z k bytes ht hi hz hsize hby hzs hk v css hown xv S dss hx hE h1 hbytes hb1 hbase
  unfold Oper.wp execOp
  simp only [ho, resolve, invoke, builtin, Sem.run_bind, Sem.run_pure, Result.andThen_ok, List.map_toArray, List.map_cons, List.map_nil, hs, hxv, hr]
  exact hK _ _ (h v' w' h2 h3)
end
end Go.Proofs.Ytdciohinlhbliaa
