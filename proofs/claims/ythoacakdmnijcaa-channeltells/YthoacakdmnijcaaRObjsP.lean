
/-
  Objects, as they lie in memory, each as something asks of it; rgref5.With, Make, Pair again.
-/
import Derived.Test.YthoacakdmnijcaaRPair
namespace Go.Proofs.Ythoacakdmnijcaa
open Go.RowKit
/-- Objects lie there, each of them so. -/
def ObjsP (Z : Sls × Sp.Ob → Prop) (w : World) (S : Nat → Prop) (v : Value) (l : List Sp.Ob) : Prop :=
  ∃ ts : List (Sls × Sp.Ob), l = ts.map Prod.snd ∧ Row w S 9 v (ts.map objC) ∧ (∀ t ∈ ts, Lists w S t) ∧ ∀ t ∈ ts, Z t
theorem ObjsP.objs {Z : Sls × Sp.Ob → Prop} {w : World} {S : Nat → Prop} {v : Value} {l : List Sp.Ob} (h : ObjsP Z w S v l) : Objs w S v l := by
  obtain ⟨ts, h1, h2, h3, _⟩ := h
  exact ⟨ts, h1, h2, h3⟩
theorem ObjsP.on {Z : Sls × Sp.Ob → Prop} {w w' : World} {S : Nat → Prop} {v : Value} {l : List Sp.Ob} (h : ObjsP Z w S v l) (ho : On S w w') : ObjsP Z w' S v l := by
  obtain ⟨ts, h1, h2, h3, h4⟩ := h
  exact ⟨ts, h1, h2.on ho, fun t ht => (h3 t ht).on ho, h4⟩
theorem ObjsP.more {Z : Sls × Sp.Ob → Prop} {w : World} {S T : Nat → Prop} {v : Value} {l : List Sp.Ob} (h : ObjsP Z w S v l) (hT : ∀ b, S b → T b) : ObjsP Z w T v l := by
  obtain ⟨ts, h1, h2, h3, h4⟩ := h
  exact ⟨ts, h1, h2.more hT, fun t ht => (h3 t ht).more hT, h4⟩
theorem Objs.withP {Z : Sls × Sp.Ob → Prop} {w : World} {S : Nat → Prop} {v : Value} {l : List Sp.Ob} (h : Objs w S v l) (hZ : ∀ s o, o ∈ l → Z (s, o)) : ObjsP Z w S v l := by
  obtain ⟨ts, rfl, h2, h3⟩ := h
  exact ⟨ts, rfl, h2, h3, fun t ht => hZ t.1 t.2 (List.mem_map_of_mem ht)⟩
theorem ObjsP.open {Z : Sls × Sp.Ob → Prop} {w : World} {S : Nat → Prop} {v : Value} {L : List Sp.Ob} (h : ObjsP Z w S v L) {k : Nat} {x : Sp.Ob} (hx : L[k]? = some x) :
    ∃ b o c s, v = .slice (some ⟨b, o, none⟩) L.length c ∧ S b ∧ L.length ≤ c ∧ c ≤ maxLen ∧ Lists w S (s, x) ∧ Z (s, x) ∧ w.cell? ⟨b, o + k * 9, none⟩ = some (.int .i64 x.kind) ∧ w.cell? ⟨b, o + k * 9 + 1, none⟩ = some (.slice s.d.a s.d.n s.d.c) ∧ w.cell? ⟨b, o + k * 9 + 2, none⟩ = some (.slice s.e.a s.e.n s.e.c) ∧ w.cell? ⟨b, o + k * 9 + 3, none⟩ = some (.string x.target) ∧ w.cell? ⟨b, o + k * 9 + 4, none⟩ = some (.int .i64 x.peer) ∧ w.cell? ⟨b, o + k * 9 + 5, none⟩ = some (.slice s.q.a s.q.n s.q.c) ∧ w.cell? ⟨b, o + k * 9 + 6, none⟩ = some (.int .i64 x.proc) ∧ w.cell? ⟨b, o + k * 9 + 7, none⟩ = some (.int .i64 x.links) ∧ w.cell? ⟨b, o + k * 9 + 8, none⟩ = some (.int .i64 x.up) := by
  obtain ⟨ts, rfl, hr, hl, hq⟩ := h
  rw [List.getElem?_map] at hx
  cases ht : ts[k]? with
  | none => rw [ht] at hx; cases hx
  | some t =>
    rw [ht] at hx
    simp at hx
    subst hx
    obtain ⟨s, x⟩ := t
    have hlt := (List.getElem?_eq_some_iff.1 ht).1
    obtain ⟨b, o, c, h1, h2, h3, h4, h5⟩ := hr.some (by rw [List.length_map]; omega)
    rw [List.length_map] at h1 h3 ⊢
    exact ⟨b, o, c, s, h1, h2, h3, h4, hl _ (List.mem_of_getElem? ht), hq _ (List.mem_of_getElem? ht), obj_cells h5 ht⟩
set_option maxRecDepth 100000 in
set_option maxHeartbeats 4000000 in
theorem rwith_P (Z : Sls × Sp.Ob → Prop) (L : List Sp.Ob) (k : Nat) (s : Sls) (o : Sp.Ob) (v : Value) (S : Nat → Prop) (w : World) (hv : ObjsP Z w S v L) (hS : ∀ b, S b → b < w.heap.size) (hn : L.length ≤ 1000) (hk : k ≤ L.length) (ho : Lists w S (s, o)) (hZ : Z (s, o)) :
    Calls Try.prog 30 #[v, .int .i64 k, .agg (objC (s, o)).toArray] w fun e w' => ∃ a c, e = .returned (.slice a (Sp.rwith L k o).length c) ∧ ObjsP Z w' (Or' S w.heap.size w'.heap.size) (.slice a (Sp.rwith L k o).length c) (Sp.rwith L k o) ∧ Below w.heap.size w w' := by
  obtain ⟨ts, rfl, hr, hl, hq⟩ := hv
  obtain ⟨va, vc, rfl, -⟩ := hr.form
  rw [List.length_map] at hr hn hk ⊢
  have HR : Hid (Row w S 9 (.slice va ts.length vc) (ts.map objC)) := hr
  have HL : Hid (∀ t ∈ ts, Lists w S t) := hl
  have HO : Hid (Lists w S (s, o)) := ho
  have HS : Hid (∀ b, S b → b < w.heap.size) := hS
  have hnz : (ts.length : Int) ≤ 1000 := by omega
  have HP : Hid (∀ w' a c us, (if k = ts.length then ts ++ [(s, o)] else ts.set k (s, o)) = us → Row w' (Or' S w.heap.size w'.heap.size) 9 (.slice a us.length c) (us.map objC) → Below w.heap.size w w' → ∃ a' c', Value.slice a us.length c = .slice a' (Sp.rwith (ts.map Prod.snd) k o).length c' ∧ ObjsP Z w' (Or' S w.heap.size w'.heap.size) (.slice a' (Sp.rwith (ts.map Prod.snd) k o).length c') (Sp.rwith (ts.map Prod.snd) k o) ∧ Below w.heap.size w w') := by
    rintro w' a c us hus hrow hB
    have e : Sp.rwith (ts.map Prod.snd) k o = us.map Prod.snd := by
      unfold Sp.rwith
      rw [List.length_map, ← hus]
      split
      · rw [List.map_append]; rfl
      · rw [List.map_set]
    rw [e, List.length_map]
    have key0 : ∀ t ∈ us, t ∈ ts ∨ t = (s, o) := fun t ht => by
      rw [← hus] at ht
      split at ht
      · rcases List.mem_append.1 ht with h | h
        · exact Or.inl h
        · exact Or.inr (by simpa using h)
      · exact List.mem_or_eq_of_mem_set ht
    refine ⟨a, c, rfl, ⟨us, rfl, hrow, fun t ht => ?_, fun t ht => (key0 t ht).elim (hq t) (fun e => e ▸ hZ)⟩, hB⟩
    have hon : On S w w' := (On.of hB).less hS
    rcases key0 t ht with h | h
    · exact ((hl t h).on hon).more fun b hb => Or.inl hb
    · subst h
      exact (ho.on hon).more fun b hb => Or.inl hb
  generalize hRW : Sp.rwith (ts.map Prod.snd) k o = RW at HP ⊢
  clear hRW hr hl ho hS hq hZ
  rw [objV_eq]
  go_enter Try.func30, Try.ntmps30
  go_wp2_with (with_reducible refine stop_at (.call { callee := .builtin .append, args := #[.tmp 8, .tmp 9], argTypes := #[23, 23] }) rfl ?_)
  unfold Hold
  have HM1 : Hid (Mine ((w.alloc (.cells #[.int .i64 o.kind, .slice s.d.a s.d.n s.d.c, .slice s.e.a s.e.n s.e.c, .string o.target, .int .i64 o.peer, .slice s.q.a s.q.n s.q.c, .int .i64 o.proc, .int .i64 o.links, .int .i64 o.up] 40)).alloc (.cells #[] 40)) (w.heap.size + 1) 40 9 (.slice (some ⟨w.heap.size + 1, 0, none⟩) 0 0) []) := by
    have := Mine.empty (w.alloc (.cells #[.int .i64 o.kind, .slice s.d.a s.d.n s.d.c, .slice s.e.a s.e.n s.e.c, .string o.target, .int .i64 o.peer, .slice s.q.a s.q.n s.q.c, .int .i64 o.proc, .int .i64 o.links, .int .i64 o.up] 40)) 40 9
    have e : (w.alloc (.cells #[.int .i64 o.kind, .slice s.d.a s.d.n s.d.c, .slice s.e.a s.e.n s.e.c, .string o.target, .int .i64 o.peer, .slice s.q.a s.q.n s.q.c, .int .i64 o.proc, .int .i64 o.links, .int .i64 o.up] 40)).heap.size = w.heap.size + 1 := by simp
    rw [e] at this
    exact this
  have HBX1 : Hid (Blk ((w.alloc (.cells #[.int .i64 o.kind, .slice s.d.a s.d.n s.d.c, .slice s.e.a s.e.n s.e.c, .string o.target, .int .i64 o.peer, .slice s.q.a s.q.n s.q.c, .int .i64 o.proc, .int .i64 o.links, .int .i64 o.up] 40)).alloc (.cells #[] 40)) w.heap.size #[.int .i64 o.kind, .slice s.d.a s.d.n s.d.c, .slice s.e.a s.e.n s.e.c, .string o.target, .int .i64 o.peer, .slice s.q.a s.q.n s.q.c, .int .i64 o.proc, .int .i64 o.links, .int .i64 o.up] 40) := (Blk.new w _ _).alloc _
  have HB1 : Hid (Below w.heap.size w ((w.alloc (.cells #[.int .i64 o.kind, .slice s.d.a s.d.n s.d.c, .slice s.e.a s.e.n s.e.c, .string o.target, .int .i64 o.peer, .slice s.q.a s.q.n s.q.c, .int .i64 o.proc, .int .i64 o.links, .int .i64 o.up] 40)).alloc (.cells #[] 40))) := ((Below.refl _ _).alloc (Nat.le_refl _) _).alloc (by simp) _
  have hz1 : ((w.alloc (.cells #[.int .i64 o.kind, .slice s.d.a s.d.n s.d.c, .slice s.e.a s.e.n s.e.c, .string o.target, .int .i64 o.peer, .slice s.q.a s.q.n s.q.c, .int .i64 o.proc, .int .i64 o.links, .int .i64 o.up] 40)).alloc (.cells #[] 40)).heap.size = w.heap.size + 2 := by simp
  have HZ1 : Hid _ := hz1
  clear hz1
  generalize (w.alloc (.cells #[.int .i64 o.kind, .slice s.d.a s.d.n s.d.c, .slice s.e.a s.e.n s.e.c, .string o.target, .int .i64 o.peer, .slice s.q.a s.q.n s.q.c, .int .i64 o.proc, .int .i64 o.links, .int .i64 o.up] 40)).alloc (.cells #[] 40) = w1 at *
  obtain ⟨i0, hi, hz0, hz1, hz2⟩ := info_parts Try.infoObj
  refine wpList_append_row rfl _ _ _ rfl (w.heap.size + 1) 40 i0 (.agg #[.int .i64 0, .slice none 0 0, .slice none 0 0, .string ⟨#[]⟩, .int .i64 0, .slice none 0 0, .int .i64 0, .int .i64 0, .int .i64 0]) 9 128 Try.underlying23 hi hz0 hz1 hz2 rfl (by decide) _ [] rfl HM1.out (.slice va ts.length vc) S (ts.map objC) rfl (Row.on HR.out ((On.of HB1.out).less HS.out)) (even_obj ts) (ones_obj ts) ?_ (by decide) ?_ ?_
  · rw [List.length_map, List.length_nil]; omega
  · have := HZ1.out; omega
  intro v2 w2 ho2 hg2
  rw [List.nil_append] at ho2
  clear hi hz0 hz1 hz2
  have hgl : ∀ j, (Value.slice (some ⟨w.heap.size + 1, 0, none⟩) 0 0).ownBlock = some j → j = w.heap.size + 1 := fun j hj => by simp [Value.ownBlock] at hj; exact hj.symm
  have HB2 : Hid (Below w.heap.size w w2) := HB1.out.grown hg2 (by have := HZ1.out; omega) (fun j hj => by rw [hgl j hj]; omega)
  have hz12 : w.heap.size + 2 ≤ w2.heap.size := by
    have := (Below.grown (Below.refl w.heap.size w1) hg2 (by have := HZ1.out; omega) (fun j hj => by rw [hgl j hj]; omega)).size
    have := HZ1.out
    omega
  have HBX2 : Hid (Blk w2 w.heap.size #[.int .i64 o.kind, .slice s.d.a s.d.n s.d.c, .slice s.e.a s.e.n s.e.c, .string o.target, .int .i64 o.peer, .slice s.q.a s.q.n s.q.c, .int .i64 o.proc, .int .i64 o.links, .int .i64 o.up] 40) := (hg2.block w.heap.size (by have := HZ1.out; omega) (fun e => by have := hgl _ e.symm; omega)).trans HBX1.out
  obtain ⟨a2, c2, hv2, -, hvg2⟩ := ho2.form
  rw [List.length_map] at hv2 hvg2
  subst hv2
  have HM2 : Hid (Mine w2 (w.heap.size + 1) 40 9 (.slice a2 ts.length c2) (ts.map objC)) := ho2
  have HG2 : Hid (1 ≤ ts.length → ∃ g, a2 = some ⟨g, 0, none⟩ ∧ w.heap.size + 1 ≤ g ∧ g < w2.heap.size) := hvg2
  have cb := Blk.cell HBX2.out
  clear ho2 hg2 hgl HM1 HBX1 HB1 HZ1 hvg2
  by_cases hkl : k = ts.length
  · subst hkl
    have hkz : ((ts.length : Int) == (ts.length : Int)) = true := by simp
    go_wp2_with (with_reducible refine stop_at (.call { callee := .builtin .append, args := #[.tmp 15, .tmp 17], argTypes := #[23, 23] }) rfl ?_)
    unfold Hold
    have HBN := Blk.new w2 #[.int .i64 o.kind, .slice s.d.a s.d.n s.d.c, .slice s.e.a s.e.n s.e.c, .string o.target, .int .i64 o.peer, .slice s.q.a s.q.n s.q.c, .int .i64 o.proc, .int .i64 o.links, .int .i64 o.up] 40
    have hon3 := On.alloc w2 (.cells #[.int .i64 o.kind, .slice s.d.a s.d.n s.d.c, .slice s.e.a s.e.n s.e.c, .string o.target, .int .i64 o.peer, .slice s.q.a s.q.n s.q.c, .int .i64 o.proc, .int .i64 o.links, .int .i64 o.up] 40)
    have HB3 : Hid (Below w.heap.size w (w2.alloc (.cells #[.int .i64 o.kind, .slice s.d.a s.d.n s.d.c, .slice s.e.a s.e.n s.e.c, .string o.target, .int .i64 o.peer, .slice s.q.a s.q.n s.q.c, .int .i64 o.proc, .int .i64 o.links, .int .i64 o.up] 40))) := HB2.out.alloc (by omega) _
    have hz3 : w2.heap.size < (w2.alloc (.cells #[.int .i64 o.kind, .slice s.d.a s.d.n s.d.c, .slice s.e.a s.e.n s.e.c, .string o.target, .int .i64 o.peer, .slice s.q.a s.q.n s.q.c, .int .i64 o.proc, .int .i64 o.links, .int .i64 o.up] 40)).heap.size := by simp
    generalize w2.alloc (.cells #[.int .i64 o.kind, .slice s.d.a s.d.n s.d.c, .slice s.e.a s.e.n s.e.c, .string o.target, .int .i64 o.peer, .slice s.q.a s.q.n s.q.c, .int .i64 o.proc, .int .i64 o.links, .int .i64 o.up] 40) = w3 at *
    have HM3 : Hid (Mine w3 (w.heap.size + 1) 40 9 (.slice a2 ts.length c2) (ts.map objC)) := HM2.out.on hon3 fun g hg => (HM2.out.lt g hg).2
    have HR3 : Hid (Row w3 (fun b => b = w2.heap.size) 9 (.slice (some ⟨w2.heap.size, 0, none⟩) 1 1) [objC (s, o)]) := obj_row HBN
    obtain ⟨i0, hi, hz0, hz1, hz2⟩ := info_parts Try.infoObj
    clear HBN hon3
    refine wpList_append_row rfl _ _ _ rfl (w.heap.size + 1) 40 i0 (.agg #[.int .i64 0, .slice none 0 0, .slice none 0 0, .string ⟨#[]⟩, .int .i64 0, .slice none 0 0, .int .i64 0, .int .i64 0, .int .i64 0]) 9 128 Try.underlying23 hi hz0 hz1 hz2 rfl (by decide) _ (ts.map objC) rfl HM3.out _ _ [objC (s, o)] rfl HR3.out (even_obj [(s, o)]) (ones_obj [(s, o)]) ?_ (by decide) ?_ ?_
    · rw [List.length_map]
      simp only [List.length_cons, List.length_nil]
      omega
    · omega
    intro v4 w4 ho4 hg4
    clear hi hz0 hz1 hz2
    have ho4' : Mine w4 (w.heap.size + 1) 40 9 v4 ((ts ++ [(s, o)]).map objC) := by rw [List.map_append]; exact ho4
    have HB4 : Hid (Below w.heap.size w w4) := HB3.out.grown hg4 (by omega) (fun j hj => by have := (HM3.out.lt j hj).1; omega)
    obtain ⟨a4, c4, hv4, -, -⟩ := ho4'.form
    rw [List.length_map] at hv4
    subst hv4
    have HF : Hid _ := HP.out w4 a4 c4 (ts ++ [(s, o)]) (by simp) ((ho4'.row (even_obj _)).more fun b hb => Or.inr ⟨by omega, hb.2⟩) HB4.out
    clear ho4 ho4' hg4 HM3 HR3
    go_wp2
    go_ret
    obtain ⟨a', c', e1, e2, e3⟩ := HF.out
    have e1' : Value.slice a4 (ts.length + 1) c4 = .slice a' RW.length c' := by rw [← e1]; simp
    exact ⟨a', c', by rw [← e1']; rfl, e2, e3⟩
  · obtain ⟨g2, rfl, hg1, hg2⟩ := HG2.out (by omega)
    have hkz : ((k : Int) == (ts.length : Int)) = false := by simp; omega
    have hklt : k < ts.length := by omega
    obtain ⟨cur, hblk, -, hcc, hcm, hcs, hcur⟩ := HM2.out.blk
    have hget : (ts.map objC)[k]? = some (objC ts[k]) := by rw [List.getElem?_map, List.getElem?_eq_getElem hklt]; rfl
    have hcell : ∀ j u, (objC ts[k])[j]? = some u → w2.cell? ⟨g2, k * 9 + j, none⟩ = some u := fun j u hj => by
      rw [hblk.cell]
      exact hcur _ u (flatten_at (even_obj ts) k _ hget j u hj)
    have y0 := hcell 0 _ rfl
    have y1 := hcell 1 _ rfl
    have y2 := hcell 2 _ rfl
    have y3 := hcell 3 _ rfl
    have y4 := hcell 4 _ rfl
    have y5 := hcell 5 _ rfl
    have y6 := hcell 6 _ rfl
    have y7 := hcell 7 _ rfl
    have y8 := hcell 8 _ rfl
    have yf := hblk.free
    rw [Nat.add_zero] at y0
    unfold maxLen at hcm
    clear hcell hblk hcur hcs hget
    go_wp2
    generalize hW : (((((((((w2.setCell ⟨g2, k * 9, none⟩ (.int .i64 o.kind)).setCell ⟨g2, k * 9 + 1, none⟩ (.slice s.d.a s.d.n s.d.c)).setCell ⟨g2, k * 9 + 2, none⟩ (.slice s.e.a s.e.n s.e.c)).setCell ⟨g2, k * 9 + 3, none⟩ (.string o.target)).setCell ⟨g2, k * 9 + 4, none⟩ (.int .i64 o.peer)).setCell ⟨g2, k * 9 + 5, none⟩ (.slice s.q.a s.q.n s.q.c)).setCell ⟨g2, k * 9 + 6, none⟩ (.int .i64 o.proc)).setCell ⟨g2, k * 9 + 7, none⟩ (.int .i64 o.links)).setCell ⟨g2, k * 9 + 8, none⟩ (.int .i64 o.up)) = W9
    obtain ⟨h9, -, -⟩ := HM2.out.nine (even_obj ts) k (by rw [List.length_map]; exact hklt) _ _ _ _ _ _ _ _ _ W9 hW.symm
    have hB9 : Below w.heap.size w W9 := by
      rw [← hW]
      have hgw : w.heap.size ≤ g2 := by omega
      exact ((((((((HB2.out.setCell hgw _).setCell hgw _).setCell hgw _).setCell hgw _).setCell hgw _).setCell hgw _).setCell hgw _).setCell hgw _).setCell hgw _
    have h9' : Mine W9 (w.heap.size + 1) 40 9 (.slice (some ⟨g2, 0, none⟩) (ts.set k (s, o)).length c2) ((ts.set k (s, o)).map objC) := by
      rw [List.length_set, List.map_set]
      exact h9
    obtain ⟨a', c', e1, e2, e3⟩ := HP.out W9 (some ⟨g2, 0, none⟩) c2 (ts.set k (s, o)) (if_neg hkl) ((h9'.row (even_obj _)).more fun b hb => Or.inr ⟨by omega, hb.2⟩) hB9
    rw [List.length_set] at e1
    go_ret
    exact ⟨a', c', by rw [← e1]; rfl, e2, e3⟩
set_option maxRecDepth 100000 in
set_option maxHeartbeats 2000000 in
theorem rmake_P (Z : Sls × Sp.Ob → Prop) (L : List Sp.Ob) (s : Sls) (o : Sp.Ob) (v : Value) (S : Nat → Prop) (w : World) (hv : ObjsP Z w S v L) (hS : ∀ b, S b → b < w.heap.size) (hn : L.length < 40) (hnf : ∀ o ∈ L, o.kind ≠ 0) (ho : Lists w S (s, o)) (hZ : Z (s, o)) :
    Calls Try.prog 28 #[v, .agg (objC (s, o)).toArray] w fun e w' => ∃ a c, e = .returned (.tuple #[.slice a (L.length + 1) c, .int .i64 L.length, .int .i64 0]) ∧ ObjsP Z w' (Or' S w.heap.size w'.heap.size) (.slice a (L.length + 1) c) (L ++ [o]) ∧ Below w.heap.size w w' := by
  have HW : Hid (∀ W, Below w.heap.size w W → Calls Try.prog 30 #[v, .int .i64 L.length, .agg (objC (s, o)).toArray] W fun e w' => ∃ a c, e = .returned (.slice a (L.length + 1) c) ∧ ObjsP Z w' (Or' S W.heap.size w'.heap.size) (.slice a (L.length + 1) c) (L ++ [o]) ∧ Below W.heap.size W w') := fun W hW => by
    have := rwith_P Z L L.length s o v S W (hv.on ((On.of hW).less hS)) (fun b hb => Nat.lt_of_lt_of_le (hS b hb) hW.size) (by omega) (Nat.le_refl _) (ho.on ((On.of hW).less hS)) hZ
    have e : Sp.rwith L L.length o = L ++ [o] := if_pos rfl
    rw [e, List.length_append] at this
    exact this
  have HV : Hid (Objs w S v L) := hv.objs
  have HNF : Hid (∀ o ∈ L, o.kind ≠ 0) := hnf
  have HS : Hid (∀ b, S b → b < w.heap.size) := hS
  obtain ⟨va, vc, rfl, -⟩ := hv.objs.form
  simp only [objV_eq] at HW ⊢
  have hn40 : ¬ (40 : Int) ≤ (L.length : Int) := by omega
  clear hv hS hnf ho hZ
  go_enter Try.func28, Try.ntmps28
  go_wp2
  have HB1 : Hid (Below w.heap.size w (w.alloc (.cells #[.int .i64 o.kind, .slice s.d.a s.d.n s.d.c, .slice s.e.a s.e.n s.e.c, .string o.target, .int .i64 o.peer, .slice s.q.a s.q.n s.q.c, .int .i64 o.proc, .int .i64 o.links, .int .i64 o.up] 40))) := (Below.refl _ _).alloc (Nat.le_refl _) _
  have HBX : Hid (Blk (w.alloc (.cells #[.int .i64 o.kind, .slice s.d.a s.d.n s.d.c, .slice s.e.a s.e.n s.e.c, .string o.target, .int .i64 o.peer, .slice s.q.a s.q.n s.q.c, .int .i64 o.proc, .int .i64 o.links, .int .i64 o.up] 40)) w.heap.size #[.int .i64 o.kind, .slice s.d.a s.d.n s.d.c, .slice s.e.a s.e.n s.e.c, .string o.target, .int .i64 o.peer, .slice s.q.a s.q.n s.q.c, .int .i64 o.proc, .int .i64 o.links, .int .i64 o.up] 40) := Blk.new _ _ _
  generalize w.alloc (.cells #[.int .i64 o.kind, .slice s.d.a s.d.n s.d.c, .slice s.e.a s.e.n s.e.c, .string o.target, .int .i64 o.peer, .slice s.q.a s.q.n s.q.c, .int .i64 o.proc, .int .i64 o.links, .int .i64 o.up] 40) = w1 at *
  go_loop [7] (fun i => ∃ k : Nat, k ≤ L.length ∧ i = .int .i64 k) (fun i => L.length - (intOf i).toNat)
  case atStart => exact ⟨0, Nat.zero_le _, rfl⟩
  case round =>
    obtain ⟨k, hk, rfl⟩ := hrel
    by_cases hlt : k < L.length
    · have hx : L[k]? = some L[k] := List.getElem?_eq_getElem hlt
      obtain ⟨b, of, c', s', he, hSb, h3, h4, -, c0, -⟩ := (HV.out.on ((On.of HB1.out).less HS.out)).open hx
      obtain ⟨rfl, -, rfl⟩ := Value.slice.inj he
      have hkz : (L[k].kind != 0) = true := by simpa using HNF.out _ (List.getElem_mem hlt)
      unfold maxLen at h4
      generalize L[k] = x at *
      clear hx he
      go_wp2
      exact ⟨⟨k + 1, by omega, by go_num⟩, by simp [intOf]; omega⟩
    · obtain rfl : k = L.length := by omega
      have cb := Blk.cell HBX.out
      go_wp2_with fail
      refine Calls.mono (HW.out _ HB1.out) ?_
      rintro e w3 ⟨a3, c3, rfl, hO3, hb3⟩
      have HF : Hid (ObjsP Z w3 (Or' S w.heap.size w3.heap.size) (.slice a3 (L.length + 1) c3) (L ++ [o])) := hO3.more fun b hb => by
        rcases hb with h | h
        · exact Or.inl h
        · exact Or.inr ⟨Nat.le_trans HB1.out.size h.1, h.2⟩
      have HBF : Hid (Below w.heap.size w w3) := HB1.out.trans (hb3.mono HB1.out.size)
      clear hO3 hb3
      go_wp2
      go_ret3
      exact ⟨a3, c3, rfl, HF.out, HBF.out⟩
set_option maxRecDepth 100000 in
set_option maxHeartbeats 4000000 in
theorem pair_P (Z : Sls × Sp.Ob → Prop) (hZ : ∀ e : Int, Z (⟨nilSl, nilSl, nilSl⟩, obE e)) (hZ2 : ∀ (s : Sls) (e e2 : Int), Z (s, obE e) → Z (s, obE e2)) (L : List Sp.Ob) (v : Value) (S : Nat → Prop) (w : World) (hv : ObjsP Z w S v L) (hS : ∀ b, S b → b < w.heap.size) (hn : L.length < 38) (hnf : ∀ o ∈ L, o.kind ≠ 0) :
    Calls Try.prog 20 #[v] w fun e w' => ∃ a c, e = .returned (.tuple #[.slice a (L.length + 2) c, .agg #[.int .i64 L.length, .int .i64 (L.length + 1 : Int)], .int .i64 0]) ∧ ObjsP Z w' (Or' S w.heap.size w'.heap.size) (.slice a (L.length + 2) c) (L ++ [obE (L.length + 1 : Int), obE L.length]) ∧ Below w.heap.size w w' := by
  have HV : Hid (ObjsP Z w S v L) := hv
  have HS : Hid (∀ b, S b → b < w.heap.size) := hS
  have HNF : Hid (∀ o ∈ L, o.kind ≠ 0) := hnf
  have HN : Hid (L.length < 38) := hn
  have hnz : (L.length : Int) < 38 := by omega
  obtain ⟨va, vc, rfl, -⟩ := hv.objs.form
  clear hv hS hnf hn
  go_enter Try.func20, Try.ntmps20
  go_wp2_with fail
  have hB1 : Below w.heap.size w (w.alloc (.cells #[.int .i64 0, .int .i64 0] 50)) := (Below.refl _ _).alloc (Nat.le_refl _) _
  have hz1 : (w.alloc (.cells #[.int .i64 0, .int .i64 0] 50)).heap.size = w.heap.size + 1 := by simp
  have hR1 := rmake_P Z L ⟨nilSl, nilSl, nilSl⟩ (obE (-1)) _ S _ (HV.out.on ((On.of hB1).less HS.out)) (fun b hb => by have := HS.out b hb; omega) (by have := HN.out; omega) HNF.out (lists_none _ _ _) (hZ _)
  rw [endV] at hR1
  refine Calls.mono hR1 ?_
  rintro e w2 ⟨a2, c2, rfl, ho2, hb2⟩
  have HB2 : Hid (Below w.heap.size w w2) := hB1.trans (hb2.mono (by omega))
  have hz2 : w.heap.size + 1 ≤ w2.heap.size := by have := hb2.size; omega
  have HC2 : Hid (Blk w2 w.heap.size #[.int .i64 0, .int .i64 0] 50) := (Blk.new w _ _).below hb2 (by omega)
  have HO2 : Hid (ObjsP Z w2 (Or' S (w.heap.size + 1) w2.heap.size) (.slice a2 (L.length + 1) c2) (L ++ [obE (-1)])) := ho2.more fun b hb => by rw [hz1] at hb; exact hb
  clear hR1 ho2 hb2 hB1 hz1
  go_wp2_with fail
  have hR2 := rmake_P Z (L ++ [obE (-1)]) ⟨nilSl, nilSl, nilSl⟩ (obE L.length) (.slice a2 (L.length + 1) c2) (Or' S (w.heap.size + 1) w2.heap.size) w2 HO2.out (fun b hb => Or'.lt HS.out (by omega) hb) (by have := HN.out; simp; omega) (fun o ho => by
    rcases List.mem_append.1 ho with h | h
    · exact HNF.out o h
    · simp at h; subst h; decide) (lists_none _ _ _) (hZ _)
  rw [endV] at hR2
  simp only [List.length_append, List.length_singleton, Nat.add_assoc, List.append_assoc, List.singleton_append, Nat.reduceAdd] at hR2
  refine Calls.mono hR2 ?_
  rintro e w3 ⟨a3, c3, rfl, ho3, hb3⟩
  have HB3 : Hid (Below w.heap.size w w3) := HB2.out.trans (hb3.mono HB2.out.size)
  have hz3 : w2.heap.size ≤ w3.heap.size := hb3.size
  have HC3 : Hid (Blk w3 w.heap.size #[.int .i64 0, .int .i64 0] 50) := Blk.below HC2.out hb3 (by omega)
  have HO3 : Hid (ObjsP Z w3 (Or' S (w.heap.size + 1) w3.heap.size) (.slice a3 (L.length + 2) c3) (L ++ [obE (-1), obE L.length])) := ho3.more fun b hb => Or'.grow (by omega) hz3 hb
  obtain ⟨b6, of6, c6, s6, e6, hb6, hc6, hm6, hl6, hz6, t0, t1, t2, t3, t4, t5, t6, t7, t8⟩ := HO3.out.open (k := L.length) (x := obE (-1)) (by rw [List.getElem?_append_right (Nat.le_refl _), Nat.sub_self]; rfl)
  simp only [List.length_append, List.length_cons, List.length_nil] at e6 hc6
  obtain ⟨rfl, -, rfl⟩ := Value.slice.inj e6
  have HL6 : Hid (Lists w3 (Or' S (w.heap.size + 1) w3.heap.size) (s6, obE (L.length + 1 : Int))) := hl6
  unfold maxLen at hm6
  dsimp only [obE] at t0 t1 t2 t3 t4 t5 t6 t7 t8
  clear hR2 ho3 hb3 hl6 e6 HO2 HC2 HB2
  go_wp2_with fail
  have hon4 := On.alloc w3 (.cells #[.int .i64 4, .slice s6.d.a s6.d.n s6.d.c, .slice s6.e.a s6.e.n s6.e.c, .string ⟨#[]⟩, .int .i64 ((L.length : Int) + 1), .slice s6.q.a s6.q.n s6.q.c, .int .i64 (-1), .int .i64 0, .int .i64 0] 40)
  have hz4 : (w3.alloc (.cells #[.int .i64 4, .slice s6.d.a s6.d.n s6.d.c, .slice s6.e.a s6.e.n s6.e.c, .string ⟨#[]⟩, .int .i64 ((L.length : Int) + 1), .slice s6.q.a s6.q.n s6.q.c, .int .i64 (-1), .int .i64 0, .int .i64 0] 40)).heap.size = w3.heap.size + 1 := by simp
  have hB4 : Below w.heap.size w (w3.alloc (.cells #[.int .i64 4, .slice s6.d.a s6.d.n s6.d.c, .slice s6.e.a s6.e.n s6.e.c, .string ⟨#[]⟩, .int .i64 ((L.length : Int) + 1), .slice s6.q.a s6.q.n s6.q.c, .int .i64 (-1), .int .i64 0, .int .i64 0] 40)) := HB3.out.alloc HB3.out.size _
  have hlt3 : ∀ b, Or' S (w.heap.size + 1) w3.heap.size b → b < w3.heap.size := fun b hb => Or'.lt HS.out (by omega) hb
  have hR4 := rwith_P Z (L ++ [obE (-1), obE L.length]) L.length s6 (obE (L.length + 1 : Int)) (.slice (some ⟨b6, of6, none⟩) (L.length + 2) c3) (Or' S (w.heap.size + 1) w3.heap.size) _ (HO3.out.on (hon4.less hlt3)) (fun b hb => by have := hlt3 b hb; omega) (by have := HN.out; simp; omega) (by simp) (HL6.out.on (hon4.less hlt3)) (hZ2 s6 _ _ hz6)
  have e4 : Sp.rwith (L ++ [obE (-1), obE L.length]) L.length (obE (L.length + 1 : Int)) = L ++ [obE (L.length + 1 : Int), obE L.length] := by
    unfold Sp.rwith
    rw [if_neg (by simp), List.set_append_right _ _ (Nat.le_refl _), Nat.sub_self]
    rfl
  rw [e4, objV_eq] at hR4
  simp only [List.length_append, List.length_cons, List.length_nil] at hR4
  refine Calls.mono hR4 ?_
  rintro e w5 ⟨a5, c5, rfl, ho5, hb5⟩
  have hz5 := hb5.size
  have HB5 : Hid (Below w.heap.size w w5) := hB4.trans (hb5.mono hB4.size)
  have hC5 : Blk w5 w.heap.size #[.int .i64 0, .int .i64 0] 50 := (Blk.alloc HC3.out _).below hb5 (by omega)
  have HO5 : Hid (ObjsP Z w5 (Or' S (w.heap.size + 1) w5.heap.size) (.slice a5 (L.length + 2) c5) (L ++ [obE (L.length + 1 : Int), obE L.length])) := ho5.more fun b hb => by
    rcases hb with (h | h) | h
    · exact Or.inl h
    · exact Or.inr ⟨h.1, by omega⟩
    · exact Or.inr ⟨by omega, h.2⟩
  have HC5 : Hid _ := hC5
  have cc := hC5.cell
  have cf := hC5.free
  have hz05 : w.heap.size < w5.heap.size := by omega
  clear hR4 ho5 hb5 hon4 hz4 hB4 hlt3 e4 hC5 HO3 HL6 HC3 HB3 t0 t1 t2 t3 t4 t5 t6 t7 t8
  go_wp2
  have hf1 : Blk (w5.setCell ⟨w.heap.size, 0, none⟩ (.int .i64 L.length)) w.heap.size #[.int .i64 L.length, .int .i64 0] 50 := Blk.set HC5.out 0 _
  have hf2 : Blk ((w5.setCell ⟨w.heap.size, 0, none⟩ (.int .i64 L.length)).setCell ⟨w.heap.size, 1, none⟩ (.int .i64 ((L.length : Int) + 1))) w.heap.size #[.int .i64 L.length, .int .i64 ((L.length : Int) + 1)] 50 := hf1.set 1 _
  have hcF := hf2.cell
  have honF := (On.set w5 ⟨w.heap.size, 0, none⟩ (.int .i64 (L.length : Int))).trans (On.set _ ⟨w.heap.size, 1, none⟩ (.int .i64 ((L.length : Int) + 1)))
  have hBF := (HB5.out.setCell (p := ⟨w.heap.size, 0, none⟩) (Nat.le_refl _) (.int .i64 (L.length : Int))).setCell (p := ⟨w.heap.size, 1, none⟩) (Nat.le_refl _) (.int .i64 ((L.length : Int) + 1))
  have hzF : ((w5.setCell ⟨w.heap.size, 0, none⟩ (.int .i64 L.length)).setCell ⟨w.heap.size, 1, none⟩ (.int .i64 ((L.length : Int) + 1))).heap.size = w5.heap.size := by simp
  generalize (w5.setCell ⟨w.heap.size, 0, none⟩ (.int .i64 L.length)).setCell ⟨w.heap.size, 1, none⟩ (.int .i64 ((L.length : Int) + 1)) = WF at *
  refine bodyPost_ret (v := .tuple #[.slice a5 (L.length + 2) c5, .agg #[.int .i64 L.length, .int .i64 ((L.length : Int) + 1)], .int .i64 0]) (by simp [results, Try.results20, go_sem, hcF]) rfl ⟨a5, c5, rfl, ?_, hBF⟩
  exact (HO5.out.on (honF.less fun b hb => by
    show b ≠ w.heap.size
    rcases hb with h | h
    · have := HS.out b h; omega
    · omega)).more fun b hb => by
      rcases hb with h | h
      · exact Or.inl h
      · exact Or.inr ⟨by omega, by omega⟩
end Go.Proofs.Ythoacakdmnijcaa
