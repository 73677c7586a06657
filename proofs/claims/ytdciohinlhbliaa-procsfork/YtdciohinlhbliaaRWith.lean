
/-
  rgref5.With, walked.
-/
import Derived.Test.YtdciohinlhbliaaSWalkK
namespace Go.Proofs.Ytdciohinlhbliaa
open Go.RowKit
namespace Sp
def rwith (L : List Ob) (k : Nat) (o : Ob) : List Ob := if k = L.length then L ++ [o] else L.set k o
end Sp
theorem Mine.empty (w : World) (e : TypeId) (k : Nat) : Mine (w.alloc (.cells #[] e)) w.heap.size e k (.slice (some ⟨w.heap.size, 0, none⟩) 0 0) [] := by
  refine ⟨by simp, Or.inr ⟨w.heap.size, 0, #[], rfl, Nat.le_refl _, ?_, Nat.le_refl _, Nat.zero_le _, by simp, by simp⟩⟩
  exact Blk.new w #[] e
/-- What was there, or is new. -/
def Or' (S : Nat → Prop) (lo hi : Nat) (b : Nat) : Prop := S b ∨ (lo ≤ b ∧ b < hi)
theorem obj_row {w : World} {g : Nat} {s : Sls} {o : Sp.Ob} (h : Blk w g #[.int .i64 o.kind, .slice s.d.a s.d.n s.d.c, .slice s.e.a s.e.n s.e.c, .string o.target, .int .i64 o.peer, .slice s.q.a s.q.n s.q.c, .int .i64 o.proc, .int .i64 o.links, .int .i64 o.up] 40) : Row w (fun b => b = g) 9 (.slice (some ⟨g, 0, none⟩) 1 1) [objC (s, o)] := by
  refine Or.inr ⟨g, 0, 1, rfl, rfl, Nat.le_refl _, by decide, fun i cs hi j u hj => ?_⟩
  match i, hi with
  | 0, hi =>
    simp at hi
    subst hi
    rw [h.cell]
    simp only [Nat.zero_mul, Nat.zero_add]
    rw [← objV_eq]
    simpa using hj
  | i + 1, hi => simp at hi
set_option maxRecDepth 100000 in
set_option maxHeartbeats 4000000 in
theorem rwith_any (L : List Sp.Ob) (k : Nat) (s : Sls) (o : Sp.Ob) (v : Value) (S : Nat → Prop) (w : World) (hv : Objs w S v L) (hS : ∀ b, S b → b < w.heap.size) (hn : L.length ≤ 1000) (hk : k ≤ L.length) (ho : Lists w S (s, o)) :
    Calls Try.prog 31 #[v, .int .i64 k, .agg (objC (s, o)).toArray] w fun e w' => ∃ a c, e = .returned (.slice a (Sp.rwith L k o).length c) ∧ Objs w' (Or' S w.heap.size w'.heap.size) (.slice a (Sp.rwith L k o).length c) (Sp.rwith L k o) ∧ Below w.heap.size w w' := by
  obtain ⟨ts, rfl, hr, hl⟩ := hv
  obtain ⟨va, vc, rfl, -⟩ := hr.form
  rw [List.length_map] at hr hn hk ⊢
  have HR : Hid (Row w S 9 (.slice va ts.length vc) (ts.map objC)) := hr
  have HL : Hid (∀ t ∈ ts, Lists w S t) := hl
  have HO : Hid (Lists w S (s, o)) := ho
  have HS : Hid (∀ b, S b → b < w.heap.size) := hS
  have hnz : (ts.length : Int) ≤ 1000 := by omega
  have HP : Hid (∀ w' a c us, (if k = ts.length then ts ++ [(s, o)] else ts.set k (s, o)) = us → Row w' (Or' S w.heap.size w'.heap.size) 9 (.slice a us.length c) (us.map objC) → Below w.heap.size w w' → ∃ a' c', Value.slice a us.length c = .slice a' (Sp.rwith (ts.map Prod.snd) k o).length c' ∧ Objs w' (Or' S w.heap.size w'.heap.size) (.slice a' (Sp.rwith (ts.map Prod.snd) k o).length c') (Sp.rwith (ts.map Prod.snd) k o) ∧ Below w.heap.size w w') := by
    rintro w' a c us hus hrow hB
    have e : Sp.rwith (ts.map Prod.snd) k o = us.map Prod.snd := by
      unfold Sp.rwith
      rw [List.length_map, ← hus]
      split
      · rw [List.map_append]; rfl
      · rw [List.map_set]
    rw [e, List.length_map]
    refine ⟨a, c, rfl, ⟨us, rfl, hrow, fun t ht => ?_⟩, hB⟩
    have hon : On S w w' := (On.of hB).less hS
    have key : t ∈ ts ∨ t = (s, o) := by
      rw [← hus] at ht
      split at ht
      · rcases List.mem_append.1 ht with h | h
        · exact Or.inl h
        · exact Or.inr (by simpa using h)
      · exact List.mem_or_eq_of_mem_set ht
    rcases key with h | h
    · exact ((hl t h).on hon).more fun b hb => Or.inl hb
    · subst h
      exact (ho.on hon).more fun b hb => Or.inl hb
  generalize hRW : Sp.rwith (ts.map Prod.snd) k o = RW at HP ⊢
  clear hRW hr hl ho hS
  rw [objV_eq]
  go_enter Try.func31, Try.ntmps31
  go_wp2_with (with_reducible refine stop_at (.call { callee := .builtin .append, args := #[.tmp 8, .tmp 9], argTypes := #[23, 23] }) rfl ?_)
  unfold Hold
  have HM1 : Hid (Mine ((w.alloc (.cells #[.int .i64 o.kind, .slice s.d.a s.d.n s.d.c, .slice s.e.a s.e.n s.e.c, .string o.target, .int .i64 o.peer, .slice s.q.a s.q.n s.q.c, .int .i64 o.proc, .int .i64 o.links, .int .i64 o.up] 40)).alloc (.cells #[] 40)) (w.heap.size + 1) 40 9 (.slice (some ⟨w.heap.size + 1, 0, none⟩) 0 0) []) := by
    have := Mine.empty (w.alloc (.cells #[.int .i64 o.kind, .slice s.d.a s.d.n s.d.c, .slice s.e.a s.e.n s.e.c, .string o.target, .int .i64 o.peer, .slice s.q.a s.q.n s.q.c, .int .i64 o.proc, .int .i64 o.links, .int .i64 o.up] 40)) 40 9
    have e : (w.alloc (.cells #[.int .i64 o.kind, .slice s.d.a s.d.n s.d.c, .slice s.e.a s.e.n s.e.c, .string o.target, .int .i64 o.peer, .slice s.q.a s.q.n s.q.c, .int .i64 o.proc, .int .i64 o.links, .int .i64 o.up] 40)).heap.size = w.heap.size + 1 := by simp
    rw [e] at this
    exact this
  have HBX1 : Hid (Blk ((w.alloc (.cells #[.int .i64 o.kind, .slice s.d.a s.d.n s.d.c, .slice s.e.a s.e.n s.e.c, .string o.target, .int .i64 o.peer, .slice s.q.a s.q.n s.q.c, .int .i64 o.proc, .int .i64 o.links, .int .i64 o.up] 40)).alloc (.cells #[] 40)) w.heap.size #[.int .i64 o.kind, .slice s.d.a s.d.n s.d.c, .slice s.e.a s.e.n s.e.c, .string o.target, .int .i64 o.peer, .slice s.q.a s.q.n s.q.c, .int .i64 o.proc, .int .i64 o.links, .int .i64 o.up] 40) := (Blk.new w _ _).alloc _
  have HB1 : Hid (Below w.heap.size w ((w.alloc (.cells #[.int .i64 o.kind, .slice s.d.a s.d.n s.d.c, .slice s.e.a s.e.n s.e.c, .string o.target, .int .i64 o.peer, .slice s.q.a s.q.n s.q.c, .int .i64 o.proc, .int .i64 o.links, .int .i64 o.up] 40)).alloc (.cells #[] 40))) := ((Below.refl _ _).alloc (Nat.le_refl _) _).alloc (by simp) _
  have hz1 : ((w.alloc (.cells #[.int .i64 o.kind, .slice s.d.a s.d.n s.d.c, .slice s.e.a s.e.n s.e.c, .string o.target, .int .i64 o.peer, .slice s.q.a s.q.n s.q.c, .int .i64 o.proc, .int .i64 o.links, .int .i64 o.up] 40)).alloc (.cells #[] 40)).heap.size = w.heap.size + 2 := by simp
  have HZ1 : Hid _ := hz1
  clear hz1
  generalize (w.alloc (.cells #[.int .i64 o.kind, .slice s.d.a s.d.n s.d.c, .slice s.e.a s.e.n s.e.c, .string o.target, .int .i64 o.peer, .slice s.q.a s.q.n s.q.c, .int .i64 o.proc, .int .i64 o.links, .int .i64 o.up] 40)).alloc (.cells #[] 40) = w1 at *
  obtain ⟨i0, hi, hz0, hz1, hz2⟩ := info_parts Try.infoObj
  refine wpList_append_row rfl _ _ _ rfl (w.heap.size + 1) 40 i0 (.agg #[.int .i64 0, .slice none 0 0, .slice none 0 0, .string ⟨#[]⟩, .int .i64 0, .slice none 0 0, .int .i64 0, .int .i64 0, .int .i64 0]) 9 128 Try.underlying23 hi hz0 hz1 hz2 rfl (by decide) _ [] rfl HM1.out (.slice va ts.length vc) S (ts.map objC) rfl (Row.on HR.out ((On.of HB1.out).less HS.out)) (even_obj ts) (ones_obj ts) ?_ (by decide) ?_ ?_
  · rw [List.length_map, List.length_nil]; omega
  · have := HZ1.out; omega
  intro v2 w2 ho2 hg2
  rw [List.nil_append] at ho2
  clear hi hz0 hz1 hz2
  have hgl : ∀ j, (Value.slice (some ⟨w.heap.size + 1, 0, none⟩) 0 0).ownBlock = some j → j = w.heap.size + 1 := fun j hj => by simp [Value.ownBlock] at hj; exact hj.symm
  have HB2 : Hid (Below w.heap.size w w2) := HB1.out.grown hg2 (by have := HZ1.out; omega) (fun j hj => by rw [hgl j hj]; omega)
  have hz12 : w.heap.size + 2 ≤ w2.heap.size := by
    have := (Below.grown (Below.refl w.heap.size w1) hg2 (by have := HZ1.out; omega) (fun j hj => by rw [hgl j hj]; omega)).size
    have := HZ1.out
    omega
  have HBX2 : Hid (Blk w2 w.heap.size #[.int .i64 o.kind, .slice s.d.a s.d.n s.d.c, .slice s.e.a s.e.n s.e.c, .string o.target, .int .i64 o.peer, .slice s.q.a s.q.n s.q.c, .int .i64 o.proc, .int .i64 o.links, .int .i64 o.up] 40) := (hg2.block w.heap.size (by have := HZ1.out; omega) (fun e => by have := hgl _ e.symm; omega)).trans HBX1.out
  obtain ⟨a2, c2, hv2, -, hvg2⟩ := ho2.form
  rw [List.length_map] at hv2 hvg2
  subst hv2
  have HM2 : Hid (Mine w2 (w.heap.size + 1) 40 9 (.slice a2 ts.length c2) (ts.map objC)) := ho2
  have HG2 : Hid (1 ≤ ts.length → ∃ g, a2 = some ⟨g, 0, none⟩ ∧ w.heap.size + 1 ≤ g ∧ g < w2.heap.size) := hvg2
  have cb := Blk.cell HBX2.out
  clear ho2 hg2 hgl HM1 HBX1 HB1 HZ1 hvg2
  by_cases hkl : k = ts.length
  · subst hkl
    have hkz : ((ts.length : Int) == (ts.length : Int)) = true := by simp
    go_wp2_with (with_reducible refine stop_at (.call { callee := .builtin .append, args := #[.tmp 15, .tmp 17], argTypes := #[23, 23] }) rfl ?_)
    unfold Hold
    have HBN := Blk.new w2 #[.int .i64 o.kind, .slice s.d.a s.d.n s.d.c, .slice s.e.a s.e.n s.e.c, .string o.target, .int .i64 o.peer, .slice s.q.a s.q.n s.q.c, .int .i64 o.proc, .int .i64 o.links, .int .i64 o.up] 40
    have hon3 := On.alloc w2 (.cells #[.int .i64 o.kind, .slice s.d.a s.d.n s.d.c, .slice s.e.a s.e.n s.e.c, .string o.target, .int .i64 o.peer, .slice s.q.a s.q.n s.q.c, .int .i64 o.proc, .int .i64 o.links, .int .i64 o.up] 40)
    have HB3 : Hid (Below w.heap.size w (w2.alloc (.cells #[.int .i64 o.kind, .slice s.d.a s.d.n s.d.c, .slice s.e.a s.e.n s.e.c, .string o.target, .int .i64 o.peer, .slice s.q.a s.q.n s.q.c, .int .i64 o.proc, .int .i64 o.links, .int .i64 o.up] 40))) := HB2.out.alloc (by omega) _
    have hz3 : w2.heap.size < (w2.alloc (.cells #[.int .i64 o.kind, .slice s.d.a s.d.n s.d.c, .slice s.e.a s.e.n s.e.c, .string o.target, .int .i64 o.peer, .slice s.q.a s.q.n s.q.c, .int .i64 o.proc, .int .i64 o.links, .int .i64 o.up] 40)).heap.size := by simp
    generalize w2.alloc (.cells #[.int .i64 o.kind, .slice s.d.a s.d.n s.d.c, .slice s.e.a s.e.n s.e.c, .string o.target, .int .i64 o.peer, .slice s.q.a s.q.n s.q.c, .int .i64 o.proc, .int .i64 o.links, .int .i64 o.up] 40) = w3 at *
    have HM3 : Hid (Mine w3 (w.heap.size + 1) 40 9 (.slice a2 ts.length c2) (ts.map objC)) := HM2.out.on hon3 fun g hg => (HM2.out.lt g hg).2
    have HR3 : Hid (Row w3 (fun b => b = w2.heap.size) 9 (.slice (some ⟨w2.heap.size, 0, none⟩) 1 1) [objC (s, o)]) := obj_row HBN
    obtain ⟨i0, hi, hz0, hz1, hz2⟩ := info_parts Try.infoObj
    clear HBN hon3
    refine wpList_append_row rfl _ _ _ rfl (w.heap.size + 1) 40 i0 (.agg #[.int .i64 0, .slice none 0 0, .slice none 0 0, .string ⟨#[]⟩, .int .i64 0, .slice none 0 0, .int .i64 0, .int .i64 0, .int .i64 0]) 9 128 Try.underlying23 hi hz0 hz1 hz2 rfl (by decide) _ (ts.map objC) rfl HM3.out _ _ [objC (s, o)] rfl HR3.out (even_obj [(s, o)]) (ones_obj [(s, o)]) ?_ (by decide) ?_ ?_
    · rw [List.length_map]
      simp only [List.length_cons, List.length_nil]
      omega
    · omega
    intro v4 w4 ho4 hg4
    clear hi hz0 hz1 hz2
    have ho4' : Mine w4 (w.heap.size + 1) 40 9 v4 ((ts ++ [(s, o)]).map objC) := by rw [List.map_append]; exact ho4
    have HB4 : Hid (Below w.heap.size w w4) := HB3.out.grown hg4 (by omega) (fun j hj => by have := (HM3.out.lt j hj).1; omega)
    obtain ⟨a4, c4, hv4, -, -⟩ := ho4'.form
    rw [List.length_map] at hv4
    subst hv4
    have HF : Hid _ := HP.out w4 a4 c4 (ts ++ [(s, o)]) (by simp) ((ho4'.row (even_obj _)).more fun b hb => Or.inr ⟨by omega, hb.2⟩) HB4.out
    clear ho4 ho4' hg4 HM3 HR3
    go_wp2
    go_ret
    obtain ⟨a', c', e1, e2, e3⟩ := HF.out
    have e1' : Value.slice a4 (ts.length + 1) c4 = .slice a' RW.length c' := by rw [← e1]; simp
    exact ⟨a', c', by rw [← e1']; rfl, e2, e3⟩
  · obtain ⟨g2, rfl, hg1, hg2⟩ := HG2.out (by omega)
    have hkz : ((k : Int) == (ts.length : Int)) = false := by simp; omega
    have hklt : k < ts.length := by omega
    obtain ⟨cur, hblk, -, hcc, hcm, hcs, hcur⟩ := HM2.out.blk
    have hget : (ts.map objC)[k]? = some (objC ts[k]) := by rw [List.getElem?_map, List.getElem?_eq_getElem hklt]; rfl
    have hcell : ∀ j u, (objC ts[k])[j]? = some u → w2.cell? ⟨g2, k * 9 + j, none⟩ = some u := fun j u hj => by
      rw [hblk.cell]
      exact hcur _ u (flatten_at (even_obj ts) k _ hget j u hj)
    have y0 := hcell 0 _ rfl
    have y1 := hcell 1 _ rfl
    have y2 := hcell 2 _ rfl
    have y3 := hcell 3 _ rfl
    have y4 := hcell 4 _ rfl
    have y5 := hcell 5 _ rfl
    have y6 := hcell 6 _ rfl
    have y7 := hcell 7 _ rfl
    have y8 := hcell 8 _ rfl
    have yf := hblk.free
    rw [Nat.add_zero] at y0
    unfold maxLen at hcm
    clear hcell hblk hcur hcs hget
    go_wp2
    generalize hW : (((((((((w2.setCell ⟨g2, k * 9, none⟩ (.int .i64 o.kind)).setCell ⟨g2, k * 9 + 1, none⟩ (.slice s.d.a s.d.n s.d.c)).setCell ⟨g2, k * 9 + 2, none⟩ (.slice s.e.a s.e.n s.e.c)).setCell ⟨g2, k * 9 + 3, none⟩ (.string o.target)).setCell ⟨g2, k * 9 + 4, none⟩ (.int .i64 o.peer)).setCell ⟨g2, k * 9 + 5, none⟩ (.slice s.q.a s.q.n s.q.c)).setCell ⟨g2, k * 9 + 6, none⟩ (.int .i64 o.proc)).setCell ⟨g2, k * 9 + 7, none⟩ (.int .i64 o.links)).setCell ⟨g2, k * 9 + 8, none⟩ (.int .i64 o.up)) = W9
    obtain ⟨h9, -, -⟩ := HM2.out.nine (even_obj ts) k (by rw [List.length_map]; exact hklt) _ _ _ _ _ _ _ _ _ W9 hW.symm
    have hB9 : Below w.heap.size w W9 := by
      rw [← hW]
      have hgw : w.heap.size ≤ g2 := by omega
      exact ((((((((HB2.out.setCell hgw _).setCell hgw _).setCell hgw _).setCell hgw _).setCell hgw _).setCell hgw _).setCell hgw _).setCell hgw _).setCell hgw _
    have h9' : Mine W9 (w.heap.size + 1) 40 9 (.slice (some ⟨g2, 0, none⟩) (ts.set k (s, o)).length c2) ((ts.set k (s, o)).map objC) := by
      rw [List.length_set, List.map_set]
      exact h9
    obtain ⟨a', c', e1, e2, e3⟩ := HP.out W9 (some ⟨g2, 0, none⟩) c2 (ts.set k (s, o)) (if_neg hkl) ((h9'.row (even_obj _)).more fun b hb => Or.inr ⟨by omega, hb.2⟩) hB9
    rw [List.length_set] at e1
    go_ret
    exact ⟨a', c', by rw [← e1]; rfl, e2, e3⟩
end Go.Proofs.Ytdciohinlhbliaa
