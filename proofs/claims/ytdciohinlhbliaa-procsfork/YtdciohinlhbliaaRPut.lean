
/-
  Open files, slots and processes, as they lie in memory; rgref5.Put, walked (no free slot).
-/
import Derived.Test.YtdciohinlhbliaaBDefs
namespace Go.Proofs.Ytdciohinlhbliaa
open Go.RowKit
theorem Try.infoOpen : (Try.prog.info? 54).map (fun i => (i.zero, i.size, i.bytes)) = some (some (.agg #[.int .i64 0, .int .i64 0]), 2, 16) := by kernel_rfl
theorem Try.infoSlot : (Try.prog.info? 87).map (fun i => (i.zero, i.size, i.bytes)) = some (some (.agg #[.bool false, .int .i64 0, .int .i64 0]), 3, 24) := by kernel_rfl
theorem Try.infoProc : (Try.prog.info? 43).map (fun i => (i.zero, i.size, i.bytes)) = some (some (.agg #[.bool false, .bool false, .int .i64 0, .slice none 0 0]), 4, 40) := by kernel_rfl
theorem Try.infoInt : (Try.prog.info? 3).map (fun i => (i.zero, i.size, i.bytes)) = some (some (.int .i64 0), 1, 8) := by kernel_rfl
def intC (x : Int) : List Value := [.int .i64 x]
def opnC (x : Sp.Opn) : List Value := [.int .i64 x.obj, .int .i64 x.pos]
def sltC (x : Sp.Slt) : List Value := [.bool x.has, .int .i64 x.op, .int .i64 x.rt]
def prcC (t : Sl × Sp.Prc) : List Value := [.bool t.2.live, .bool t.2.fenced, .int .i64 t.2.code, .slice t.1.a t.1.n t.1.c]
theorem even_int (l : List Int) : Even 1 (l.map intC) := by
  intro cs h
  obtain ⟨x, _, rfl⟩ := List.mem_map.1 h
  rfl
theorem even_opn (l : List Sp.Opn) : Even 2 (l.map opnC) := by
  intro cs h
  obtain ⟨x, _, rfl⟩ := List.mem_map.1 h
  rfl
theorem even_slt (l : List Sp.Slt) : Even 3 (l.map sltC) := by
  intro cs h
  obtain ⟨x, _, rfl⟩ := List.mem_map.1 h
  rfl
theorem even_prc (l : List (Sl × Sp.Prc)) : Even 4 (l.map prcC) := by
  intro cs h
  obtain ⟨x, _, rfl⟩ := List.mem_map.1 h
  rfl
theorem ones_int (l : List Int) : Ones (l.map intC) := by
  intro cs h u hu
  obtain ⟨x, _, rfl⟩ := List.mem_map.1 h
  simp [intC] at hu
  subst hu; rfl
theorem ones_opn (l : List Sp.Opn) : Ones (l.map opnC) := by
  intro cs h u hu
  obtain ⟨x, _, rfl⟩ := List.mem_map.1 h
  simp [opnC] at hu
  rcases hu with rfl | rfl <;> rfl
theorem ones_slt (l : List Sp.Slt) : Ones (l.map sltC) := by
  intro cs h u hu
  obtain ⟨x, _, rfl⟩ := List.mem_map.1 h
  simp [sltC] at hu
  rcases hu with rfl | rfl | rfl <;> rfl
theorem ones_prc (l : List (Sl × Sp.Prc)) : Ones (l.map prcC) := by
  intro cs h u hu
  obtain ⟨x, _, rfl⟩ := List.mem_map.1 h
  simp [prcC] at hu
  rcases hu with rfl | rfl | rfl | rfl <;> rfl
/-- One thing, in a block of its own. -/
theorem one_row {w : World} {g : Nat} {t : TypeId} {cs : List Value} (h : Blk w g cs.toArray t) : Row w (fun b => b = g) cs.length (.slice (some ⟨g, 0, none⟩) 1 1) [cs] := by
  refine Or.inr ⟨g, 0, 1, rfl, rfl, Nat.le_refl _, by decide, fun i cs' hi j u hj => ?_⟩
  match i, hi with
  | 0, hi =>
    simp at hi
    subst hi
    rw [h.cell]
    simp only [Nat.zero_mul, Nat.zero_add]
    simpa using hj
  | i + 1, hi => simp at hi
set_option maxRecDepth 100000 in
set_option maxHeartbeats 4000000 in
theorem put_app (ss : List Sp.Slt) (op rt : Int) (v : Value) (S : Nat → Prop) (w : World) (hv : Row w S 3 v (ss.map sltC)) (hS : ∀ b, S b → b < w.heap.size) (hn : ss.length < 10) (hh : ∀ s ∈ ss, s.has = true) (h0 : 0 ≤ op) (h1 : 0 ≤ rt) (h2 : rt ≤ 4095) :
    Calls Try.prog 33 #[v, .agg #[.int .i64 op, .int .i64 rt]] w fun e w' => ∃ a c, e = .returned (.tuple #[.slice a (ss.length + 1) c, .int .i64 ss.length, .int .i64 0]) ∧ Row w' (fun b => w.heap.size ≤ b ∧ b < w'.heap.size) 3 (.slice a (ss.length + 1) c) ((ss ++ [(⟨true, op, rt⟩ : Sp.Slt)]).map sltC) ∧ Below w.heap.size w w' := by
  obtain ⟨va, vc, rfl, -⟩ := hv.form
  rw [List.length_map] at hv ⊢
  have HR : Hid (Row w S 3 (.slice va ss.length vc) (ss.map sltC)) := hv
  have HS : Hid (∀ b, S b → b < w.heap.size) := hS
  have HH : Hid (∀ s ∈ ss, s.has = true) := hh
  have hnz : (ss.length : Int) < 10 := by omega
  have g1 : ¬ rt < 0 := by omega
  have g2 : ¬ 4095 < rt := by omega
  have g3 : ¬ op < 0 := by omega
  clear hv hS hh h0 h1 h2
  go_enter Try.func33, Try.ntmps33
  go_wp2_with (with_reducible refine stop_at (.call { callee := .builtin .append, args := #[.tmp 22, .tmp 23], argTypes := #[41, 41] }) rfl ?_)
  unfold Hold
  have HM1 : Hid (Mine ((w.alloc (.cells #[.int .i64 op, .int .i64 rt] 50)).alloc (.cells #[] 87)) (w.heap.size + 1) 87 3 (.slice (some ⟨w.heap.size + 1, 0, none⟩) 0 0) []) := by
    have := Mine.empty (w.alloc (.cells #[.int .i64 op, .int .i64 rt] 50)) 87 3
    have e : (w.alloc (.cells #[.int .i64 op, .int .i64 rt] 50)).heap.size = w.heap.size + 1 := by simp
    rw [e] at this
    exact this
  have HBX1 : Hid (Blk ((w.alloc (.cells #[.int .i64 op, .int .i64 rt] 50)).alloc (.cells #[] 87)) w.heap.size #[.int .i64 op, .int .i64 rt] 50) := (Blk.new w _ _).alloc _
  have HB1 : Hid (Below w.heap.size w ((w.alloc (.cells #[.int .i64 op, .int .i64 rt] 50)).alloc (.cells #[] 87))) := ((Below.refl _ _).alloc (Nat.le_refl _) _).alloc (by simp) _
  have hz1 : ((w.alloc (.cells #[.int .i64 op, .int .i64 rt] 50)).alloc (.cells #[] 87)).heap.size = w.heap.size + 2 := by simp
  have HZ1 : Hid _ := hz1
  clear hz1
  generalize (w.alloc (.cells #[.int .i64 op, .int .i64 rt] 50)).alloc (.cells #[] 87) = w1 at *
  obtain ⟨i0, hi, hz0, hz1, hz2⟩ := info_parts Try.infoSlot
  refine wpList_append_row rfl _ _ _ rfl (w.heap.size + 1) 87 i0 (.agg #[.bool false, .int .i64 0, .int .i64 0]) 3 24 Try.underlying41 hi hz0 hz1 hz2 rfl (by decide) _ [] rfl HM1.out (.slice va ss.length vc) S (ss.map sltC) rfl (Row.on HR.out ((On.of HB1.out).less HS.out)) (even_slt ss) (ones_slt ss) ?_ (by decide) ?_ ?_
  · rw [List.length_map, List.length_nil]; omega
  · have := HZ1.out; omega
  intro v2 w2 ho2 hg2
  rw [List.nil_append] at ho2
  clear hi hz0 hz1 hz2
  have hgl : ∀ j, (Value.slice (some ⟨w.heap.size + 1, 0, none⟩) 0 0).ownBlock = some j → j = w.heap.size + 1 := fun j hj => by simp [Value.ownBlock] at hj; exact hj.symm
  have HB2 : Hid (Below w.heap.size w w2) := HB1.out.grown hg2 (by have := HZ1.out; omega) (fun j hj => by rw [hgl j hj]; omega)
  have hz12 : w.heap.size + 2 ≤ w2.heap.size := by
    have := (Below.grown (Below.refl w.heap.size w1) hg2 (by have := HZ1.out; omega) (fun j hj => by rw [hgl j hj]; omega)).size
    have := HZ1.out
    omega
  have hBX2 : Blk w2 w.heap.size #[.int .i64 op, .int .i64 rt] 50 := (hg2.block w.heap.size (by have := HZ1.out; omega) (fun e => by have := hgl _ e.symm; omega)).trans HBX1.out
  obtain ⟨a2, c2, hv2, -, -⟩ := ho2.form
  rw [List.length_map] at hv2
  subst hv2
  have HM2 : Hid (Mine w2 (w.heap.size + 1) 87 3 (.slice a2 ss.length c2) (ss.map sltC)) := ho2
  have cb := hBX2.cell
  clear ho2 hg2 hgl HM1 HBX1 HB1 HZ1 hBX2
  go_wp2_with fail
  go_loop [27] (fun i => ∃ k : Nat, k ≤ ss.length ∧ i = .int .i64 k) (fun i => ss.length - (intOf i).toNat)
  case atStart => exact ⟨0, Nat.zero_le _, rfl⟩
  case round =>
    obtain ⟨k, hk, rfl⟩ := hrel
    by_cases hlt : k < ss.length
    · obtain ⟨b, o, c', he, hb, h3, h4, h5⟩ := (HM2.out.row (even_slt ss)).some (by rw [List.length_map]; omega)
      rw [List.length_map] at he h3
      obtain ⟨rfl, -, rfl⟩ := Value.slice.inj he
      have c0 := h5 k (sltC ss[k]) (by rw [List.getElem?_map, List.getElem?_eq_getElem hlt]; rfl) 0 _ rfl
      rw [Nat.add_zero] at c0
      rw [HH.out _ (List.getElem_mem hlt)] at c0
      unfold maxLen at h4
      clear he hb h5
      go_wp2
      exact ⟨⟨k + 1, by omega, by go_num⟩, by simp [intOf]; omega⟩
    · obtain rfl : k = ss.length := by omega
      have hnt : ¬ (10 : Int) ≤ (ss.length : Int) := by omega
      go_wp2_with (with_reducible refine stop_at (.call { callee := .builtin .append, args := #[.tmp 47, .tmp 50], argTypes := #[41, 41] }) rfl ?_)
      unfold Hold
      have HBN := Blk.new w2 #[.bool true, .int .i64 op, .int .i64 rt] 87
      have hon3 := On.alloc w2 (.cells #[.bool true, .int .i64 op, .int .i64 rt] 87)
      have HB3 : Hid (Below w.heap.size w (w2.alloc (.cells #[.bool true, .int .i64 op, .int .i64 rt] 87))) := HB2.out.alloc (by omega) _
      have hz3 : w2.heap.size < (w2.alloc (.cells #[.bool true, .int .i64 op, .int .i64 rt] 87)).heap.size := by simp
      generalize w2.alloc (.cells #[.bool true, .int .i64 op, .int .i64 rt] 87) = w3 at *
      have HM3 : Hid (Mine w3 (w.heap.size + 1) 87 3 (.slice a2 ss.length c2) (ss.map sltC)) := HM2.out.on hon3 fun g hg => (HM2.out.lt g hg).2
      have HR3 : Hid (Row w3 (fun b => b = w2.heap.size) 3 (.slice (some ⟨w2.heap.size, 0, none⟩) 1 1) [sltC ⟨true, op, rt⟩]) := one_row (cs := sltC ⟨true, op, rt⟩) HBN
      obtain ⟨i0, hi, hz0, hz1, hz2⟩ := info_parts Try.infoSlot
      clear HBN hon3
      refine wpList_append_row rfl _ _ _ rfl (w.heap.size + 1) 87 i0 (.agg #[.bool false, .int .i64 0, .int .i64 0]) 3 24 Try.underlying41 hi hz0 hz1 hz2 rfl (by decide) _ (ss.map sltC) rfl HM3.out _ _ [sltC ⟨true, op, rt⟩] rfl HR3.out (even_slt [⟨true, op, rt⟩]) (ones_slt [⟨true, op, rt⟩]) ?_ (by decide) ?_ ?_
      · rw [List.length_map]
        simp only [List.length_cons, List.length_nil]
        omega
      · omega
      intro v4 w4 ho4 hg4
      clear hi hz0 hz1 hz2
      have ho4' : Mine w4 (w.heap.size + 1) 87 3 v4 ((ss ++ [(⟨true, op, rt⟩ : Sp.Slt)]).map sltC) := by rw [List.map_append]; exact ho4
      have HB4 : Hid (Below w.heap.size w w4) := HB3.out.grown hg4 (by omega) (fun j hj => by have := (HM3.out.lt j hj).1; omega)
      obtain ⟨a4, c4, hv4, -, -⟩ := ho4'.form
      rw [List.length_map, List.length_append] at hv4
      subst hv4
      have HF : Hid (Row w4 (fun b => w.heap.size ≤ b ∧ b < w4.heap.size) 3 (.slice a4 (ss.length + 1) c4) (ss.map sltC ++ [sltC ⟨true, op, rt⟩])) := by
        have := (ho4'.row (even_slt _)).more (T := fun b => w.heap.size ≤ b ∧ b < w4.heap.size) fun b hb => ⟨by omega, hb.2⟩
        rw [List.map_append] at this
        exact this
      clear ho4 ho4' hg4 HM3 HR3
      go_wp2
      go_ret3
      exact ⟨a4, c4, rfl, by rw [List.map_append]; exact HF.out, HB4.out⟩
end Go.Proofs.Ytdciohinlhbliaa
