/-
  table.All, With, walked.
-/
import Derived.Test.YtaobjpajbpoamaaTMine
namespace Go.Proofs.Ytaobjpajbpoamaa
open Go.RowKit
theorem i_one {w : World} {g : Nat} {x : Int} (h : Blk w g #[.int .i64 x] 3) : Row w (fun b => b = g) 1 (.slice (some ⟨g, 0, none⟩) 1 1) ([x].map tI) := by
  refine Or.inr ⟨g, 0, 1, rfl, rfl, Nat.le_refl _, by decide, fun i cs' hi j u hj => ?_⟩
  match i, hi with
  | 0, hi =>
    simp at hi
    subst hi
    rw [h.cell]
    simp only [Nat.zero_mul, Nat.zero_add]
    simpa [tI] using hj
  | i + 1, hi => simp at hi
set_option maxRecDepth 100000 in
set_option maxHeartbeats 4000000 in
theorem tall_any (l : List Tb.Slt) (v : Value) (S : Nat → Prop) (w : World) (hv : Tab w S v l) (hS : ∀ b, S b → b < w.heap.size) (hU : l.length * 24 ≤ 140737488355328) :
    Calls Try.prog 36 #[v] w fun e w' => ∃ v', e = .returned v' ∧ Row w' (fun b => w.heap.size ≤ b ∧ b < w'.heap.size) 1 v' ((Tb.allF l 0).map tI) ∧ Below w.heap.size w w' := by
  obtain ⟨a, c, rfl, hm⟩ := hv.form
  have HT : Hid (Tab w S (.slice a l.length c) l) := hv
  have HS : Hid (∀ b, S b → b < w.heap.size) := hS
  have HU : Hid (l.length * 24 ≤ 140737488355328) := hU
  have HA : Hid ((Tb.allF l 0).length ≤ l.length) := Tb.allF_length l 0
  unfold maxLen at hm
  clear hv hS hU
  go_enter Try.func36, Try.ntmps36
  go_wp2
  go_loopw [3, 8] (fun r i wr => ∃ (k : Nat) (pre : List Int), k ≤ l.length ∧ i = .int .i64 k ∧ Tb.allF l 0 = pre ++ Tb.allF (l.drop k) k ∧ Mine wr w.heap.size 3 1 r (pre.map tI) ∧ Below w.heap.size w wr) (fun _ i _ => l.length - (intOf i).toNat)
  case atStart => exact ⟨0, [], Nat.zero_le _, rfl, by simp, Mine.nil _ _ _ _, Below.refl _ _⟩
  case round =>
    obtain ⟨k, pre, hk, rfl, hF, hM, hB⟩ := hrel
    have HF : Hid (Tb.allF l 0 = pre ++ Tb.allF (l.drop k) k) := hF
    have HM : Hid (Mine wr w.heap.size 3 1 u3 (pre.map tI)) := hM
    have HB : Hid (Below w.heap.size w wr) := hB
    clear hF hM
    by_cases hlt : k < l.length
    · have hx : l[k]? = some l[k] := List.getElem?_eq_getElem hlt
      obtain ⟨b, o, c', he, hb, hc, hm', c0, c1, c2⟩ := (HT.out.below hB HS.out).open hx
      obtain ⟨rfl, -, rfl⟩ := Value.slice.inj he
      have HD : Hid (Tb.allF (l.drop k) k = _) := Tb.allF_drop l k _ hx
      have hbl : b < wr.heap.size := by have := HS.out b hb; have := hB.size; omega
      clear hx he hm' hb hB
      generalize l[k] = x at *
      have HB2 : Hid (Below w.heap.size w (wr.alloc (.cells #[.bool x.has, .int .i64 x.op, .int .i64 x.rt] 60))) := HB.out.alloc HB.out.size _
      have HM2 : Hid (Mine (wr.alloc (.cells #[.bool x.has, .int .i64 x.op, .int .i64 x.rt] 60)) w.heap.size 3 1 u3 (pre.map tI)) := HM.out.on (On.alloc _ _) fun g hg => (HM.out.lt g hg).2
      have HE := HF.out.trans (by rw [HD.out])
      cases hh : x.has with
      | false =>
        rw [hh] at c0 HE HB2 HM2
        have HN : Hid (Tb.allF l 0 = pre ++ Tb.allF (l.drop (k + 1)) (k + 1)) := HE
        clear HE hh HD HF HM HB
        go_wp2
        exact ⟨⟨k + 1, pre, by omega, by go_num, HN.out, HM2.out, HB2.out⟩, by simp [intOf]; omega⟩
      | true =>
        rw [hh] at c0 HE HB2 HM2
        have HN : Hid (Tb.allF l 0 = (pre ++ [(k : Int)]) ++ Tb.allF (l.drop (k + 1)) (k + 1)) := by
          unfold Hid
          rw [List.append_assoc]
          exact HE
        clear HE hh HD HF HM HB
        go_wp2_with (with_reducible refine stop_t (.call { callee := .builtin .append, args := #[.tmp 15, .tmp 17], argTypes := #[69, 69] }) rfl ?_)
        unfold HoldT
        clear c0 c1 c2
        have hz3 : (wr.alloc (.cells #[.bool true, .int .i64 x.op, .int .i64 x.rt] 60)).heap.size = wr.heap.size + 1 := by simp
        generalize wr.alloc (.cells #[.bool true, .int .i64 x.op, .int .i64 x.rt] 60) = W3 at *
        have HR3 : Hid (Row (W3.alloc (.cells #[.int .i64 k] 3)) (fun b => b = wr.heap.size + 1) 1 (.slice (some ⟨wr.heap.size + 1, 0, none⟩) 1 1) ([(k : Int)].map tI)) := by
          have := i_one (x := (k : Int)) (Blk.new W3 _ _)
          rw [hz3] at this
          exact this
        have HM4 : Hid (Mine (W3.alloc (.cells #[.int .i64 k] 3)) w.heap.size 3 1 u3 (pre.map tI)) := HM2.out.on (On.alloc _ _) fun g hg => (HM2.out.lt g hg).2
        have HB4 : Hid (Below w.heap.size w (W3.alloc (.cells #[.int .i64 k] 3))) := HB2.out.alloc HB2.out.size _
        clear HM2 HB2 hz3
        generalize W3.alloc (.cells #[.int .i64 k] 3) = W4 at *
        obtain ⟨i0, hi, hz0, hz1, hz2⟩ := info_parts Tb.infoInt
        refine wpList_append_row rfl _ _ _ rfl w.heap.size 3 i0 (.int .i64 0) 1 8 Try.underlying69 hi hz0 hz1 hz2 rfl (by decide) _ (pre.map tI) rfl HM4.out _ _ _ rfl HR3.out (even_i _) (ones_i _) ?_ (by decide) HB4.out.size ?_
        · have h1 := HA.out
          rw [HN.out, List.length_append, List.length_append, List.length_cons, List.length_nil] at h1
          have h2 := HU.out
          rw [List.length_map, List.length_map, List.length_cons, List.length_nil]
          omega
        intro v5 W5 ho5 hg5
        clear hi hz0 hz1 hz2
        rw [← List.map_append] at ho5
        have HB5 : Hid (Below w.heap.size w W5) := HB4.out.grown hg5 HB4.out.size (fun j hj => (HM4.out.lt j hj).1)
        have HM5 : Hid (Mine W5 w.heap.size 3 1 v5 ((pre ++ [(k : Int)]).map tI)) := ho5
        clear ho5 hg5 HM4 HR3
        go_wp2
        exact ⟨⟨k + 1, pre ++ [(k : Int)], by omega, by go_num, HN.out, HM5.out, HB5.out⟩, by simp [intOf]; omega⟩
    · obtain rfl : k = l.length := by omega
      have HN : Hid (Tb.allF l 0 = pre) := by
        unfold Hid
        rw [HF.out, Tb.allF_end, List.append_nil]
      have HM5 : Hid (Row wr (fun b => w.heap.size ≤ b ∧ b < wr.heap.size) 1 u3 ((Tb.allF l 0).map tI)) := by
        unfold Hid
        rw [HN.out]
        exact HM.out.row (even_i _)
      clear HF HM HN hB
      go_wp2
      go_ret
      exact ⟨_, rfl, HM5.out, HB.out⟩
/-- With, at a slot whose rights are a set. -/
def withE (x : Tb.Slt) (need : Int) : Int := if Tb.withinZ need x.rt = true then 0 else 10
def withV (x : Tb.Slt) (need : Int) : Value := if Tb.withinZ need x.rt = true then capV x else .agg #[.int .i64 0, .int .i64 0]
set_option maxHeartbeats 2000000 in
theorem twith_ok (l : List Tb.Slt) (k : Nat) (x : Tb.Slt) (need : Int) (v : Value) (S : Nat → Prop) (w : World) (hv : Tab w S v l) (hS : ∀ b, S b → b < w.heap.size) (hx : l[k]? = some x) (hh : x.has = true) (h0 : 0 ≤ x.rt) (h1 : x.rt ≤ 4095) (h2 : 0 ≤ need) (h3 : need ≤ 4095) :
    Calls Try.prog 40 #[v, .int .i64 k, .int .i64 need] w fun e w' => e = .returned (.tuple #[withV x need, .int .i64 (withE x need)]) ∧ Below w.heap.size w w' := by
  have HG : Hid (∀ W, Below w.heap.size w W → Calls Try.prog 27 #[v, .int .i64 k] W fun e w' => e = .returned (.tuple #[.agg #[.int .i64 x.op, .int .i64 x.rt], .int .i64 0]) ∧ Below W.heap.size W w') := fun W hW => by have := tget_any l k v S W (hv.below hW hS) (fun b hb => by have := hS b hb; have := hW.size; omega); rw [Tb.get_ok hx hh] at this; exact this
  obtain ⟨m, rfl⟩ := Int.eq_ofNat_of_zero_le h2
  obtain ⟨r, hr'⟩ := Int.eq_ofNat_of_zero_le h0
  have HW : Hid (∀ W, Calls Try.prog 68 #[.int .i64 (m : Int), .int .i64 x.rt] W fun e w' => e = .returned (.bool (Tb.withinZ (m : Int) x.rt)) ∧ w' = W) := fun W => by
    have := rightsWithin m r (by omega) (by omega) W
    unfold Tb.withinZ
    rw [hr']
    exact this
  clear hv hS hx hh h0 h1 h2 h3 hr'
  cases hw : Tb.withinZ (m : Int) x.rt with
  | false =>
    have e1 : withE x (m : Int) = 10 := by unfold withE; rw [if_neg (by rw [hw]; decide)]
    have e2 : withV x (m : Int) = .agg #[.int .i64 0, .int .i64 0] := by unfold withV; rw [if_neg (by rw [hw]; decide)]
    rw [e1, e2]
    rw [hw] at HW
    clear e1 e2 hw
    go_enter Try.func40, Try.ntmps40
    go_wp2_with fail
    refine (HG.out _ ((Below.refl _ _).alloc (Nat.le_refl _) _)).mono ?_
    rintro e w1 ⟨rfl, hb1⟩
    have HB1 : Hid (Below w.heap.size w w1) := ((Below.refl _ _).alloc (Nat.le_refl _) _).trans (hb1.mono (by simp))
    have hK : Blk w1 w.heap.size #[.int .i64 0, .int .i64 0] 58 := (Blk.new w _ _).below hb1 (by simp)
    have hKl := hK.lt
    have c0 := hK.cell 0
    have c1 := hK.cell 1
    have f0 := hK.free 0
    have f1 := hK.free 1
    clear hb1 hK
    go_wp2_with fail
    refine (HW.out _).mono ?_
    rintro e w2 ⟨rfl, rfl⟩
    go_wp2
    refine bodyPost_ret (v := .tuple #[.agg #[.int .i64 0, .int .i64 0], .int .i64 10]) (by simp [results, Try.results40, go_sem, *]) rfl ⟨rfl, ?_⟩
    refine Below.alloc (Below.setCell (Below.setCell HB1.out ?_ _) ?_ _) ?_ _
    · exact Nat.le_refl _
    · exact Nat.le_refl _
    · simp only [World.size_setCell]; exact HB1.out.size
  | true =>
    have e1 : withE x (m : Int) = 0 := by unfold withE; rw [if_pos hw]
    have e2 : withV x (m : Int) = .agg #[.int .i64 x.op, .int .i64 x.rt] := by unfold withV; rw [if_pos hw]; rfl
    rw [e1, e2]
    rw [hw] at HW
    clear e1 e2 hw
    go_enter Try.func40, Try.ntmps40
    go_wp2_with fail
    refine (HG.out _ ((Below.refl _ _).alloc (Nat.le_refl _) _)).mono ?_
    rintro e w1 ⟨rfl, hb1⟩
    have HB1 : Hid (Below w.heap.size w w1) := ((Below.refl _ _).alloc (Nat.le_refl _) _).trans (hb1.mono (by simp))
    have hK : Blk w1 w.heap.size #[.int .i64 0, .int .i64 0] 58 := (Blk.new w _ _).below hb1 (by simp)
    have hKl := hK.lt
    have c0 := hK.cell 0
    have c1 := hK.cell 1
    have f0 := hK.free 0
    have f1 := hK.free 1
    clear hb1 hK
    go_wp2_with fail
    refine (HW.out _).mono ?_
    rintro e w2 ⟨rfl, rfl⟩
    go_wp2
    refine bodyPost_ret (v := .tuple #[.agg #[.int .i64 x.op, .int .i64 x.rt], .int .i64 0]) (by simp [results, Try.results40, go_sem, *]) rfl ⟨rfl, ?_⟩
    refine Below.alloc (Below.setCell (Below.setCell HB1.out ?_ _) ?_ _) ?_ _
    · exact Nat.le_refl _
    · exact Nat.le_refl _
    · simp only [World.size_setCell]; exact HB1.out.size
end Go.Proofs.Ytaobjpajbpoamaa
