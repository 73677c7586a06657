/-
  rgref5.Put, walked.
-/
import Derived.Test.YtaobjpajbpoamaaTPutA
namespace Go.Proofs.Ytaobjpajbpoamaa
open Go.RowKit
set_option maxRecDepth 100000 in
theorem rput_range (l : List Tb.Slt) (op rt : Int) (v : Value) (w : World) (h : Tb.right rt = false ∨ op < 0) :
    Calls Try.prog 30 #[v, .agg #[.int .i64 op, .int .i64 rt]] w fun e w' => ∃ v', e = .returned (.tuple #[v', .int .i64 (Tb.putR l op rt).2.1, .int .i64 (Tb.putR l op rt).2.2]) ∧ TabNew w w' v' (Tb.putR l op rt).1 := by
  rw [putR_range h]
  show Calls Try.prog 30 #[v, .agg #[.int .i64 op, .int .i64 rt]] w fun e w' => ∃ v', e = .returned (.tuple #[v', .int .i64 0, .int .i64 3]) ∧ TabNew w w' v' []
  by_cases h1 : rt < 0
  · clear h
    go_enter Try.func30, Try.ntmps30
    go_wp2
    go_ret3
    exact ⟨_, rfl, Row.nil _ _ _ _ _, (Below.refl _ _).alloc (Nat.le_refl _) _⟩
  by_cases h2 : 4095 < rt
  · clear h
    go_enter Try.func30, Try.ntmps30
    go_wp2
    go_ret3
    exact ⟨_, rfl, Row.nil _ _ _ _ _, (Below.refl _ _).alloc (Nat.le_refl _) _⟩
  have h3 : op < 0 := by
    rcases h with h | h
    · exfalso
      unfold Tb.right at h
      simp at h
      omega
    · exact h
  clear h
  go_enter Try.func30, Try.ntmps30
  go_wp2
  go_ret3
  exact ⟨_, rfl, Row.nil _ _ _ _ _, (Below.refl _ _).alloc (Nat.le_refl _) _⟩
set_option maxRecDepth 100000 in
set_option maxHeartbeats 4000000 in
theorem rput_ok (l : List Tb.Slt) (op rt : Int) (R : List Tb.Slt × Int × Int) (v : Value) (S : Nat → Prop) (w : World) (hv : Tab w S v l) (hS : ∀ b, S b → b < w.heap.size) (hU : l.length * 24 ≤ 140737488355328) (hr : Tb.right rt = true) (h0 : ¬ op < 0)
    (hat : ∀ k, Tb.freeFrom l 0 = some k → R = (l.set k ⟨true, op, rt⟩, (k : Int), 0)) (hfull : Tb.freeFrom l 0 = none → 10 ≤ l.length → R = ([], 0, 15)) (happ : Tb.freeFrom l 0 = none → ¬ 10 ≤ l.length → R = (l ++ [⟨true, op, rt⟩], (l.length : Int), 0)) :
    Calls Try.prog 30 #[v, .agg #[.int .i64 op, .int .i64 rt]] w fun e w' => ∃ v', e = .returned (.tuple #[v', .int .i64 R.2.1, .int .i64 R.2.2]) ∧ TabNew w w' v' R.1 := by
  have hr' := of_decide_eq_true hr
  have g1 : ¬ rt < 0 := by omega
  have g2 : ¬ 4095 < rt := by omega
  obtain ⟨a, c, rfl, hm⟩ := hv.form
  have HT : Hid (Tab w S (.slice a l.length c) l) := hv
  have HS : Hid (∀ b, S b → b < w.heap.size) := hS
  have HU : Hid (l.length * 24 ≤ 140737488355328) := hU
  have HAT : Hid (∀ k, Tb.freeFrom l 0 = some k → R = (l.set k ⟨true, op, rt⟩, (k : Int), 0)) := hat
  have HFU : Hid (Tb.freeFrom l 0 = none → 10 ≤ l.length → R = ([], 0, 15)) := hfull
  have HAP : Hid (Tb.freeFrom l 0 = none → ¬ 10 ≤ l.length → R = (l ++ [⟨true, op, rt⟩], (l.length : Int), 0)) := happ
  unfold maxLen at hm
  clear hv hS hU hr hr' hat hfull happ
  go_enter Try.func30, Try.ntmps30
  go_wp2_with (with_reducible refine stop_t (.call { callee := .builtin .append, args := #[.tmp 22, .tmp 23], argTypes := #[56, 56] }) rfl ?_)
  unfold HoldT
  have HM1 : Hid (Mine ((w.alloc (.cells #[.int .i64 op, .int .i64 rt] 58)).alloc (.cells #[] 60)) (w.heap.size + 1) 60 3 (.slice (some ⟨w.heap.size + 1, 0, none⟩) 0 0) []) := by
    have := Mine.empty0 (w.alloc (.cells #[.int .i64 op, .int .i64 rt] 58)) 60 3
    have e : (w.alloc (.cells #[.int .i64 op, .int .i64 rt] 58)).heap.size = w.heap.size + 1 := by simp
    rw [e] at this
    exact this
  have HBX1 : Hid (Blk ((w.alloc (.cells #[.int .i64 op, .int .i64 rt] 58)).alloc (.cells #[] 60)) w.heap.size #[.int .i64 op, .int .i64 rt] 58) := (Blk.new w _ _).alloc _
  have HB1 : Hid (Below w.heap.size w ((w.alloc (.cells #[.int .i64 op, .int .i64 rt] 58)).alloc (.cells #[] 60))) := ((Below.refl _ _).alloc (Nat.le_refl _) _).alloc (by simp) _
  have hz1 : ((w.alloc (.cells #[.int .i64 op, .int .i64 rt] 58)).alloc (.cells #[] 60)).heap.size = w.heap.size + 2 := by simp
  have HZ1 : Hid _ := hz1
  clear hz1
  generalize (w.alloc (.cells #[.int .i64 op, .int .i64 rt] 58)).alloc (.cells #[] 60) = w1 at *
  obtain ⟨i0, hi, hz0, hz1, hz2⟩ := info_parts Tb.infoSlot
  refine wpList_append_row rfl _ _ _ rfl (w.heap.size + 1) 60 i0 (.agg #[.bool false, .int .i64 0, .int .i64 0]) 3 24 Try.underlying56 hi hz0 hz1 hz2 rfl (by decide) _ [] rfl HM1.out (.slice a l.length c) S (l.map tC) rfl (Row.on HT.out ((On.of HB1.out).less HS.out)) (even_t l) (ones_t l) ?_ (by decide) ?_ ?_
  · rw [List.length_map, List.length_nil, Nat.zero_add]; exact HU.out
  · have := HZ1.out; omega
  intro v2 w2 ho2 hg2
  rw [List.nil_append] at ho2
  clear hi hz0 hz1 hz2
  have hgl : ∀ j, (Value.slice (some ⟨w.heap.size + 1, 0, none⟩) 0 0).ownBlock = some j → j = w.heap.size + 1 := fun j hj => (Option.some.inj hj).symm
  have HB2 : Hid (Below w.heap.size w w2) := HB1.out.grown hg2 (by have := HZ1.out; omega) (fun j hj => by rw [hgl j hj]; omega)
  have hz12 : w.heap.size + 2 ≤ w2.heap.size := by
    have := (Below.grown (Below.refl w.heap.size w1) hg2 (by have := HZ1.out; omega) (fun j hj => by rw [hgl j hj]; omega)).size
    have := HZ1.out
    omega
  have hBX2 : Blk w2 w.heap.size #[.int .i64 op, .int .i64 rt] 58 := (hg2.block w.heap.size (by have := HZ1.out; omega) (fun e => by have := hgl _ e.symm; omega)).trans HBX1.out
  obtain ⟨a2, c2, hv2, -, -⟩ := ho2.form
  rw [List.length_map] at hv2
  subst hv2
  have HM2 : Hid (Mine w2 (w.heap.size + 1) 60 3 (.slice a2 l.length c2) (l.map tC)) := ho2
  have cb0 : w2.cell? ⟨w.heap.size, 0, none⟩ = some (.int .i64 op) := hBX2.cell 0
  have cb1 : w2.cell? ⟨w.heap.size, 1, none⟩ = some (.int .i64 rt) := hBX2.cell 1
  clear ho2 hg2 hgl HM1 HBX1 HB1 HZ1 hBX2
  go_wp2_with fail
  go_loop [27] (fun i => ∃ k : Nat, k ≤ l.length ∧ i = .int .i64 k ∧ Tb.freeFrom l 0 = Tb.freeFrom (l.drop k) k) (fun i => l.length - (intOf i).toNat)
  case atStart => exact ⟨0, Nat.zero_le _, rfl, by simp⟩
  case round =>
    obtain ⟨k, hk, rfl, hF⟩ := hrel
    have HF : Hid (Tb.freeFrom l 0 = Tb.freeFrom (l.drop k) k) := hF
    clear hF
    by_cases hlt : k < l.length
    · have hx : l[k]? = some l[k] := List.getElem?_eq_getElem hlt
      obtain ⟨g, cc, he, hg0, hgl, hcc, hcm, hcell⟩ := t_own HM2.out hlt
      obtain ⟨rfl, -, rfl⟩ := Value.slice.inj he
      obtain ⟨b', o', c', he', -, -, -, d0, -, -⟩ := (t_row HM2.out).open hx
      have e2 := (Value.slice.inj he').1
      cases e2
      rw [Nat.zero_add] at d0
      have HD : Hid (Tb.freeFrom (l.drop k) k = _) := Tb.freeFrom_drop l k _ hx
      have HX : Hid (l[k]? = some l[k]) := hx
      unfold maxLen at hcm
      clear hx he he'
      generalize l[k] = x at *
      have HE := HF.out.trans HD.out
      cases hh : x.has with
      | true =>
        rw [hh] at d0 HE
        have HN : Hid (Tb.freeFrom l 0 = Tb.freeFrom (l.drop (k + 1)) (k + 1)) := HE
        clear HE hh HD HF hcell
        go_wp2
        exact ⟨⟨k + 1, by omega, by go_num, HN.out⟩, by simp [intOf]; omega⟩
      | false =>
        rw [hh] at d0 HE
        have hR := HAT.out k (HE.trans (if_neg (by decide)))
        have HR : Hid (R = (l.set k ⟨true, op, rt⟩, (k : Int), 0)) := hR
        have hgw : w.heap.size ≤ g := by omega
        have HM5 : Hid (∀ W, W = ((w2.setCell ⟨g, k * 3, none⟩ (.bool true)).setCell ⟨g, k * 3 + 1, none⟩ (.int .i64 op)).setCell ⟨g, k * 3 + 2, none⟩ (.int .i64 rt) → TabNew w W (.slice (some ⟨g, 0, none⟩) l.length c2) (l.set k ⟨true, op, rt⟩)) := fun W hW => by
          subst hW
          exact ⟨(t_row (t_set HM2.out k x ⟨true, op, rt⟩ HX.out)).more fun b hb => ⟨by omega, hb.2⟩, ((HB2.out.setCell hgw _).setCell hgw _).setCell hgw _⟩
        obtain ⟨-, b0⟩ := hcell (k * 3) (by omega)
        obtain ⟨⟨u1, a1⟩, b1⟩ := hcell (k * 3 + 1) (by omega)
        obtain ⟨⟨u2, a2⟩, b2⟩ := hcell (k * 3 + 2) (by omega)
        clear hcell HE hh HD HF HX hR HM2 HB2
        go_wp2
        go_ret3
        exact ⟨_, by rw [HR.out]; rfl, by rw [HR.out]; exact HM5.out _ rfl⟩
    · obtain rfl : k = l.length := by omega
      have HN : Hid (Tb.freeFrom l 0 = none) := HF.out.trans (Tb.freeFrom_end l)
      clear HF
      by_cases h10 : 10 ≤ l.length
      · have HR : Hid (R = ([], 0, 15)) := HFU.out HN.out h10
        have hzz : (10 : Int) ≤ (l.length : Int) := by omega
        go_wp2
        go_ret3
        exact ⟨_, by rw [HR.out]; rfl, by rw [HR.out]; exact ⟨Row.nil _ _ _ _ _, HB2.out⟩⟩
      · have HR : Hid (R = (l ++ [⟨true, op, rt⟩], (l.length : Int), 0)) := HAP.out HN.out h10
        have hnt : ¬ (10 : Int) ≤ (l.length : Int) := by omega
        go_wp2_with (with_reducible refine stop_t (.call { callee := .builtin .append, args := #[.tmp 47, .tmp 50], argTypes := #[56, 56] }) rfl ?_)
        unfold HoldT
        have HR3 : Hid (Row (w2.alloc (.cells #[.bool true, .int .i64 op, .int .i64 rt] 60)) (fun b => b = w2.heap.size) 3 (.slice (some ⟨w2.heap.size, 0, none⟩) 1 1) ([(⟨true, op, rt⟩ : Tb.Slt)].map tC)) := t_one (Blk.new w2 (tC ⟨true, op, rt⟩).toArray 60)
        have HM4 : Hid (Mine (w2.alloc (.cells #[.bool true, .int .i64 op, .int .i64 rt] 60)) (w.heap.size + 1) 60 3 (.slice a2 l.length c2) (l.map tC)) := HM2.out.on (On.alloc _ _) fun g hg => (HM2.out.lt g hg).2
        have HB4 : Hid (Below w.heap.size w (w2.alloc (.cells #[.bool true, .int .i64 op, .int .i64 rt] 60))) := HB2.out.alloc HB2.out.size _
        have hz4 : w.heap.size + 2 ≤ (w2.alloc (.cells #[.bool true, .int .i64 op, .int .i64 rt] 60)).heap.size := by simp; omega
        clear HM2 HB2
        generalize w2.alloc (.cells #[.bool true, .int .i64 op, .int .i64 rt] 60) = W4 at *
        obtain ⟨i0, hi, hz0, hz1, hz2⟩ := info_parts Tb.infoSlot
        refine wpList_append_row rfl _ _ _ rfl (w.heap.size + 1) 60 i0 (.agg #[.bool false, .int .i64 0, .int .i64 0]) 3 24 Try.underlying56 hi hz0 hz1 hz2 rfl (by decide) _ (l.map tC) rfl HM4.out _ _ _ rfl HR3.out (even_t _) (ones_t _) ?_ (by decide) ?_ ?_
        · rw [List.length_map, List.length_map, List.length_cons, List.length_nil]; omega
        · omega
        intro v5 W5 ho5 hg5
        clear hi hz0 hz1 hz2
        rw [← List.map_append] at ho5
        have HB5 : Hid (Below w.heap.size w W5) := HB4.out.grown hg5 HB4.out.size (fun j hj => by have := (HM4.out.lt j hj).1; omega)
        have HM5 : Hid (Tab W5 (fun b => w.heap.size ≤ b ∧ b < W5.heap.size) v5 (l ++ [⟨true, op, rt⟩])) := (t_row ho5).more fun b hb => ⟨by omega, hb.2⟩
        clear ho5 hg5 HM4 HR3 HB4
        go_wp2
        go_ret3
        exact ⟨_, by rw [HR.out]; rfl, by rw [HR.out]; exact ⟨HM5.out, HB5.out⟩⟩
theorem rput_any (l : List Tb.Slt) (op rt : Int) (v : Value) (S : Nat → Prop) (w : World) (hv : Tab w S v l) (hS : ∀ b, S b → b < w.heap.size) (hU : l.length * 24 ≤ 140737488355328) :
    Calls Try.prog 30 #[v, .agg #[.int .i64 op, .int .i64 rt]] w fun e w' => ∃ v', e = .returned (.tuple #[v', .int .i64 (Tb.putR l op rt).2.1, .int .i64 (Tb.putR l op rt).2.2]) ∧ TabNew w w' v' (Tb.putR l op rt).1 := by
  by_cases h : Tb.right rt = false ∨ op < 0
  · exact rput_range l op rt v w h
  · have hr : Tb.right rt = true := by
      cases hr : Tb.right rt with
      | true => rfl
      | false => exact absurd (Or.inl hr) h
    exact rput_ok l op rt _ v S w hv hS hU hr (fun h' => h (Or.inr h')) (fun k hf => putR_at h hf) (fun hf hl => putR_full h hf hl) (fun hf hl => putR_app h hf hl)
end Go.Proofs.Ytaobjpajbpoamaa
