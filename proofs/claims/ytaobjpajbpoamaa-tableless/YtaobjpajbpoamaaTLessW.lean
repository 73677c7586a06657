/-
  rglaw7.TableLess, walked.
-/
import Derived.Test.YtaobjpajbpoamaaTAlive
namespace Go.Proofs.Ytaobjpajbpoamaa
open Go.RowKit
theorem limE_ok {x : Tb.Slt} {n : Int} (h : limE x n = 0) : 0 ≤ n ∧ n ≤ 4095 ∧ Tb.withinZ n x.rt = true := by
  unfold limE at h
  by_cases h1 : Tb.right n = false
  · rw [if_pos h1] at h; exact absurd h (by decide)
  · rw [if_neg h1] at h
    by_cases h2 : Tb.withinZ n x.rt = false
    · rw [if_pos h2] at h; exact absurd h (by decide)
    · have hr : Tb.right n = true := by
        cases hr : Tb.right n with
        | true => rfl
        | false => exact absurd hr h1
      have hn := of_decide_eq_true hr
      refine ⟨hn.1, hn.2, ?_⟩
      cases hw : Tb.withinZ n x.rt with
      | true => rfl
      | false => exact absurd hw h2
theorem withE_less {x y : Tb.Slt} {need : Int} (h : Tb.withinZ y.rt x.rt = true) (h0 : withE y need = 0) : withE x need = 0 := by
  unfold withE at h0 ⊢
  by_cases h1 : Tb.withinZ need y.rt = true
  · rw [if_pos]
    unfold Tb.withinZ at h h1 ⊢
    exact Tb.within_trans h1 h
  · rw [if_neg h1] at h0; exact absurd h0 (by decide)
theorem withE_two (x : Tb.Slt) (need : Int) : withE x need = 0 ∨ withE x need = 10 := by
  unfold withE
  split
  · exact Or.inl rfl
  · exact Or.inr rfl
theorem withV_form (x : Tb.Slt) (need : Int) : ∃ p q : Int, withV x need = .agg #[.int .i64 p, .int .i64 q] := by
  unfold withV
  split
  · exact ⟨_, _, rfl⟩
  · exact ⟨_, _, rfl⟩
/-- How a copy ends: refused; or it lies in a slot that is another one. -/
theorem dup_kinds (l : List Tb.Slt) (f : Nat) (x : Tb.Slt) (hx : l[f]? = some x) (hh : x.has = true) :
    (Tb.putR l x.op x.rt).2.2 = 3 ∨ ((Tb.putR l x.op x.rt).2.2 = 15 ∧ 10 ≤ (Tb.allF l 0).length) ∨ ((Tb.putR l x.op x.rt).2.2 = 0 ∧ ∃ k : Nat, (Tb.putR l x.op x.rt).2.1 = (k : Int) ∧ k ≠ f ∧ Tb.get (Tb.putR l x.op x.rt).1 (k : Int) = some ⟨true, x.op, x.rt⟩) := by
  by_cases h : Tb.right x.rt = false ∨ x.op < 0
  · left; rw [putR_range h]
  · right
    cases hf : Tb.freeFrom l 0 with
    | none =>
      by_cases hl : 10 ≤ l.length
      · left
        rw [putR_full h hf hl]
        exact ⟨rfl, by rw [Tb.allF_full l 0 (Tb.freeFrom_all l 0 hf)]; exact hl⟩
      · right
        rw [putR_app h hf hl]
        refine ⟨rfl, l.length, rfl, fun e => by have := (List.getElem?_eq_some_iff.1 hx).1; omega, ?_⟩
        exact Tb.get_ok (by rw [List.getElem?_append_right (Nat.le_refl _), Nat.sub_self]; rfl) rfl
    | some k =>
      right
      rw [putR_at h hf]
      obtain ⟨-, hk, y, hy, hyh⟩ := Tb.freeFrom_lt l 0 k hf
      rw [Nat.zero_add] at hk
      rw [Nat.sub_zero] at hy
      refine ⟨rfl, k, rfl, fun e => ?_, ?_⟩
      · subst e
        rw [hx] at hy
        cases hy
        rw [hh] at hyh
        cases hyh
      · exact Tb.get_ok (List.getElem?_set_self hk) rfl
set_option maxRecDepth 1000000 in
set_option maxHeartbeats 8000000 in
theorem tless_none (l : List Tb.Slt) (fd n need : Int) (v : Value) (w : World) (hv : Tab w (fun b => b < w.heap.size) v l) (hg : Tb.get l fd = none) :
    Calls Try.prog 7 #[v, .int .i64 fd, .int .i64 n, .int .i64 need] w fun e w' => e = .returned (.bool true) ∧ Below w.heap.size w w' := by
  have HG : Hid (∀ W, Below w.heap.size w W → Calls Try.prog 27 #[v, .int .i64 fd] W fun e w' => e = .returned (.tuple #[.agg #[.int .i64 0, .int .i64 0], .int .i64 6]) ∧ Below W.heap.size W w') := fun W hW => by
    have := tget_any l fd v _ W (hv.below hW (fun b hb => hb)) (fun b hb => Nat.lt_of_lt_of_le hb hW.size)
    rw [hg] at this
    exact this
  have HAL : Hid (Calls Try.prog 38 #[] w fun e w' => e = .returned (.bool true) ∧ Below w.heap.size w w') := talive_any w
  clear hv hg
  go_enter Try.func7, Try.ntmps7
  go_wp2_with fail
  refine HAL.out.mono ?_
  rintro e w1 ⟨rfl, hb1⟩
  have HB1 : Hid (Below w.heap.size w w1) := hb1
  clear hb1
  go_wp2_with fail
  refine (HG.out _ HB1.out).mono ?_
  rintro e w2 ⟨rfl, hb2⟩
  have HB2 : Hid (Below w.heap.size w w2) := HB1.out.trans (hb2.mono HB1.out.size)
  clear hb2
  go_wp2
  go_ret
  exact ⟨rfl, HB2.out.alloc HB2.out.size _⟩
set_option maxRecDepth 1000000 in
set_option maxHeartbeats 8000000 in
theorem tless_need0 (l : List Tb.Slt) (f : Nat) (x : Tb.Slt) (n need : Int) (v : Value) (w : World) (hv : Tab w (fun b => b < w.heap.size) v l) (hx : l[f]? = some x) (hh : x.has = true) (h1 : need < 0) :
    Calls Try.prog 7 #[v, .int .i64 f, .int .i64 n, .int .i64 need] w fun e w' => e = .returned (.bool true) ∧ Below w.heap.size w w' := by
  have HG : Hid (∀ W, Below w.heap.size w W → Calls Try.prog 27 #[v, .int .i64 f] W fun e w' => e = .returned (.tuple #[.agg #[.int .i64 x.op, .int .i64 x.rt], .int .i64 0]) ∧ Below W.heap.size W w') := fun W hW => by
    have := tget_any l f v _ W (hv.below hW (fun b hb => hb)) (fun b hb => Nat.lt_of_lt_of_le hb hW.size)
    rw [Tb.get_ok hx hh] at this
    exact this
  have HAL : Hid (Calls Try.prog 38 #[] w fun e w' => e = .returned (.bool true) ∧ Below w.heap.size w w') := talive_any w
  clear hv hx hh
  go_enter Try.func7, Try.ntmps7
  go_wp2_with fail
  refine HAL.out.mono ?_
  rintro e w1 ⟨rfl, hb1⟩
  have HB1 : Hid (Below w.heap.size w w1) := hb1
  clear hb1
  go_wp2_with fail
  refine (HG.out _ HB1.out).mono ?_
  rintro e w2 ⟨rfl, hb2⟩
  have HB2 : Hid (Below w.heap.size w w2) := HB1.out.trans (hb2.mono HB1.out.size)
  clear hb2
  go_wp2
  go_ret
  exact ⟨rfl, HB2.out.alloc HB2.out.size _⟩
set_option maxRecDepth 1000000 in
set_option maxHeartbeats 8000000 in
theorem tless_need1 (l : List Tb.Slt) (f : Nat) (x : Tb.Slt) (n need : Int) (v : Value) (w : World) (hv : Tab w (fun b => b < w.heap.size) v l) (hx : l[f]? = some x) (hh : x.has = true) (h0 : ¬ need < 0) (h1 : 4095 < need) :
    Calls Try.prog 7 #[v, .int .i64 f, .int .i64 n, .int .i64 need] w fun e w' => e = .returned (.bool true) ∧ Below w.heap.size w w' := by
  have HG : Hid (∀ W, Below w.heap.size w W → Calls Try.prog 27 #[v, .int .i64 f] W fun e w' => e = .returned (.tuple #[.agg #[.int .i64 x.op, .int .i64 x.rt], .int .i64 0]) ∧ Below W.heap.size W w') := fun W hW => by
    have := tget_any l f v _ W (hv.below hW (fun b hb => hb)) (fun b hb => Nat.lt_of_lt_of_le hb hW.size)
    rw [Tb.get_ok hx hh] at this
    exact this
  have HAL : Hid (Calls Try.prog 38 #[] w fun e w' => e = .returned (.bool true) ∧ Below w.heap.size w w') := talive_any w
  clear hv hx hh
  go_enter Try.func7, Try.ntmps7
  go_wp2_with fail
  refine HAL.out.mono ?_
  rintro e w1 ⟨rfl, hb1⟩
  have HB1 : Hid (Below w.heap.size w w1) := hb1
  clear hb1
  go_wp2_with fail
  refine (HG.out _ HB1.out).mono ?_
  rintro e w2 ⟨rfl, hb2⟩
  have HB2 : Hid (Below w.heap.size w w2) := HB1.out.trans (hb2.mono HB1.out.size)
  clear hb2
  go_wp2
  go_ret
  exact ⟨rfl, HB2.out.alloc HB2.out.size _⟩
set_option maxRecDepth 1000000 in
set_option maxHeartbeats 8000000 in
theorem tless_rt0 (l : List Tb.Slt) (f : Nat) (x : Tb.Slt) (n need : Int) (v : Value) (w : World) (hv : Tab w (fun b => b < w.heap.size) v l) (hx : l[f]? = some x) (hh : x.has = true) (h0 : ¬ need < 0) (h1 : ¬ 4095 < need) (h2 : x.rt < 0) :
    Calls Try.prog 7 #[v, .int .i64 f, .int .i64 n, .int .i64 need] w fun e w' => e = .returned (.bool true) ∧ Below w.heap.size w w' := by
  have HG : Hid (∀ W, Below w.heap.size w W → Calls Try.prog 27 #[v, .int .i64 f] W fun e w' => e = .returned (.tuple #[.agg #[.int .i64 x.op, .int .i64 x.rt], .int .i64 0]) ∧ Below W.heap.size W w') := fun W hW => by
    have := tget_any l f v _ W (hv.below hW (fun b hb => hb)) (fun b hb => Nat.lt_of_lt_of_le hb hW.size)
    rw [Tb.get_ok hx hh] at this
    exact this
  have HAL : Hid (Calls Try.prog 38 #[] w fun e w' => e = .returned (.bool true) ∧ Below w.heap.size w w') := talive_any w
  clear hv hx hh
  go_enter Try.func7, Try.ntmps7
  go_wp2_with fail
  refine HAL.out.mono ?_
  rintro e w1 ⟨rfl, hb1⟩
  have HB1 : Hid (Below w.heap.size w w1) := hb1
  clear hb1
  go_wp2_with fail
  refine (HG.out _ HB1.out).mono ?_
  rintro e w2 ⟨rfl, hb2⟩
  have HB2 : Hid (Below w.heap.size w w2) := HB1.out.trans (hb2.mono HB1.out.size)
  clear hb2
  go_wp2
  go_ret
  exact ⟨rfl, HB2.out.alloc HB2.out.size _⟩
set_option maxRecDepth 1000000 in
set_option maxHeartbeats 8000000 in
theorem tless_rt1 (l : List Tb.Slt) (f : Nat) (x : Tb.Slt) (n need : Int) (v : Value) (w : World) (hv : Tab w (fun b => b < w.heap.size) v l) (hx : l[f]? = some x) (hh : x.has = true) (h0 : ¬ need < 0) (h1 : ¬ 4095 < need) (h2 : ¬ x.rt < 0) (h3 : 4095 < x.rt) :
    Calls Try.prog 7 #[v, .int .i64 f, .int .i64 n, .int .i64 need] w fun e w' => e = .returned (.bool true) ∧ Below w.heap.size w w' := by
  have HG : Hid (∀ W, Below w.heap.size w W → Calls Try.prog 27 #[v, .int .i64 f] W fun e w' => e = .returned (.tuple #[.agg #[.int .i64 x.op, .int .i64 x.rt], .int .i64 0]) ∧ Below W.heap.size W w') := fun W hW => by
    have := tget_any l f v _ W (hv.below hW (fun b hb => hb)) (fun b hb => Nat.lt_of_lt_of_le hb hW.size)
    rw [Tb.get_ok hx hh] at this
    exact this
  have HAL : Hid (Calls Try.prog 38 #[] w fun e w' => e = .returned (.bool true) ∧ Below w.heap.size w w') := talive_any w
  clear hv hx hh
  go_enter Try.func7, Try.ntmps7
  go_wp2_with fail
  refine HAL.out.mono ?_
  rintro e w1 ⟨rfl, hb1⟩
  have HB1 : Hid (Below w.heap.size w w1) := hb1
  clear hb1
  go_wp2_with fail
  refine (HG.out _ HB1.out).mono ?_
  rintro e w2 ⟨rfl, hb2⟩
  have HB2 : Hid (Below w.heap.size w w2) := HB1.out.trans (hb2.mono HB1.out.size)
  clear hb2
  go_wp2
  go_ret
  exact ⟨rfl, HB2.out.alloc HB2.out.size _⟩
set_option maxRecDepth 1000000 in
set_option maxHeartbeats 16000000 in
theorem tless_no_range (l : List Tb.Slt) (f : Nat) (x : Tb.Slt) (n need : Int) (v : Value) (w : World) (hv : Tab w (fun b => b < w.heap.size) v l) (hU : l.length * 24 ≤ 140737488355328) (hx : l[f]? = some x) (hh : x.has = true) (h0 : ¬ need < 0) (h1 : ¬ 4095 < need) (h2 : ¬ x.rt < 0) (h3 : ¬ 4095 < x.rt) (he : ¬ limE x n = 0) (hR : (Tb.putR l x.op x.rt).2.2 = 3) :
    Calls Try.prog 7 #[v, .int .i64 f, .int .i64 n, .int .i64 need] w fun e w' => e = .returned (.bool true) ∧ Below w.heap.size w w' := by
  have hSl : ∀ (W : World), Below w.heap.size w W → ∀ b, b < w.heap.size → b < W.heap.size := fun W hW b hb => Nat.lt_of_lt_of_le hb hW.size
  have hg := Tb.get_ok hx hh
  have HG : Hid (∀ W, Below w.heap.size w W → Calls Try.prog 27 #[v, .int .i64 f] W fun e w' => e = .returned (.tuple #[.agg #[.int .i64 x.op, .int .i64 x.rt], .int .i64 0]) ∧ Below W.heap.size W w') := fun W hW => by
    have := tget_any l f v _ W (hv.below hW (fun b hb => hb)) (hSl W hW)
    rw [hg] at this
    exact this
  have HL : Hid (∀ W, Below w.heap.size w W → Calls Try.prog 34 #[v, .int .i64 f, .int .i64 n] W fun e w' => ∃ v', e = .returned (.tuple #[v', .int .i64 (Tb.limitR l f n).2]) ∧ TabNew W w' v' (Tb.limitR l f n).1) := fun W hW => tlimit_any l f n v _ W (hv.below hW (fun b hb => hb)) (hSl W hW) hU (fun y hy => by rw [hg] at hy; cases hy; omega)
  have HD : Hid (∀ W, Below w.heap.size w W → Calls Try.prog 37 #[v, .int .i64 f] W fun e w' => ∃ v', e = .returned (.tuple #[v', .int .i64 (Tb.putR l x.op x.rt).2.1, .int .i64 (Tb.putR l x.op x.rt).2.2]) ∧ TabNew W w' v' (Tb.putR l x.op x.rt).1) := fun W hW => by
    have := tdup_any l f v _ W (hv.below hW (fun b hb => hb)) (hSl W hW) hU
    rw [dupR_some hg] at this
    exact this
  have HAL : Hid (Calls Try.prog 38 #[] w fun e w' => e = .returned (.bool true) ∧ Below w.heap.size w w') := talive_any w
  have hle : (Tb.limitR l f n).2 ≠ 0 := by rw [limitR_err hg he]; exact he
  have HLE : Hid ((Tb.limitR l f n).2 ≠ 0) := hle
  clear hle
  have HR : Hid ((Tb.putR l x.op x.rt).2.2 = 3) := hR
  clear hR
  clear hv hU hx hh hg hSl
  generalize Tb.putR l x.op x.rt = R at *
  go_enter Try.func7, Try.ntmps7
  go_wp2_with fail
  refine HAL.out.mono ?_
  rintro e w1 ⟨rfl, hb1⟩
  have HB1 : Hid (Below w.heap.size w w1) := hb1
  clear hb1 HAL
  go_wp2_with fail
  refine (HG.out _ HB1.out).mono ?_
  rintro e w2 ⟨rfl, hb2⟩
  have HB2 : Hid (Below w.heap.size w (w2.alloc (.cells #[.int .i64 x.op, .int .i64 x.rt] 58))) := (HB1.out.trans (hb2.mono HB1.out.size)).alloc (by have := HB1.out.size; have := hb2.size; omega) _
  have HK2 : Hid (Blk (w2.alloc (.cells #[.int .i64 x.op, .int .i64 x.rt] 58)) w2.heap.size #[.int .i64 x.op, .int .i64 x.rt] 58) := Blk.new w2 _ _
  clear hb2 HB1 HG
  go_wp2_with fail
  generalize w2.alloc (.cells #[.int .i64 x.op, .int .i64 x.rt] 58) = W2 at *
  generalize w2.heap.size = G at *
  refine (HL.out _ HB2.out).mono ?_
  rintro e w3 ⟨v3, rfl, hn3⟩
  have HB3 : Hid (Below w.heap.size w w3) := HB2.out.trans (hn3.2.mono HB2.out.size)
  have HK3 : Hid (Blk w3 G #[.int .i64 x.op, .int .i64 x.rt] 58) := HK2.out.below hn3.2 HK2.out.lt
  clear hn3 HL HB2 HK2
  generalize Tb.limitR l f n = RL at *
  have hle := HLE.out
  clear HLE
  go_wp2_with fail
  generalize hWX : w3 = WX at *
  clear hWX
  have HBX : Hid (Below w.heap.size w WX) := HB3.out
  have HKX : Hid (Blk WX G #[.int .i64 x.op, .int .i64 x.rt] 58) := HK3.out
  clear HB3 HK3
  refine (HD.out _ HBX.out).mono ?_
  rintro e w8 ⟨v8, rfl, hn8⟩
  have HB8 : Hid (Below w.heap.size w w8) := HBX.out.trans (hn8.2.mono HBX.out.size)
  have HK8 : Hid (Blk w8 G #[.int .i64 x.op, .int .i64 x.rt] 58) := HKX.out.below hn8.2 HKX.out.lt
  have HV8 : Hid (Tab w8 (fun b => b < w8.heap.size) v8 R.1) := hn8.tab'
  clear hn8 HBX HKX HD
  obtain ⟨R1, R21, R22⟩ := R
  have hR : R22 = 3 := HR.out
  clear HR
  subst hR
  go_wp2
  go_ret
  exact ⟨rfl, HB8.out⟩
set_option maxRecDepth 1000000 in
set_option maxHeartbeats 16000000 in
theorem tless_lim_range (l : List Tb.Slt) (f : Nat) (x : Tb.Slt) (n need : Int) (v : Value) (w : World) (hv : Tab w (fun b => b < w.heap.size) v l) (hU : l.length * 24 ≤ 140737488355328) (hx : l[f]? = some x) (hh : x.has = true) (h0 : ¬ need < 0) (h1 : ¬ 4095 < need) (h2 : ¬ x.rt < 0) (h3 : ¬ 4095 < x.rt) (he : limE x n = 0) (hR : (Tb.putR l x.op x.rt).2.2 = 3) :
    Calls Try.prog 7 #[v, .int .i64 f, .int .i64 n, .int .i64 need] w fun e w' => e = .returned (.bool true) ∧ Below w.heap.size w w' := by
  have hSl : ∀ (W : World), Below w.heap.size w W → ∀ b, b < w.heap.size → b < W.heap.size := fun W hW b hb => Nat.lt_of_lt_of_le hb hW.size
  have hg := Tb.get_ok hx hh
  have HG : Hid (∀ W, Below w.heap.size w W → Calls Try.prog 27 #[v, .int .i64 f] W fun e w' => e = .returned (.tuple #[.agg #[.int .i64 x.op, .int .i64 x.rt], .int .i64 0]) ∧ Below W.heap.size W w') := fun W hW => by
    have := tget_any l f v _ W (hv.below hW (fun b hb => hb)) (hSl W hW)
    rw [hg] at this
    exact this
  have HL : Hid (∀ W, Below w.heap.size w W → Calls Try.prog 34 #[v, .int .i64 f, .int .i64 n] W fun e w' => ∃ v', e = .returned (.tuple #[v', .int .i64 (Tb.limitR l f n).2]) ∧ TabNew W w' v' (Tb.limitR l f n).1) := fun W hW => tlimit_any l f n v _ W (hv.below hW (fun b hb => hb)) (hSl W hW) hU (fun y hy => by rw [hg] at hy; cases hy; omega)
  have HD : Hid (∀ W, Below w.heap.size w W → Calls Try.prog 37 #[v, .int .i64 f] W fun e w' => ∃ v', e = .returned (.tuple #[v', .int .i64 (Tb.putR l x.op x.rt).2.1, .int .i64 (Tb.putR l x.op x.rt).2.2]) ∧ TabNew W w' v' (Tb.putR l x.op x.rt).1) := fun W hW => by
    have := tdup_any l f v _ W (hv.below hW (fun b hb => hb)) (hSl W hW) hU
    rw [dupR_some hg] at this
    exact this
  have HAL : Hid (Calls Try.prog 38 #[] w fun e w' => e = .returned (.bool true) ∧ Below w.heap.size w w') := talive_any w
  have hlr := limitR_ok hg he
  rw [Int.toNat_natCast] at hlr
  obtain ⟨hn0, hn1, hwn⟩ := limE_ok he
  have hfl := (List.getElem?_eq_some_iff.1 hx).1
  have hX : (l.set f ⟨true, x.op, n⟩)[f]? = some ⟨true, x.op, n⟩ := List.getElem?_set_self hfl
  have HGX : Hid (∀ v W, Tab W (fun b => b < W.heap.size) v (l.set f ⟨true, x.op, n⟩) → Calls Try.prog 27 #[v, .int .i64 f] W fun e w' => e = .returned (.tuple #[.agg #[.int .i64 x.op, .int .i64 n], .int .i64 0]) ∧ Below W.heap.size W w') := fun v W h => by
    have := tget_any (l.set f ⟨true, x.op, n⟩) f v _ W h (fun _ h => h)
    rw [Tb.get_ok hX rfl] at this
    exact this
  have HWX : Hid (∀ v W, Tab W (fun b => b < W.heap.size) v (l.set f ⟨true, x.op, n⟩) → Calls Try.prog 40 #[v, .int .i64 f, .int .i64 need] W fun e w' => e = .returned (.tuple #[withV ⟨true, x.op, n⟩ need, .int .i64 (withE ⟨true, x.op, n⟩ need)]) ∧ Below W.heap.size W w') := fun v W h => twith_ok (l.set f ⟨true, x.op, n⟩) f ⟨true, x.op, n⟩ need v _ W h (fun _ h => h) hX rfl hn0 hn1 (by omega) (by omega)
  have HWL : Hid (∀ W, Below w.heap.size w W → Calls Try.prog 40 #[v, .int .i64 f, .int .i64 need] W fun e w' => e = .returned (.tuple #[withV x need, .int .i64 (withE x need)]) ∧ Below W.heap.size W w') := fun W hW => twith_ok l f x need v _ W (hv.below hW (fun b hb => hb)) (hSl W hW) hx hh (by omega) (by omega) (by omega) (by omega)
  have HWI : Hid (∀ W, Calls Try.prog 39 #[.int .i64 n, .int .i64 x.rt] W fun e w' => e = .returned (.bool true) ∧ Below W.heap.size W w') := fun W => by
    obtain ⟨m, rfl⟩ := Int.eq_ofNat_of_zero_le hn0
    obtain ⟨r, hr'⟩ := Int.eq_ofNat_of_zero_le (by omega : 0 ≤ x.rt)
    have := rwithin m r (by omega) (by omega) W
    unfold Tb.withinZ at hwn
    rw [hr'] at hwn ⊢
    rw [show Tb.within m r = true from hwn] at this
    exact this
  have HLESS : Hid (withE ⟨true, x.op, n⟩ need = 0 → withE x need = 0) := fun h => withE_less (y := ⟨true, x.op, n⟩) hwn h
  have HT1 : Hid (withE ⟨true, x.op, n⟩ need = 0 ∨ withE ⟨true, x.op, n⟩ need = 10) := withE_two _ _
  have HT2 : Hid (withE x need = 0 ∨ withE x need = 10) := withE_two _ _
  obtain ⟨p1, q1, hv1⟩ := withV_form ⟨true, x.op, n⟩ need
  obtain ⟨p2, q2, hv2⟩ := withV_form x need
  rw [hv1] at HWX
  rw [hv2] at HWL
  rw [hlr] at HL
  clear hlr hn0 hn1 hwn hfl hX hv1 hv2 he
  generalize withE ⟨true, x.op, n⟩ need = E1 at *
  generalize withE x need = E2 at *
  have HR : Hid ((Tb.putR l x.op x.rt).2.2 = 3) := hR
  clear hR
  clear hv hU hx hh hg hSl
  generalize Tb.putR l x.op x.rt = R at *
  go_enter Try.func7, Try.ntmps7
  go_wp2_with fail
  refine HAL.out.mono ?_
  rintro e w1 ⟨rfl, hb1⟩
  have HB1 : Hid (Below w.heap.size w w1) := hb1
  clear hb1 HAL
  go_wp2_with fail
  refine (HG.out _ HB1.out).mono ?_
  rintro e w2 ⟨rfl, hb2⟩
  have HB2 : Hid (Below w.heap.size w (w2.alloc (.cells #[.int .i64 x.op, .int .i64 x.rt] 58))) := (HB1.out.trans (hb2.mono HB1.out.size)).alloc (by have := HB1.out.size; have := hb2.size; omega) _
  have HK2 : Hid (Blk (w2.alloc (.cells #[.int .i64 x.op, .int .i64 x.rt] 58)) w2.heap.size #[.int .i64 x.op, .int .i64 x.rt] 58) := Blk.new w2 _ _
  clear hb2 HB1 HG
  go_wp2_with fail
  generalize w2.alloc (.cells #[.int .i64 x.op, .int .i64 x.rt] 58) = W2 at *
  generalize w2.heap.size = G at *
  refine (HL.out _ HB2.out).mono ?_
  rintro e w3 ⟨v3, rfl, hn3⟩
  have HB3 : Hid (Below w.heap.size w w3) := HB2.out.trans (hn3.2.mono HB2.out.size)
  have HK3 : Hid (Blk w3 G #[.int .i64 x.op, .int .i64 x.rt] 58) := HK2.out.below hn3.2 HK2.out.lt
  have HV3 : Hid (Tab w3 (fun b => b < w3.heap.size) v3 (l.set f ⟨true, x.op, n⟩)) := hn3.tab'
  clear hn3 HL HB2 HK2
  go_wp2_with fail
  refine (HGX.out _ _ HV3.out).mono ?_
  rintro e w4 ⟨rfl, hb4⟩
  have HB4 : Hid (Below w3.heap.size w3 (w4.alloc (.cells #[.int .i64 x.op, .int .i64 n] 58))) := hb4.alloc hb4.size _
  have hK4 : Blk w4 G #[.int .i64 x.op, .int .i64 x.rt] 58 := HK3.out.below hb4 HK3.out.lt
  have HK4 : Hid (Blk (w4.alloc (.cells #[.int .i64 x.op, .int .i64 n] 58)) G #[.int .i64 x.op, .int .i64 x.rt] 58) := hK4.alloc _
  have hl4 := hK4.lt
  have k0 : w4.cell? ⟨G, 0, none⟩ = some (.int .i64 x.op) := hK4.cell 0
  have k1 : w4.cell? ⟨G, 1, none⟩ = some (.int .i64 x.rt) := hK4.cell 1
  clear hb4 hK4 HGX HK3
  go_wp2_with fail
  clear k0 k1 hl4
  generalize w4.alloc (.cells #[.int .i64 x.op, .int .i64 n] 58) = W4 at *
  generalize w4.heap.size = G4 at *
  refine (HWI.out _).mono ?_
  rintro e w5 ⟨rfl, hb5⟩
  have HB5 : Hid (Below w3.heap.size w3 w5) := HB4.out.trans (hb5.mono HB4.out.size)
  have HK5 : Hid (Blk w5 G #[.int .i64 x.op, .int .i64 x.rt] 58) := HK4.out.below hb5 HK4.out.lt
  clear hb5 HB4 HK4 HWI
  go_wp2_with fail
  refine (HWX.out _ _ (HV3.out.later' HB5.out)).mono ?_
  rintro e w6 ⟨rfl, hb6⟩
  have HB6 : Hid (Below w.heap.size w (w6.alloc (.cells #[.int .i64 p1, .int .i64 q1] 58))) := (HB3.out.trans ((HB5.out.trans (hb6.mono HB5.out.size)).mono HB3.out.size)).alloc (by have := HB3.out.size; have := HB5.out.size; have := hb6.size; omega) _
  have HK6 : Hid (Blk (w6.alloc (.cells #[.int .i64 p1, .int .i64 q1] 58)) G #[.int .i64 x.op, .int .i64 x.rt] 58) := (HK5.out.below hb6 HK5.out.lt).alloc _
  clear hb6 HB5 HK5 HWX HB3 HV3
  go_wp2_with fail
  generalize w6.alloc (.cells #[.int .i64 p1, .int .i64 q1] 58) = W6 at *
  generalize w6.heap.size = G6 at *
  refine (HWL.out _ HB6.out).mono ?_
  rintro e w7 ⟨rfl, hb7⟩
  have HBX : Hid (Below w.heap.size w (w7.alloc (.cells #[.int .i64 p2, .int .i64 q2] 58))) := (HB6.out.trans (hb7.mono HB6.out.size)).alloc (by have := HB6.out.size; have := hb7.size; omega) _
  have HKX : Hid (Blk (w7.alloc (.cells #[.int .i64 p2, .int .i64 q2] 58)) G #[.int .i64 x.op, .int .i64 x.rt] 58) := (HK6.out.below hb7 HK6.out.lt).alloc _
  clear hb7 HB6 HK6 HWL
  have hT1 := HT1.out
  have hT2 := HT2.out
  have hLS := HLESS.out
  clear HT1 HT2 HLESS
  have hcase : (E1 = 10) ∨ (E1 = 0 ∧ E2 = 0) := by
    rcases hT1 with h | h
    · exact Or.inr ⟨h, hLS h⟩
    · exact Or.inl h
  clear hT1 hT2 hLS
  rcases hcase with h | ⟨h, h'⟩
  · subst h
    go_wp2_with fail
    generalize w7.alloc (.cells #[.int .i64 p2, .int .i64 q2] 58) = WX at *
    refine (HD.out _ HBX.out).mono ?_
    rintro e w8 ⟨v8, rfl, hn8⟩
    have HB8 : Hid (Below w.heap.size w w8) := HBX.out.trans (hn8.2.mono HBX.out.size)
    have HK8 : Hid (Blk w8 G #[.int .i64 x.op, .int .i64 x.rt] 58) := HKX.out.below hn8.2 HKX.out.lt
    have HV8 : Hid (Tab w8 (fun b => b < w8.heap.size) v8 R.1) := hn8.tab'
    clear hn8 HBX HKX HD
    obtain ⟨R1, R21, R22⟩ := R
    have hR : R22 = 3 := HR.out
    clear HR
    subst hR
    go_wp2
    go_ret
    exact ⟨rfl, HB8.out⟩
  · subst h
    subst h'
    go_wp2_with fail
    generalize w7.alloc (.cells #[.int .i64 p2, .int .i64 q2] 58) = WX at *
    refine (HD.out _ HBX.out).mono ?_
    rintro e w8 ⟨v8, rfl, hn8⟩
    have HB8 : Hid (Below w.heap.size w w8) := HBX.out.trans (hn8.2.mono HBX.out.size)
    have HK8 : Hid (Blk w8 G #[.int .i64 x.op, .int .i64 x.rt] 58) := HKX.out.below hn8.2 HKX.out.lt
    have HV8 : Hid (Tab w8 (fun b => b < w8.heap.size) v8 R.1) := hn8.tab'
    clear hn8 HBX HKX HD
    obtain ⟨R1, R21, R22⟩ := R
    have hR : R22 = 3 := HR.out
    clear HR
    subst hR
    go_wp2
    go_ret
    exact ⟨rfl, HB8.out⟩
set_option maxRecDepth 1000000 in
set_option maxHeartbeats 16000000 in
theorem tless_no_full (l : List Tb.Slt) (f : Nat) (x : Tb.Slt) (n need : Int) (v : Value) (w : World) (hv : Tab w (fun b => b < w.heap.size) v l) (hU : l.length * 24 ≤ 140737488355328) (hx : l[f]? = some x) (hh : x.has = true) (h0 : ¬ need < 0) (h1 : ¬ 4095 < need) (h2 : ¬ x.rt < 0) (h3 : ¬ 4095 < x.rt) (he : ¬ limE x n = 0) (hR : (Tb.putR l x.op x.rt).2.2 = 15 ∧ 10 ≤ (Tb.allF l 0).length) :
    Calls Try.prog 7 #[v, .int .i64 f, .int .i64 n, .int .i64 need] w fun e w' => e = .returned (.bool true) ∧ Below w.heap.size w w' := by
  have hSl : ∀ (W : World), Below w.heap.size w W → ∀ b, b < w.heap.size → b < W.heap.size := fun W hW b hb => Nat.lt_of_lt_of_le hb hW.size
  have hg := Tb.get_ok hx hh
  have HG : Hid (∀ W, Below w.heap.size w W → Calls Try.prog 27 #[v, .int .i64 f] W fun e w' => e = .returned (.tuple #[.agg #[.int .i64 x.op, .int .i64 x.rt], .int .i64 0]) ∧ Below W.heap.size W w') := fun W hW => by
    have := tget_any l f v _ W (hv.below hW (fun b hb => hb)) (hSl W hW)
    rw [hg] at this
    exact this
  have HL : Hid (∀ W, Below w.heap.size w W → Calls Try.prog 34 #[v, .int .i64 f, .int .i64 n] W fun e w' => ∃ v', e = .returned (.tuple #[v', .int .i64 (Tb.limitR l f n).2]) ∧ TabNew W w' v' (Tb.limitR l f n).1) := fun W hW => tlimit_any l f n v _ W (hv.below hW (fun b hb => hb)) (hSl W hW) hU (fun y hy => by rw [hg] at hy; cases hy; omega)
  have HD : Hid (∀ W, Below w.heap.size w W → Calls Try.prog 37 #[v, .int .i64 f] W fun e w' => ∃ v', e = .returned (.tuple #[v', .int .i64 (Tb.putR l x.op x.rt).2.1, .int .i64 (Tb.putR l x.op x.rt).2.2]) ∧ TabNew W w' v' (Tb.putR l x.op x.rt).1) := fun W hW => by
    have := tdup_any l f v _ W (hv.below hW (fun b hb => hb)) (hSl W hW) hU
    rw [dupR_some hg] at this
    exact this
  have HAL : Hid (Calls Try.prog 38 #[] w fun e w' => e = .returned (.bool true) ∧ Below w.heap.size w w') := talive_any w
  have hle : (Tb.limitR l f n).2 ≠ 0 := by rw [limitR_err hg he]; exact he
  have HLE : Hid ((Tb.limitR l f n).2 ≠ 0) := hle
  clear hle
  have HR : Hid ((Tb.putR l x.op x.rt).2.2 = 15 ∧ 10 ≤ (Tb.allF l 0).length) := hR
  have HA : Hid (∀ W, Below w.heap.size w W → Calls Try.prog 36 #[v] W fun e w' => ∃ a c, e = .returned (.slice a (Tb.allF l 0).length c) ∧ Below W.heap.size W w') := fun W hW => by
    refine (tall_any l v _ W (hv.below hW (fun b hb => hb)) (hSl W hW) hU).mono ?_
    rintro e w' ⟨v', rfl, hr, hb⟩
    obtain ⟨a, c, rfl, -⟩ := hr.form
    rw [List.length_map]
    exact ⟨a, c, rfl, hb⟩
  clear hR
  clear hv hU hx hh hg hSl
  generalize Tb.putR l x.op x.rt = R at *
  go_enter Try.func7, Try.ntmps7
  go_wp2_with fail
  refine HAL.out.mono ?_
  rintro e w1 ⟨rfl, hb1⟩
  have HB1 : Hid (Below w.heap.size w w1) := hb1
  clear hb1 HAL
  go_wp2_with fail
  refine (HG.out _ HB1.out).mono ?_
  rintro e w2 ⟨rfl, hb2⟩
  have HB2 : Hid (Below w.heap.size w (w2.alloc (.cells #[.int .i64 x.op, .int .i64 x.rt] 58))) := (HB1.out.trans (hb2.mono HB1.out.size)).alloc (by have := HB1.out.size; have := hb2.size; omega) _
  have HK2 : Hid (Blk (w2.alloc (.cells #[.int .i64 x.op, .int .i64 x.rt] 58)) w2.heap.size #[.int .i64 x.op, .int .i64 x.rt] 58) := Blk.new w2 _ _
  clear hb2 HB1 HG
  go_wp2_with fail
  generalize w2.alloc (.cells #[.int .i64 x.op, .int .i64 x.rt] 58) = W2 at *
  generalize w2.heap.size = G at *
  refine (HL.out _ HB2.out).mono ?_
  rintro e w3 ⟨v3, rfl, hn3⟩
  have HB3 : Hid (Below w.heap.size w w3) := HB2.out.trans (hn3.2.mono HB2.out.size)
  have HK3 : Hid (Blk w3 G #[.int .i64 x.op, .int .i64 x.rt] 58) := HK2.out.below hn3.2 HK2.out.lt
  clear hn3 HL HB2 HK2
  generalize Tb.limitR l f n = RL at *
  have hle := HLE.out
  clear HLE
  go_wp2_with fail
  generalize hWX : w3 = WX at *
  clear hWX
  have HBX : Hid (Below w.heap.size w WX) := HB3.out
  have HKX : Hid (Blk WX G #[.int .i64 x.op, .int .i64 x.rt] 58) := HK3.out
  clear HB3 HK3
  refine (HD.out _ HBX.out).mono ?_
  rintro e w8 ⟨v8, rfl, hn8⟩
  have HB8 : Hid (Below w.heap.size w w8) := HBX.out.trans (hn8.2.mono HBX.out.size)
  have HK8 : Hid (Blk w8 G #[.int .i64 x.op, .int .i64 x.rt] 58) := HKX.out.below hn8.2 HKX.out.lt
  have HV8 : Hid (Tab w8 (fun b => b < w8.heap.size) v8 R.1) := hn8.tab'
  clear hn8 HBX HKX HD
  obtain ⟨R1, R21, R22⟩ := R
  have hR : R22 = 15 := HR.out.1
  have hAL := HR.out.2
  clear HR
  subst hR
  go_wp2_with fail
  refine (HA.out _ HB8.out).mono ?_
  rintro e w9 ⟨a9, c9, rfl, hb9⟩
  have HB9 : Hid (Below w.heap.size w w9) := HB8.out.trans (hb9.mono HB8.out.size)
  have hALz : (10 : Int) ≤ ((Tb.allF l 0).length : Int) := by omega
  clear hb9 HB8
  go_wp2
  go_ret
  exact ⟨rfl, HB9.out⟩
set_option maxRecDepth 1000000 in
set_option maxHeartbeats 16000000 in
theorem tless_lim_full (l : List Tb.Slt) (f : Nat) (x : Tb.Slt) (n need : Int) (v : Value) (w : World) (hv : Tab w (fun b => b < w.heap.size) v l) (hU : l.length * 24 ≤ 140737488355328) (hx : l[f]? = some x) (hh : x.has = true) (h0 : ¬ need < 0) (h1 : ¬ 4095 < need) (h2 : ¬ x.rt < 0) (h3 : ¬ 4095 < x.rt) (he : limE x n = 0) (hR : (Tb.putR l x.op x.rt).2.2 = 15 ∧ 10 ≤ (Tb.allF l 0).length) :
    Calls Try.prog 7 #[v, .int .i64 f, .int .i64 n, .int .i64 need] w fun e w' => e = .returned (.bool true) ∧ Below w.heap.size w w' := by
  have hSl : ∀ (W : World), Below w.heap.size w W → ∀ b, b < w.heap.size → b < W.heap.size := fun W hW b hb => Nat.lt_of_lt_of_le hb hW.size
  have hg := Tb.get_ok hx hh
  have HG : Hid (∀ W, Below w.heap.size w W → Calls Try.prog 27 #[v, .int .i64 f] W fun e w' => e = .returned (.tuple #[.agg #[.int .i64 x.op, .int .i64 x.rt], .int .i64 0]) ∧ Below W.heap.size W w') := fun W hW => by
    have := tget_any l f v _ W (hv.below hW (fun b hb => hb)) (hSl W hW)
    rw [hg] at this
    exact this
  have HL : Hid (∀ W, Below w.heap.size w W → Calls Try.prog 34 #[v, .int .i64 f, .int .i64 n] W fun e w' => ∃ v', e = .returned (.tuple #[v', .int .i64 (Tb.limitR l f n).2]) ∧ TabNew W w' v' (Tb.limitR l f n).1) := fun W hW => tlimit_any l f n v _ W (hv.below hW (fun b hb => hb)) (hSl W hW) hU (fun y hy => by rw [hg] at hy; cases hy; omega)
  have HD : Hid (∀ W, Below w.heap.size w W → Calls Try.prog 37 #[v, .int .i64 f] W fun e w' => ∃ v', e = .returned (.tuple #[v', .int .i64 (Tb.putR l x.op x.rt).2.1, .int .i64 (Tb.putR l x.op x.rt).2.2]) ∧ TabNew W w' v' (Tb.putR l x.op x.rt).1) := fun W hW => by
    have := tdup_any l f v _ W (hv.below hW (fun b hb => hb)) (hSl W hW) hU
    rw [dupR_some hg] at this
    exact this
  have HAL : Hid (Calls Try.prog 38 #[] w fun e w' => e = .returned (.bool true) ∧ Below w.heap.size w w') := talive_any w
  have hlr := limitR_ok hg he
  rw [Int.toNat_natCast] at hlr
  obtain ⟨hn0, hn1, hwn⟩ := limE_ok he
  have hfl := (List.getElem?_eq_some_iff.1 hx).1
  have hX : (l.set f ⟨true, x.op, n⟩)[f]? = some ⟨true, x.op, n⟩ := List.getElem?_set_self hfl
  have HGX : Hid (∀ v W, Tab W (fun b => b < W.heap.size) v (l.set f ⟨true, x.op, n⟩) → Calls Try.prog 27 #[v, .int .i64 f] W fun e w' => e = .returned (.tuple #[.agg #[.int .i64 x.op, .int .i64 n], .int .i64 0]) ∧ Below W.heap.size W w') := fun v W h => by
    have := tget_any (l.set f ⟨true, x.op, n⟩) f v _ W h (fun _ h => h)
    rw [Tb.get_ok hX rfl] at this
    exact this
  have HWX : Hid (∀ v W, Tab W (fun b => b < W.heap.size) v (l.set f ⟨true, x.op, n⟩) → Calls Try.prog 40 #[v, .int .i64 f, .int .i64 need] W fun e w' => e = .returned (.tuple #[withV ⟨true, x.op, n⟩ need, .int .i64 (withE ⟨true, x.op, n⟩ need)]) ∧ Below W.heap.size W w') := fun v W h => twith_ok (l.set f ⟨true, x.op, n⟩) f ⟨true, x.op, n⟩ need v _ W h (fun _ h => h) hX rfl hn0 hn1 (by omega) (by omega)
  have HWL : Hid (∀ W, Below w.heap.size w W → Calls Try.prog 40 #[v, .int .i64 f, .int .i64 need] W fun e w' => e = .returned (.tuple #[withV x need, .int .i64 (withE x need)]) ∧ Below W.heap.size W w') := fun W hW => twith_ok l f x need v _ W (hv.below hW (fun b hb => hb)) (hSl W hW) hx hh (by omega) (by omega) (by omega) (by omega)
  have HWI : Hid (∀ W, Calls Try.prog 39 #[.int .i64 n, .int .i64 x.rt] W fun e w' => e = .returned (.bool true) ∧ Below W.heap.size W w') := fun W => by
    obtain ⟨m, rfl⟩ := Int.eq_ofNat_of_zero_le hn0
    obtain ⟨r, hr'⟩ := Int.eq_ofNat_of_zero_le (by omega : 0 ≤ x.rt)
    have := rwithin m r (by omega) (by omega) W
    unfold Tb.withinZ at hwn
    rw [hr'] at hwn ⊢
    rw [show Tb.within m r = true from hwn] at this
    exact this
  have HLESS : Hid (withE ⟨true, x.op, n⟩ need = 0 → withE x need = 0) := fun h => withE_less (y := ⟨true, x.op, n⟩) hwn h
  have HT1 : Hid (withE ⟨true, x.op, n⟩ need = 0 ∨ withE ⟨true, x.op, n⟩ need = 10) := withE_two _ _
  have HT2 : Hid (withE x need = 0 ∨ withE x need = 10) := withE_two _ _
  obtain ⟨p1, q1, hv1⟩ := withV_form ⟨true, x.op, n⟩ need
  obtain ⟨p2, q2, hv2⟩ := withV_form x need
  rw [hv1] at HWX
  rw [hv2] at HWL
  rw [hlr] at HL
  clear hlr hn0 hn1 hwn hfl hX hv1 hv2 he
  generalize withE ⟨true, x.op, n⟩ need = E1 at *
  generalize withE x need = E2 at *
  have HR : Hid ((Tb.putR l x.op x.rt).2.2 = 15 ∧ 10 ≤ (Tb.allF l 0).length) := hR
  have HA : Hid (∀ W, Below w.heap.size w W → Calls Try.prog 36 #[v] W fun e w' => ∃ a c, e = .returned (.slice a (Tb.allF l 0).length c) ∧ Below W.heap.size W w') := fun W hW => by
    refine (tall_any l v _ W (hv.below hW (fun b hb => hb)) (hSl W hW) hU).mono ?_
    rintro e w' ⟨v', rfl, hr, hb⟩
    obtain ⟨a, c, rfl, -⟩ := hr.form
    rw [List.length_map]
    exact ⟨a, c, rfl, hb⟩
  clear hR
  clear hv hU hx hh hg hSl
  generalize Tb.putR l x.op x.rt = R at *
  go_enter Try.func7, Try.ntmps7
  go_wp2_with fail
  refine HAL.out.mono ?_
  rintro e w1 ⟨rfl, hb1⟩
  have HB1 : Hid (Below w.heap.size w w1) := hb1
  clear hb1 HAL
  go_wp2_with fail
  refine (HG.out _ HB1.out).mono ?_
  rintro e w2 ⟨rfl, hb2⟩
  have HB2 : Hid (Below w.heap.size w (w2.alloc (.cells #[.int .i64 x.op, .int .i64 x.rt] 58))) := (HB1.out.trans (hb2.mono HB1.out.size)).alloc (by have := HB1.out.size; have := hb2.size; omega) _
  have HK2 : Hid (Blk (w2.alloc (.cells #[.int .i64 x.op, .int .i64 x.rt] 58)) w2.heap.size #[.int .i64 x.op, .int .i64 x.rt] 58) := Blk.new w2 _ _
  clear hb2 HB1 HG
  go_wp2_with fail
  generalize w2.alloc (.cells #[.int .i64 x.op, .int .i64 x.rt] 58) = W2 at *
  generalize w2.heap.size = G at *
  refine (HL.out _ HB2.out).mono ?_
  rintro e w3 ⟨v3, rfl, hn3⟩
  have HB3 : Hid (Below w.heap.size w w3) := HB2.out.trans (hn3.2.mono HB2.out.size)
  have HK3 : Hid (Blk w3 G #[.int .i64 x.op, .int .i64 x.rt] 58) := HK2.out.below hn3.2 HK2.out.lt
  have HV3 : Hid (Tab w3 (fun b => b < w3.heap.size) v3 (l.set f ⟨true, x.op, n⟩)) := hn3.tab'
  clear hn3 HL HB2 HK2
  go_wp2_with fail
  refine (HGX.out _ _ HV3.out).mono ?_
  rintro e w4 ⟨rfl, hb4⟩
  have HB4 : Hid (Below w3.heap.size w3 (w4.alloc (.cells #[.int .i64 x.op, .int .i64 n] 58))) := hb4.alloc hb4.size _
  have hK4 : Blk w4 G #[.int .i64 x.op, .int .i64 x.rt] 58 := HK3.out.below hb4 HK3.out.lt
  have HK4 : Hid (Blk (w4.alloc (.cells #[.int .i64 x.op, .int .i64 n] 58)) G #[.int .i64 x.op, .int .i64 x.rt] 58) := hK4.alloc _
  have hl4 := hK4.lt
  have k0 : w4.cell? ⟨G, 0, none⟩ = some (.int .i64 x.op) := hK4.cell 0
  have k1 : w4.cell? ⟨G, 1, none⟩ = some (.int .i64 x.rt) := hK4.cell 1
  clear hb4 hK4 HGX HK3
  go_wp2_with fail
  clear k0 k1 hl4
  generalize w4.alloc (.cells #[.int .i64 x.op, .int .i64 n] 58) = W4 at *
  generalize w4.heap.size = G4 at *
  refine (HWI.out _).mono ?_
  rintro e w5 ⟨rfl, hb5⟩
  have HB5 : Hid (Below w3.heap.size w3 w5) := HB4.out.trans (hb5.mono HB4.out.size)
  have HK5 : Hid (Blk w5 G #[.int .i64 x.op, .int .i64 x.rt] 58) := HK4.out.below hb5 HK4.out.lt
  clear hb5 HB4 HK4 HWI
  go_wp2_with fail
  refine (HWX.out _ _ (HV3.out.later' HB5.out)).mono ?_
  rintro e w6 ⟨rfl, hb6⟩
  have HB6 : Hid (Below w.heap.size w (w6.alloc (.cells #[.int .i64 p1, .int .i64 q1] 58))) := (HB3.out.trans ((HB5.out.trans (hb6.mono HB5.out.size)).mono HB3.out.size)).alloc (by have := HB3.out.size; have := HB5.out.size; have := hb6.size; omega) _
  have HK6 : Hid (Blk (w6.alloc (.cells #[.int .i64 p1, .int .i64 q1] 58)) G #[.int .i64 x.op, .int .i64 x.rt] 58) := (HK5.out.below hb6 HK5.out.lt).alloc _
  clear hb6 HB5 HK5 HWX HB3 HV3
  go_wp2_with fail
  generalize w6.alloc (.cells #[.int .i64 p1, .int .i64 q1] 58) = W6 at *
  generalize w6.heap.size = G6 at *
  refine (HWL.out _ HB6.out).mono ?_
  rintro e w7 ⟨rfl, hb7⟩
  have HBX : Hid (Below w.heap.size w (w7.alloc (.cells #[.int .i64 p2, .int .i64 q2] 58))) := (HB6.out.trans (hb7.mono HB6.out.size)).alloc (by have := HB6.out.size; have := hb7.size; omega) _
  have HKX : Hid (Blk (w7.alloc (.cells #[.int .i64 p2, .int .i64 q2] 58)) G #[.int .i64 x.op, .int .i64 x.rt] 58) := (HK6.out.below hb7 HK6.out.lt).alloc _
  clear hb7 HB6 HK6 HWL
  have hT1 := HT1.out
  have hT2 := HT2.out
  have hLS := HLESS.out
  clear HT1 HT2 HLESS
  have hcase : (E1 = 10) ∨ (E1 = 0 ∧ E2 = 0) := by
    rcases hT1 with h | h
    · exact Or.inr ⟨h, hLS h⟩
    · exact Or.inl h
  clear hT1 hT2 hLS
  rcases hcase with h | ⟨h, h'⟩
  · subst h
    go_wp2_with fail
    generalize w7.alloc (.cells #[.int .i64 p2, .int .i64 q2] 58) = WX at *
    refine (HD.out _ HBX.out).mono ?_
    rintro e w8 ⟨v8, rfl, hn8⟩
    have HB8 : Hid (Below w.heap.size w w8) := HBX.out.trans (hn8.2.mono HBX.out.size)
    have HK8 : Hid (Blk w8 G #[.int .i64 x.op, .int .i64 x.rt] 58) := HKX.out.below hn8.2 HKX.out.lt
    have HV8 : Hid (Tab w8 (fun b => b < w8.heap.size) v8 R.1) := hn8.tab'
    clear hn8 HBX HKX HD
    obtain ⟨R1, R21, R22⟩ := R
    have hR : R22 = 15 := HR.out.1
    have hAL := HR.out.2
    clear HR
    subst hR
    go_wp2_with fail
    refine (HA.out _ HB8.out).mono ?_
    rintro e w9 ⟨a9, c9, rfl, hb9⟩
    have HB9 : Hid (Below w.heap.size w w9) := HB8.out.trans (hb9.mono HB8.out.size)
    have hALz : (10 : Int) ≤ ((Tb.allF l 0).length : Int) := by omega
    clear hb9 HB8
    go_wp2
    go_ret
    exact ⟨rfl, HB9.out⟩
  · subst h
    subst h'
    go_wp2_with fail
    generalize w7.alloc (.cells #[.int .i64 p2, .int .i64 q2] 58) = WX at *
    refine (HD.out _ HBX.out).mono ?_
    rintro e w8 ⟨v8, rfl, hn8⟩
    have HB8 : Hid (Below w.heap.size w w8) := HBX.out.trans (hn8.2.mono HBX.out.size)
    have HK8 : Hid (Blk w8 G #[.int .i64 x.op, .int .i64 x.rt] 58) := HKX.out.below hn8.2 HKX.out.lt
    have HV8 : Hid (Tab w8 (fun b => b < w8.heap.size) v8 R.1) := hn8.tab'
    clear hn8 HBX HKX HD
    obtain ⟨R1, R21, R22⟩ := R
    have hR : R22 = 15 := HR.out.1
    have hAL := HR.out.2
    clear HR
    subst hR
    go_wp2_with fail
    refine (HA.out _ HB8.out).mono ?_
    rintro e w9 ⟨a9, c9, rfl, hb9⟩
    have HB9 : Hid (Below w.heap.size w w9) := HB8.out.trans (hb9.mono HB8.out.size)
    have hALz : (10 : Int) ≤ ((Tb.allF l 0).length : Int) := by omega
    clear hb9 HB8
    go_wp2
    go_ret
    exact ⟨rfl, HB9.out⟩
set_option maxRecDepth 1000000 in
set_option maxHeartbeats 16000000 in
theorem tless_no_ok (l : List Tb.Slt) (f : Nat) (x : Tb.Slt) (n need : Int) (v : Value) (w : World) (hv : Tab w (fun b => b < w.heap.size) v l) (hU : l.length * 24 ≤ 140737488355328) (hx : l[f]? = some x) (hh : x.has = true) (h0 : ¬ need < 0) (h1 : ¬ 4095 < need) (h2 : ¬ x.rt < 0) (h3 : ¬ 4095 < x.rt) (he : ¬ limE x n = 0) (hR : (Tb.putR l x.op x.rt).2.2 = 0 ∧ ∃ k : Nat, (Tb.putR l x.op x.rt).2.1 = (k : Int) ∧ k ≠ f ∧ Tb.get (Tb.putR l x.op x.rt).1 (k : Int) = some ⟨true, x.op, x.rt⟩) :
    Calls Try.prog 7 #[v, .int .i64 f, .int .i64 n, .int .i64 need] w fun e w' => e = .returned (.bool true) ∧ Below w.heap.size w w' := by
  have hSl : ∀ (W : World), Below w.heap.size w W → ∀ b, b < w.heap.size → b < W.heap.size := fun W hW b hb => Nat.lt_of_lt_of_le hb hW.size
  have hg := Tb.get_ok hx hh
  have HG : Hid (∀ W, Below w.heap.size w W → Calls Try.prog 27 #[v, .int .i64 f] W fun e w' => e = .returned (.tuple #[.agg #[.int .i64 x.op, .int .i64 x.rt], .int .i64 0]) ∧ Below W.heap.size W w') := fun W hW => by
    have := tget_any l f v _ W (hv.below hW (fun b hb => hb)) (hSl W hW)
    rw [hg] at this
    exact this
  have HL : Hid (∀ W, Below w.heap.size w W → Calls Try.prog 34 #[v, .int .i64 f, .int .i64 n] W fun e w' => ∃ v', e = .returned (.tuple #[v', .int .i64 (Tb.limitR l f n).2]) ∧ TabNew W w' v' (Tb.limitR l f n).1) := fun W hW => tlimit_any l f n v _ W (hv.below hW (fun b hb => hb)) (hSl W hW) hU (fun y hy => by rw [hg] at hy; cases hy; omega)
  have HD : Hid (∀ W, Below w.heap.size w W → Calls Try.prog 37 #[v, .int .i64 f] W fun e w' => ∃ v', e = .returned (.tuple #[v', .int .i64 (Tb.putR l x.op x.rt).2.1, .int .i64 (Tb.putR l x.op x.rt).2.2]) ∧ TabNew W w' v' (Tb.putR l x.op x.rt).1) := fun W hW => by
    have := tdup_any l f v _ W (hv.below hW (fun b hb => hb)) (hSl W hW) hU
    rw [dupR_some hg] at this
    exact this
  have HAL : Hid (Calls Try.prog 38 #[] w fun e w' => e = .returned (.bool true) ∧ Below w.heap.size w w') := talive_any w
  have hle : (Tb.limitR l f n).2 ≠ 0 := by rw [limitR_err hg he]; exact he
  have HLE : Hid ((Tb.limitR l f n).2 ≠ 0) := hle
  clear hle
  have HR : Hid ((Tb.putR l x.op x.rt).2.2 = 0 ∧ ∃ k : Nat, (Tb.putR l x.op x.rt).2.1 = (k : Int) ∧ k ≠ f ∧ Tb.get (Tb.putR l x.op x.rt).1 (k : Int) = some ⟨true, x.op, x.rt⟩) := hR
  clear hR
  clear hv hU hx hh hg hSl
  generalize Tb.putR l x.op x.rt = R at *
  go_enter Try.func7, Try.ntmps7
  go_wp2_with fail
  refine HAL.out.mono ?_
  rintro e w1 ⟨rfl, hb1⟩
  have HB1 : Hid (Below w.heap.size w w1) := hb1
  clear hb1 HAL
  go_wp2_with fail
  refine (HG.out _ HB1.out).mono ?_
  rintro e w2 ⟨rfl, hb2⟩
  have HB2 : Hid (Below w.heap.size w (w2.alloc (.cells #[.int .i64 x.op, .int .i64 x.rt] 58))) := (HB1.out.trans (hb2.mono HB1.out.size)).alloc (by have := HB1.out.size; have := hb2.size; omega) _
  have HK2 : Hid (Blk (w2.alloc (.cells #[.int .i64 x.op, .int .i64 x.rt] 58)) w2.heap.size #[.int .i64 x.op, .int .i64 x.rt] 58) := Blk.new w2 _ _
  clear hb2 HB1 HG
  go_wp2_with fail
  generalize w2.alloc (.cells #[.int .i64 x.op, .int .i64 x.rt] 58) = W2 at *
  generalize w2.heap.size = G at *
  refine (HL.out _ HB2.out).mono ?_
  rintro e w3 ⟨v3, rfl, hn3⟩
  have HB3 : Hid (Below w.heap.size w w3) := HB2.out.trans (hn3.2.mono HB2.out.size)
  have HK3 : Hid (Blk w3 G #[.int .i64 x.op, .int .i64 x.rt] 58) := HK2.out.below hn3.2 HK2.out.lt
  clear hn3 HL HB2 HK2
  generalize Tb.limitR l f n = RL at *
  have hle := HLE.out
  clear HLE
  go_wp2_with fail
  generalize hWX : w3 = WX at *
  clear hWX
  have HBX : Hid (Below w.heap.size w WX) := HB3.out
  have HKX : Hid (Blk WX G #[.int .i64 x.op, .int .i64 x.rt] 58) := HK3.out
  clear HB3 HK3
  refine (HD.out _ HBX.out).mono ?_
  rintro e w8 ⟨v8, rfl, hn8⟩
  have HB8 : Hid (Below w.heap.size w w8) := HBX.out.trans (hn8.2.mono HBX.out.size)
  have HK8 : Hid (Blk w8 G #[.int .i64 x.op, .int .i64 x.rt] 58) := HKX.out.below hn8.2 HKX.out.lt
  have HV8 : Hid (Tab w8 (fun b => b < w8.heap.size) v8 R.1) := hn8.tab'
  clear hn8 HBX HKX HD
  obtain ⟨R1, R21, R22⟩ := R
  obtain ⟨hR, k, hk, hkf, hgk⟩ := HR.out
  clear HR
  replace hR : R22 = 0 := hR
  replace hk : R21 = (k : Int) := hk
  subst hR
  subst hk
  have HGK : Hid (Tb.get R1 (k : Int) = some ⟨true, x.op, x.rt⟩) := hgk
  have hkz : ((k : Int) != (f : Int)) = true := by simp; omega
  clear hgk hkf
  go_wp2_with fail
  have HG9 : Hid (Calls Try.prog 27 #[v8, .int .i64 k] w8 fun e w' => e = .returned (.tuple #[.agg #[.int .i64 x.op, .int .i64 x.rt], .int .i64 0]) ∧ Below w8.heap.size w8 w') := by
    have := tget_any R1 k v8 _ w8 HV8.out (fun _ h => h)
    rw [HGK.out] at this
    exact this
  refine HG9.out.mono ?_
  rintro e w9 ⟨rfl, hb9⟩
  have HB9 : Hid (Below w.heap.size w w9) := HB8.out.trans (hb9.mono HB8.out.size)
  have hK9 : Blk w9 G #[.int .i64 x.op, .int .i64 x.rt] 58 := HK8.out.below hb9 HK8.out.lt
  have hl9 := hK9.lt
  have k0 : w9.cell? ⟨G, 0, none⟩ = some (.int .i64 x.op) := hK9.cell 0
  have k1 : w9.cell? ⟨G, 1, none⟩ = some (.int .i64 x.rt) := hK9.cell 1
  have heq := eqCe x.op x.rt
  clear hb9 hK9 HB8 HK8 HV8 HG9 HGK
  go_wp2
  go_ret
  exact ⟨rfl, HB9.out.alloc HB9.out.size _⟩
set_option maxRecDepth 1000000 in
set_option maxHeartbeats 16000000 in
theorem tless_lim_ok (l : List Tb.Slt) (f : Nat) (x : Tb.Slt) (n need : Int) (v : Value) (w : World) (hv : Tab w (fun b => b < w.heap.size) v l) (hU : l.length * 24 ≤ 140737488355328) (hx : l[f]? = some x) (hh : x.has = true) (h0 : ¬ need < 0) (h1 : ¬ 4095 < need) (h2 : ¬ x.rt < 0) (h3 : ¬ 4095 < x.rt) (he : limE x n = 0) (hR : (Tb.putR l x.op x.rt).2.2 = 0 ∧ ∃ k : Nat, (Tb.putR l x.op x.rt).2.1 = (k : Int) ∧ k ≠ f ∧ Tb.get (Tb.putR l x.op x.rt).1 (k : Int) = some ⟨true, x.op, x.rt⟩) :
    Calls Try.prog 7 #[v, .int .i64 f, .int .i64 n, .int .i64 need] w fun e w' => e = .returned (.bool true) ∧ Below w.heap.size w w' := by
  have hSl : ∀ (W : World), Below w.heap.size w W → ∀ b, b < w.heap.size → b < W.heap.size := fun W hW b hb => Nat.lt_of_lt_of_le hb hW.size
  have hg := Tb.get_ok hx hh
  have HG : Hid (∀ W, Below w.heap.size w W → Calls Try.prog 27 #[v, .int .i64 f] W fun e w' => e = .returned (.tuple #[.agg #[.int .i64 x.op, .int .i64 x.rt], .int .i64 0]) ∧ Below W.heap.size W w') := fun W hW => by
    have := tget_any l f v _ W (hv.below hW (fun b hb => hb)) (hSl W hW)
    rw [hg] at this
    exact this
  have HL : Hid (∀ W, Below w.heap.size w W → Calls Try.prog 34 #[v, .int .i64 f, .int .i64 n] W fun e w' => ∃ v', e = .returned (.tuple #[v', .int .i64 (Tb.limitR l f n).2]) ∧ TabNew W w' v' (Tb.limitR l f n).1) := fun W hW => tlimit_any l f n v _ W (hv.below hW (fun b hb => hb)) (hSl W hW) hU (fun y hy => by rw [hg] at hy; cases hy; omega)
  have HD : Hid (∀ W, Below w.heap.size w W → Calls Try.prog 37 #[v, .int .i64 f] W fun e w' => ∃ v', e = .returned (.tuple #[v', .int .i64 (Tb.putR l x.op x.rt).2.1, .int .i64 (Tb.putR l x.op x.rt).2.2]) ∧ TabNew W w' v' (Tb.putR l x.op x.rt).1) := fun W hW => by
    have := tdup_any l f v _ W (hv.below hW (fun b hb => hb)) (hSl W hW) hU
    rw [dupR_some hg] at this
    exact this
  have HAL : Hid (Calls Try.prog 38 #[] w fun e w' => e = .returned (.bool true) ∧ Below w.heap.size w w') := talive_any w
  have hlr := limitR_ok hg he
  rw [Int.toNat_natCast] at hlr
  obtain ⟨hn0, hn1, hwn⟩ := limE_ok he
  have hfl := (List.getElem?_eq_some_iff.1 hx).1
  have hX : (l.set f ⟨true, x.op, n⟩)[f]? = some ⟨true, x.op, n⟩ := List.getElem?_set_self hfl
  have HGX : Hid (∀ v W, Tab W (fun b => b < W.heap.size) v (l.set f ⟨true, x.op, n⟩) → Calls Try.prog 27 #[v, .int .i64 f] W fun e w' => e = .returned (.tuple #[.agg #[.int .i64 x.op, .int .i64 n], .int .i64 0]) ∧ Below W.heap.size W w') := fun v W h => by
    have := tget_any (l.set f ⟨true, x.op, n⟩) f v _ W h (fun _ h => h)
    rw [Tb.get_ok hX rfl] at this
    exact this
  have HWX : Hid (∀ v W, Tab W (fun b => b < W.heap.size) v (l.set f ⟨true, x.op, n⟩) → Calls Try.prog 40 #[v, .int .i64 f, .int .i64 need] W fun e w' => e = .returned (.tuple #[withV ⟨true, x.op, n⟩ need, .int .i64 (withE ⟨true, x.op, n⟩ need)]) ∧ Below W.heap.size W w') := fun v W h => twith_ok (l.set f ⟨true, x.op, n⟩) f ⟨true, x.op, n⟩ need v _ W h (fun _ h => h) hX rfl hn0 hn1 (by omega) (by omega)
  have HWL : Hid (∀ W, Below w.heap.size w W → Calls Try.prog 40 #[v, .int .i64 f, .int .i64 need] W fun e w' => e = .returned (.tuple #[withV x need, .int .i64 (withE x need)]) ∧ Below W.heap.size W w') := fun W hW => twith_ok l f x need v _ W (hv.below hW (fun b hb => hb)) (hSl W hW) hx hh (by omega) (by omega) (by omega) (by omega)
  have HWI : Hid (∀ W, Calls Try.prog 39 #[.int .i64 n, .int .i64 x.rt] W fun e w' => e = .returned (.bool true) ∧ Below W.heap.size W w') := fun W => by
    obtain ⟨m, rfl⟩ := Int.eq_ofNat_of_zero_le hn0
    obtain ⟨r, hr'⟩ := Int.eq_ofNat_of_zero_le (by omega : 0 ≤ x.rt)
    have := rwithin m r (by omega) (by omega) W
    unfold Tb.withinZ at hwn
    rw [hr'] at hwn ⊢
    rw [show Tb.within m r = true from hwn] at this
    exact this
  have HLESS : Hid (withE ⟨true, x.op, n⟩ need = 0 → withE x need = 0) := fun h => withE_less (y := ⟨true, x.op, n⟩) hwn h
  have HT1 : Hid (withE ⟨true, x.op, n⟩ need = 0 ∨ withE ⟨true, x.op, n⟩ need = 10) := withE_two _ _
  have HT2 : Hid (withE x need = 0 ∨ withE x need = 10) := withE_two _ _
  obtain ⟨p1, q1, hv1⟩ := withV_form ⟨true, x.op, n⟩ need
  obtain ⟨p2, q2, hv2⟩ := withV_form x need
  rw [hv1] at HWX
  rw [hv2] at HWL
  rw [hlr] at HL
  clear hlr hn0 hn1 hwn hfl hX hv1 hv2 he
  generalize withE ⟨true, x.op, n⟩ need = E1 at *
  generalize withE x need = E2 at *
  have HR : Hid ((Tb.putR l x.op x.rt).2.2 = 0 ∧ ∃ k : Nat, (Tb.putR l x.op x.rt).2.1 = (k : Int) ∧ k ≠ f ∧ Tb.get (Tb.putR l x.op x.rt).1 (k : Int) = some ⟨true, x.op, x.rt⟩) := hR
  clear hR
  clear hv hU hx hh hg hSl
  generalize Tb.putR l x.op x.rt = R at *
  go_enter Try.func7, Try.ntmps7
  go_wp2_with fail
  refine HAL.out.mono ?_
  rintro e w1 ⟨rfl, hb1⟩
  have HB1 : Hid (Below w.heap.size w w1) := hb1
  clear hb1 HAL
  go_wp2_with fail
  refine (HG.out _ HB1.out).mono ?_
  rintro e w2 ⟨rfl, hb2⟩
  have HB2 : Hid (Below w.heap.size w (w2.alloc (.cells #[.int .i64 x.op, .int .i64 x.rt] 58))) := (HB1.out.trans (hb2.mono HB1.out.size)).alloc (by have := HB1.out.size; have := hb2.size; omega) _
  have HK2 : Hid (Blk (w2.alloc (.cells #[.int .i64 x.op, .int .i64 x.rt] 58)) w2.heap.size #[.int .i64 x.op, .int .i64 x.rt] 58) := Blk.new w2 _ _
  clear hb2 HB1 HG
  go_wp2_with fail
  generalize w2.alloc (.cells #[.int .i64 x.op, .int .i64 x.rt] 58) = W2 at *
  generalize w2.heap.size = G at *
  refine (HL.out _ HB2.out).mono ?_
  rintro e w3 ⟨v3, rfl, hn3⟩
  have HB3 : Hid (Below w.heap.size w w3) := HB2.out.trans (hn3.2.mono HB2.out.size)
  have HK3 : Hid (Blk w3 G #[.int .i64 x.op, .int .i64 x.rt] 58) := HK2.out.below hn3.2 HK2.out.lt
  have HV3 : Hid (Tab w3 (fun b => b < w3.heap.size) v3 (l.set f ⟨true, x.op, n⟩)) := hn3.tab'
  clear hn3 HL HB2 HK2
  go_wp2_with fail
  refine (HGX.out _ _ HV3.out).mono ?_
  rintro e w4 ⟨rfl, hb4⟩
  have HB4 : Hid (Below w3.heap.size w3 (w4.alloc (.cells #[.int .i64 x.op, .int .i64 n] 58))) := hb4.alloc hb4.size _
  have hK4 : Blk w4 G #[.int .i64 x.op, .int .i64 x.rt] 58 := HK3.out.below hb4 HK3.out.lt
  have HK4 : Hid (Blk (w4.alloc (.cells #[.int .i64 x.op, .int .i64 n] 58)) G #[.int .i64 x.op, .int .i64 x.rt] 58) := hK4.alloc _
  have hl4 := hK4.lt
  have k0 : w4.cell? ⟨G, 0, none⟩ = some (.int .i64 x.op) := hK4.cell 0
  have k1 : w4.cell? ⟨G, 1, none⟩ = some (.int .i64 x.rt) := hK4.cell 1
  clear hb4 hK4 HGX HK3
  go_wp2_with fail
  clear k0 k1 hl4
  generalize w4.alloc (.cells #[.int .i64 x.op, .int .i64 n] 58) = W4 at *
  generalize w4.heap.size = G4 at *
  refine (HWI.out _).mono ?_
  rintro e w5 ⟨rfl, hb5⟩
  have HB5 : Hid (Below w3.heap.size w3 w5) := HB4.out.trans (hb5.mono HB4.out.size)
  have HK5 : Hid (Blk w5 G #[.int .i64 x.op, .int .i64 x.rt] 58) := HK4.out.below hb5 HK4.out.lt
  clear hb5 HB4 HK4 HWI
  go_wp2_with fail
  refine (HWX.out _ _ (HV3.out.later' HB5.out)).mono ?_
  rintro e w6 ⟨rfl, hb6⟩
  have HB6 : Hid (Below w.heap.size w (w6.alloc (.cells #[.int .i64 p1, .int .i64 q1] 58))) := (HB3.out.trans ((HB5.out.trans (hb6.mono HB5.out.size)).mono HB3.out.size)).alloc (by have := HB3.out.size; have := HB5.out.size; have := hb6.size; omega) _
  have HK6 : Hid (Blk (w6.alloc (.cells #[.int .i64 p1, .int .i64 q1] 58)) G #[.int .i64 x.op, .int .i64 x.rt] 58) := (HK5.out.below hb6 HK5.out.lt).alloc _
  clear hb6 HB5 HK5 HWX HB3 HV3
  go_wp2_with fail
  generalize w6.alloc (.cells #[.int .i64 p1, .int .i64 q1] 58) = W6 at *
  generalize w6.heap.size = G6 at *
  refine (HWL.out _ HB6.out).mono ?_
  rintro e w7 ⟨rfl, hb7⟩
  have HBX : Hid (Below w.heap.size w (w7.alloc (.cells #[.int .i64 p2, .int .i64 q2] 58))) := (HB6.out.trans (hb7.mono HB6.out.size)).alloc (by have := HB6.out.size; have := hb7.size; omega) _
  have HKX : Hid (Blk (w7.alloc (.cells #[.int .i64 p2, .int .i64 q2] 58)) G #[.int .i64 x.op, .int .i64 x.rt] 58) := (HK6.out.below hb7 HK6.out.lt).alloc _
  clear hb7 HB6 HK6 HWL
  have hT1 := HT1.out
  have hT2 := HT2.out
  have hLS := HLESS.out
  clear HT1 HT2 HLESS
  have hcase : (E1 = 10) ∨ (E1 = 0 ∧ E2 = 0) := by
    rcases hT1 with h | h
    · exact Or.inr ⟨h, hLS h⟩
    · exact Or.inl h
  clear hT1 hT2 hLS
  rcases hcase with h | ⟨h, h'⟩
  · subst h
    go_wp2_with fail
    generalize w7.alloc (.cells #[.int .i64 p2, .int .i64 q2] 58) = WX at *
    refine (HD.out _ HBX.out).mono ?_
    rintro e w8 ⟨v8, rfl, hn8⟩
    have HB8 : Hid (Below w.heap.size w w8) := HBX.out.trans (hn8.2.mono HBX.out.size)
    have HK8 : Hid (Blk w8 G #[.int .i64 x.op, .int .i64 x.rt] 58) := HKX.out.below hn8.2 HKX.out.lt
    have HV8 : Hid (Tab w8 (fun b => b < w8.heap.size) v8 R.1) := hn8.tab'
    clear hn8 HBX HKX HD
    obtain ⟨R1, R21, R22⟩ := R
    obtain ⟨hR, k, hk, hkf, hgk⟩ := HR.out
    clear HR
    replace hR : R22 = 0 := hR
    replace hk : R21 = (k : Int) := hk
    subst hR
    subst hk
    have HGK : Hid (Tb.get R1 (k : Int) = some ⟨true, x.op, x.rt⟩) := hgk
    have hkz : ((k : Int) != (f : Int)) = true := by simp; omega
    clear hgk hkf
    go_wp2_with fail
    have HG9 : Hid (Calls Try.prog 27 #[v8, .int .i64 k] w8 fun e w' => e = .returned (.tuple #[.agg #[.int .i64 x.op, .int .i64 x.rt], .int .i64 0]) ∧ Below w8.heap.size w8 w') := by
      have := tget_any R1 k v8 _ w8 HV8.out (fun _ h => h)
      rw [HGK.out] at this
      exact this
    refine HG9.out.mono ?_
    rintro e w9 ⟨rfl, hb9⟩
    have HB9 : Hid (Below w.heap.size w w9) := HB8.out.trans (hb9.mono HB8.out.size)
    have hK9 : Blk w9 G #[.int .i64 x.op, .int .i64 x.rt] 58 := HK8.out.below hb9 HK8.out.lt
    have hl9 := hK9.lt
    have k0 : w9.cell? ⟨G, 0, none⟩ = some (.int .i64 x.op) := hK9.cell 0
    have k1 : w9.cell? ⟨G, 1, none⟩ = some (.int .i64 x.rt) := hK9.cell 1
    have heq := eqCe x.op x.rt
    clear hb9 hK9 HB8 HK8 HV8 HG9 HGK
    go_wp2
    go_ret
    exact ⟨rfl, HB9.out.alloc HB9.out.size _⟩
  · subst h
    subst h'
    go_wp2_with fail
    generalize w7.alloc (.cells #[.int .i64 p2, .int .i64 q2] 58) = WX at *
    refine (HD.out _ HBX.out).mono ?_
    rintro e w8 ⟨v8, rfl, hn8⟩
    have HB8 : Hid (Below w.heap.size w w8) := HBX.out.trans (hn8.2.mono HBX.out.size)
    have HK8 : Hid (Blk w8 G #[.int .i64 x.op, .int .i64 x.rt] 58) := HKX.out.below hn8.2 HKX.out.lt
    have HV8 : Hid (Tab w8 (fun b => b < w8.heap.size) v8 R.1) := hn8.tab'
    clear hn8 HBX HKX HD
    obtain ⟨R1, R21, R22⟩ := R
    obtain ⟨hR, k, hk, hkf, hgk⟩ := HR.out
    clear HR
    replace hR : R22 = 0 := hR
    replace hk : R21 = (k : Int) := hk
    subst hR
    subst hk
    have HGK : Hid (Tb.get R1 (k : Int) = some ⟨true, x.op, x.rt⟩) := hgk
    have hkz : ((k : Int) != (f : Int)) = true := by simp; omega
    clear hgk hkf
    go_wp2_with fail
    have HG9 : Hid (Calls Try.prog 27 #[v8, .int .i64 k] w8 fun e w' => e = .returned (.tuple #[.agg #[.int .i64 x.op, .int .i64 x.rt], .int .i64 0]) ∧ Below w8.heap.size w8 w') := by
      have := tget_any R1 k v8 _ w8 HV8.out (fun _ h => h)
      rw [HGK.out] at this
      exact this
    refine HG9.out.mono ?_
    rintro e w9 ⟨rfl, hb9⟩
    have HB9 : Hid (Below w.heap.size w w9) := HB8.out.trans (hb9.mono HB8.out.size)
    have hK9 : Blk w9 G #[.int .i64 x.op, .int .i64 x.rt] 58 := HK8.out.below hb9 HK8.out.lt
    have hl9 := hK9.lt
    have k0 : w9.cell? ⟨G, 0, none⟩ = some (.int .i64 x.op) := hK9.cell 0
    have k1 : w9.cell? ⟨G, 1, none⟩ = some (.int .i64 x.rt) := hK9.cell 1
    have heq := eqCe x.op x.rt
    clear hb9 hK9 HB8 HK8 HV8 HG9 HGK
    go_wp2
    go_ret
    exact ⟨rfl, HB9.out.alloc HB9.out.size _⟩
theorem tless_any (l : List Tb.Slt) (fd n need : Int) (v : Value) (w : World) (hv : Tab w (fun b => b < w.heap.size) v l) (hU : l.length * 24 ≤ 140737488355328) :
    Calls Try.prog 7 #[v, .int .i64 fd, .int .i64 n, .int .i64 need] w fun e w' => e = .returned (.bool true) ∧ Below w.heap.size w w' := by
  cases hg : Tb.get l fd with
  | none => exact tless_none l fd n need v w hv hg
  | some x =>
    obtain ⟨f, rfl, hx, hh⟩ := Tb.get_some hg
    by_cases h0 : need < 0
    · exact tless_need0 l f x n need v w hv hx hh h0
    by_cases h1 : 4095 < need
    · exact tless_need1 l f x n need v w hv hx hh h0 h1
    by_cases h2 : x.rt < 0
    · exact tless_rt0 l f x n need v w hv hx hh h0 h1 h2
    by_cases h3 : 4095 < x.rt
    · exact tless_rt1 l f x n need v w hv hx hh h0 h1 h2 h3
    rcases dup_kinds l f x hx hh with hR | hR | hR <;> by_cases he : limE x n = 0
    · exact tless_lim_range l f x n need v w hv hU hx hh h0 h1 h2 h3 he hR
    · exact tless_no_range l f x n need v w hv hU hx hh h0 h1 h2 h3 he hR
    · exact tless_lim_full l f x n need v w hv hU hx hh h0 h1 h2 h3 he hR
    · exact tless_no_full l f x n need v w hv hU hx hh h0 h1 h2 h3 he hR
    · exact tless_lim_ok l f x n need v w hv hU hx hh h0 h1 h2 h3 he hR
    · exact tless_no_ok l f x n need v w hv hU hx hh h0 h1 h2 h3 he hR
end Go.Proofs.Ytaobjpajbpoamaa
