/-
  table.Close, Limit, walked.
-/
import Derived.Test.YtaobjpajbpoamaaTClose
namespace Go.Proofs.Ytaobjpajbpoamaa
open Go.RowKit
theorem close1_any (x : Tb.Slt) (w : World) :
    Calls Try.prog 65 #[capV x] w fun e w' => e = .returned (.tuple #[.agg #[.bool false, .int .i64 0, .int .i64 0], .int .i64 0]) ∧ Below w.heap.size w w' := by
  unfold capV
  go_enter Try.func65, Try.ntmps65
  go_wp2
  refine bodyPost_ret (v := .tuple #[.agg #[.bool false, .int .i64 0, .int .i64 0], .int .i64 0]) (by simp [results, Try.results65, go_sem]) rfl ⟨rfl, ?_⟩
  exact ((Below.refl _ _).alloc (Nat.le_refl _) _).alloc (by simp) _
theorem close_by (x : Tb.Slt) (w : World) : ByAns (.func (.func 65) #[] #[]) x w Tb.none0 0 :=
  ⟨65, #[], rfl, enters_of Try.func65 (by kernel_rfl) rfl, fun W _ => close1_any x W⟩
set_option maxRecDepth 100000 in
set_option maxHeartbeats 2000000 in
theorem tclose_any (l : List Tb.Slt) (fd : Int) (v : Value) (S : Nat → Prop) (w : World) (hv : Tab w S v l) (hS : ∀ b, S b → b < w.heap.size) (hU : l.length * 24 ≤ 140737488355328) :
    Calls Try.prog 32 #[v, .int .i64 fd] w fun e w' => ∃ v', e = .returned (.tuple #[v', .int .i64 (Tb.closeR l fd).2]) ∧ TabNew w w' v' (Tb.closeR l fd).1 := by
  have HC : Hid (Calls Try.prog 64 #[v, .int .i64 fd, .func (.func 65) #[] #[]] w fun e w' => ∃ v' l', e = .returned (.tuple #[v', .int .i64 (Tb.closeR l fd).2]) ∧ TabNew w w' v' l' ∧ Tb.trim l' = (Tb.closeR l fd).1) := by
    cases hg : Tb.get l fd with
    | none =>
      have e : Tb.closeR l fd = ([], 6) := by unfold Tb.closeR; rw [hg]
      rw [e]
      refine (change_none l fd _ v S w hv hS hg).mono ?_
      rintro e w' ⟨rfl, hb⟩
      exact ⟨_, [], rfl, ⟨Row.nil _ _ _ _ _, hb⟩, rfl⟩
    | some x =>
      have e : Tb.closeR l fd = (Tb.trim (l.set fd.toNat Tb.none0), 0) := by unfold Tb.closeR; rw [hg]
      rw [e]
      obtain ⟨k, rfl, hx, hh⟩ := Tb.get_some hg
      refine (change_ok l k x Tb.none0 _ v S w hv hS hU hx hh (close_by x w)).mono ?_
      rintro e w' ⟨v', rfl, hn⟩
      exact ⟨v', _, rfl, hn, by rw [Int.toNat_natCast]⟩
  clear hv hS hU
  go_enter Try.func32, Try.ntmps32
  go_wp2_with fail
  refine HC.out.mono ?_
  rintro e w1 ⟨v1, l1, rfl, hn, ht⟩
  have HN : Hid (TabNew w w1 v1 l1) := hn
  have HT : Hid (Tb.trim l1 = (Tb.closeR l fd).1) := ht
  clear hn ht HC
  go_wp2_with fail
  refine (trim_any l1 v1 _ w1 HN.out.1).mono ?_
  rintro e w2 ⟨v2, rfl, hv2, rfl⟩
  have HV : Hid (TabNew w w2 v2 (Tb.closeR l fd).1) := by
    unfold Hid
    rw [← HT.out]
    exact ⟨hv2, HN.out.2⟩
  clear hv2 HN HT
  go_wp2
  go_ret2
  exact ⟨_, rfl, HV.out⟩
/-- What the function of Limit answers. -/
def limE (x : Tb.Slt) (n : Int) : Int := if Tb.right n = false then 3 else if Tb.withinZ n x.rt = false then 10 else 0
def limS (x : Tb.Slt) (n : Int) : Tb.Slt := if limE x n = 0 then ⟨true, x.op, n⟩ else Tb.none0
set_option maxHeartbeats 2000000 in
theorem limit1_any (x : Tb.Slt) (n : Int) (h0 : 0 ≤ x.rt) (h1 : x.rt ≤ 4095) (g : Nat) (w : World) (hg : w.cell? ⟨g, 0, none⟩ = some (.int .i64 n)) (hgl : g < w.heap.size) :
    Calls Try.prog 67 #[capV x, .pointer (some ⟨g, 0, none⟩)] w fun e w' => e = .returned (.tuple #[.agg #[.bool (limS x n).has, .int .i64 (limS x n).op, .int .i64 (limS x n).rt], .int .i64 (limE x n)]) ∧ Below w.heap.size w w' := by
  have HR : Hid (∀ W, Calls Try.prog 60 #[.int .i64 n] W fun e w' => e = .returned (.bool (Tb.right n)) ∧ w' = W) := fun W => rightsRight n W
  cases hr : Tb.right n with
  | false =>
    have e1 : limE x n = 3 := by unfold limE; rw [if_pos hr]
    have e2 : limS x n = Tb.none0 := by unfold limS; rw [e1]; rfl
    rw [e1, e2]
    show Calls Try.prog 67 #[.agg #[.int .i64 x.op, .int .i64 x.rt], .pointer (some ⟨g, 0, none⟩)] w fun e w' => e = .returned (.tuple #[.agg #[.bool false, .int .i64 0, .int .i64 0], .int .i64 3]) ∧ Below w.heap.size w w'
    rw [hr] at HR
    clear hr e1 e2
    go_enter Try.func67, Try.ntmps67
    go_wp2_with fail
    refine (HR.out _).mono ?_
    rintro e w1 ⟨rfl, rfl⟩
    go_wp2
    refine bodyPost_ret (v := .tuple #[.agg #[.bool false, .int .i64 0, .int .i64 0], .int .i64 3]) (by simp [results, Try.results67, go_sem]) rfl ⟨rfl, ?_⟩
    exact ((Below.refl _ _).alloc (Nat.le_refl _) _).alloc (by simp) _
  | true =>
    have hn := of_decide_eq_true hr
    obtain ⟨m, rfl⟩ := Int.eq_ofNat_of_zero_le hn.1
    obtain ⟨r, hr'⟩ := Int.eq_ofNat_of_zero_le h0
    have HW : Hid (∀ W, Calls Try.prog 68 #[.int .i64 (m : Int), .int .i64 x.rt] W fun e w' => e = .returned (.bool (Tb.withinZ (m : Int) x.rt)) ∧ w' = W) := fun W => by
      have := rightsWithin m r (by omega) (by omega) W
      unfold Tb.withinZ
      rw [hr']
      exact this
    rw [hr] at HR
    cases hw : Tb.withinZ (m : Int) x.rt with
    | false =>
      have e1 : limE x (m : Int) = 10 := by unfold limE; rw [if_neg (by rw [hr]; decide), if_pos hw]
      have e2 : limS x (m : Int) = Tb.none0 := by unfold limS; rw [e1]; rfl
      rw [e1, e2]
      show Calls Try.prog 67 #[.agg #[.int .i64 x.op, .int .i64 x.rt], .pointer (some ⟨g, 0, none⟩)] w fun e w' => e = .returned (.tuple #[.agg #[.bool false, .int .i64 0, .int .i64 0], .int .i64 10]) ∧ Below w.heap.size w w'
      rw [hw] at HW
      clear hr e1 e2 hw hn hr'
      go_enter Try.func67, Try.ntmps67
      go_wp2_with fail
      refine (HR.out _).mono ?_
      rintro e w1 ⟨rfl, rfl⟩
      go_wp2_with fail
      refine (HW.out _).mono ?_
      rintro e w1 ⟨rfl, rfl⟩
      go_wp2
      refine bodyPost_ret (v := .tuple #[.agg #[.bool false, .int .i64 0, .int .i64 0], .int .i64 10]) (by simp [results, Try.results67, go_sem]) rfl ⟨rfl, ?_⟩
      exact ((Below.refl _ _).alloc (Nat.le_refl _) _).alloc (by simp) _
    | true =>
      have e1 : limE x (m : Int) = 0 := by unfold limE; rw [if_neg (by rw [hr]; decide), if_neg (by rw [hw]; decide)]
      have e2 : limS x (m : Int) = ⟨true, x.op, (m : Int)⟩ := by unfold limS; rw [if_pos e1]
      rw [e1, e2]
      show Calls Try.prog 67 #[.agg #[.int .i64 x.op, .int .i64 x.rt], .pointer (some ⟨g, 0, none⟩)] w fun e w' => e = .returned (.tuple #[.agg #[.bool true, .int .i64 x.op, .int .i64 (m : Int)], .int .i64 0]) ∧ Below w.heap.size w w'
      rw [hw] at HW
      clear hr e1 e2 hw hn hr'
      go_enter Try.func67, Try.ntmps67
      go_wp2_with fail
      refine (HR.out _).mono ?_
      rintro e w1 ⟨rfl, rfl⟩
      go_wp2_with fail
      refine (HW.out _).mono ?_
      rintro e w1 ⟨rfl, rfl⟩
      go_wp2
      refine bodyPost_ret (v := .tuple #[.agg #[.bool true, .int .i64 x.op, .int .i64 (m : Int)], .int .i64 0]) (by simp [results, Try.results67, go_sem]) rfl ⟨rfl, ?_⟩
      exact ((Below.refl _ _).alloc (Nat.le_refl _) _).alloc (by simp) _
theorem limitR_none {l : List Tb.Slt} {fd n : Int} (hg : Tb.get l fd = none) : Tb.limitR l fd n = ([], 6) := by unfold Tb.limitR; rw [hg]
theorem limitR_some {l : List Tb.Slt} {fd n : Int} {x : Tb.Slt} (hg : Tb.get l fd = some x) : Tb.limitR l fd n = if Tb.right n = false then ([], 3) else if Tb.withinZ n x.rt = false then ([], 10) else (l.set fd.toNat ⟨true, x.op, n⟩, 0) := by unfold Tb.limitR; rw [hg]
theorem limitR_err {l : List Tb.Slt} {fd n : Int} {x : Tb.Slt} (hg : Tb.get l fd = some x) (he : limE x n ≠ 0) : Tb.limitR l fd n = ([], limE x n) := by
  rw [limitR_some hg]
  unfold limE at he ⊢
  by_cases h1 : Tb.right n = false
  · simp only [if_pos h1]
  · by_cases h2 : Tb.withinZ n x.rt = false
    · simp only [if_neg h1, if_pos h2]
    · simp only [if_neg h1, if_neg h2] at he; exact absurd rfl he
theorem limitR_ok {l : List Tb.Slt} {fd n : Int} {x : Tb.Slt} (hg : Tb.get l fd = some x) (he : limE x n = 0) : Tb.limitR l fd n = (l.set fd.toNat ⟨true, x.op, n⟩, 0) := by
  rw [limitR_some hg]
  unfold limE at he
  by_cases h1 : Tb.right n = false
  · simp only [if_pos h1] at he; exact absurd he (by decide)
  · by_cases h2 : Tb.withinZ n x.rt = false
    · simp only [if_neg h1, if_pos h2] at he; exact absurd he (by decide)
    · simp only [if_neg h1, if_neg h2]
theorem limS_ok {x : Tb.Slt} {n : Int} (he : limE x n = 0) : limS x n = ⟨true, x.op, n⟩ := by unfold limS; rw [if_pos he]
set_option maxRecDepth 100000 in
set_option maxHeartbeats 2000000 in
/-- Limit, at a slot whose rights are a set. -/
theorem tlimit_any (l : List Tb.Slt) (fd n : Int) (v : Value) (S : Nat → Prop) (w : World) (hv : Tab w S v l) (hS : ∀ b, S b → b < w.heap.size) (hU : l.length * 24 ≤ 140737488355328) (hr : ∀ x, Tb.get l fd = some x → 0 ≤ x.rt ∧ x.rt ≤ 4095) :
    Calls Try.prog 34 #[v, .int .i64 fd, .int .i64 n] w fun e w' => ∃ v', e = .returned (.tuple #[v', .int .i64 (Tb.limitR l fd n).2]) ∧ TabNew w w' v' (Tb.limitR l fd n).1 := by
  have HC : Hid (∀ W, Below w.heap.size w W → W.cell? ⟨w.heap.size, 0, none⟩ = some (.int .i64 n) → w.heap.size < W.heap.size → Calls Try.prog 64 #[v, .int .i64 fd, .func (.func 67) #[] #[.pointer (some ⟨w.heap.size, 0, none⟩)]] W fun e w' => ∃ v', e = .returned (.tuple #[v', .int .i64 (Tb.limitR l fd n).2]) ∧ TabNew W w' v' (Tb.limitR l fd n).1) := fun W hW hc hl => by
    have hvW := hv.below hW hS
    have hSW : ∀ b, S b → b < W.heap.size := fun b hb => by have := hS b hb; omega
    have by_ : ∀ x, Tb.get l fd = some x → ByAns (.func (.func 67) #[] #[.pointer (some ⟨w.heap.size, 0, none⟩)]) x W (limS x n) (limE x n) := fun x hx =>
      ⟨67, _, rfl, enters_of Try.func67 (by kernel_rfl) rfl, fun W' hW' => limit1_any x n (hr x hx).1 (hr x hx).2 w.heap.size W' (by rw [hW'.cell hl]; exact hc) (by have := hW'.size; omega)⟩
    cases hg : Tb.get l fd with
    | none =>
      rw [limitR_none hg]
      refine (change_none l fd _ v S W hvW hSW hg).mono ?_
      rintro e w' ⟨rfl, hb⟩
      exact ⟨_, rfl, Row.nil _ _ _ _ _, hb⟩
    | some x =>
      obtain ⟨k, rfl, hx, hh⟩ := Tb.get_some hg
      by_cases he : limE x n = 0
      · rw [limitR_ok hg he, Int.toNat_natCast, ← limS_ok he]
        have := by_ x hg
        rw [he] at this
        exact change_ok l k x (limS x n) _ v S W hvW hSW hU hx hh this
      · rw [limitR_err hg he]
        refine (change_err l k x (limS x n) (limE x n) he _ v S W hvW hSW hx hh (by_ x hg)).mono ?_
        rintro e w' ⟨rfl, hb⟩
        exact ⟨_, rfl, Row.nil _ _ _ _ _, hb⟩
  clear hv hS hU hr
  have HB0 : Hid (Below w.heap.size w (w.alloc (.cells #[.int .i64 n] 3))) := (Below.refl _ _).alloc (Nat.le_refl _) _
  have HK0 : Hid (Blk (w.alloc (.cells #[.int .i64 n] 3)) w.heap.size #[.int .i64 n] 3) := Blk.new w _ _
  go_enter Try.func34, Try.ntmps34
  go_wp2_with fail
  refine (HC.out _ HB0.out (HK0.out.cell 0) HK0.out.lt).mono ?_
  rintro e w1 ⟨v1, rfl, hn⟩
  have HN : Hid (TabNew w w1 v1 (Tb.limitR l fd n).1) := ⟨hn.1.more fun b hb => ⟨by have := HB0.out.size; omega, hb.2⟩, HB0.out.trans (hn.2.mono HB0.out.size)⟩
  clear hn HC HB0 HK0
  go_wp2
  go_ret2
  exact ⟨_, rfl, HN.out⟩
end Go.Proofs.Ytaobjpajbpoamaa
