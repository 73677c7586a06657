/-
  rgref5.SameSlots at equal tables, rgref5.Limit, walked.
-/
import Derived.Test.YtaobjpajbpoamaaTLimit
import Derived.Deep.RegionHeld3
import Derived.Laws.StructEq
namespace Go.Proofs.Ytaobjpajbpoamaa
open Go.RowKit
theorem tpart_0 (a b : Int) (w : World) : (part 3 #[.int .i64 a, .int .i64 b] 0).run Try.prog w = .ok (.int .i64 a) w := by kernel_rfl
theorem tpart_1 (a b : Int) (w : World) : (part 3 #[.int .i64 a, .int .i64 b] 1).run Try.prog w = .ok (.int .i64 b) w := by kernel_rfl
theorem fieldsC : Try.prog.underlying 58 = some (.struct (Try.prog.fieldsOf 58)) := by unfold Program.fieldsOf; rw [Try.underlying58]
theorem eqC' (n : Nat) (a b : Int) (w : World) : (Op.equalIn (n + 2) 58 (.agg #[.int .i64 a, .int .i64 b]) (.agg #[.int .i64 a, .int .i64 b])).run Try.prog w = .ok true w := by
  rw [run_equalIn_struct w (n + 1) 58 _ _ fieldsC (by kernel_rfl)]
  unfold Program.fieldsOf
  rw [Try.underlying58]
  have q := fun (x y : Int) (w : World) => run_equalIn_int (P := Try.prog) w n 3 .i64 .i64 x y Try.underlying3
  simp [Op.eqFields, tpart_0, tpart_1, q]
theorem eqC (a b : Int) (w : World) : (Op.equalIn 10000 58 (.agg #[.int .i64 a, .int .i64 b]) (.agg #[.int .i64 a, .int .i64 b])).run Try.prog w = .ok true w := eqC' 9998 a b w
theorem guardC : Try.prog.eqGuardType Try.prog.depth 58 = false := by kernel_rfl
theorem partS_0 (h : Bool) (a b : Int) (w : World) : (part 4 #[.bool h, .int .i64 a, .int .i64 b] 0).run Try.prog w = .ok (.bool h) w := by kernel_rfl
theorem partS_1 (h : Bool) (a b : Int) (w : World) : (part 58 #[.bool h, .int .i64 a, .int .i64 b] 1).run Try.prog w = .ok (.agg #[.int .i64 a, .int .i64 b]) w := by kernel_rfl
theorem fieldsS : Try.prog.underlying 60 = some (.struct (Try.prog.fieldsOf 60)) := by unfold Program.fieldsOf; rw [Try.underlying60]
theorem eqS' (n : Nat) (h : Bool) (a b : Int) (w : World) : (Op.equalIn (n + 3) 60 (.agg #[.bool h, .int .i64 a, .int .i64 b]) (.agg #[.bool h, .int .i64 a, .int .i64 b])).run Try.prog w = .ok true w := by
  rw [run_equalIn_struct w (n + 2) 60 _ _ fieldsS (by kernel_rfl)]
  unfold Program.fieldsOf
  rw [Try.underlying60]
  have q := fun (x y : Bool) (w : World) => run_equalIn_bool' (P := Try.prog) w (n + 1) 4 x y Try.underlying4
  have q' := fun (a b : Int) (w : World) => eqC' n a b w
  simp [Op.eqFields, partS_0, partS_1, q, q']
theorem eqS (h : Bool) (a b : Int) (w : World) : (Op.equalIn 10000 60 (.agg #[.bool h, .int .i64 a, .int .i64 b]) (.agg #[.bool h, .int .i64 a, .int .i64 b])).run Try.prog w = .ok true w := eqS' 9997 h a b w
theorem guardS : Try.prog.eqGuardType Try.prog.depth 60 = false := by kernel_rfl
theorem eqSlot (W : World) (x : Tb.Slt) : (binOp .neq 60 (.agg #[.bool x.has, .int .i64 x.op, .int .i64 x.rt]) (.agg #[.bool x.has, .int .i64 x.op, .int .i64 x.rt])).run Try.prog W = .ok (.bool false) W := by
  rw [run_neq_struct, eqS]
  rfl
set_option maxRecDepth 100000 in
set_option maxHeartbeats 4000000 in
theorem same_any (l : List Tb.Slt) (v v' : Value) (S S' : Nat → Prop) (w : World) (hv : Tab w S v l) (hv' : Tab w S' v' l) :
    Calls Try.prog 31 #[v, v'] w fun e w' => e = .returned (.bool true) ∧ Below w.heap.size w w' := by
  obtain ⟨a, c, rfl, hm⟩ := hv.form
  obtain ⟨a', c', rfl, -⟩ := hv'.form
  have HT : Hid (Tab w S (.slice a l.length c) l) := hv
  have HT' : Hid (Tab w S' (.slice a' l.length c') l) := hv'
  unfold maxLen at hm
  clear hv hv'
  go_enter Try.func31, Try.ntmps31
  go_wp2
  go_loopw [13] (fun i wr => ∃ k : Nat, k ≤ l.length ∧ i = .int .i64 k ∧ Below w.heap.size w wr ∧ wr.heap = w.heap) (fun i _ => l.length - (intOf i).toNat)
  case atStart => exact ⟨0, Nat.zero_le _, rfl, Below.refl _ _, rfl⟩
  case round =>
    obtain ⟨k, hk, rfl, hB, hW⟩ := hrel
    by_cases hlt : k < l.length
    · have hx : l[k]? = some l[k] := List.getElem?_eq_getElem hlt
      have ho : ∀ T : Nat → Prop, On T w wr := fun T b _ => by rw [hW]
      obtain ⟨b, o, c1, he, hb, hc, hm1, d0, d1, d2⟩ := (HT.out.on (ho S)).open hx
      obtain ⟨rfl, -, rfl⟩ := Value.slice.inj he
      obtain ⟨b', o', c2, he', hb', hc', hm2, d0', d1', d2'⟩ := (HT'.out.on (ho S')).open hx
      obtain ⟨rfl, -, rfl⟩ := Value.slice.inj he'
      have HB : Hid (Below w.heap.size w wr) := hB
      have HW : Hid (wr.heap = w.heap) := hW
      clear hx he he' hm1 hm2 hb hb' ho hB hW
      generalize l[k] = x at *
      have hq := fun W => eqSlot W x
      go_wp2_with fail
      go_region_held3 (fun w' => w'.cell? ⟨b, o + k * 3, none⟩ = some (.bool x.has) ∧ w'.cell? ⟨b, o + k * 3 + 1, none⟩ = some (.int .i64 x.op) ∧ w'.cell? ⟨b, o + k * 3 + 2, none⟩ = some (.int .i64 x.rt) ∧ w'.cell? ⟨b', o' + k * 3, none⟩ = some (.bool x.has) ∧ w'.cell? ⟨b', o' + k * 3 + 1, none⟩ = some (.int .i64 x.op) ∧ w'.cell? ⟨b', o' + k * 3 + 2, none⟩ = some (.int .i64 x.rt)) (go_keep) (fail)
      go_wp2
      exact ⟨⟨k + 1, by omega, by go_num, HB.out.drew, HW.out⟩, by simp [intOf]; omega⟩
    · obtain rfl : k = l.length := by omega
      go_wp2
      go_ret
      exact ⟨rfl, hB⟩
set_option maxRecDepth 100000 in
set_option maxHeartbeats 2000000 in
theorem rlimit_any (l : List Tb.Slt) (fd n : Int) (v : Value) (S : Nat → Prop) (w : World) (hv : Tab w S v l) (hS : ∀ b, S b → b < w.heap.size) (hU : l.length * 24 ≤ 140737488355328) (hr : ∀ x, Tb.get l fd = some x → 0 ≤ x.rt ∧ x.rt ≤ 4095) :
    Calls Try.prog 35 #[v, .int .i64 fd, .int .i64 n] w fun e w' => ∃ v', e = .returned (.tuple #[v', .int .i64 (Tb.limitR l fd n).2]) ∧ TabNew w w' v' (Tb.limitR l fd n).1 := by
  have HG0 := rget_any l fd v S w hv hS
  cases hg : Tb.get l fd with
  | none =>
    rw [hg] at HG0
    have HG : Hid (Calls Try.prog 28 #[v, .int .i64 fd] w fun e w' => e = .returned (.tuple #[.agg #[.int .i64 0, .int .i64 0], .int .i64 6]) ∧ Below w.heap.size w w') := HG0
    rw [limitR_none hg]
    show Calls Try.prog 35 #[v, .int .i64 fd, .int .i64 n] w fun e w' => ∃ v', e = .returned (.tuple #[v', .int .i64 6]) ∧ TabNew w w' v' []
    clear HG0 hg hr hv hS hU
    go_enter Try.func35, Try.ntmps35
    go_wp2_with fail
    refine HG.out.mono ?_
    rintro e w1 ⟨rfl, hb1⟩
    have HB : Hid (Below w.heap.size w w1) := hb1
    clear hb1
    go_wp2
    go_ret2
    exact ⟨_, rfl, Row.nil _ _ _ _ _, HB.out.alloc HB.out.size _⟩
  | some x =>
    rw [hg] at HG0
    have HG : Hid (Calls Try.prog 28 #[v, .int .i64 fd] w fun e w' => e = .returned (.tuple #[.agg #[.int .i64 x.op, .int .i64 x.rt], .int .i64 0]) ∧ Below w.heap.size w w') := HG0
    clear HG0
    have hr0 := hr x hg
    by_cases h1 : n < 0
    · have e : Tb.limitR l fd n = ([], 3) := by rw [limitR_some hg, if_pos (by unfold Tb.right; simp; omega)]
      rw [e]
      show Calls Try.prog 35 #[v, .int .i64 fd, .int .i64 n] w fun e w' => ∃ v', e = .returned (.tuple #[v', .int .i64 3]) ∧ TabNew w w' v' []
      clear hg hr hv hS hU hr0 e
      go_enter Try.func35, Try.ntmps35
      go_wp2_with fail
      refine HG.out.mono ?_
      rintro e w1 ⟨rfl, hb1⟩
      have HB : Hid (Below w.heap.size w w1) := hb1
      clear hb1
      go_wp2
      go_ret2
      exact ⟨_, rfl, Row.nil _ _ _ _ _, HB.out.alloc HB.out.size _⟩
    by_cases h2 : 4095 < n
    · have e : Tb.limitR l fd n = ([], 3) := by rw [limitR_some hg, if_pos (by unfold Tb.right; simp; omega)]
      rw [e]
      show Calls Try.prog 35 #[v, .int .i64 fd, .int .i64 n] w fun e w' => ∃ v', e = .returned (.tuple #[v', .int .i64 3]) ∧ TabNew w w' v' []
      clear hg hr hv hS hU hr0 e
      go_enter Try.func35, Try.ntmps35
      go_wp2_with fail
      refine HG.out.mono ?_
      rintro e w1 ⟨rfl, hb1⟩
      have HB : Hid (Below w.heap.size w w1) := hb1
      clear hb1
      go_wp2
      go_ret2
      exact ⟨_, rfl, Row.nil _ _ _ _ _, HB.out.alloc HB.out.size _⟩
    have hright : ¬ Tb.right n = false := by unfold Tb.right; simp; omega
    obtain ⟨m, rfl⟩ := Int.eq_ofNat_of_zero_le (by omega : 0 ≤ n)
    obtain ⟨r, hr'⟩ := Int.eq_ofNat_of_zero_le hr0.1
    have HW : Hid (∀ W, Calls Try.prog 39 #[.int .i64 (m : Int), .int .i64 x.rt] W fun e w' => e = .returned (.bool (Tb.withinZ (m : Int) x.rt)) ∧ Below W.heap.size W w') := fun W => by
      have := rwithin m r (by omega) (by omega) W
      unfold Tb.withinZ
      rw [hr']
      exact this
    cases hw : Tb.withinZ (m : Int) x.rt with
    | false =>
      have e : Tb.limitR l fd (m : Int) = ([], 10) := by rw [limitR_some hg, if_neg hright, if_pos hw]
      rw [e]
      show Calls Try.prog 35 #[v, .int .i64 fd, .int .i64 (m : Int)] w fun e w' => ∃ v', e = .returned (.tuple #[v', .int .i64 10]) ∧ TabNew w w' v' []
      rw [hw] at HW
      clear hg hr hv hS hU hr0 e hright hr' hw
      go_enter Try.func35, Try.ntmps35
      go_wp2_with fail
      refine HG.out.mono ?_
      rintro e w1 ⟨rfl, hb1⟩
      have HB : Hid (Below w.heap.size w (w1.alloc (.cells #[.int .i64 x.op, .int .i64 x.rt] 58))) := hb1.alloc hb1.size _
      clear hb1
      go_wp2_with fail
      refine (HW.out _).mono ?_
      rintro e w2 ⟨rfl, hb2⟩
      have HB2 : Hid (Below w.heap.size w w2) := HB.out.trans (hb2.mono HB.out.size)
      clear hb2
      go_wp2
      go_ret2
      exact ⟨_, rfl, Row.nil _ _ _ _ _, HB2.out⟩
    | true =>
      have e : Tb.limitR l fd (m : Int) = (l.set fd.toNat ⟨true, x.op, (m : Int)⟩, 0) := by rw [limitR_some hg, if_neg hright, if_neg (by rw [hw]; decide)]
      rw [e]
      rw [hw] at HW
      obtain ⟨k, rfl, hx, hh⟩ := Tb.get_some hg
      rw [Int.toNat_natCast]
      show Calls Try.prog 35 #[v, .int .i64 (k : Int), .int .i64 (m : Int)] w fun e w' => ∃ v', e = .returned (.tuple #[v', .int .i64 0]) ∧ TabNew w w' v' (l.set k ⟨true, x.op, (m : Int)⟩)
      obtain ⟨a, c, rfl, -⟩ := hv.form
      have HT : Hid (Tab w S (.slice a l.length c) l) := hv
      have HS : Hid (∀ b, S b → b < w.heap.size) := hS
      have HU : Hid (l.length * 24 ≤ 140737488355328) := hU
      have HX : Hid (l[k]? = some x) := hx
      have hk := (List.getElem?_eq_some_iff.1 hx).1
      clear hg hr hv hS hU hr0 e hright hr' hw hx hh
      go_enter Try.func35, Try.ntmps35
      go_wp2_with fail
      refine HG.out.mono ?_
      rintro e w1 ⟨rfl, hb1⟩
      have HB : Hid (Below w.heap.size w (w1.alloc (.cells #[.int .i64 x.op, .int .i64 x.rt] 58))) := hb1.alloc hb1.size _
      have HK : Hid (Blk (w1.alloc (.cells #[.int .i64 x.op, .int .i64 x.rt] 58)) w1.heap.size #[.int .i64 x.op, .int .i64 x.rt] 58) := Blk.new w1 _ _
      have hw1 := hb1.size
      clear hb1
      go_wp2_with fail
      refine (HW.out _).mono ?_
      rintro e w2 ⟨rfl, hb2⟩
      have HB2 : Hid (Below w.heap.size w w2) := HB.out.trans (hb2.mono HB.out.size)
      have hK2 : Blk w2 w1.heap.size #[.int .i64 x.op, .int .i64 x.rt] 58 := HK.out.below hb2 HK.out.lt
      have HK2 : Hid (Blk w2 w1.heap.size #[.int .i64 x.op, .int .i64 x.rt] 58) := hK2
      have hKl := hK2.lt
      clear hb2 HB HK hK2 HG HW
      go_wp2_with (with_reducible refine stop_t (.call { callee := .builtin .append, args := #[.tmp 31, .tmp 32], argTypes := #[56, 56] }) rfl ?_)
      unfold HoldT
      have hsz := HB2.out.size
      obtain ⟨i0, hi, hz0, hz1, hz2⟩ := info_parts Tb.infoSlot
      refine wpList_append_row rfl _ _ _ rfl w2.heap.size 60 i0 (.agg #[.bool false, .int .i64 0, .int .i64 0]) 3 24 Try.underlying56 hi hz0 hz1 hz2 rfl (by decide) _ [] rfl (Mine.empty0 w2 60 3) (.slice a l.length c) S (l.map tC) rfl (Row.on HT.out (((On.of HB2.out).less HS.out).trans ((On.alloc _ _).less fun b hb => by have := HS.out b hb; omega))) (even_t l) (ones_t l) ?_ (by decide) ?_ ?_
      · rw [List.length_map, List.length_nil, Nat.zero_add]; exact HU.out
      · simp
      intro v3 w3 ho3 hg3
      rw [List.nil_append] at ho3
      clear hi hz0 hz1 hz2
      have hB3 : Below w2.heap.size w2 w3 := ((Below.refl _ _).alloc (Nat.le_refl _) _).grown hg3 (by simp) (fun j hj => Nat.le_of_eq (Option.some.inj hj))
      have HB3 : Hid (Below w.heap.size w w3) := HB2.out.trans (hB3.mono hsz)
      have hK3 : Blk w3 w1.heap.size #[.int .i64 x.op, .int .i64 x.rt] 58 := HK2.out.below hB3 hKl
      have hKl3 := hK3.lt
      have d0 : w3.cell? ⟨w1.heap.size, 0, none⟩ = some (.int .i64 x.op) := hK3.cell 0
      have d1 : w3.cell? ⟨w1.heap.size, 1, none⟩ = some (.int .i64 x.rt) := hK3.cell 1
      obtain ⟨g, c2, rfl, hg0, hgl, hc2, hcm, hcell⟩ := t_own ho3 hk
      have hgw : w.heap.size ≤ g := by omega
      have HM5 : Hid (∀ W, W = ((w3.setCell ⟨g, k * 3, none⟩ (.bool true)).setCell ⟨g, k * 3 + 1, none⟩ (.int .i64 x.op)).setCell ⟨g, k * 3 + 2, none⟩ (.int .i64 (m : Int)) → TabNew w W (.slice (some ⟨g, 0, none⟩) l.length c2) (l.set k ⟨true, x.op, (m : Int)⟩)) := fun W hW => by
        subst hW
        exact ⟨(t_row (t_set ho3 k x ⟨true, x.op, (m : Int)⟩ HX.out)).more fun b hb => ⟨by omega, hb.2⟩, ((HB3.out.setCell hgw _).setCell hgw _).setCell hgw _⟩
      obtain ⟨⟨u0, a0⟩, b0⟩ := hcell (k * 3) (by omega)
      obtain ⟨⟨u1, a1⟩, b1⟩ := hcell (k * 3 + 1) (by omega)
      obtain ⟨⟨u2, a2⟩, b2⟩ := hcell (k * 3 + 2) (by omega)
      unfold maxLen at hcm
      clear hcell ho3 hg3 HB2 HK2 HB3 hB3 hK3 HT HS HU HX
      go_wp2
      go_ret2
      exact ⟨_, rfl, HM5.out _ rfl⟩
end Go.Proofs.Ytaobjpajbpoamaa
