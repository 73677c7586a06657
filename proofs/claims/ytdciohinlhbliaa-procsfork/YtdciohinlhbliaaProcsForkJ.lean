/-
  ProcsFork returns true for all bytes and processes, and leaves its arguments alone: the child has what the parent has, and nothing else. No condition.
-/
import Derived.Test.YtdciohinlhbliaaJQ
import Derived.Test.YtdciohinlhbliaaJSG
import Derived.Test.YtdciohinlhbliaaRows
/-
  Plain facts of a kernel in which a process has forked.
-/
namespace Go.Proofs.Ytdciohinlhbliaa
open Go.RowKit
open Wp
namespace Pr
theorem opened_ne {K : Kn} {p k i : Nat} {x : Sp.Prc} {obj : Int} {l : List Tb.Slt} (h : i ≠ p) : (opened K p x k obj l).P[i]? = K.P[i]? := by
  show (K.P.set p _)[i]? = _
  rw [List.getElem?_set, if_neg (fun e => h e.symm)]
/-- A kernel in which process c is k's child. -/
structure FX (K X : Kn) (k c at' : Nat) (x : Sp.Prc) : Prop where
  par : ∃ y : Sp.Prc, X.P[k]? = some y ∧ y.slots.map toT = x.slots.map toT ++ [⟨true, (at' : Int), 3200⟩]
  child : X.P[c]? = some ⟨true, x.fenced, 0, x.slots⟩
  other : ∀ i, i ≠ k → i ≠ c → i < K.P.length → X.P[i]? = K.P[i]?
  len : X.P.length = max K.P.length (c + 1)
  opn : X.O[at']? = some ⟨(madeAt K.L : Nat), 0⟩
  olen : X.O.length = max K.O.length (at' + 1)
  obj : X.L[madeAt K.L]? = some (kid c)
theorem fx_of {K : Kn} {k c at' : Nat} {x : Sp.Prc} (hx : K.P[k]? = some x) (hck : c ≠ k) : FX K (opened (forked K c x) k x at' (madeAt K.L : Nat) (x.slots.map toT ++ [⟨true, (at' : Int), 3200⟩])) k c at' x := by
  have hk := (List.getElem?_eq_some_iff.1 hx).1
  have h1 : (forked K c x).P[k]? = some x := by
    show (laid K.P _ c _)[k]? = _
    rw [laid_get, if_neg (fun e => hck e.symm), if_pos hk]
    exact hx
  have h2 : (forked K c x).P[c]? = some ⟨true, x.fenced, 0, x.slots⟩ := by
    show (laid K.P _ c _)[c]? = _
    rw [laid_get, if_pos rfl]
  refine ⟨⟨_, opened_proc h1, toT_ofT _⟩, ?_, fun i hik hic hi => ?_, ?_, opened_open, ?_, madeL_at _ _⟩
  · rw [opened_ne hck]; exact h2
  · rw [opened_ne hik]
    show (laid K.P _ c _)[i]? = _
    rw [laid_get, if_neg hic, if_pos hi]
  · rw [opened_procs]; exact laid_len ..
  · rw [opened_len]; rfl
end Pr
/-- An object's cell of its process. -/
theorem KernAt.kid {w : World} {b c : Value} {oa : Option Addr} {n oc : Nat} {K : Kn} (h : KernAt w (.slice oa n oc) b c K) {k : Nat} {x : Sp.Ob} (hx : K.L[k]? = some x) : ∃ g o : Nat, oa = some ⟨g, o, none⟩ ∧ n = K.L.length ∧ n ≤ oc ∧ oc ≤ maxLen ∧ g < w.heap.size ∧ w.cell? ⟨g, o + k * 9 + 6, none⟩ = some (.int .i64 x.proc) := by
  obtain ⟨⟨ts, hts, hrow, -⟩, -, -⟩ := h
  have hk := (List.getElem?_eq_some_iff.1 hx).1
  have hl : K.L.length = ts.length := by rw [hts, List.length_map]
  obtain ⟨t, ht⟩ : ∃ t, ts[k]? = some t := ⟨_, List.getElem?_eq_getElem (by omega)⟩
  have hx' : t.2 = x := by
    rw [hts, List.getElem?_map, ht] at hx
    simpa using hx
  subst hx'
  obtain ⟨g, o, c', he, hS, hc, hm, h5⟩ := Row.some hrow (by rw [List.length_map]; omega)
  obtain ⟨rfl, rfl, rfl⟩ := Value.slice.inj he
  rw [List.length_map] at hc ⊢
  have hi := h5 k (objC t) (by rw [List.getElem?_map, ht]; rfl)
  exact ⟨g, o, rfl, hl.symm, hc, hm, hS, hi 6 _ rfl⟩
end Go.Proofs.Ytdciohinlhbliaa

/-
  rgref5.Close, walked.
-/
namespace Go.Proofs.Ytdciohinlhbliaa
open Go.RowKit
theorem t_take' {w : World} {S : Nat → Prop} {b o c n : Nat} {l : List Tb.Slt} (h : Tab w S (.slice (some ⟨b, o, none⟩) l.length c) l) (hn : n ≤ l.length) : Tab w S (.slice (some ⟨b, o, none⟩) n c) (l.take n) := by
  cases n with
  | zero => exact Row.nil _ _ _ _ _
  | succ m => exact t_take h hn
theorem set_take_lt (l : List Tb.Slt) (f k : Nat) (y x : Tb.Slt) (hx : (l.set f y)[k]? = some x) : (l.set f y).take (k + 1) = (l.set f y).take k ++ [x] := by
  obtain ⟨hk, rfl⟩ := List.getElem?_eq_some_iff.1 hx
  exact List.take_succ_eq_append_getElem hk
set_option maxRecDepth 100000 in
set_option maxHeartbeats 4000000 in
theorem rclose_ok (l : List Tb.Slt) (f : Nat) (x0 : Tb.Slt) (v : Value) (S : Nat → Prop) (w : World) (hv : Tab w S v l) (hS : ∀ b, S b → b < w.heap.size) (hU : l.length * 24 ≤ 140737488355328) (hx0 : l[f]? = some x0) (hh0 : x0.has = true) :
    Calls Try.prog 23 #[v, .int .i64 f] w fun e w' => ∃ v', e = .returned (.tuple #[v', .int .i64 0]) ∧ TabNew w w' v' (Tb.trim (l.set f Tb.none0)) := by
  have HG : Hid (Calls Try.prog 21 #[v, .int .i64 f] w fun e w' => e = .returned (.tuple #[.agg #[.int .i64 x0.op, .int .i64 x0.rt], .int .i64 0]) ∧ Below w.heap.size w w') := by have := rget_any l f v S w hv hS; rw [Tb.get_ok hx0 hh0] at this; exact this
  obtain ⟨a, c, rfl, hm⟩ := hv.form
  have HT : Hid (Tab w S (.slice a l.length c) l) := hv
  have HS : Hid (∀ b, S b → b < w.heap.size) := hS
  have HU : Hid (l.length * 24 ≤ 140737488355328) := hU
  have hfl := (List.getElem?_eq_some_iff.1 hx0).1
  unfold maxLen at hm
  clear hv hS hU hx0 hh0
  go_enter Try.func23, Try.ntmps23
  go_wp2_with fail
  refine HG.out.mono ?_
  rintro e w1 ⟨rfl, hb1⟩
  have HB1 : Hid (Below w.heap.size w (w1.alloc (.cells #[.int .i64 x0.op, .int .i64 x0.rt] 50))) := hb1.alloc hb1.size _
  clear hb1 HG
  go_wp2_with fail
  generalize w1.alloc (.cells #[.int .i64 x0.op, .int .i64 x0.rt] 50) = w2 at *
  generalize w1.heap.size = G1 at *
  go_loopw [8, 9, 23] (fun r la i wr => ∃ k : Nat, k ≤ l.length ∧ i = .int .i64 k ∧ la = .int .i64 (Tb.lastN ((l.set f Tb.none0).take k) : Nat) ∧ Mine wr w.heap.size 87 3 r (((l.set f Tb.none0).take k).map tC) ∧ Below w.heap.size w wr) (fun _ _ i _ => l.length - (intOf i).toNat)
  case atStart => exact ⟨0, Nat.zero_le _, rfl, rfl, Mine.nil _ _ _ _, HB1.out⟩
  case round =>
    obtain ⟨k, hk, rfl, rfl, hM, hB⟩ := hrel
    have HM : Hid (Mine wr w.heap.size 87 3 u8 (((l.set f Tb.none0).take k).map tC)) := hM
    have HB : Hid (Below w.heap.size w wr) := hB
    have hll : (l.set f Tb.none0).length = l.length := List.length_set
    have HLL : Hid ((l.set f Tb.none0).length = l.length) := hll
    have hla : Tb.lastN ((l.set f Tb.none0).take k) ≤ k := Nat.le_trans (Tb.lastN_le _) (by rw [List.length_take]; omega)
    clear hM hll
    by_cases hlt : k < l.length
    · have hx : l[k]? = some l[k] := List.getElem?_eq_getElem hlt
      obtain ⟨b, o, c', he, hb, hc, hm', c0, c1, c2⟩ := (HT.out.below hB HS.out).open hx
      obtain ⟨rfl, -, rfl⟩ := Value.slice.inj he
      have hbl : b < wr.heap.size := by have := HS.out b hb; have := hB.size; omega
      have HX : Hid (l[k]? = some l[k]) := hx
      clear hx he hm' hb hB
      generalize l[k] = x at *
      by_cases hkf : k = f
      · have HY : Hid ((l.set f Tb.none0)[k]? = some Tb.none0) := by unfold Hid; rw [hkf, List.getElem?_set_self hfl]
        have HTK : Hid ((l.set f Tb.none0).take (k + 1) = (l.set f Tb.none0).take k ++ [Tb.none0]) := set_take_lt l f k _ _ HY.out
        have HLN : Hid (Tb.lastN ((l.set f Tb.none0).take (k + 1)) = Tb.lastN ((l.set f Tb.none0).take k)) := by unfold Hid; rw [HTK.out, Tb.lastN_snoc]; exact if_neg (by decide)
        have HTL : Hid (((l.set f Tb.none0).take k).length = k) := by unfold Hid; rw [List.length_take, HLL.out]; omega
        have hkz : (k : Int) = (f : Int) := by omega
        clear HX HY HLL hkz
        have hfk : f = k := hkf.symm
        clear hkf
        subst hfk
        generalize hN0 : Tb.lastN ((l.set f Tb.none0).take f) = N0 at *
        have HN0 : Hid (Tb.lastN ((l.set f Tb.none0).take f) = N0) := hN0
        clear hN0
        go_wp2_with (with_reducible refine stop_t (.call { callee := .builtin .append, args := #[.tmp 32, .tmp 34], argTypes := #[41, 41] }) rfl ?_)
        unfold HoldT
        clear c0 c1 c2
        have HB3 : Hid (Below w.heap.size w (wr.alloc (.cells #[.bool false, .int .i64 0, .int .i64 0] 87))) := HB.out.alloc HB.out.size _
        have HM3 : Hid (Mine (wr.alloc (.cells #[.bool false, .int .i64 0, .int .i64 0] 87)) w.heap.size 87 3 u8 (((l.set f Tb.none0).take f).map tC)) := HM.out.on (On.alloc _ _) fun g hg => (HM.out.lt g hg).2
        have HK3 : Hid (Blk (wr.alloc (.cells #[.bool false, .int .i64 0, .int .i64 0] 87)) wr.heap.size #[.bool false, .int .i64 0, .int .i64 0] 87) := Blk.new wr _ _
        have HNG : Hid (∀ g, u8.ownBlock = some g → g ≠ wr.heap.size) := fun g hg => by have := (HM.out.lt g hg).2; omega
        have hz3 : (wr.alloc (.cells #[.bool false, .int .i64 0, .int .i64 0] 87)).heap.size = wr.heap.size + 1 := by simp
        clear HM HB
        generalize wr.alloc (.cells #[.bool false, .int .i64 0, .int .i64 0] 87) = W3 at *
        have HR3 : Hid (Row (W3.alloc (.cells #[.bool false, .int .i64 0, .int .i64 0] 87)) (fun b => b = wr.heap.size + 1) 3 (.slice (some ⟨wr.heap.size + 1, 0, none⟩) 1 1) ([(⟨false, 0, 0⟩ : Tb.Slt)].map tC)) := by
          have := t_one (x := (⟨false, 0, 0⟩ : Tb.Slt)) (Blk.new W3 (tC ⟨false, 0, 0⟩).toArray 87)
          rw [hz3] at this
          exact this
        have HM4 : Hid (Mine (W3.alloc (.cells #[.bool false, .int .i64 0, .int .i64 0] 87)) w.heap.size 87 3 u8 (((l.set f Tb.none0).take f).map tC)) := HM3.out.on (On.alloc _ _) fun g hg => (HM3.out.lt g hg).2
        have HB4 : Hid (Below w.heap.size w (W3.alloc (.cells #[.bool false, .int .i64 0, .int .i64 0] 87))) := HB3.out.alloc HB3.out.size _
        have HK4 : Hid (Blk (W3.alloc (.cells #[.bool false, .int .i64 0, .int .i64 0] 87)) wr.heap.size #[.bool false, .int .i64 0, .int .i64 0] 87) := HK3.out.alloc _
        clear HM3 HB3 HK3 hz3
        generalize W3.alloc (.cells #[.bool false, .int .i64 0, .int .i64 0] 87) = W4 at *
        obtain ⟨i0, hi, hz0, hz1, hz2⟩ := info_parts Tb.infoSlot
        refine wpList_append_row rfl _ _ _ rfl w.heap.size 87 i0 (.agg #[.bool false, .int .i64 0, .int .i64 0]) 3 24 Try.underlying41 hi hz0 hz1 hz2 rfl (by decide) _ (((l.set f Tb.none0).take f).map tC) rfl HM4.out _ _ _ rfl HR3.out (even_t _) (ones_t _) ?_ (by decide) HB4.out.size ?_
        · rw [List.length_map, HTL.out, List.length_map, List.length_cons, List.length_nil]; have := HU.out; omega
        intro v5 W5 ho5 hg5
        clear hi hz0 hz1 hz2
        have HB5 : Hid (Below w.heap.size w W5) := HB4.out.grown hg5 HB4.out.size (fun j hj => (HM4.out.lt j hj).1)
        have HM5 : Hid (Mine W5 w.heap.size 87 3 v5 (((l.set f Tb.none0).take (f + 1)).map tC)) := by
          unfold Hid
          rw [HTK.out, List.map_append]
          exact ho5
        have hK5 : Blk W5 wr.heap.size #[.bool false, .int .i64 0, .int .i64 0] 87 := (hg5.block wr.heap.size HK4.out.lt (fun e => HNG.out _ e.symm rfl)).trans HK4.out
        have d0 : W5.cell? ⟨wr.heap.size, 0, none⟩ = some (.bool false) := hK5.cell 0
        clear ho5 hg5 HM4 HR3 HB4 HK4 hK5 HNG HTK HTL
        go_wp2
        exact ⟨⟨f + 1, by omega, by go_num, by rw [HLN.out], HM5.out, HB5.out⟩, by simp [intOf]; omega⟩
      · have HY : Hid ((l.set f Tb.none0)[k]? = some x) := by unfold Hid; rw [List.getElem?_set_ne (by omega)]; exact HX.out
        have HTK : Hid ((l.set f Tb.none0).take (k + 1) = (l.set f Tb.none0).take k ++ [x]) := set_take_lt l f k _ _ HY.out
        have HTL : Hid (((l.set f Tb.none0).take k).length = k) := by unfold Hid; rw [List.length_take, HLL.out]; omega
        have HLN : Hid (Tb.lastN ((l.set f Tb.none0).take (k + 1)) = if x.has = true then k + 1 else Tb.lastN ((l.set f Tb.none0).take k)) := by unfold Hid; rw [HTK.out, Tb.lastN_snoc, HTL.out]
        have hkz : ¬ (k : Int) = (f : Int) := by omega
        clear HX HY HLL
        generalize hN0 : Tb.lastN ((l.set f Tb.none0).take k) = N0 at *
        have HN0 : Hid (Tb.lastN ((l.set f Tb.none0).take k) = N0) := hN0
        clear hN0
        obtain ⟨xh, xo, xr⟩ := x
        dsimp only at c0 c1 c2 HLN HTK
        cases xh with
        | false =>
          go_wp2_with (with_reducible refine stop_t (.call { callee := .builtin .append, args := #[.tmp 32, .tmp 34], argTypes := #[41, 41] }) rfl ?_)
          unfold HoldT
          clear c0 c1 c2
          have HB3 : Hid (Below w.heap.size w (wr.alloc (.cells #[.bool false, .int .i64 xo, .int .i64 xr] 87))) := HB.out.alloc HB.out.size _
          have HM3 : Hid (Mine (wr.alloc (.cells #[.bool false, .int .i64 xo, .int .i64 xr] 87)) w.heap.size 87 3 u8 (((l.set f Tb.none0).take k).map tC)) := HM.out.on (On.alloc _ _) fun g hg => (HM.out.lt g hg).2
          have HK3 : Hid (Blk (wr.alloc (.cells #[.bool false, .int .i64 xo, .int .i64 xr] 87)) wr.heap.size #[.bool false, .int .i64 xo, .int .i64 xr] 87) := Blk.new wr _ _
          have HNG : Hid (∀ g, u8.ownBlock = some g → g ≠ wr.heap.size) := fun g hg => by have := (HM.out.lt g hg).2; omega
          have hz3 : (wr.alloc (.cells #[.bool false, .int .i64 xo, .int .i64 xr] 87)).heap.size = wr.heap.size + 1 := by simp
          clear HM HB
          generalize wr.alloc (.cells #[.bool false, .int .i64 xo, .int .i64 xr] 87) = W3 at *
          have HR3 : Hid (Row (W3.alloc (.cells #[.bool false, .int .i64 xo, .int .i64 xr] 87)) (fun b => b = wr.heap.size + 1) 3 (.slice (some ⟨wr.heap.size + 1, 0, none⟩) 1 1) ([(⟨false, xo, xr⟩ : Tb.Slt)].map tC)) := by
            have := t_one (x := (⟨false, xo, xr⟩ : Tb.Slt)) (Blk.new W3 (tC ⟨false, xo, xr⟩).toArray 87)
            rw [hz3] at this
            exact this
          have HM4 : Hid (Mine (W3.alloc (.cells #[.bool false, .int .i64 xo, .int .i64 xr] 87)) w.heap.size 87 3 u8 (((l.set f Tb.none0).take k).map tC)) := HM3.out.on (On.alloc _ _) fun g hg => (HM3.out.lt g hg).2
          have HB4 : Hid (Below w.heap.size w (W3.alloc (.cells #[.bool false, .int .i64 xo, .int .i64 xr] 87))) := HB3.out.alloc HB3.out.size _
          have HK4 : Hid (Blk (W3.alloc (.cells #[.bool false, .int .i64 xo, .int .i64 xr] 87)) wr.heap.size #[.bool false, .int .i64 xo, .int .i64 xr] 87) := HK3.out.alloc _
          clear HM3 HB3 HK3 hz3
          generalize W3.alloc (.cells #[.bool false, .int .i64 xo, .int .i64 xr] 87) = W4 at *
          obtain ⟨i0, hi, hz0, hz1, hz2⟩ := info_parts Tb.infoSlot
          refine wpList_append_row rfl _ _ _ rfl w.heap.size 87 i0 (.agg #[.bool false, .int .i64 0, .int .i64 0]) 3 24 Try.underlying41 hi hz0 hz1 hz2 rfl (by decide) _ (((l.set f Tb.none0).take k).map tC) rfl HM4.out _ _ _ rfl HR3.out (even_t _) (ones_t _) ?_ (by decide) HB4.out.size ?_
          · rw [List.length_map, HTL.out, List.length_map, List.length_cons, List.length_nil]; have := HU.out; omega
          intro v5 W5 ho5 hg5
          clear hi hz0 hz1 hz2
          have HB5 : Hid (Below w.heap.size w W5) := HB4.out.grown hg5 HB4.out.size (fun j hj => (HM4.out.lt j hj).1)
          have HM5 : Hid (Mine W5 w.heap.size 87 3 v5 (((l.set f Tb.none0).take (k + 1)).map tC)) := by
            unfold Hid
            rw [HTK.out, List.map_append]
            exact ho5
          have hK5 : Blk W5 wr.heap.size #[.bool false, .int .i64 xo, .int .i64 xr] 87 := (hg5.block wr.heap.size HK4.out.lt (fun e => HNG.out _ e.symm rfl)).trans HK4.out
          have d0 : W5.cell? ⟨wr.heap.size, 0, none⟩ = some (.bool false) := hK5.cell 0
          clear ho5 hg5 HM4 HR3 HB4 HK4 hK5 HNG HTK HTL
          go_wp2
          exact ⟨⟨k + 1, by omega, by go_num, by rw [HLN.out]; rfl, HM5.out, HB5.out⟩, by simp [intOf]; omega⟩

        | true =>
          go_wp2_with (with_reducible refine stop_t (.call { callee := .builtin .append, args := #[.tmp 32, .tmp 34], argTypes := #[41, 41] }) rfl ?_)
          unfold HoldT
          clear c0 c1 c2
          have HB3 : Hid (Below w.heap.size w (wr.alloc (.cells #[.bool true, .int .i64 xo, .int .i64 xr] 87))) := HB.out.alloc HB.out.size _
          have HM3 : Hid (Mine (wr.alloc (.cells #[.bool true, .int .i64 xo, .int .i64 xr] 87)) w.heap.size 87 3 u8 (((l.set f Tb.none0).take k).map tC)) := HM.out.on (On.alloc _ _) fun g hg => (HM.out.lt g hg).2
          have HK3 : Hid (Blk (wr.alloc (.cells #[.bool true, .int .i64 xo, .int .i64 xr] 87)) wr.heap.size #[.bool true, .int .i64 xo, .int .i64 xr] 87) := Blk.new wr _ _
          have HNG : Hid (∀ g, u8.ownBlock = some g → g ≠ wr.heap.size) := fun g hg => by have := (HM.out.lt g hg).2; omega
          have hz3 : (wr.alloc (.cells #[.bool true, .int .i64 xo, .int .i64 xr] 87)).heap.size = wr.heap.size + 1 := by simp
          clear HM HB
          generalize wr.alloc (.cells #[.bool true, .int .i64 xo, .int .i64 xr] 87) = W3 at *
          have HR3 : Hid (Row (W3.alloc (.cells #[.bool true, .int .i64 xo, .int .i64 xr] 87)) (fun b => b = wr.heap.size + 1) 3 (.slice (some ⟨wr.heap.size + 1, 0, none⟩) 1 1) ([(⟨true, xo, xr⟩ : Tb.Slt)].map tC)) := by
            have := t_one (x := (⟨true, xo, xr⟩ : Tb.Slt)) (Blk.new W3 (tC ⟨true, xo, xr⟩).toArray 87)
            rw [hz3] at this
            exact this
          have HM4 : Hid (Mine (W3.alloc (.cells #[.bool true, .int .i64 xo, .int .i64 xr] 87)) w.heap.size 87 3 u8 (((l.set f Tb.none0).take k).map tC)) := HM3.out.on (On.alloc _ _) fun g hg => (HM3.out.lt g hg).2
          have HB4 : Hid (Below w.heap.size w (W3.alloc (.cells #[.bool true, .int .i64 xo, .int .i64 xr] 87))) := HB3.out.alloc HB3.out.size _
          have HK4 : Hid (Blk (W3.alloc (.cells #[.bool true, .int .i64 xo, .int .i64 xr] 87)) wr.heap.size #[.bool true, .int .i64 xo, .int .i64 xr] 87) := HK3.out.alloc _
          clear HM3 HB3 HK3 hz3
          generalize W3.alloc (.cells #[.bool true, .int .i64 xo, .int .i64 xr] 87) = W4 at *
          obtain ⟨i0, hi, hz0, hz1, hz2⟩ := info_parts Tb.infoSlot
          refine wpList_append_row rfl _ _ _ rfl w.heap.size 87 i0 (.agg #[.bool false, .int .i64 0, .int .i64 0]) 3 24 Try.underlying41 hi hz0 hz1 hz2 rfl (by decide) _ (((l.set f Tb.none0).take k).map tC) rfl HM4.out _ _ _ rfl HR3.out (even_t _) (ones_t _) ?_ (by decide) HB4.out.size ?_
          · rw [List.length_map, HTL.out, List.length_map, List.length_cons, List.length_nil]; have := HU.out; omega
          intro v5 W5 ho5 hg5
          clear hi hz0 hz1 hz2
          have HB5 : Hid (Below w.heap.size w W5) := HB4.out.grown hg5 HB4.out.size (fun j hj => (HM4.out.lt j hj).1)
          have HM5 : Hid (Mine W5 w.heap.size 87 3 v5 (((l.set f Tb.none0).take (k + 1)).map tC)) := by
            unfold Hid
            rw [HTK.out, List.map_append]
            exact ho5
          have hK5 : Blk W5 wr.heap.size #[.bool true, .int .i64 xo, .int .i64 xr] 87 := (hg5.block wr.heap.size HK4.out.lt (fun e => HNG.out _ e.symm rfl)).trans HK4.out
          have d0 : W5.cell? ⟨wr.heap.size, 0, none⟩ = some (.bool true) := hK5.cell 0
          clear ho5 hg5 HM4 HR3 HB4 HK4 hK5 HNG HTK HTL
          go_wp2
          exact ⟨⟨k + 1, by omega, by go_num, by rw [HLN.out]; go_num, HM5.out, HB5.out⟩, by simp [intOf]; omega⟩

    · obtain rfl : k = l.length := by omega
      have hTL : (l.set f Tb.none0).take l.length = l.set f Tb.none0 := by rw [← HLL.out, List.take_length]
      rw [hTL] at HM hla ⊢
      obtain ⟨g, c2, hv8, hg0, hgl, hc2, hcm, -⟩ := t_own HM.out (k := f) (by rw [List.length_set]; exact hfl)
      subst hv8
      have HR : Hid (Tab wr (fun b => w.heap.size ≤ b ∧ b < wr.heap.size) (.slice (some ⟨g, 0, none⟩) (Tb.lastN (l.set f Tb.none0)) c2) (Tb.trim (l.set f Tb.none0))) := t_take' (t_row HM.out) (Tb.lastN_le _)
      generalize hN : Tb.lastN (l.set f Tb.none0) = N at *
      rw [List.length_set] at hc2 ⊢
      have hNz : (N : Int) ≤ (c2 : Int) := by omega
      unfold maxLen at hcm
      clear hN HM hB hTL HLL
      go_wp2
      go_ret2
      exact ⟨_, rfl, HR.out, HB.out⟩
set_option maxRecDepth 100000 in
theorem rclose_any (l : List Tb.Slt) (fd : Int) (v : Value) (S : Nat → Prop) (w : World) (hv : Tab w S v l) (hS : ∀ b, S b → b < w.heap.size) (hU : l.length * 24 ≤ 140737488355328) :
    Calls Try.prog 23 #[v, .int .i64 fd] w fun e w' => ∃ v', e = .returned (.tuple #[v', .int .i64 (Tb.closeR l fd).2]) ∧ TabNew w w' v' (Tb.closeR l fd).1 := by
  cases hg : Tb.get l fd with
  | none =>
    have e : Tb.closeR l fd = ([], 6) := by unfold Tb.closeR; rw [hg]
    rw [e]
    show Calls Try.prog 23 #[v, .int .i64 fd] w fun e w' => ∃ v', e = .returned (.tuple #[v', .int .i64 6]) ∧ TabNew w w' v' []
    have HG : Hid (Calls Try.prog 21 #[v, .int .i64 fd] w fun e w' => e = .returned (.tuple #[.agg #[.int .i64 0, .int .i64 0], .int .i64 6]) ∧ Below w.heap.size w w') := by have := rget_any l fd v S w hv hS; rw [hg] at this; exact this
    clear hg hv hS hU e
    go_enter Try.func23, Try.ntmps23
    go_wp2_with fail
    refine HG.out.mono ?_
    rintro e w1 ⟨rfl, hb1⟩
    have HB : Hid (Below w.heap.size w w1) := hb1
    clear hb1
    go_wp2
    go_ret2
    exact ⟨_, rfl, Row.nil _ _ _ _ _, HB.out.alloc HB.out.size _⟩
  | some x =>
    have e : Tb.closeR l fd = (Tb.trim (l.set fd.toNat Tb.none0), 0) := by unfold Tb.closeR; rw [hg]
    rw [e]
    obtain ⟨k, rfl, hx, hh⟩ := Tb.get_some hg
    rw [Int.toNat_natCast]
    exact rclose_ok l k x v S w hv hS hU hx hh
end Go.Proofs.Ytdciohinlhbliaa

/-
  rglaw10.ProcsFork, walked.
-/
namespace Go.Proofs.Ytdciohinlhbliaa
open Go.RowKit
open Wp
set_option maxRecDepth 1000000 in
set_option maxHeartbeats 16000000 in
theorem sfork_any (l : List UInt8) (p : Int) (v : Value) (w : World) (hv : Bytes w (fun b => b < w.heap.size) v l) :
    Calls Try.prog 6 #[v, .int .i64 p] w fun e w' => e = .returned (.bool true) ∧ Below w.heap.size w w' := by
  have HV0 : Hid _ := hv
  have HA0 : Hid _ := alive10_any w
  clear hv
  go_enter Try.func6, Try.ntmps6
  go_wp2_with fail
  refine Calls.mono HA0.out ?_
  rintro e w0 ⟨rfl, hb0⟩
  have HG0 : Hid (Gw w w0) := Gw.below hb0
  have HB0 : Hid _ := build_any l v w0 (Row.more (Row.on HV0.out HG0.out.1) fun b hb => Nat.lt_of_lt_of_le hb HG0.out.2.1)
  clear hb0 HA0
  go_wp2_with fail
  refine Calls.mono HB0.out ?_
  rintro e w1 ⟨vo, vp, vq, L, O, P, rfl, hkern, hkok, hb1⟩
  have hat1 : KernAt w1 vo vp vq ⟨L, O, P⟩ := ⟨hkern.1.more fun b hb => hb.2, Row.more hkern.2.1 fun b hb => hb.2, procs_more hkern.2.2 fun b hb => hb.2⟩
  have HG1 : Hid (Gw w w1) := Gw.trans HG0.out (Gw.below hb1)
  have HSW : Hid _ := swpK_any hkok _ _ _ w1 hat1
  clear hkern hkok hb1 hat1 HB0
  go_wp2_with fail
  refine Calls.mono HSW.out ?_
  rintro e w2 ⟨K, a, b, c, rfl, hat2, hpk, hg2⟩
  obtain ⟨oa, pa, qa, oc, pc, qc, rfl, rfl, rfl, m1, m2, m3⟩ := hat2.spell
  have HAT : Hid (∀ W, Gw w2 W → KernAt W (.slice oa K.L.length oc) (.slice pa K.O.length pc) (.slice qa K.P.length qc) K) := fun W hg => hat2.gw hg
  have HPK : Hid (PK K) := hpk
  have HG2 : Hid (Gw w w2) := Gw.trans HG1.out hg2
  have hk3 := Blk.new w2 #[.slice oa K.L.length oc, .slice pa K.O.length pc, .slice qa K.P.length qc] 27
  have HK3 : Hid (Blk (w2.alloc (.cells #[.slice oa K.L.length oc, .slice pa K.O.length pc, .slice qa K.P.length qc] 27)) w2.heap.size #[.slice oa K.L.length oc, .slice pa K.O.length pc, .slice qa K.P.length qc] 27) := hk3
  have HG3 : Hid (Gw w2 (w2.alloc (.cells #[.slice oa K.L.length oc, .slice pa K.O.length pc, .slice qa K.P.length qc] 27))) := Gw.new w2 _
  have k3c := hk3.cell
  have k3l := hk3.lt
  unfold maxLen at m1 m2 m3
  clear hat2 hpk hg2 hk3 HSW
  go_wp2_with fail
  generalize (w2.alloc (.cells #[.slice oa K.L.length oc, .slice pa K.O.length pc, .slice qa K.P.length qc] 27)) = w3 at *
  refine Calls.mono (pfork_any K p _ _ _ w3 (HAT.out w3 HG3.out) HPK.out.bnd (by have := HPK.out.len; omega)) ?_
  rintro e w4 ⟨hg34, hr⟩
  have HG4 : Hid (Gw w2 w4) := HG3.out.trans hg34
  have HK4 : Hid _ := Blk.on HK3.out hg34.1 k3l
  have k4c := Blk.cell HK4.out
  have k4l := Blk.lt HK4.out
  clear hg34 k3c k3l
  have hcases : (Pr.live K.P p = false ∧ e = .returned (.tuple #[zeroK, .int .i64 0, .int .i64 0, .int .i64 6])) ∨ ∃ (k : Nat) (x : Sp.Prc), p = (k : Int) ∧ K.P[k]? = some x ∧ x.live = true ∧ (e = .returned (.tuple #[zeroK, .int .i64 0, .int .i64 0, .int .i64 15]) ∨ ∃ (c at' : Nat) (X : Kn) (a b d : Value), 1 ≤ c ∧ c ≠ k ∧ c < 8 ∧ (∀ y, K.P[c]? = some y → y.live = false) ∧ at' < 60 ∧ Pr.FX K X k c at' x ∧ e = .returned (.tuple #[.agg #[a, b, d], .int .i64 c, .int .i64 x.slots.length, .int .i64 0]) ∧ KernIn w4 (fun b => w3.heap.size ≤ b ∧ b < w4.heap.size) a b d X) := by
    rcases hr with h | ⟨h, he⟩ | ⟨k, x, c, rfl, hx, hxl, hc8, hct, hcall, hr'⟩
    · exact Or.inl h
    · obtain ⟨k, x, rfl, hx, hxl⟩ := Pr.live_some h.1
      exact Or.inr ⟨k, x, rfl, hx, hxl, Or.inl he⟩
    · refine Or.inr ⟨k, x, rfl, hx, hxl, ?_⟩
      have hck : c ≠ k := fun e => by
        subst e
        unfold Pr.taken at hct
        rw [Pr.live_nat hx, hxl] at hct
        cases hct
      have hc1 : 1 ≤ c := by
        rcases Nat.eq_zero_or_pos c with h | h
        · obtain ⟨y, hy, hyl⟩ := HPK.out.first
          subst h
          unfold Pr.taken at hct
          rw [Pr.live_nat hy, hyl] at hct
          cases hct
        · exact h
      have hcl : ∀ y, K.P[c]? = some y → y.live = false := fun y hy => by
        unfold Pr.taken at hct
        rw [Pr.live_nat hy] at hct
        cases hq : y.live with
        | true => rw [hq] at hct; cases hct
        | false => rfl
      rcases hr' with ⟨hall, he⟩ | ⟨at', hat, hfa, -, hr''⟩
      · exact Or.inl he
      · have hsl := HPK.out.slots x (List.mem_of_getElem? hx)
        rw [Pr.putR_has hsl.2 hsl.1 (Int.natCast_nonneg _) ⟨by omega, by omega⟩] at hr''
        dsimp only at hr''
        rcases hr'' with ⟨hne, -⟩ | ⟨-, a', b', c', he, hki⟩
        · exact (hne rfl).elim
        · exact Or.inr ⟨c, at', _, a', b', c', hc1, hck, hc8, hcl, hat, Pr.fx_of hx hck, he, hki⟩
  clear hr
  rcases hcases with ⟨hlv, rfl⟩ | ⟨k, x, rfl, hx, hxl, rfl | ⟨c, at', X, a', b', d', hc1, hck, hc8, hcl, hat', hfx, rfl, hki⟩⟩
  · unfold zeroK
    rcases Pr.live_false hlv with h0 | h0 | ⟨k, x, rfl, hx, hxl⟩
    · go_wp2
      go_ret
      exact ⟨rfl, (((Gw.trans HG2.out HG4.out).trans (Gw.new _ _))).2.2 _ (Nat.le_refl _)⟩
    · have h1 : ¬ p < 0 := by omega
      go_wp2
      go_ret
      exact ⟨rfl, (((Gw.trans HG2.out HG4.out).trans (Gw.new _ _))).2.2 _ (Nat.le_refl _)⟩
    · obtain ⟨g, o, sl, rfl, -, hc, hcm, hgl, d0, -, -, -, -⟩ := (HAT.out w4 HG4.out).proc hx
      have hkl : k < K.P.length := (List.getElem?_eq_some_iff.1 hx).1
      have hkz : ¬ (K.P.length : Int) ≤ (k : Int) := by omega
      rw [hxl] at d0
      unfold maxLen at hcm
      have nn1 : ¬ w4.heap.size = g := by omega
      clear hx hlv
      go_wp2
      go_ret
      exact ⟨rfl, (((Gw.trans HG2.out HG4.out).trans (Gw.new _ _))).2.2 _ (Nat.le_refl _)⟩
  · unfold zeroK
    obtain ⟨g, o, sl, rfl, -, hc, hcm, hgl, d0, -, -, -, -⟩ := (HAT.out w4 HG4.out).proc hx
    have hkl : k < K.P.length := (List.getElem?_eq_some_iff.1 hx).1
    have hkz : ¬ (K.P.length : Int) ≤ (k : Int) := by omega
    rw [hxl] at d0
    unfold maxLen at hcm
    have nn1 : ¬ w4.heap.size = g := by omega
    clear hx
    go_wp2
    go_ret
    exact ⟨rfl, (((Gw.trans HG2.out HG4.out).trans (Gw.new _ _))).2.2 _ (Nat.le_refl _)⟩
  · obtain ⟨⟨yk, hyk, hyt⟩, hchild, hother, hlen, hopn, holen, hobj⟩ := hfx
    have hatx := hki.at fun b hb => hb.2
    obtain ⟨oa', pa', qa', oc', pc', qc', rfl, rfl, rfl, n1, n2, n3⟩ := hatx.spell
    obtain ⟨g3, o3, rfl, -, hc3, hcm3, hgl3, -⟩ := hatx.kid hobj
    obtain ⟨g4, o4, rfl, -, hc4, hcm4, hgl4, -, -⟩ := hatx.open hopn
    obtain ⟨g, o, slc, rfl, -, hcx, hcmx, hgl, e0, e1, e2, e3, hrc⟩ := hatx.proc hchild
    obtain ⟨gk, ok, slk, rfl, -, hcq, hcmq, hgk, d0, d1, d2, d3, hrk⟩ := (HAT.out w4 HG4.out).proc hx
    have HX : Hid (K.P[k]? = some x ∧ x.live = true) := ⟨hx, hxl⟩
    have HYK : Hid (X.P[k]? = some yk ∧ yk.slots.map toT = x.slots.map toT ++ [⟨true, (at' : Int), 3200⟩]) := ⟨hyk, hyt⟩
    have HOTH : Hid (∀ i, i ≠ k → i ≠ c → i < K.P.length → X.P[i]? = K.P[i]?) := hother
    have HLEN : Hid (X.P.length = max K.P.length (c + 1)) := hlen
    have HOPN : Hid (X.O[at']? = some ⟨(Pr.madeAt K.L : Nat), 0⟩) := hopn
    have HOLEN : Hid (X.O.length = max K.O.length (at' + 1)) := holen
    have HOBJ : Hid (X.L[Pr.madeAt K.L]? = some (Pr.kid c)) := hobj
    have hkl : k < K.P.length := (List.getElem?_eq_some_iff.1 hx).1
    have hkz : (k : Int) < (K.P.length : Int) := by omega
    have hkz' : ¬ (K.P.length : Int) ≤ (k : Int) := by omega
    have hkx : (k : Int) < (X.P.length : Int) := by omega
    have hcx1 : (c : Int) < (X.P.length : Int) := by omega
    have hcx2 : ¬ (X.P.length : Int) ≤ (c : Int) := by omega
    have hc1z : ¬ (c : Int) < 1 := by omega
    have hcx3 : c < X.P.length := by omega
    have hcx4 : ¬ X.P.length ≤ c := by omega
    have hdx1 : decide ((c : Int) < 1) = false := by simp; omega
    have hdx2 : decide ((X.P.length : Int) ≤ (c : Int)) = false := by simp; omega
    have HCS : Hid (1 ≤ c ∧ c ≠ k ∧ c < 8 ∧ at' < 60) := ⟨hc1, hck, hc8, hat'⟩
    have HATX : Hid (∀ W, Gw w4 W → KernAt W (.slice (some ⟨g3, o3, none⟩) X.L.length oc') (.slice (some ⟨g4, o4, none⟩) X.O.length pc') (.slice (some ⟨g, o, none⟩) X.P.length qc') X) := fun W hg => hatx.gw hg
    have hk5 := Blk.new w4 #[.slice (some ⟨g3, o3, none⟩) X.L.length oc', .slice (some ⟨g4, o4, none⟩) X.O.length pc', .slice (some ⟨g, o, none⟩) X.P.length qc'] 27
    have HX5 : Hid (Blk (w4.alloc (.cells #[.slice (some ⟨g3, o3, none⟩) X.L.length oc', .slice (some ⟨g4, o4, none⟩) X.O.length pc', .slice (some ⟨g, o, none⟩) X.P.length qc'] 27)) w4.heap.size #[.slice (some ⟨g3, o3, none⟩) X.L.length oc', .slice (some ⟨g4, o4, none⟩) X.O.length pc', .slice (some ⟨g, o, none⟩) X.P.length qc'] 27) := hk5
    have HK5 : Hid (Blk (w4.alloc (.cells #[.slice (some ⟨g3, o3, none⟩) X.L.length oc', .slice (some ⟨g4, o4, none⟩) X.O.length pc', .slice (some ⟨g, o, none⟩) X.P.length qc'] 27)) w2.heap.size #[.slice oa K.L.length oc, .slice pa K.O.length pc, .slice (some ⟨gk, ok, none⟩) K.P.length qc] 27) := Blk.alloc HK4.out _
    have HG45 : Hid (Gw w4 (w4.alloc (.cells #[.slice (some ⟨g3, o3, none⟩) X.L.length oc', .slice (some ⟨g4, o4, none⟩) X.O.length pc', .slice (some ⟨g, o, none⟩) X.P.length qc'] 27))) := Gw.new _ _
    have HSN : Hid (∀ W0 W', Gw w4 W' → Gw W0 W' → Calls Try.prog 17 #[.slice slc.a slc.n slc.c, .slice slk.a slk.n slk.c] W' fun e w' => e = .returned (.bool true) ∧ Gw W0 w') := fun W0 W' hg hg0 => by
      refine (same_any (x.slots.map toT) _ _ _ _ W' (tab_of (Row.on hrc hg.1)) (tab_of (Row.on hrk hg.1))).mono ?_
      rintro e w' ⟨rfl, h⟩
      exact ⟨rfl, hg0.trans (Gw.below h)⟩
    have HIS : Hid (Sp.is X.L (Pr.madeAt K.L : Nat) 5 = true) := by
      unfold Hid Sp.is Sp.objAt
      rw [if_pos (Int.natCast_nonneg _), Int.toNat_natCast, hobj]
      rfl
    have HGP : Hid (∀ W, Gw w4 W → ∃ sl : Sl, W.cell? ⟨g, o + k * 4 + 3, none⟩ = some (.slice sl.a sl.n sl.c) ∧ Tab W (fun b => b < W.heap.size) (.slice sl.a sl.n sl.c) (x.slots.map toT ++ [⟨true, (at' : Int), 3200⟩])) := fun W hg => by
      obtain ⟨g7, o7, slp, he7, -, -, -, -, -, -, -, p3, hrp⟩ := (hatx.gw hg).proc hyk
      obtain ⟨rfl, rfl⟩ : g = g7 ∧ o = o7 := by simpa using he7
      have h := tab_of hrp
      rw [hyt] at h
      exact ⟨slp, p3, h⟩
    have k5c := hk5.cell
    have k5l := hk5.lt
    unfold maxLen at n1 n2 n3 hcm3 hcm4 hcmx hcmq
    rw [hxl] at d0
    dsimp only at e0 e1 e2 e3
    have nn1 : ¬ w4.heap.size = g := by omega
    have nn2 : ¬ w4.heap.size = gk := by omega
    have nn3 : ¬ w4.heap.size = g3 := by omega
    have nn4 : ¬ w4.heap.size = g4 := by omega
    have hfe : (x.fenced != x.fenced) = false := by simp
    clear hki hatx hyk hyt hchild hother hlen hopn holen hobj hx hxl hrc hrk hk5 hc1 hc8 hat' e2 d2
    by_cases hcK : c < K.P.length
    · obtain ⟨y, hy⟩ : ∃ y, K.P[c]? = some y := ⟨_, List.getElem?_eq_getElem hcK⟩
      have hyl := hcl y hy
      obtain ⟨g6, o6, sl6, he6, -, -, -, -, q0, -, -, -, -⟩ := (HAT.out w4 HG4.out).proc hy
      obtain ⟨rfl, rfl⟩ : gk = g6 ∧ ok = o6 := by simpa using he6
      rw [hyl] at q0
      have hcz : (c : Int) < (K.P.length : Int) := by omega
      have hdz : decide ((c : Int) < (K.P.length : Int)) = true := by simp; omega
      clear he6 hcl hy hyl hck
      have HC5 : Hid (∀ w', Gw (w4.alloc (.cells #[.slice (some ⟨g3, o3, none⟩) X.L.length oc', .slice (some ⟨g4, o4, none⟩) X.O.length pc', .slice (some ⟨g, o, none⟩) X.P.length qc'] 27)) w' → (w'.cell? ⟨w2.heap.size, 2, none⟩ = some (.slice (some ⟨gk, ok, none⟩) K.P.length qc) ∧ w'.cell? ⟨w4.heap.size, 2, none⟩ = some (.slice (some ⟨g, o, none⟩) X.P.length qc') ∧ w'.cell? ⟨g, o + c * 4, none⟩ = some (.bool true) ∧ w'.cell? ⟨g, o + c * 4 + 1, none⟩ = some (.bool x.fenced) ∧ w'.cell? ⟨g, o + c * 4 + 3, none⟩ = some (.slice slc.a slc.n slc.c) ∧ w'.cell? ⟨gk, ok + k * 4 + 1, none⟩ = some (.bool x.fenced) ∧ w'.cell? ⟨gk, ok + k * 4 + 3, none⟩ = some (.slice slk.a slk.n slk.c) ∧ w'.cell? ⟨gk, ok + c * 4, none⟩ = some (.bool false)) ∧ w2.heap.size < w'.heap.size ∧ w4.heap.size < w'.heap.size ∧ g < w'.heap.size ∧ gk < w'.heap.size) := fun w' hg => by
        have hz := hg.2.1
        have hl2 := Blk.lt HK5.out
        have hl4 := Blk.lt HX5.out
        have hg4 := HG45.out.trans hg
        have hzz := HG45.out.2.1
        exact ⟨⟨(On.cell hg.1 (b := w2.heap.size) hl2).trans (Blk.cell HK5.out 2), (On.cell hg.1 (b := w4.heap.size) hl4).trans (Blk.cell HX5.out 2), (On.cell hg4.1 (b := g) hgl).trans e0, (On.cell hg4.1 (b := g) hgl).trans e1, (On.cell hg4.1 (b := g) hgl).trans e3, (On.cell hg4.1 (b := gk) hgk).trans d1, (On.cell hg4.1 (b := gk) hgk).trans d3, (On.cell hg4.1 (b := gk) hgk).trans q0⟩, by omega, by omega, by omega, by omega⟩
      have HSM1 : Hid (∀ W', Gw (w4.alloc (.cells #[.slice (some ⟨g3, o3, none⟩) X.L.length oc', .slice (some ⟨g4, o4, none⟩) X.O.length pc', .slice (some ⟨g, o, none⟩) X.P.length qc'] 27)) W' → Calls Try.prog 17 #[.slice slc.a slc.n slc.c, .slice slk.a slk.n slk.c] W' fun e w' => e = .returned (.bool true) ∧ Gw (w4.alloc (.cells #[.slice (some ⟨g3, o3, none⟩) X.L.length oc', .slice (some ⟨g4, o4, none⟩) X.O.length pc', .slice (some ⟨g, o, none⟩) X.P.length qc'] 27)) w' ∧ (w'.cell? ⟨w2.heap.size, 2, none⟩ = some (.slice (some ⟨gk, ok, none⟩) K.P.length qc) ∧ w'.cell? ⟨w4.heap.size, 2, none⟩ = some (.slice (some ⟨g, o, none⟩) X.P.length qc') ∧ w'.cell? ⟨g, o + c * 4, none⟩ = some (.bool true) ∧ w'.cell? ⟨g, o + c * 4 + 1, none⟩ = some (.bool x.fenced) ∧ w'.cell? ⟨g, o + c * 4 + 3, none⟩ = some (.slice slc.a slc.n slc.c) ∧ w'.cell? ⟨gk, ok + k * 4 + 1, none⟩ = some (.bool x.fenced) ∧ w'.cell? ⟨gk, ok + k * 4 + 3, none⟩ = some (.slice slk.a slk.n slk.c) ∧ w'.cell? ⟨gk, ok + c * 4, none⟩ = some (.bool false)) ∧ w2.heap.size < w'.heap.size ∧ w4.heap.size < w'.heap.size ∧ g < w'.heap.size ∧ gk < w'.heap.size) := fun W' hg =>
        (HSN.out _ W' (HG45.out.trans hg) hg).mono fun e w' hh => ⟨hh.1, hh.2, HC5.out w' hh.2⟩
      go_wp2_with fail
      generalize (w4.alloc (.cells #[.slice (some ⟨g3, o3, none⟩) X.L.length oc', .slice (some ⟨g4, o4, none⟩) X.O.length pc', .slice (some ⟨g, o, none⟩) X.P.length qc'] 27)) = w5 at *
      obtain ⟨⟨t0, t1, t2, t3, t4, t5, t6, t7⟩, y1, y2, y3, y4⟩ := HC5.out w5 (Gw.refl _)
      have hgw : Gw w5 w5.drew := Gw.drew _
      first
        | go_region_held_law (fun w' => w'.cell? ⟨w2.heap.size, 2, none⟩ = some (.slice (some ⟨gk, ok, none⟩) K.P.length qc) ∧ w'.cell? ⟨w4.heap.size, 2, none⟩ = some (.slice (some ⟨g, o, none⟩) X.P.length qc') ∧ w'.cell? ⟨g, o + c * 4, none⟩ = some (.bool true) ∧ w'.cell? ⟨g, o + c * 4 + 1, none⟩ = some (.bool x.fenced) ∧ w'.cell? ⟨g, o + c * 4 + 3, none⟩ = some (.slice slc.a slc.n slc.c) ∧ w'.cell? ⟨gk, ok + k * 4 + 1, none⟩ = some (.bool x.fenced) ∧ w'.cell? ⟨gk, ok + k * 4 + 3, none⟩ = some (.slice slk.a slk.n slk.c) ∧ w'.cell? ⟨gk, ok + c * 4, none⟩ = some (.bool false)) (go_keep) (first
          | ((go_at_call 17; with_reducible (refine Calls.mono (HSM1.out _ hgw) ?_); clear hgw; rintro e w6 ⟨rfl, hgw, ⟨s0, s1, s2, s3, s4, s5, s6, s7⟩, z1, z2, z3, z4⟩)))
        | trace "held failed"
      have HG46 : Hid (Gw w4 w6) := HG45.out.trans hgw
      have HG26 : Hid (Gw w2 w6) := HG4.out.trans HG46.out
      have HX6 : Hid (Blk w6 w4.heap.size #[.slice (some ⟨g3, o3, none⟩) X.L.length oc', .slice (some ⟨g4, o4, none⟩) X.O.length pc', .slice (some ⟨g, o, none⟩) X.P.length qc'] 27) := Blk.on HX5.out hgw.1 (Blk.lt HX5.out)
      have HK6 : Hid (Blk w6 w2.heap.size #[.slice oa K.L.length oc, .slice pa K.O.length pc, .slice (some ⟨gk, ok, none⟩) K.P.length qc] 27) := Blk.on HK5.out hgw.1 (Blk.lt HK5.out)
      have x6c := Blk.cell HX6.out
      have x6l := Blk.lt HX6.out
      obtain ⟨slp, p3, htp⟩ := HGP.out w6 HG46.out
      have hgn := Pr.get_new (x.slots.map toT) (at' : Int) 3200
      rw [List.length_map] at hgn
      have HGT : Hid (Calls Try.prog 21 #[.slice slp.a slp.n slp.c, .int .i64 (x.slots.length : Int)] w6 fun e w' => e = .returned (.tuple #[.agg #[.int .i64 (at' : Int), .int .i64 3200], .int .i64 0]) ∧ Below w6.heap.size w6 w') := by
        have h := rget_any _ (x.slots.length : Int) _ _ w6 htp (fun b hb => hb)
        rw [hgn] at h
        exact h
      clear hgw s0 s1 s2 s3 s4 s5 s6 s7 z1 z2 z3 z4 t0 t1 t2 t3 t4 t5 t6 t7 y1 y2 y3 y4 htp hgn
      go_wp2_with fail
      refine Calls.mono HGT.out ?_
      rintro e w7 ⟨rfl, hb7⟩
      have hg67 := Gw.below hb7
      have HG47 : Hid (Gw w4 w7) := HG46.out.trans hg67
      have HG27 : Hid (Gw w2 w7) := HG26.out.trans hg67
      have HX7 : Hid (Blk w7 w4.heap.size #[.slice (some ⟨g3, o3, none⟩) X.L.length oc', .slice (some ⟨g4, o4, none⟩) X.O.length pc', .slice (some ⟨g, o, none⟩) X.P.length qc'] 27) := Blk.on HX6.out hg67.1 (Blk.lt HX6.out)
      have HK7 : Hid (Blk w7 w2.heap.size #[.slice oa K.L.length oc, .slice pa K.O.length pc, .slice (some ⟨gk, ok, none⟩) K.P.length qc] 27) := Blk.on HK6.out hg67.1 (Blk.lt HK6.out)
      have hc8 := Blk.new w7 #[.int .i64 (at' : Int), .int .i64 3200] 50
      have HC8 : Hid (Blk (w7.alloc (.cells #[.int .i64 (at' : Int), .int .i64 3200] 50)) w7.heap.size #[.int .i64 (at' : Int), .int .i64 3200] 50) := hc8
      have HG78 : Hid (Gw w7 (w7.alloc (.cells #[.int .i64 (at' : Int), .int .i64 3200] 50))) := Gw.new _ _
      have HX8 : Hid (Blk (w7.alloc (.cells #[.int .i64 (at' : Int), .int .i64 3200] 50)) w4.heap.size #[.slice (some ⟨g3, o3, none⟩) X.L.length oc', .slice (some ⟨g4, o4, none⟩) X.O.length pc', .slice (some ⟨g, o, none⟩) X.P.length qc'] 27) := Blk.alloc HX7.out _
      have HK8 : Hid (Blk (w7.alloc (.cells #[.int .i64 (at' : Int), .int .i64 3200] 50)) w2.heap.size #[.slice oa K.L.length oc, .slice pa K.O.length pc, .slice (some ⟨gk, ok, none⟩) K.P.length qc] 27) := Blk.alloc HK7.out _
      have x8c := Blk.cell HX8.out
      have x8l := Blk.lt HX8.out
      have c8c := hc8.cell
      have c8l := hc8.lt
      obtain ⟨g8, o8, he8, -, -, -, hgl8, f0, f1⟩ := (HATX.out w7 HG47.out).open HOPN.out
      obtain ⟨rfl, rfl⟩ : g4 = g8 ∧ o4 = o8 := by simpa using he8
      dsimp only at f0 f1
      have hol := HOLEN.out
      have ha1 : (at' : Int) < (X.O.length : Int) := by omega
      have ha2 : ¬ (X.O.length : Int) ≤ (at' : Int) := by omega
      have ha3 : at' < X.O.length := by omega
      have ha4 : ¬ X.O.length ≤ at' := by omega
      have ha5 : ¬ (at' : Int) < 0 := by omega
      have nn5 : ¬ w7.heap.size = g4 := by omega
      clear he8 hb7 hg67 hc8 x6c x6l p3 hol
      go_wp2_with fail
      generalize (w7.alloc (.cells #[.int .i64 (at' : Int), .int .i64 3200] 50)) = w8 at *
      refine Calls.mono (is_any X.L (Pr.madeAt K.L : Nat) 5 _ _ w8 (HATX.out w8 (HG47.out.trans HG78.out)).1) ?_
      rintro e w8' ⟨rfl, rfl⟩
      rw [HIS.out]
      obtain ⟨g9, o9, he9, -, -, -, hgl9, m6⟩ := (HATX.out w8' (HG47.out.trans HG78.out)).kid HOBJ.out
      obtain ⟨rfl, rfl⟩ : g3 = g9 ∧ o3 = o9 := by simpa using he9
      rw [show (Pr.kid c).proc = (c : Int) from rfl] at m6
      have hml : Pr.madeAt K.L < X.L.length := (List.getElem?_eq_some_iff.1 HOBJ.out).1
      have hml1 : (Pr.madeAt K.L : Int) < (X.L.length : Int) := by omega
      obtain ⟨slp2, p3, htp⟩ := HGP.out w8' (HG47.out.trans HG78.out)
      have HCL : Hid (Calls Try.prog 23 #[.slice slp2.a slp2.n slp2.c, .int .i64 (x.slots.length : Int)] w8' fun e w' => ∃ v', e = .returned (.tuple #[v', .int .i64 0]) ∧ TabNew w8' w' v' (x.slots.map toT)) := by
        have hsl := HPK.out.slots x (List.mem_of_getElem? HX.out.1)
        have h := rclose_any _ (x.slots.length : Int) _ _ w8' htp (fun b hb => hb) (by rw [List.length_append, List.length_map]; have := hsl.1; simp; omega)
        rw [Pr.close_new hsl.2] at h
        exact h
      clear he9 htp f0 f1
      go_wp2_with fail
      refine Calls.mono HCL.out ?_
      rintro e w9 ⟨v', rfl, ht9, hb9⟩
      obtain ⟨ra, rc, hv9, -⟩ := ht9.form
      rw [List.length_map] at hv9
      subst hv9
      have hg89 := Gw.below hb9
      have HG49 : Hid (Gw w4 w9) := (HG47.out.trans HG78.out).trans hg89
      have HG29 : Hid (Gw w2 w9) := (HG27.out.trans HG78.out).trans hg89
      have HX9 : Hid (Blk w9 w4.heap.size #[.slice (some ⟨g3, o3, none⟩) X.L.length oc', .slice (some ⟨g4, o4, none⟩) X.O.length pc', .slice (some ⟨g, o, none⟩) X.P.length qc'] 27) := Blk.on HX8.out hg89.1 (Blk.lt HX8.out)
      have HK9 : Hid (Blk w9 w2.heap.size #[.slice oa K.L.length oc, .slice pa K.O.length pc, .slice (some ⟨gk, ok, none⟩) K.P.length qc] 27) := Blk.on HK8.out hg89.1 (Blk.lt HK8.out)
      have k9c := Blk.cell HK9.out
      have k9l := Blk.lt HK9.out
      obtain ⟨g6, o6, slk9, he6, -, -, -, hgk9, -, -, -, r3, hrk9⟩ := (HAT.out w9 HG29.out).proc HX.out.1
      obtain ⟨rfl, rfl⟩ : gk = g6 ∧ ok = o6 := by simpa using he6
      have HSM9 : Hid _ := same_any (x.slots.map toT) _ _ _ _ w9 ht9 (tab_of hrk9)
      clear he6 hrk9 ht9 hb9 hg89 x8c x8l c8c c8l m6 p3
      go_wp2_with fail
      refine Calls.mono HSM9.out ?_
      rintro e w10 ⟨rfl, hb10⟩
      have hg90 := Gw.below hb10
      have HG40 : Hid (Gw w4 w10) := HG49.out.trans hg90
      have HG20 : Hid (Gw w2 w10) := HG29.out.trans hg90
      have HX10 : Hid (Blk w10 w4.heap.size #[.slice (some ⟨g3, o3, none⟩) X.L.length oc', .slice (some ⟨g4, o4, none⟩) X.O.length pc', .slice (some ⟨g, o, none⟩) X.P.length qc'] 27) := Blk.on HX9.out hg90.1 (Blk.lt HX9.out)
      have HK10 : Hid (Blk w10 w2.heap.size #[.slice oa K.L.length oc, .slice pa K.O.length pc, .slice (some ⟨gk, ok, none⟩) K.P.length qc] 27) := Blk.on HK9.out hg90.1 (Blk.lt HK9.out)
      have k10c := Blk.cell HK10.out
      have k10l := Blk.lt HK10.out
      clear hb10 hg90 k9c k9l r3
      go_wp2_with fail
      go_loopw [202] (fun v wr => ∃ i : Nat, i ≤ K.P.length ∧ v = .int .i64 i ∧ Gw w10 wr) (fun v _ => K.P.length - (intOf v).toNat)
      case atStart => exact ⟨0, Nat.zero_le _, rfl, Gw.refl w10⟩
      case round =>
        obtain ⟨i, hi, rfl, hg⟩ := hrel
        have HG : Hid (Gw w10 wr) := hg
        have hkb := Blk.on HK10.out hg.1 (Blk.lt HK10.out)
        have hxb := Blk.on HX10.out hg.1 (Blk.lt HX10.out)
        have kc := hkb.cell
        have kl := hkb.lt
        have xc := hxb.cell
        have xl := hxb.lt
        have HGX : Hid (Gw w4 wr) := HG40.out.trans hg
        have HGK : Hid (Gw w2 wr) := HG20.out.trans hg
        clear hkb hxb hg k10c k10l
        by_cases hlt : i < K.P.length
        · obtain ⟨y, hy⟩ : ∃ y, K.P[i]? = some y := ⟨_, List.getElem?_eq_getElem hlt⟩
          have hiz : (i : Int) < (K.P.length : Int) := by omega
          by_cases hik : i = k
          · obtain rfl : k = i := hik.symm
            go_upto_region 23 with fail
            go_region
            go_wp2
            go_roundw
            case rel => exact ⟨k + 1, by omega, by go_num, HG.out.trans (Gw.drew _)⟩
            case measure => simp [intOf]; omega
          · have hne : ((i : Int) != (k : Int)) = true := bne_iff_ne.2 fun e => hik (by omega)
            by_cases hic : i = c
            · obtain rfl : c = i := hic.symm
              clear hik
              go_upto_region 23 with fail
              go_region
              go_wp2
              go_roundw
              case rel => exact ⟨c + 1, by omega, by go_num, HG.out.trans (Gw.drew _)⟩
              case measure => simp [intOf]; omega
            · have hne2 : ((i : Int) != (c : Int)) = true := bne_iff_ne.2 fun e => hic (by omega)
              have hix : (i : Int) < (X.P.length : Int) := by have := HLEN.out; omega
              have hy' : X.P[i]? = some y := by rw [HOTH.out i hik hic hlt]; exact hy
              obtain ⟨ga, oa1, ⟨sa, sn, sc⟩, he1, -, -, -, hgl1, -, -, -, a3, hr1⟩ := (HAT.out wr HGK.out).proc hy
              obtain ⟨rfl, rfl⟩ : gk = ga ∧ ok = oa1 := by simpa using he1
              obtain ⟨gb, ob1, ⟨sb, sm, sd⟩, he2, -, -, -, hgl2, -, -, -, b3, hr2⟩ := (HATX.out wr HGX.out).proc hy'
              obtain ⟨rfl, rfl⟩ : g = gb ∧ o = ob1 := by simpa using he2
              have kc2 := kc 2
              have xc2 := xc 2
              simp at kc2 xc2
              dsimp only at a3 b3
              have HSM2 : Hid (∀ W', Gw wr W' → Calls Try.prog 17 #[.slice sa sn sc, .slice sb sm sd] W' fun e w' => e = .returned (.bool true) ∧ Gw wr w' ∧ (w'.cell? ⟨w2.heap.size, 2, none⟩ = some (.slice (some ⟨gk, ok, none⟩) K.P.length qc) ∧ w'.cell? ⟨w4.heap.size, 2, none⟩ = some (.slice (some ⟨g, o, none⟩) X.P.length qc') ∧ w'.cell? ⟨gk, ok + i * 4 + 3, none⟩ = some (.slice sa sn sc) ∧ w'.cell? ⟨g, o + i * 4 + 3, none⟩ = some (.slice sb sm sd)) ∧ w2.heap.size < w'.heap.size ∧ w4.heap.size < w'.heap.size ∧ gk < w'.heap.size ∧ g < w'.heap.size) := fun W' hg => by
                refine (same_any (y.slots.map toT) _ _ _ _ W' (tab_of (Row.on hr1 hg.1)) (tab_of (Row.on hr2 hg.1))).mono ?_
                rintro e w' ⟨rfl, h⟩
                have hon := hg.trans (Gw.below h)
                have hz := hon.2.1
                exact ⟨rfl, hon, ⟨(On.cell hon.1 (b := w2.heap.size) kl).trans kc2, (On.cell hon.1 (b := w4.heap.size) xl).trans xc2, (On.cell hon.1 (b := gk) hgl1).trans a3, (On.cell hon.1 (b := g) hgl2).trans b3⟩, by omega, by omega, by omega, by omega⟩
              have hgw : Gw wr wr.drew := Gw.drew _
              clear he1 he2 hr1 hr2 hy hy' kc xc hik hic
              go_upto_region 23 with fail
              go_region_held_law (fun w' => w'.cell? ⟨w2.heap.size, 2, none⟩ = some (.slice (some ⟨gk, ok, none⟩) K.P.length qc) ∧ w'.cell? ⟨w4.heap.size, 2, none⟩ = some (.slice (some ⟨g, o, none⟩) X.P.length qc') ∧ w'.cell? ⟨gk, ok + i * 4 + 3, none⟩ = some (.slice sa sn sc) ∧ w'.cell? ⟨g, o + i * 4 + 3, none⟩ = some (.slice sb sm sd)) (go_keep) (first
                | ((go_at_call 17; with_reducible (refine Calls.mono (HSM2.out _ hgw) ?_); clear hgw; rintro e W3 ⟨rfl, hgw, ⟨s1, s2, s3, s4⟩, z1, z2, z3, z4⟩)))
              have HGR : Hid (Gw w10 W3) := Gw.trans HG.out hgw
              clear hgw s1 s2 s3 s4 z1 z2 z3 z4 a3 b3 kc2 xc2
              go_wp2
              go_roundw
              case rel => exact ⟨i + 1, by omega, by go_num, HGR.out⟩
              case measure => simp [intOf]; omega
        · obtain rfl : i = K.P.length := by omega
          have HGF : Hid (Gw w wr) := HG2.out.trans HGK.out
          go_wp2
          go_ret
          exact ⟨rfl, HGF.out.2.2 _ (Nat.le_refl _)⟩
    · have hcz : ¬ (c : Int) < (K.P.length : Int) := by omega
      have hdz : decide ((c : Int) < (K.P.length : Int)) = false := by simp; omega
      clear hcl hck
      have HC5 : Hid (∀ w', Gw (w4.alloc (.cells #[.slice (some ⟨g3, o3, none⟩) X.L.length oc', .slice (some ⟨g4, o4, none⟩) X.O.length pc', .slice (some ⟨g, o, none⟩) X.P.length qc'] 27)) w' → (w'.cell? ⟨w2.heap.size, 2, none⟩ = some (.slice (some ⟨gk, ok, none⟩) K.P.length qc) ∧ w'.cell? ⟨w4.heap.size, 2, none⟩ = some (.slice (some ⟨g, o, none⟩) X.P.length qc') ∧ w'.cell? ⟨g, o + c * 4, none⟩ = some (.bool true) ∧ w'.cell? ⟨g, o + c * 4 + 1, none⟩ = some (.bool x.fenced) ∧ w'.cell? ⟨g, o + c * 4 + 3, none⟩ = some (.slice slc.a slc.n slc.c) ∧ w'.cell? ⟨gk, ok + k * 4 + 1, none⟩ = some (.bool x.fenced) ∧ w'.cell? ⟨gk, ok + k * 4 + 3, none⟩ = some (.slice slk.a slk.n slk.c)) ∧ w2.heap.size < w'.heap.size ∧ w4.heap.size < w'.heap.size ∧ g < w'.heap.size ∧ gk < w'.heap.size) := fun w' hg => by
        have hz := hg.2.1
        have hl2 := Blk.lt HK5.out
        have hl4 := Blk.lt HX5.out
        have hg4 := HG45.out.trans hg
        have hzz := HG45.out.2.1
        exact ⟨⟨(On.cell hg.1 (b := w2.heap.size) hl2).trans (Blk.cell HK5.out 2), (On.cell hg.1 (b := w4.heap.size) hl4).trans (Blk.cell HX5.out 2), (On.cell hg4.1 (b := g) hgl).trans e0, (On.cell hg4.1 (b := g) hgl).trans e1, (On.cell hg4.1 (b := g) hgl).trans e3, (On.cell hg4.1 (b := gk) hgk).trans d1, (On.cell hg4.1 (b := gk) hgk).trans d3⟩, by omega, by omega, by omega, by omega⟩
      have HSM2 : Hid (∀ W', Gw (w4.alloc (.cells #[.slice (some ⟨g3, o3, none⟩) X.L.length oc', .slice (some ⟨g4, o4, none⟩) X.O.length pc', .slice (some ⟨g, o, none⟩) X.P.length qc'] 27)) W' → Calls Try.prog 17 #[.slice slc.a slc.n slc.c, .slice slk.a slk.n slk.c] W' fun e w' => e = .returned (.bool true) ∧ Gw (w4.alloc (.cells #[.slice (some ⟨g3, o3, none⟩) X.L.length oc', .slice (some ⟨g4, o4, none⟩) X.O.length pc', .slice (some ⟨g, o, none⟩) X.P.length qc'] 27)) w' ∧ (w'.cell? ⟨w2.heap.size, 2, none⟩ = some (.slice (some ⟨gk, ok, none⟩) K.P.length qc) ∧ w'.cell? ⟨w4.heap.size, 2, none⟩ = some (.slice (some ⟨g, o, none⟩) X.P.length qc') ∧ w'.cell? ⟨g, o + c * 4, none⟩ = some (.bool true) ∧ w'.cell? ⟨g, o + c * 4 + 1, none⟩ = some (.bool x.fenced) ∧ w'.cell? ⟨g, o + c * 4 + 3, none⟩ = some (.slice slc.a slc.n slc.c) ∧ w'.cell? ⟨gk, ok + k * 4 + 1, none⟩ = some (.bool x.fenced) ∧ w'.cell? ⟨gk, ok + k * 4 + 3, none⟩ = some (.slice slk.a slk.n slk.c)) ∧ w2.heap.size < w'.heap.size ∧ w4.heap.size < w'.heap.size ∧ g < w'.heap.size ∧ gk < w'.heap.size) := fun W' hg =>
        (HSN.out _ W' (HG45.out.trans hg) hg).mono fun e w' hh => ⟨hh.1, hh.2, HC5.out w' hh.2⟩
      go_wp2_with fail
      generalize (w4.alloc (.cells #[.slice (some ⟨g3, o3, none⟩) X.L.length oc', .slice (some ⟨g4, o4, none⟩) X.O.length pc', .slice (some ⟨g, o, none⟩) X.P.length qc'] 27)) = w5 at *
      obtain ⟨⟨t0, t1, t2, t3, t4, t5, t6⟩, y1, y2, y3, y4⟩ := HC5.out w5 (Gw.refl _)
      have hgw : Gw w5 w5.drew := Gw.drew _
      refine wp_region_held_drew (S := fun w' => w'.cell? ⟨w2.heap.size, 2, none⟩ = some (.slice (some ⟨gk, ok, none⟩) K.P.length qc) ∧ w'.cell? ⟨w4.heap.size, 2, none⟩ = some (.slice (some ⟨g, o, none⟩) X.P.length qc') ∧ w'.cell? ⟨g, o + c * 4, none⟩ = some (.bool true) ∧ w'.cell? ⟨g, o + c * 4 + 1, none⟩ = some (.bool x.fenced) ∧ w'.cell? ⟨g, o + c * 4 + 3, none⟩ = some (.slice slc.a slc.n slc.c) ∧ w'.cell? ⟨gk, ok + k * 4 + 1, none⟩ = some (.bool x.fenced) ∧ w'.cell? ⟨gk, ok + k * 4 + 3, none⟩ = some (.slice slk.a slk.n slk.c)) (by kernel_rfl) (by go_keep) (fun hHeld => ?_)
      refine wpAnyH_take (i := 0) (oi := { dst := some 58, op := Op.move (Operand.tmp 7), type := 3, pos := "law.go:35", after := #[], guard := none }) (v := ?_) rfl (by kernel_rfl) (by kernel_rfl) (by kernel_rfl) (fun _ _ _ h => h) (Or.inl ⟨by rfl, ?_⟩) (by assumption) ?_
      rotate_left
      · (intro w hSw; (try dsimp only at hSw); go_simp; try with_reducible rfl)
      try simp only [Act.put, List.setIfInBounds_toArray, List.set_cons_zero, List.set_cons_succ]
      refine wpAnyH_take (i := 1) (oi := { dst := some 59, op := Op.binOp BinOp.lss 3 (Operand.tmp 58) (Operand.const (Value.int IntKind.i64 1)) 3, type := 4, pos := "law.go:35", after := #[{ on := 0, ground := Ground.data }], guard := none }) (v := ?_) rfl (by kernel_rfl) (by kernel_rfl) (by kernel_rfl) (fun _ _ _ h => h) (Or.inl ⟨by rfl, ?_⟩) (by assumption) ?_
      rotate_left
      · (intro w hSw; (try dsimp only at hSw); go_simp; try with_reducible rfl)
      try simp only [Act.put, List.setIfInBounds_toArray, List.set_cons_zero, List.set_cons_succ]
      refine wpAnyH_take (i := 2) (oi := { dst := some 60, op := Op.move (Operand.tmp 59), type := 4, pos := "law.go:35", after := #[{ on := 1, ground := Ground.data }], guard := none }) (v := ?_) rfl (by kernel_rfl) (by kernel_rfl) (by kernel_rfl) (fun _ _ _ h => h) (Or.inl ⟨by rfl, ?_⟩) (by assumption) ?_
      rotate_left
      · (intro w hSw; (try dsimp only at hSw); go_simp; try with_reducible rfl)
      try simp only [Act.put, List.setIfInBounds_toArray, List.set_cons_zero, List.set_cons_succ]
      refine wpAnyH_take (i := 3) (oi := { dst := some 61, op := Op.move (Operand.tmp 7), type := 3, pos := "law.go:35", after := #[{ on := 2, ground := Ground.guard }], guard := some (2, false) }) (v := ?_) rfl (by kernel_rfl) (by kernel_rfl) (by kernel_rfl) (fun _ _ _ h => h) (Or.inl ⟨by rfl, ?_⟩) (by assumption) ?_
      rotate_left
      · (intro w hSw; (try dsimp only at hSw); go_simp; try with_reducible rfl)
      try simp only [Act.put, List.setIfInBounds_toArray, List.set_cons_zero, List.set_cons_succ]
      refine wpAnyH_take (i := 4) (oi := { dst := some 62, op := Op.fieldAddr 27 (Operand.tmp 6) 2, type := 0, pos := "law.go:35", after := #[{ on := 2, ground := Ground.guard }], guard := some (2, false) }) (v := ?_) rfl (by kernel_rfl) (by kernel_rfl) (by kernel_rfl) (fun _ _ _ h => h) (Or.inl ⟨by rfl, ?_⟩) (by assumption) ?_
      rotate_left
      · (intro w hSw; (try dsimp only at hSw); go_simp; try with_reducible rfl)
      try simp only [Act.put, List.setIfInBounds_toArray, List.set_cons_zero, List.set_cons_succ]
      refine wpAnyH_take (i := 5) (oi := { dst := some 63, op := Op.load 25 (Operand.tmp 62), type := 25, pos := "law.go:35", after := #[{ on := 4, ground := Ground.data }, { on := 2, ground := Ground.guard }], guard := some (2, false) }) (v := ?_) rfl (by kernel_rfl) (by kernel_rfl) (by kernel_rfl) (fun _ _ _ h => h) (Or.inl ⟨by rfl, ?_⟩) (by assumption) ?_
      rotate_left
      · (intro w hSw; (try dsimp only at hSw); go_simp; try with_reducible rfl)
      try simp only [Act.put, List.setIfInBounds_toArray, List.set_cons_zero, List.set_cons_succ]
      refine wpAnyH_take (i := 6) (oi := { dst := some 64, op := Op.call { callee := Callee.builtin Builtin.len, args := #[Operand.tmp 63], argTypes := #[25] }, type := 3, pos := "law.go:35", after := #[{ on := 5, ground := Ground.data }, { on := 2, ground := Ground.guard }], guard := some (2, false) }) (v := ?_) rfl (by kernel_rfl) (by kernel_rfl) (by kernel_rfl) (fun _ _ _ h => h) (Or.inl ⟨by rfl, ?_⟩) (by assumption) ?_
      rotate_left
      · (intro w hSw; (try dsimp only at hSw); go_simp; try with_reducible rfl)
      try simp only [Act.put, List.setIfInBounds_toArray, List.set_cons_zero, List.set_cons_succ]
      refine wpAnyH_take (i := 7) (oi := { dst := some 65, op := Op.binOp BinOp.geq 3 (Operand.tmp 61) (Operand.tmp 64) 3, type := 4, pos := "law.go:35", after := #[{ on := 3, ground := Ground.data }, { on := 6, ground := Ground.data }, { on := 2, ground := Ground.guard }], guard := some (2, false) }) (v := ?_) rfl (by kernel_rfl) (by kernel_rfl) (by kernel_rfl) (fun _ _ _ h => h) (Or.inl ⟨by rfl, ?_⟩) (by assumption) ?_
      rotate_left
      · (intro w hSw; (try dsimp only at hSw); go_simp; try with_reducible rfl)
      try simp only [Act.put, List.setIfInBounds_toArray, List.set_cons_zero, List.set_cons_succ]
      refine wpAnyH_take (i := 8) (oi := { dst := some 66, op := Op.pick (Operand.tmp 60) (Operand.const (Value.bool true)) (Operand.tmp 65), type := 4, pos := "law.go:35", after := #[{ on := 2, ground := Ground.data }, { on := 7, ground := Ground.data }], guard := none }) (v := ?_) rfl (by kernel_rfl) (by kernel_rfl) (by kernel_rfl) (fun _ _ _ h => h) (Or.inl ⟨by rfl, ?_⟩) (by assumption) ?_
      rotate_left
      · (intro w hSw; (try dsimp only at hSw); go_simp; try with_reducible rfl)
      try simp only [Act.put, List.setIfInBounds_toArray, List.set_cons_zero, List.set_cons_succ]
      refine wpAnyH_take (i := 9) (oi := { dst := some 67, op := Op.move (Operand.tmp 66), type := 4, pos := "law.go:35", after := #[{ on := 8, ground := Ground.data }, { on := 2, ground := Ground.chain }], guard := none }) (v := ?_) rfl (by kernel_rfl) (by kernel_rfl) (by kernel_rfl) (fun _ _ _ h => h) (Or.inl ⟨by rfl, ?_⟩) (by assumption) ?_
      rotate_left
      · (intro w hSw; (try dsimp only at hSw); go_simp; try with_reducible rfl)
      try simp only [Act.put, List.setIfInBounds_toArray, List.set_cons_zero, List.set_cons_succ]
      refine wpAnyH_take (i := 10) (oi := { dst := some 68, op := Op.move (Operand.tmp 7), type := 3, pos := "law.go:35", after := #[{ on := 9, ground := Ground.guard }], guard := some (9, false) }) (v := ?_) rfl (by kernel_rfl) (by kernel_rfl) (by kernel_rfl) (fun _ _ _ h => h) (Or.inl ⟨by rfl, ?_⟩) (by assumption) ?_
      rotate_left
      · (intro w hSw; (try dsimp only at hSw); go_simp; try with_reducible rfl)
      try simp only [Act.put, List.setIfInBounds_toArray, List.set_cons_zero, List.set_cons_succ]
      refine wpAnyH_take (i := 11) (oi := { dst := some 69, op := Op.fieldAddr 27 (Operand.tmp 5) 2, type := 0, pos := "law.go:35", after := #[{ on := 9, ground := Ground.guard }], guard := some (9, false) }) (v := ?_) rfl (by kernel_rfl) (by kernel_rfl) (by kernel_rfl) (fun _ _ _ h => h) (Or.inl ⟨by rfl, ?_⟩) (by assumption) ?_
      rotate_left
      · (intro w hSw; (try dsimp only at hSw); go_simp; try with_reducible rfl)
      try simp only [Act.put, List.setIfInBounds_toArray, List.set_cons_zero, List.set_cons_succ]
      refine wpAnyH_take (i := 12) (oi := { dst := some 70, op := Op.load 25 (Operand.tmp 69), type := 25, pos := "law.go:35", after := #[{ on := 11, ground := Ground.data }, { on := 9, ground := Ground.guard }], guard := some (9, false) }) (v := ?_) rfl (by kernel_rfl) (by kernel_rfl) (by kernel_rfl) (fun _ _ _ h => h) (Or.inl ⟨by rfl, ?_⟩) (by assumption) ?_
      rotate_left
      · (intro w hSw; (try dsimp only at hSw); go_simp; try with_reducible rfl)
      try simp only [Act.put, List.setIfInBounds_toArray, List.set_cons_zero, List.set_cons_succ]
      refine wpAnyH_take (i := 13) (oi := { dst := some 71, op := Op.call { callee := Callee.builtin Builtin.len, args := #[Operand.tmp 70], argTypes := #[25] }, type := 3, pos := "law.go:35", after := #[{ on := 12, ground := Ground.data }, { on := 9, ground := Ground.guard }], guard := some (9, false) }) (v := ?_) rfl (by kernel_rfl) (by kernel_rfl) (by kernel_rfl) (fun _ _ _ h => h) (Or.inl ⟨by rfl, ?_⟩) (by assumption) ?_
      rotate_left
      · (intro w hSw; (try dsimp only at hSw); go_simp; try with_reducible rfl)
      try simp only [Act.put, List.setIfInBounds_toArray, List.set_cons_zero, List.set_cons_succ]
      refine wpAnyH_take (i := 14) (oi := { dst := some 72, op := Op.binOp BinOp.lss 3 (Operand.tmp 68) (Operand.tmp 71) 3, type := 4, pos := "law.go:35", after := #[{ on := 10, ground := Ground.data }, { on := 13, ground := Ground.data }, { on := 9, ground := Ground.guard }], guard := some (9, false) }) (v := ?_) rfl (by kernel_rfl) (by kernel_rfl) (by kernel_rfl) (fun _ _ _ h => h) (Or.inl ⟨by rfl, ?_⟩) (by assumption) ?_
      rotate_left
      · (intro w hSw; (try dsimp only at hSw); go_simp; try with_reducible rfl)
      try simp only [Act.put, List.setIfInBounds_toArray, List.set_cons_zero, List.set_cons_succ]
      refine wpAnyH_take (i := 15) (oi := { dst := some 73, op := Op.move (Operand.tmp 72), type := 4, pos := "law.go:35", after := #[{ on := 14, ground := Ground.data }, { on := 9, ground := Ground.chain }, { on := 9, ground := Ground.guard }], guard := some (9, false) }) (v := ?_) rfl (by kernel_rfl) (by kernel_rfl) (by kernel_rfl) (fun _ _ _ h => h) (Or.inl ⟨by rfl, ?_⟩) (by assumption) ?_
      rotate_left
      · (intro w hSw; (try dsimp only at hSw); go_simp; try with_reducible rfl)
      try simp only [Act.put, List.setIfInBounds_toArray, List.set_cons_zero, List.set_cons_succ]
      refine wpAnyH_take (i := 16) (oi := { dst := some 74, op := Op.fieldAddr 27 (Operand.tmp 5) 2, type := 0, pos := "law.go:35", after := #[{ on := 15, ground := Ground.guard }], guard := some (15, true) }) (v := undef) rfl (by kernel_rfl) (by kernel_rfl) (by kernel_rfl) (fun _ _ _ h => h) (Or.inr ⟨by rfl, rfl⟩) (by assumption) ?_
      try simp only [Act.put, List.setIfInBounds_toArray, List.set_cons_zero, List.set_cons_succ]
      refine wpAnyH_take (i := 17) (oi := { dst := some 75, op := Op.load 25 (Operand.tmp 74), type := 25, pos := "law.go:35", after := #[{ on := 16, ground := Ground.data }, { on := 15, ground := Ground.guard }], guard := some (15, true) }) (v := undef) rfl (by kernel_rfl) (by kernel_rfl) (by kernel_rfl) (fun _ _ _ h => h) (Or.inr ⟨by rfl, rfl⟩) (by assumption) ?_
      try simp only [Act.put, List.setIfInBounds_toArray, List.set_cons_zero, List.set_cons_succ]
      refine wpAnyH_take (i := 18) (oi := { dst := some 76, op := Op.move (Operand.tmp 7), type := 3, pos := "law.go:35", after := #[{ on := 15, ground := Ground.guard }], guard := some (15, true) }) (v := undef) rfl (by kernel_rfl) (by kernel_rfl) (by kernel_rfl) (fun _ _ _ h => h) (Or.inr ⟨by rfl, rfl⟩) (by assumption) ?_
      try simp only [Act.put, List.setIfInBounds_toArray, List.set_cons_zero, List.set_cons_succ]
      refine wpAnyH_take (i := 19) (oi := { dst := some 77, op := Op.indexAddr 25 (Operand.tmp 75) (Operand.tmp 76), type := 0, pos := "law.go:35", after := #[{ on := 17, ground := Ground.data }, { on := 18, ground := Ground.data }, { on := 15, ground := Ground.guard }], guard := some (15, true) }) (v := undef) rfl (by kernel_rfl) (by kernel_rfl) (by kernel_rfl) (fun _ _ _ h => h) (Or.inr ⟨by rfl, rfl⟩) (by assumption) ?_
      try simp only [Act.put, List.setIfInBounds_toArray, List.set_cons_zero, List.set_cons_succ]
      refine wpAnyH_take (i := 20) (oi := { dst := some 78, op := Op.fieldAddr 43 (Operand.tmp 77) 0, type := 0, pos := "law.go:35", after := #[{ on := 19, ground := Ground.data }, { on := 15, ground := Ground.guard }], guard := some (15, true) }) (v := undef) rfl (by kernel_rfl) (by kernel_rfl) (by kernel_rfl) (fun _ _ _ h => h) (Or.inr ⟨by rfl, rfl⟩) (by assumption) ?_
      try simp only [Act.put, List.setIfInBounds_toArray, List.set_cons_zero, List.set_cons_succ]
      refine wpAnyH_take (i := 21) (oi := { dst := some 79, op := Op.load 4 (Operand.tmp 78), type := 4, pos := "law.go:35", after := #[{ on := 20, ground := Ground.data }, { on := 15, ground := Ground.guard }], guard := some (15, true) }) (v := undef) rfl (by kernel_rfl) (by kernel_rfl) (by kernel_rfl) (fun _ _ _ h => h) (Or.inr ⟨by rfl, rfl⟩) (by assumption) ?_
      try simp only [Act.put, List.setIfInBounds_toArray, List.set_cons_zero, List.set_cons_succ]
      refine wpAnyH_take (i := 22) (oi := { dst := some 80, op := Op.pick (Operand.tmp 73) (Operand.tmp 79) (Operand.const (Value.bool false)), type := 4, pos := "law.go:35", after := #[{ on := 15, ground := Ground.data }, { on := 21, ground := Ground.data }, { on := 9, ground := Ground.guard }], guard := some (9, false) }) (v := ?_) rfl (by kernel_rfl) (by kernel_rfl) (by kernel_rfl) (fun _ _ _ h => h) (Or.inl ⟨by rfl, ?_⟩) (by assumption) ?_
      rotate_left
      · (intro w hSw; (try dsimp only at hSw); go_simp; try with_reducible rfl)
      try simp only [Act.put, List.setIfInBounds_toArray, List.set_cons_zero, List.set_cons_succ]
      refine wpAnyH_take (i := 23) (oi := { dst := some 81, op := Op.pick (Operand.tmp 67) (Operand.const (Value.bool true)) (Operand.tmp 80), type := 4, pos := "law.go:35", after := #[{ on := 9, ground := Ground.data }, { on := 22, ground := Ground.data }], guard := none }) (v := ?_) rfl (by kernel_rfl) (by kernel_rfl) (by kernel_rfl) (fun _ _ _ h => h) (Or.inl ⟨by rfl, ?_⟩) (by assumption) ?_
      rotate_left
      · (intro w hSw; (try dsimp only at hSw); go_simp; try with_reducible rfl)
      try simp only [Act.put, List.setIfInBounds_toArray, List.set_cons_zero, List.set_cons_succ]
      refine wpAnyH_take (i := 24) (oi := { dst := some 82, op := Op.move (Operand.tmp 81), type := 4, pos := "law.go:35", after := #[{ on := 23, ground := Ground.data }, { on := 15, ground := Ground.chain }], guard := none }) (v := ?_) rfl (by kernel_rfl) (by kernel_rfl) (by kernel_rfl) (fun _ _ _ h => h) (Or.inl ⟨by rfl, ?_⟩) (by assumption) ?_
      rotate_left
      · (intro w hSw; (try dsimp only at hSw); go_simp; try with_reducible rfl)
      try simp only [Act.put, List.setIfInBounds_toArray, List.set_cons_zero, List.set_cons_succ]
      refine wpAnyH_take (i := 25) (oi := { dst := some 83, op := Op.fieldAddr 27 (Operand.tmp 6) 2, type := 0, pos := "law.go:35", after := #[{ on := 24, ground := Ground.guard }], guard := some (24, false) }) (v := ?_) rfl (by kernel_rfl) (by kernel_rfl) (by kernel_rfl) (fun _ _ _ h => h) (Or.inl ⟨by rfl, ?_⟩) (by assumption) ?_
      rotate_left
      · (intro w hSw; (try dsimp only at hSw); go_simp; try with_reducible rfl)
      try simp only [Act.put, List.setIfInBounds_toArray, List.set_cons_zero, List.set_cons_succ]
      refine wpAnyH_take (i := 26) (oi := { dst := some 84, op := Op.load 25 (Operand.tmp 83), type := 25, pos := "law.go:35", after := #[{ on := 25, ground := Ground.data }, { on := 24, ground := Ground.guard }], guard := some (24, false) }) (v := ?_) rfl (by kernel_rfl) (by kernel_rfl) (by kernel_rfl) (fun _ _ _ h => h) (Or.inl ⟨by rfl, ?_⟩) (by assumption) ?_
      rotate_left
      · (intro w hSw; (try dsimp only at hSw); go_simp; try with_reducible rfl)
      try simp only [Act.put, List.setIfInBounds_toArray, List.set_cons_zero, List.set_cons_succ]
      refine wpAnyH_take (i := 27) (oi := { dst := some 85, op := Op.move (Operand.tmp 7), type := 3, pos := "law.go:35", after := #[{ on := 24, ground := Ground.guard }], guard := some (24, false) }) (v := ?_) rfl (by kernel_rfl) (by kernel_rfl) (by kernel_rfl) (fun _ _ _ h => h) (Or.inl ⟨by rfl, ?_⟩) (by assumption) ?_
      rotate_left
      · (intro w hSw; (try dsimp only at hSw); go_simp; try with_reducible rfl)
      try simp only [Act.put, List.setIfInBounds_toArray, List.set_cons_zero, List.set_cons_succ]
      refine wpAnyH_take (i := 28) (oi := { dst := some 86, op := Op.indexAddr 25 (Operand.tmp 84) (Operand.tmp 85), type := 0, pos := "law.go:35", after := #[{ on := 26, ground := Ground.data }, { on := 27, ground := Ground.data }, { on := 24, ground := Ground.guard }], guard := some (24, false) }) (v := ?_) rfl (by kernel_rfl) (by kernel_rfl) (by kernel_rfl) (fun _ _ _ h => h) (Or.inl ⟨by rfl, ?_⟩) (by assumption) ?_
      rotate_left
      · (intro w hSw; (try dsimp only at hSw); go_simp; try with_reducible rfl)
      try simp only [Act.put, List.setIfInBounds_toArray, List.set_cons_zero, List.set_cons_succ]
      refine wpAnyH_take (i := 29) (oi := { dst := some 87, op := Op.fieldAddr 43 (Operand.tmp 86) 1, type := 0, pos := "law.go:35", after := #[{ on := 28, ground := Ground.data }, { on := 24, ground := Ground.guard }], guard := some (24, false) }) (v := ?_) rfl (by kernel_rfl) (by kernel_rfl) (by kernel_rfl) (fun _ _ _ h => h) (Or.inl ⟨by rfl, ?_⟩) (by assumption) ?_
      rotate_left
      · (intro w hSw; (try dsimp only at hSw); go_simp; try with_reducible rfl)
      try simp only [Act.put, List.setIfInBounds_toArray, List.set_cons_zero, List.set_cons_succ]
      refine wpAnyH_take (i := 30) (oi := { dst := some 88, op := Op.load 4 (Operand.tmp 87), type := 4, pos := "law.go:35", after := #[{ on := 29, ground := Ground.data }, { on := 24, ground := Ground.guard }], guard := some (24, false) }) (v := ?_) rfl (by kernel_rfl) (by kernel_rfl) (by kernel_rfl) (fun _ _ _ h => h) (Or.inl ⟨by rfl, ?_⟩) (by assumption) ?_
      rotate_left
      · (intro w hSw; (try dsimp only at hSw); go_simp; try with_reducible rfl)
      try simp only [Act.put, List.setIfInBounds_toArray, List.set_cons_zero, List.set_cons_succ]
      refine wpAnyH_take (i := 31) (oi := { dst := some 89, op := Op.fieldAddr 27 (Operand.tmp 5) 2, type := 0, pos := "law.go:35", after := #[{ on := 24, ground := Ground.guard }], guard := some (24, false) }) (v := ?_) rfl (by kernel_rfl) (by kernel_rfl) (by kernel_rfl) (fun _ _ _ h => h) (Or.inl ⟨by rfl, ?_⟩) (by assumption) ?_
      rotate_left
      · (intro w hSw; (try dsimp only at hSw); go_simp; try with_reducible rfl)
      try simp only [Act.put, List.setIfInBounds_toArray, List.set_cons_zero, List.set_cons_succ]
      refine wpAnyH_take (i := 32) (oi := { dst := some 90, op := Op.load 25 (Operand.tmp 89), type := 25, pos := "law.go:35", after := #[{ on := 31, ground := Ground.data }, { on := 24, ground := Ground.guard }], guard := some (24, false) }) (v := ?_) rfl (by kernel_rfl) (by kernel_rfl) (by kernel_rfl) (fun _ _ _ h => h) (Or.inl ⟨by rfl, ?_⟩) (by assumption) ?_
      rotate_left
      · (intro w hSw; (try dsimp only at hSw); go_simp; try with_reducible rfl)
      try simp only [Act.put, List.setIfInBounds_toArray, List.set_cons_zero, List.set_cons_succ]
      refine wpAnyH_take (i := 33) (oi := { dst := some 91, op := Op.move (Operand.tmp 1), type := 3, pos := "law.go:35", after := #[{ on := 24, ground := Ground.guard }], guard := some (24, false) }) (v := ?_) rfl (by kernel_rfl) (by kernel_rfl) (by kernel_rfl) (fun _ _ _ h => h) (Or.inl ⟨by rfl, ?_⟩) (by assumption) ?_
      rotate_left
      · (intro w hSw; (try dsimp only at hSw); go_simp; try with_reducible rfl)
      try simp only [Act.put, List.setIfInBounds_toArray, List.set_cons_zero, List.set_cons_succ]
      refine wpAnyH_take (i := 34) (oi := { dst := some 92, op := Op.indexAddr 25 (Operand.tmp 90) (Operand.tmp 91), type := 0, pos := "law.go:35", after := #[{ on := 32, ground := Ground.data }, { on := 33, ground := Ground.data }, { on := 24, ground := Ground.guard }], guard := some (24, false) }) (v := ?_) rfl (by kernel_rfl) (by kernel_rfl) (by kernel_rfl) (fun _ _ _ h => h) (Or.inl ⟨by rfl, ?_⟩) (by assumption) ?_
      rotate_left
      · (intro w hSw; (try dsimp only at hSw); go_simp; try with_reducible rfl)
      try simp only [Act.put, List.setIfInBounds_toArray, List.set_cons_zero, List.set_cons_succ]
      refine wpAnyH_take (i := 35) (oi := { dst := some 93, op := Op.fieldAddr 43 (Operand.tmp 92) 1, type := 0, pos := "law.go:35", after := #[{ on := 34, ground := Ground.data }, { on := 24, ground := Ground.guard }], guard := some (24, false) }) (v := ?_) rfl (by kernel_rfl) (by kernel_rfl) (by kernel_rfl) (fun _ _ _ h => h) (Or.inl ⟨by rfl, ?_⟩) (by assumption) ?_
      rotate_left
      · (intro w hSw; (try dsimp only at hSw); go_simp; try with_reducible rfl)
      try simp only [Act.put, List.setIfInBounds_toArray, List.set_cons_zero, List.set_cons_succ]
      refine wpAnyH_take (i := 36) (oi := { dst := some 94, op := Op.load 4 (Operand.tmp 93), type := 4, pos := "law.go:35", after := #[{ on := 35, ground := Ground.data }, { on := 24, ground := Ground.guard }], guard := some (24, false) }) (v := ?_) rfl (by kernel_rfl) (by kernel_rfl) (by kernel_rfl) (fun _ _ _ h => h) (Or.inl ⟨by rfl, ?_⟩) (by assumption) ?_
      rotate_left
      · (intro w hSw; (try dsimp only at hSw); go_simp; try with_reducible rfl)
      try simp only [Act.put, List.setIfInBounds_toArray, List.set_cons_zero, List.set_cons_succ]
      refine wpAnyH_take (i := 37) (oi := { dst := some 95, op := Op.binOp BinOp.neq 4 (Operand.tmp 88) (Operand.tmp 94) 4, type := 4, pos := "law.go:35", after := #[{ on := 30, ground := Ground.data }, { on := 36, ground := Ground.data }, { on := 24, ground := Ground.guard }], guard := some (24, false) }) (v := ?_) rfl (by kernel_rfl) (by kernel_rfl) (by kernel_rfl) (fun _ _ _ h => h) (Or.inl ⟨by rfl, ?_⟩) (by assumption) ?_
      rotate_left
      · (intro w hSw; (try dsimp only at hSw); go_simp; try with_reducible rfl)
      try simp only [Act.put, List.setIfInBounds_toArray, List.set_cons_zero, List.set_cons_succ]
      refine wpAnyH_take (i := 38) (oi := { dst := some 96, op := Op.pick (Operand.tmp 82) (Operand.const (Value.bool true)) (Operand.tmp 95), type := 4, pos := "law.go:35", after := #[{ on := 24, ground := Ground.data }, { on := 37, ground := Ground.data }], guard := none }) (v := ?_) rfl (by kernel_rfl) (by kernel_rfl) (by kernel_rfl) (fun _ _ _ h => h) (Or.inl ⟨by rfl, ?_⟩) (by assumption) ?_
      rotate_left
      · (intro w hSw; (try dsimp only at hSw); go_simp; try with_reducible rfl)
      try simp only [Act.put, List.setIfInBounds_toArray, List.set_cons_zero, List.set_cons_succ]
      refine wpAnyH_take (i := 39) (oi := { dst := some 97, op := Op.move (Operand.tmp 96), type := 4, pos := "law.go:35", after := #[{ on := 38, ground := Ground.data }, { on := 24, ground := Ground.chain }], guard := none }) (v := ?_) rfl (by kernel_rfl) (by kernel_rfl) (by kernel_rfl) (fun _ _ _ h => h) (Or.inl ⟨by rfl, ?_⟩) (by assumption) ?_
      rotate_left
      · (intro w hSw; (try dsimp only at hSw); go_simp; try with_reducible rfl)
      try simp only [Act.put, List.setIfInBounds_toArray, List.set_cons_zero, List.set_cons_succ]
      refine wpAnyH_take (i := 40) (oi := { dst := some 98, op := Op.fieldAddr 27 (Operand.tmp 6) 2, type := 0, pos := "law.go:35", after := #[{ on := 39, ground := Ground.guard }], guard := some (39, false) }) (v := ?_) rfl (by kernel_rfl) (by kernel_rfl) (by kernel_rfl) (fun _ _ _ h => h) (Or.inl ⟨by rfl, ?_⟩) (by assumption) ?_
      rotate_left
      · (intro w hSw; (try dsimp only at hSw); go_simp; try with_reducible rfl)
      try simp only [Act.put, List.setIfInBounds_toArray, List.set_cons_zero, List.set_cons_succ]
      refine wpAnyH_take (i := 41) (oi := { dst := some 99, op := Op.load 25 (Operand.tmp 98), type := 25, pos := "law.go:35", after := #[{ on := 40, ground := Ground.data }, { on := 39, ground := Ground.guard }], guard := some (39, false) }) (v := ?_) rfl (by kernel_rfl) (by kernel_rfl) (by kernel_rfl) (fun _ _ _ h => h) (Or.inl ⟨by rfl, ?_⟩) (by assumption) ?_
      rotate_left
      · (intro w hSw; (try dsimp only at hSw); go_simp; try with_reducible rfl)
      try simp only [Act.put, List.setIfInBounds_toArray, List.set_cons_zero, List.set_cons_succ]
      refine wpAnyH_take (i := 42) (oi := { dst := some 100, op := Op.move (Operand.tmp 7), type := 3, pos := "law.go:35", after := #[{ on := 39, ground := Ground.guard }], guard := some (39, false) }) (v := ?_) rfl (by kernel_rfl) (by kernel_rfl) (by kernel_rfl) (fun _ _ _ h => h) (Or.inl ⟨by rfl, ?_⟩) (by assumption) ?_
      rotate_left
      · (intro w hSw; (try dsimp only at hSw); go_simp; try with_reducible rfl)
      try simp only [Act.put, List.setIfInBounds_toArray, List.set_cons_zero, List.set_cons_succ]
      refine wpAnyH_take (i := 43) (oi := { dst := some 101, op := Op.indexAddr 25 (Operand.tmp 99) (Operand.tmp 100), type := 0, pos := "law.go:35", after := #[{ on := 41, ground := Ground.data }, { on := 42, ground := Ground.data }, { on := 39, ground := Ground.guard }], guard := some (39, false) }) (v := ?_) rfl (by kernel_rfl) (by kernel_rfl) (by kernel_rfl) (fun _ _ _ h => h) (Or.inl ⟨by rfl, ?_⟩) (by assumption) ?_
      rotate_left
      · (intro w hSw; (try dsimp only at hSw); go_simp; try with_reducible rfl)
      try simp only [Act.put, List.setIfInBounds_toArray, List.set_cons_zero, List.set_cons_succ]
      refine wpAnyH_take (i := 44) (oi := { dst := some 102, op := Op.fieldAddr 43 (Operand.tmp 101) 0, type := 0, pos := "law.go:35", after := #[{ on := 43, ground := Ground.data }, { on := 39, ground := Ground.guard }], guard := some (39, false) }) (v := ?_) rfl (by kernel_rfl) (by kernel_rfl) (by kernel_rfl) (fun _ _ _ h => h) (Or.inl ⟨by rfl, ?_⟩) (by assumption) ?_
      rotate_left
      · (intro w hSw; (try dsimp only at hSw); go_simp; try with_reducible rfl)
      try simp only [Act.put, List.setIfInBounds_toArray, List.set_cons_zero, List.set_cons_succ]
      refine wpAnyH_take (i := 45) (oi := { dst := some 103, op := Op.load 4 (Operand.tmp 102), type := 4, pos := "law.go:35", after := #[{ on := 44, ground := Ground.data }, { on := 39, ground := Ground.guard }], guard := some (39, false) }) (v := ?_) rfl (by kernel_rfl) (by kernel_rfl) (by kernel_rfl) (fun _ _ _ h => h) (Or.inl ⟨by rfl, ?_⟩) (by assumption) ?_
      rotate_left
      · (intro w hSw; (try dsimp only at hSw); go_simp; try with_reducible rfl)
      try simp only [Act.put, List.setIfInBounds_toArray, List.set_cons_zero, List.set_cons_succ]
      refine wpAnyH_take (i := 46) (oi := { dst := some 104, op := Op.unOp UnOp.not 4 (Operand.tmp 103), type := 4, pos := "law.go:35", after := #[{ on := 45, ground := Ground.data }, { on := 39, ground := Ground.guard }], guard := some (39, false) }) (v := ?_) rfl (by kernel_rfl) (by kernel_rfl) (by kernel_rfl) (fun _ _ _ h => h) (Or.inl ⟨by rfl, ?_⟩) (by assumption) ?_
      rotate_left
      · (intro w hSw; (try dsimp only at hSw); go_simp; try with_reducible rfl)
      try simp only [Act.put, List.setIfInBounds_toArray, List.set_cons_zero, List.set_cons_succ]
      refine wpAnyH_take (i := 47) (oi := { dst := some 105, op := Op.pick (Operand.tmp 97) (Operand.const (Value.bool true)) (Operand.tmp 104), type := 4, pos := "law.go:35", after := #[{ on := 39, ground := Ground.data }, { on := 46, ground := Ground.data }], guard := none }) (v := ?_) rfl (by kernel_rfl) (by kernel_rfl) (by kernel_rfl) (fun _ _ _ h => h) (Or.inl ⟨by rfl, ?_⟩) (by assumption) ?_
      rotate_left
      · (intro w hSw; (try dsimp only at hSw); go_simp; try with_reducible rfl)
      try simp only [Act.put, List.setIfInBounds_toArray, List.set_cons_zero, List.set_cons_succ]
      refine wpAnyH_take (i := 48) (oi := { dst := some 106, op := Op.move (Operand.tmp 105), type := 4, pos := "law.go:35", after := #[{ on := 47, ground := Ground.data }, { on := 39, ground := Ground.chain }], guard := none }) (v := ?_) rfl (by kernel_rfl) (by kernel_rfl) (by kernel_rfl) (fun _ _ _ h => h) (Or.inl ⟨by rfl, ?_⟩) (by assumption) ?_
      rotate_left
      · (intro w hSw; (try dsimp only at hSw); go_simp; try with_reducible rfl)
      try simp only [Act.put, List.setIfInBounds_toArray, List.set_cons_zero, List.set_cons_succ]
      refine wpAnyH_take (i := 49) (oi := { dst := some 107, op := Op.fieldAddr 27 (Operand.tmp 6) 2, type := 0, pos := "law.go:35", after := #[{ on := 48, ground := Ground.guard }], guard := some (48, false) }) (v := ?_) rfl (by kernel_rfl) (by kernel_rfl) (by kernel_rfl) (fun _ _ _ h => h) (Or.inl ⟨by rfl, ?_⟩) (by assumption) ?_
      rotate_left
      · (intro w hSw; (try dsimp only at hSw); go_simp; try with_reducible rfl)
      try simp only [Act.put, List.setIfInBounds_toArray, List.set_cons_zero, List.set_cons_succ]
      refine wpAnyH_take (i := 50) (oi := { dst := some 108, op := Op.load 25 (Operand.tmp 107), type := 25, pos := "law.go:35", after := #[{ on := 49, ground := Ground.data }, { on := 48, ground := Ground.guard }], guard := some (48, false) }) (v := ?_) rfl (by kernel_rfl) (by kernel_rfl) (by kernel_rfl) (fun _ _ _ h => h) (Or.inl ⟨by rfl, ?_⟩) (by assumption) ?_
      rotate_left
      · (intro w hSw; (try dsimp only at hSw); go_simp; try with_reducible rfl)
      try simp only [Act.put, List.setIfInBounds_toArray, List.set_cons_zero, List.set_cons_succ]
      refine wpAnyH_take (i := 51) (oi := { dst := some 109, op := Op.move (Operand.tmp 7), type := 3, pos := "law.go:35", after := #[{ on := 48, ground := Ground.guard }], guard := some (48, false) }) (v := ?_) rfl (by kernel_rfl) (by kernel_rfl) (by kernel_rfl) (fun _ _ _ h => h) (Or.inl ⟨by rfl, ?_⟩) (by assumption) ?_
      rotate_left
      · (intro w hSw; (try dsimp only at hSw); go_simp; try with_reducible rfl)
      try simp only [Act.put, List.setIfInBounds_toArray, List.set_cons_zero, List.set_cons_succ]
      refine wpAnyH_take (i := 52) (oi := { dst := some 110, op := Op.indexAddr 25 (Operand.tmp 108) (Operand.tmp 109), type := 0, pos := "law.go:35", after := #[{ on := 50, ground := Ground.data }, { on := 51, ground := Ground.data }, { on := 48, ground := Ground.guard }], guard := some (48, false) }) (v := ?_) rfl (by kernel_rfl) (by kernel_rfl) (by kernel_rfl) (fun _ _ _ h => h) (Or.inl ⟨by rfl, ?_⟩) (by assumption) ?_
      rotate_left
      · (intro w hSw; (try dsimp only at hSw); go_simp; try with_reducible rfl)
      try simp only [Act.put, List.setIfInBounds_toArray, List.set_cons_zero, List.set_cons_succ]
      refine wpAnyH_take (i := 53) (oi := { dst := some 111, op := Op.fieldAddr 43 (Operand.tmp 110) 3, type := 0, pos := "law.go:35", after := #[{ on := 52, ground := Ground.data }, { on := 48, ground := Ground.guard }], guard := some (48, false) }) (v := ?_) rfl (by kernel_rfl) (by kernel_rfl) (by kernel_rfl) (fun _ _ _ h => h) (Or.inl ⟨by rfl, ?_⟩) (by assumption) ?_
      rotate_left
      · (intro w hSw; (try dsimp only at hSw); go_simp; try with_reducible rfl)
      try simp only [Act.put, List.setIfInBounds_toArray, List.set_cons_zero, List.set_cons_succ]
      refine wpAnyH_take (i := 54) (oi := { dst := some 112, op := Op.load 41 (Operand.tmp 111), type := 41, pos := "law.go:35", after := #[{ on := 53, ground := Ground.data }, { on := 48, ground := Ground.guard }], guard := some (48, false) }) (v := ?_) rfl (by kernel_rfl) (by kernel_rfl) (by kernel_rfl) (fun _ _ _ h => h) (Or.inl ⟨by rfl, ?_⟩) (by assumption) ?_
      rotate_left
      · (intro w hSw; (try dsimp only at hSw); go_simp; try with_reducible rfl)
      try simp only [Act.put, List.setIfInBounds_toArray, List.set_cons_zero, List.set_cons_succ]
      refine wpAnyH_take (i := 55) (oi := { dst := some 113, op := Op.fieldAddr 27 (Operand.tmp 5) 2, type := 0, pos := "law.go:35", after := #[{ on := 48, ground := Ground.guard }], guard := some (48, false) }) (v := ?_) rfl (by kernel_rfl) (by kernel_rfl) (by kernel_rfl) (fun _ _ _ h => h) (Or.inl ⟨by rfl, ?_⟩) (by assumption) ?_
      rotate_left
      · (intro w hSw; (try dsimp only at hSw); go_simp; try with_reducible rfl)
      try simp only [Act.put, List.setIfInBounds_toArray, List.set_cons_zero, List.set_cons_succ]
      refine wpAnyH_take (i := 56) (oi := { dst := some 114, op := Op.load 25 (Operand.tmp 113), type := 25, pos := "law.go:35", after := #[{ on := 55, ground := Ground.data }, { on := 48, ground := Ground.guard }], guard := some (48, false) }) (v := ?_) rfl (by kernel_rfl) (by kernel_rfl) (by kernel_rfl) (fun _ _ _ h => h) (Or.inl ⟨by rfl, ?_⟩) (by assumption) ?_
      rotate_left
      · (intro w hSw; (try dsimp only at hSw); go_simp; try with_reducible rfl)
      try simp only [Act.put, List.setIfInBounds_toArray, List.set_cons_zero, List.set_cons_succ]
      refine wpAnyH_take (i := 57) (oi := { dst := some 115, op := Op.move (Operand.tmp 1), type := 3, pos := "law.go:35", after := #[{ on := 48, ground := Ground.guard }], guard := some (48, false) }) (v := ?_) rfl (by kernel_rfl) (by kernel_rfl) (by kernel_rfl) (fun _ _ _ h => h) (Or.inl ⟨by rfl, ?_⟩) (by assumption) ?_
      rotate_left
      · (intro w hSw; (try dsimp only at hSw); go_simp; try with_reducible rfl)
      try simp only [Act.put, List.setIfInBounds_toArray, List.set_cons_zero, List.set_cons_succ]
      refine wpAnyH_take (i := 58) (oi := { dst := some 116, op := Op.indexAddr 25 (Operand.tmp 114) (Operand.tmp 115), type := 0, pos := "law.go:35", after := #[{ on := 56, ground := Ground.data }, { on := 57, ground := Ground.data }, { on := 48, ground := Ground.guard }], guard := some (48, false) }) (v := ?_) rfl (by kernel_rfl) (by kernel_rfl) (by kernel_rfl) (fun _ _ _ h => h) (Or.inl ⟨by rfl, ?_⟩) (by assumption) ?_
      rotate_left
      · (intro w hSw; (try dsimp only at hSw); go_simp; try with_reducible rfl)
      try simp only [Act.put, List.setIfInBounds_toArray, List.set_cons_zero, List.set_cons_succ]
      refine wpAnyH_take (i := 59) (oi := { dst := some 117, op := Op.fieldAddr 43 (Operand.tmp 116) 3, type := 0, pos := "law.go:35", after := #[{ on := 58, ground := Ground.data }, { on := 48, ground := Ground.guard }], guard := some (48, false) }) (v := ?_) rfl (by kernel_rfl) (by kernel_rfl) (by kernel_rfl) (fun _ _ _ h => h) (Or.inl ⟨by rfl, ?_⟩) (by assumption) ?_
      rotate_left
      · (intro w hSw; (try dsimp only at hSw); go_simp; try with_reducible rfl)
      try simp only [Act.put, List.setIfInBounds_toArray, List.set_cons_zero, List.set_cons_succ]
      refine wpAnyH_take (i := 60) (oi := { dst := some 118, op := Op.load 41 (Operand.tmp 117), type := 41, pos := "law.go:35", after := #[{ on := 59, ground := Ground.data }, { on := 48, ground := Ground.guard }], guard := some (48, false) }) (v := ?_) rfl (by kernel_rfl) (by kernel_rfl) (by kernel_rfl) (fun _ _ _ h => h) (Or.inl ⟨by rfl, ?_⟩) (by assumption) ?_
      rotate_left
      · (intro w hSw; (try dsimp only at hSw); go_simp; try with_reducible rfl)
      try simp only [Act.put, List.setIfInBounds_toArray, List.set_cons_zero, List.set_cons_succ]
      refine wpAnyH_ready (rs := [61]) (by kernel_rfl) (by simp) ?_
      refine AllReadyH.cons rfl (fun K hK => ?_) AllReadyH.nil
      go_simp
      go_wp2_with (go_at_call 17; with_reducible (refine Calls.mono (HSM2.out _ hgw) ?_); clear hgw; rintro e w6 ⟨rfl, hgw, ⟨s0, s1, s2, s3, s4, s5, s6⟩, z1, z2, z3, z4⟩)
      refine hK.out _ _ ⟨s0, s1, s2, s3, s4, s5, s6⟩ (fun hHeld2 => ?_)
      clear hK K hHeld
      try simp only [Act.put, List.setIfInBounds_toArray, List.set_cons_zero, List.set_cons_succ]
      refine wpAnyH_take (i := 62) (oi := { dst := some 120, op := Op.unOp UnOp.not 4 (Operand.tmp 119), type := 4, pos := "law.go:35", after := #[{ on := 61, ground := Ground.data }, { on := 48, ground := Ground.guard }], guard := some (48, false) }) (v := ?_) rfl (by kernel_rfl) (by kernel_rfl) (by kernel_rfl) (fun _ _ _ h => h) (Or.inl ⟨by rfl, ?_⟩) (by assumption) ?_
      rotate_left
      · (intro w hSw; (try dsimp only at hSw); go_simp; try with_reducible rfl)
      try simp only [Act.put, List.setIfInBounds_toArray, List.set_cons_zero, List.set_cons_succ]
      refine wpAnyH_take (i := 63) (oi := { dst := some 121, op := Op.pick (Operand.tmp 106) (Operand.const (Value.bool true)) (Operand.tmp 120), type := 4, pos := "law.go:35", after := #[{ on := 48, ground := Ground.data }, { on := 62, ground := Ground.data }], guard := none }) (v := ?_) rfl (by kernel_rfl) (by kernel_rfl) (by kernel_rfl) (fun _ _ _ h => h) (Or.inl ⟨by rfl, ?_⟩) (by assumption) ?_
      rotate_left
      · (intro w hSw; (try dsimp only at hSw); go_simp; try with_reducible rfl)
      try simp only [Act.put, List.setIfInBounds_toArray, List.set_cons_zero, List.set_cons_succ]
      refine wpAnyH_done (by kernel_rfl) ?_ _
      clear hHeld2
      have HG46 : Hid (Gw w4 w6) := HG45.out.trans hgw
      have HG26 : Hid (Gw w2 w6) := HG4.out.trans HG46.out
      have HX6 : Hid (Blk w6 w4.heap.size #[.slice (some ⟨g3, o3, none⟩) X.L.length oc', .slice (some ⟨g4, o4, none⟩) X.O.length pc', .slice (some ⟨g, o, none⟩) X.P.length qc'] 27) := Blk.on HX5.out hgw.1 (Blk.lt HX5.out)
      have HK6 : Hid (Blk w6 w2.heap.size #[.slice oa K.L.length oc, .slice pa K.O.length pc, .slice (some ⟨gk, ok, none⟩) K.P.length qc] 27) := Blk.on HK5.out hgw.1 (Blk.lt HK5.out)
      have x6c := Blk.cell HX6.out
      have x6l := Blk.lt HX6.out
      obtain ⟨slp, p3, htp⟩ := HGP.out w6 HG46.out
      have hgn := Pr.get_new (x.slots.map toT) (at' : Int) 3200
      rw [List.length_map] at hgn
      have HGT : Hid (Calls Try.prog 21 #[.slice slp.a slp.n slp.c, .int .i64 (x.slots.length : Int)] w6 fun e w' => e = .returned (.tuple #[.agg #[.int .i64 (at' : Int), .int .i64 3200], .int .i64 0]) ∧ Below w6.heap.size w6 w') := by
        have h := rget_any _ (x.slots.length : Int) _ _ w6 htp (fun b hb => hb)
        rw [hgn] at h
        exact h
      clear hgw s0 s1 s2 s3 s4 s5 s6 z1 z2 z3 z4 t0 t1 t2 t3 t4 t5 t6 y1 y2 y3 y4 htp hgn
      go_wp2_with fail
      refine Calls.mono HGT.out ?_
      rintro e w7 ⟨rfl, hb7⟩
      have hg67 := Gw.below hb7
      have HG47 : Hid (Gw w4 w7) := HG46.out.trans hg67
      have HG27 : Hid (Gw w2 w7) := HG26.out.trans hg67
      have HX7 : Hid (Blk w7 w4.heap.size #[.slice (some ⟨g3, o3, none⟩) X.L.length oc', .slice (some ⟨g4, o4, none⟩) X.O.length pc', .slice (some ⟨g, o, none⟩) X.P.length qc'] 27) := Blk.on HX6.out hg67.1 (Blk.lt HX6.out)
      have HK7 : Hid (Blk w7 w2.heap.size #[.slice oa K.L.length oc, .slice pa K.O.length pc, .slice (some ⟨gk, ok, none⟩) K.P.length qc] 27) := Blk.on HK6.out hg67.1 (Blk.lt HK6.out)
      have hc8 := Blk.new w7 #[.int .i64 (at' : Int), .int .i64 3200] 50
      have HC8 : Hid (Blk (w7.alloc (.cells #[.int .i64 (at' : Int), .int .i64 3200] 50)) w7.heap.size #[.int .i64 (at' : Int), .int .i64 3200] 50) := hc8
      have HG78 : Hid (Gw w7 (w7.alloc (.cells #[.int .i64 (at' : Int), .int .i64 3200] 50))) := Gw.new _ _
      have HX8 : Hid (Blk (w7.alloc (.cells #[.int .i64 (at' : Int), .int .i64 3200] 50)) w4.heap.size #[.slice (some ⟨g3, o3, none⟩) X.L.length oc', .slice (some ⟨g4, o4, none⟩) X.O.length pc', .slice (some ⟨g, o, none⟩) X.P.length qc'] 27) := Blk.alloc HX7.out _
      have HK8 : Hid (Blk (w7.alloc (.cells #[.int .i64 (at' : Int), .int .i64 3200] 50)) w2.heap.size #[.slice oa K.L.length oc, .slice pa K.O.length pc, .slice (some ⟨gk, ok, none⟩) K.P.length qc] 27) := Blk.alloc HK7.out _
      have x8c := Blk.cell HX8.out
      have x8l := Blk.lt HX8.out
      have c8c := hc8.cell
      have c8l := hc8.lt
      obtain ⟨g8, o8, he8, -, -, -, hgl8, f0, f1⟩ := (HATX.out w7 HG47.out).open HOPN.out
      obtain ⟨rfl, rfl⟩ : g4 = g8 ∧ o4 = o8 := by simpa using he8
      dsimp only at f0 f1
      have hol := HOLEN.out
      have ha1 : (at' : Int) < (X.O.length : Int) := by omega
      have ha2 : ¬ (X.O.length : Int) ≤ (at' : Int) := by omega
      have ha3 : at' < X.O.length := by omega
      have ha4 : ¬ X.O.length ≤ at' := by omega
      have ha5 : ¬ (at' : Int) < 0 := by omega
      have nn5 : ¬ w7.heap.size = g4 := by omega
      clear he8 hb7 hg67 hc8 x6c x6l p3 hol
      go_wp2_with fail
      generalize (w7.alloc (.cells #[.int .i64 (at' : Int), .int .i64 3200] 50)) = w8 at *
      refine Calls.mono (is_any X.L (Pr.madeAt K.L : Nat) 5 _ _ w8 (HATX.out w8 (HG47.out.trans HG78.out)).1) ?_
      rintro e w8' ⟨rfl, rfl⟩
      rw [HIS.out]
      obtain ⟨g9, o9, he9, -, -, -, hgl9, m6⟩ := (HATX.out w8' (HG47.out.trans HG78.out)).kid HOBJ.out
      obtain ⟨rfl, rfl⟩ : g3 = g9 ∧ o3 = o9 := by simpa using he9
      rw [show (Pr.kid c).proc = (c : Int) from rfl] at m6
      have hml : Pr.madeAt K.L < X.L.length := (List.getElem?_eq_some_iff.1 HOBJ.out).1
      have hml1 : (Pr.madeAt K.L : Int) < (X.L.length : Int) := by omega
      obtain ⟨slp2, p3, htp⟩ := HGP.out w8' (HG47.out.trans HG78.out)
      have HCL : Hid (Calls Try.prog 23 #[.slice slp2.a slp2.n slp2.c, .int .i64 (x.slots.length : Int)] w8' fun e w' => ∃ v', e = .returned (.tuple #[v', .int .i64 0]) ∧ TabNew w8' w' v' (x.slots.map toT)) := by
        have hsl := HPK.out.slots x (List.mem_of_getElem? HX.out.1)
        have h := rclose_any _ (x.slots.length : Int) _ _ w8' htp (fun b hb => hb) (by rw [List.length_append, List.length_map]; have := hsl.1; simp; omega)
        rw [Pr.close_new hsl.2] at h
        exact h
      clear he9 htp f0 f1
      go_wp2_with fail
      refine Calls.mono HCL.out ?_
      rintro e w9 ⟨v', rfl, ht9, hb9⟩
      obtain ⟨ra, rc, hv9, -⟩ := ht9.form
      rw [List.length_map] at hv9
      subst hv9
      have hg89 := Gw.below hb9
      have HG49 : Hid (Gw w4 w9) := (HG47.out.trans HG78.out).trans hg89
      have HG29 : Hid (Gw w2 w9) := (HG27.out.trans HG78.out).trans hg89
      have HX9 : Hid (Blk w9 w4.heap.size #[.slice (some ⟨g3, o3, none⟩) X.L.length oc', .slice (some ⟨g4, o4, none⟩) X.O.length pc', .slice (some ⟨g, o, none⟩) X.P.length qc'] 27) := Blk.on HX8.out hg89.1 (Blk.lt HX8.out)
      have HK9 : Hid (Blk w9 w2.heap.size #[.slice oa K.L.length oc, .slice pa K.O.length pc, .slice (some ⟨gk, ok, none⟩) K.P.length qc] 27) := Blk.on HK8.out hg89.1 (Blk.lt HK8.out)
      have k9c := Blk.cell HK9.out
      have k9l := Blk.lt HK9.out
      obtain ⟨g6, o6, slk9, he6, -, -, -, hgk9, -, -, -, r3, hrk9⟩ := (HAT.out w9 HG29.out).proc HX.out.1
      obtain ⟨rfl, rfl⟩ : gk = g6 ∧ ok = o6 := by simpa using he6
      have HSM9 : Hid _ := same_any (x.slots.map toT) _ _ _ _ w9 ht9 (tab_of hrk9)
      clear he6 hrk9 ht9 hb9 hg89 x8c x8l c8c c8l m6 p3
      go_wp2_with fail
      refine Calls.mono HSM9.out ?_
      rintro e w10 ⟨rfl, hb10⟩
      have hg90 := Gw.below hb10
      have HG40 : Hid (Gw w4 w10) := HG49.out.trans hg90
      have HG20 : Hid (Gw w2 w10) := HG29.out.trans hg90
      have HX10 : Hid (Blk w10 w4.heap.size #[.slice (some ⟨g3, o3, none⟩) X.L.length oc', .slice (some ⟨g4, o4, none⟩) X.O.length pc', .slice (some ⟨g, o, none⟩) X.P.length qc'] 27) := Blk.on HX9.out hg90.1 (Blk.lt HX9.out)
      have HK10 : Hid (Blk w10 w2.heap.size #[.slice oa K.L.length oc, .slice pa K.O.length pc, .slice (some ⟨gk, ok, none⟩) K.P.length qc] 27) := Blk.on HK9.out hg90.1 (Blk.lt HK9.out)
      have k10c := Blk.cell HK10.out
      have k10l := Blk.lt HK10.out
      clear hb10 hg90 k9c k9l r3
      go_wp2_with fail
      go_loopw [202] (fun v wr => ∃ i : Nat, i ≤ K.P.length ∧ v = .int .i64 i ∧ Gw w10 wr) (fun v _ => K.P.length - (intOf v).toNat)
      case atStart => exact ⟨0, Nat.zero_le _, rfl, Gw.refl w10⟩
      case round =>
        obtain ⟨i, hi, rfl, hg⟩ := hrel
        have HG : Hid (Gw w10 wr) := hg
        have hkb := Blk.on HK10.out hg.1 (Blk.lt HK10.out)
        have hxb := Blk.on HX10.out hg.1 (Blk.lt HX10.out)
        have kc := hkb.cell
        have kl := hkb.lt
        have xc := hxb.cell
        have xl := hxb.lt
        have HGX : Hid (Gw w4 wr) := HG40.out.trans hg
        have HGK : Hid (Gw w2 wr) := HG20.out.trans hg
        clear hkb hxb hg k10c k10l
        by_cases hlt : i < K.P.length
        · obtain ⟨y, hy⟩ : ∃ y, K.P[i]? = some y := ⟨_, List.getElem?_eq_getElem hlt⟩
          have hiz : (i : Int) < (K.P.length : Int) := by omega
          by_cases hik : i = k
          · obtain rfl : k = i := hik.symm
            go_upto_region 23 with fail
            go_region
            go_wp2
            go_roundw
            case rel => exact ⟨k + 1, by omega, by go_num, HG.out.trans (Gw.drew _)⟩
            case measure => simp [intOf]; omega
          · have hne : ((i : Int) != (k : Int)) = true := bne_iff_ne.2 fun e => hik (by omega)
            by_cases hic : i = c
            · obtain rfl : c = i := hic.symm
              clear hik
              go_upto_region 23 with fail
              go_region
              go_wp2
              go_roundw
              case rel => exact ⟨c + 1, by omega, by go_num, HG.out.trans (Gw.drew _)⟩
              case measure => simp [intOf]; omega
            · have hne2 : ((i : Int) != (c : Int)) = true := bne_iff_ne.2 fun e => hic (by omega)
              have hix : (i : Int) < (X.P.length : Int) := by have := HLEN.out; omega
              have hy' : X.P[i]? = some y := by rw [HOTH.out i hik hic hlt]; exact hy
              obtain ⟨ga, oa1, ⟨sa, sn, sc⟩, he1, -, -, -, hgl1, -, -, -, a3, hr1⟩ := (HAT.out wr HGK.out).proc hy
              obtain ⟨rfl, rfl⟩ : gk = ga ∧ ok = oa1 := by simpa using he1
              obtain ⟨gb, ob1, ⟨sb, sm, sd⟩, he2, -, -, -, hgl2, -, -, -, b3, hr2⟩ := (HATX.out wr HGX.out).proc hy'
              obtain ⟨rfl, rfl⟩ : g = gb ∧ o = ob1 := by simpa using he2
              have kc2 := kc 2
              have xc2 := xc 2
              simp at kc2 xc2
              dsimp only at a3 b3
              have HSM2 : Hid (∀ W', Gw wr W' → Calls Try.prog 17 #[.slice sa sn sc, .slice sb sm sd] W' fun e w' => e = .returned (.bool true) ∧ Gw wr w' ∧ (w'.cell? ⟨w2.heap.size, 2, none⟩ = some (.slice (some ⟨gk, ok, none⟩) K.P.length qc) ∧ w'.cell? ⟨w4.heap.size, 2, none⟩ = some (.slice (some ⟨g, o, none⟩) X.P.length qc') ∧ w'.cell? ⟨gk, ok + i * 4 + 3, none⟩ = some (.slice sa sn sc) ∧ w'.cell? ⟨g, o + i * 4 + 3, none⟩ = some (.slice sb sm sd)) ∧ w2.heap.size < w'.heap.size ∧ w4.heap.size < w'.heap.size ∧ gk < w'.heap.size ∧ g < w'.heap.size) := fun W' hg => by
                refine (same_any (y.slots.map toT) _ _ _ _ W' (tab_of (Row.on hr1 hg.1)) (tab_of (Row.on hr2 hg.1))).mono ?_
                rintro e w' ⟨rfl, h⟩
                have hon := hg.trans (Gw.below h)
                have hz := hon.2.1
                exact ⟨rfl, hon, ⟨(On.cell hon.1 (b := w2.heap.size) kl).trans kc2, (On.cell hon.1 (b := w4.heap.size) xl).trans xc2, (On.cell hon.1 (b := gk) hgl1).trans a3, (On.cell hon.1 (b := g) hgl2).trans b3⟩, by omega, by omega, by omega, by omega⟩
              have hgw : Gw wr wr.drew := Gw.drew _
              clear he1 he2 hr1 hr2 hy hy' kc xc hik hic
              go_upto_region 23 with fail
              go_region_held_law (fun w' => w'.cell? ⟨w2.heap.size, 2, none⟩ = some (.slice (some ⟨gk, ok, none⟩) K.P.length qc) ∧ w'.cell? ⟨w4.heap.size, 2, none⟩ = some (.slice (some ⟨g, o, none⟩) X.P.length qc') ∧ w'.cell? ⟨gk, ok + i * 4 + 3, none⟩ = some (.slice sa sn sc) ∧ w'.cell? ⟨g, o + i * 4 + 3, none⟩ = some (.slice sb sm sd)) (go_keep) (first
                | ((go_at_call 17; with_reducible (refine Calls.mono (HSM2.out _ hgw) ?_); clear hgw; rintro e W3 ⟨rfl, hgw, ⟨s1, s2, s3, s4⟩, z1, z2, z3, z4⟩)))
              have HGR : Hid (Gw w10 W3) := Gw.trans HG.out hgw
              clear hgw s1 s2 s3 s4 z1 z2 z3 z4 a3 b3 kc2 xc2
              go_wp2
              go_roundw
              case rel => exact ⟨i + 1, by omega, by go_num, HGR.out⟩
              case measure => simp [intOf]; omega
        · obtain rfl : i = K.P.length := by omega
          have HGF : Hid (Gw w wr) := HG2.out.trans HGK.out
          go_wp2
          go_ret
          exact ⟨rfl, HGF.out.2.2 _ (Nat.le_refl _)⟩
end Go.Proofs.Ytdciohinlhbliaa

namespace Go.Proofs.Ytdciohinlhbliaa
open Go.ChangeShapes Go.WideShapes Go.ChangeAt Go.RowKit
open Go.ChangeMaps (open_string shut_string)
set_option maxRecDepth 100000 in
theorem procsFork_lifted (os : Os) (started : os.Started) (H : Type) (enc : TypeId × Value → H) :
    ReturnsInHanded {} Try.checked os 6 .any (Rows.procsForkSpec.pre6 enc Try.prog Try.f6 Rows.procsForkRow.domain false) (Rows.procsForkSpec.post enc Try.prog Try.f6 false true false false) := by
  refine returnsInHanded_of_change_sized (C := Try.checked) vlaw_own started (by kernel_rfl) Try.func6
    (ChangeSpec.witness6 (enc := enc) (C := Try.checked) false ⟨#[], #[.slice none 0 0, .int .i64 0], []⟩ 8 (by kernel_rfl) (by kernel_rfl) (by kernel_rfl) (by kernel_rfl)) ?_
  intro W base args ds gs before hval0 hW _ hsz0 _
  have hval : ∀ (j : Nat) t v, Try.f6.params[j]? = some t → args[j]? = some v → Value.okWide Try.prog W .any base t v := hval0
  have hsz : (DataW.weightsEach Try.prog (Try.f6.params.toList ++ Rows.procsForkSpec.plain.varTypes Try.prog) (ds ++ gs)).all (· ≤ reachBytes) = true := hsz0
  have hW' := hW
  obtain ⟨p, q, hA0, hV, rfl, hfz, hnd⟩ := hW
  have hA : DataW.TrodAll enc Try.prog W 0 (fun _ => true) true Try.f6.params.toList args.toList ds p := hA0
  rw [Try.params6] at hA hval hsz
  obtain ⟨v0, vs0, d0, ds0, p0, q0, hargs, rfl, rfl, h0, r0⟩ := trodAll_cons hA
  obtain ⟨v1, vs1, d1, ds1, p1, q1, rfl, rfl, rfl, h1, r1⟩ := trodAll_cons r0
  obtain ⟨rfl, rfl, rfl⟩ := trodAll_nil r1
  obtain rfl : args = #[v0, v1] := by cases args; simp_all
  obtain ⟨rfl, rfl⟩ := trodVars_none hV
  have lt0 : ∀ x ∈ p0, x.block < W.heap.size := by obtain ⟨m, hm⟩ := h0; exact DataW.trod_lt m _ _ _ hm
  have lt1 : ∀ x ∈ p1, x.block < W.heap.size := by obtain ⟨m, hm⟩ := h1; exact DataW.trod_lt m _ _ _ hm
  obtain ⟨l0, hD0⟩ := vopen_bytes (hval 0 22 v0 rfl rfl) h0
  obtain ⟨z1, rfl, _, _, _⟩ := open_int Try.underlying3 (hval 1 3 v1 rfl rfl) h1
  clear hA0 hval0 hsz hsz0
  refine (sfork_any l0 z1 v0 W hD0.1).mono fun e W' ⟨he, bel⟩ => ?_
  subst he
  exact ⟨_, rfl, _, _, _, [], _, [], hW', trodAll_mk1 (shut_bool Try.underlying4 _), trodAll_cons_mk (Below.trod vlaw_laidOut (by kernel_rfl) (of_decide_eq_true (by kernel_rfl)) h0 bel lt0) (trodAll_cons_mk (Below.trod vlaw_laidOut (by kernel_rfl) (of_decide_eq_true (by kernel_rfl)) h1 bel lt1) trodAll_mk0), rfl, bel.frame _, fun h => by cases h⟩
theorem procsFork_over : Rows.procsForkRow.holds Try.pinned (OpenSpec.ofChange Rows.procsForkSpec) :=
  OpenClaim.holds_of_wide 6 Try.f6 rfl rfl rfl rfl rfl rfl rfl ⟨rfl, rfl, rfl, rfl, rfl⟩ rfl rfl rfl rfl rfl (by kernel_rfl) Try.func6 (by kernel_rfl)
    (of_decide_eq_true (by kernel_rfl)) (by unfold Func.isWrapper; first | (rw [if_pos (by decide +kernel)]; kernel_rfl) | (rw [if_neg (by decide +kernel)]; exact ⟨rfl, rfl⟩))
    (fun os started H enc _ => procsFork_lifted os started H enc)
/-- The statement. -/
theorem procsForkHolds : Rows.ProcsForkSaid := procsFork_over
#print axioms procsForkHolds
end Go.Proofs.Ytdciohinlhbliaa