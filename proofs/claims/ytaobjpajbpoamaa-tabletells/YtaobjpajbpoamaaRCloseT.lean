/-
  rgref5.Close, walked.
-/
import Derived.Test.YtaobjpajbpoamaaTClose
namespace Go.Proofs.Ytaobjpajbpoamaa
open Go.RowKit
theorem t_take' {w : World} {S : Nat → Prop} {b o c n : Nat} {l : List Tb.Slt} (h : Tab w S (.slice (some ⟨b, o, none⟩) l.length c) l) (hn : n ≤ l.length) : Tab w S (.slice (some ⟨b, o, none⟩) n c) (l.take n) := by
  cases n with
  | zero => exact Row.nil _ _ _ _ _
  | succ m => exact t_take h hn
theorem set_take_lt (l : List Tb.Slt) (f k : Nat) (y x : Tb.Slt) (hx : (l.set f y)[k]? = some x) : (l.set f y).take (k + 1) = (l.set f y).take k ++ [x] := by
  obtain ⟨hk, rfl⟩ := List.getElem?_eq_some_iff.1 hx
  exact List.take_succ_eq_append_getElem hk
set_option maxRecDepth 100000 in
set_option maxHeartbeats 4000000 in
theorem rclose_ok (l : List Tb.Slt) (f : Nat) (x0 : Tb.Slt) (v : Value) (S : Nat → Prop) (w : World) (hv : Tab w S v l) (hS : ∀ b, S b → b < w.heap.size) (hU : l.length * 24 ≤ 140737488355328) (hx0 : l[f]? = some x0) (hh0 : x0.has = true) :
    Calls Try.prog 33 #[v, .int .i64 f] w fun e w' => ∃ v', e = .returned (.tuple #[v', .int .i64 0]) ∧ TabNew w w' v' (Tb.trim (l.set f Tb.none0)) := by
  have HG : Hid (Calls Try.prog 28 #[v, .int .i64 f] w fun e w' => e = .returned (.tuple #[.agg #[.int .i64 x0.op, .int .i64 x0.rt], .int .i64 0]) ∧ Below w.heap.size w w') := by have := rget_any l f v S w hv hS; rw [Tb.get_ok hx0 hh0] at this; exact this
  obtain ⟨a, c, rfl, hm⟩ := hv.form
  have HT : Hid (Tab w S (.slice a l.length c) l) := hv
  have HS : Hid (∀ b, S b → b < w.heap.size) := hS
  have HU : Hid (l.length * 24 ≤ 140737488355328) := hU
  have hfl := (List.getElem?_eq_some_iff.1 hx0).1
  unfold maxLen at hm
  clear hv hS hU hx0 hh0
  go_enter Try.func33, Try.ntmps33
  go_wp2_with fail
  refine HG.out.mono ?_
  rintro e w1 ⟨rfl, hb1⟩
  have HB1 : Hid (Below w.heap.size w (w1.alloc (.cells #[.int .i64 x0.op, .int .i64 x0.rt] 58))) := hb1.alloc hb1.size _
  clear hb1 HG
  go_wp2_with fail
  generalize w1.alloc (.cells #[.int .i64 x0.op, .int .i64 x0.rt] 58) = w2 at *
  generalize w1.heap.size = G1 at *
  go_loopw [8, 9, 23] (fun r la i wr => ∃ k : Nat, k ≤ l.length ∧ i = .int .i64 k ∧ la = .int .i64 (Tb.lastN ((l.set f Tb.none0).take k) : Nat) ∧ Mine wr w.heap.size 60 3 r (((l.set f Tb.none0).take k).map tC) ∧ Below w.heap.size w wr) (fun _ _ i _ => l.length - (intOf i).toNat)
  case atStart => exact ⟨0, Nat.zero_le _, rfl, rfl, Mine.nil _ _ _ _, HB1.out⟩
  case round =>
    obtain ⟨k, hk, rfl, rfl, hM, hB⟩ := hrel
    have HM : Hid (Mine wr w.heap.size 60 3 u8 (((l.set f Tb.none0).take k).map tC)) := hM
    have HB : Hid (Below w.heap.size w wr) := hB
    have hll : (l.set f Tb.none0).length = l.length := List.length_set
    have HLL : Hid ((l.set f Tb.none0).length = l.length) := hll
    have hla : Tb.lastN ((l.set f Tb.none0).take k) ≤ k := Nat.le_trans (Tb.lastN_le _) (by rw [List.length_take]; omega)
    clear hM hll
    by_cases hlt : k < l.length
    · have hx : l[k]? = some l[k] := List.getElem?_eq_getElem hlt
      obtain ⟨b, o, c', he, hb, hc, hm', c0, c1, c2⟩ := (HT.out.below hB HS.out).open hx
      obtain ⟨rfl, -, rfl⟩ := Value.slice.inj he
      have hbl : b < wr.heap.size := by have := HS.out b hb; have := hB.size; omega
      have HX : Hid (l[k]? = some l[k]) := hx
      clear hx he hm' hb hB
      generalize l[k] = x at *
      by_cases hkf : k = f
      · have HY : Hid ((l.set f Tb.none0)[k]? = some Tb.none0) := by unfold Hid; rw [hkf, List.getElem?_set_self hfl]
        have HTK : Hid ((l.set f Tb.none0).take (k + 1) = (l.set f Tb.none0).take k ++ [Tb.none0]) := set_take_lt l f k _ _ HY.out
        have HLN : Hid (Tb.lastN ((l.set f Tb.none0).take (k + 1)) = Tb.lastN ((l.set f Tb.none0).take k)) := by unfold Hid; rw [HTK.out, Tb.lastN_snoc]; exact if_neg (by decide)
        have HTL : Hid (((l.set f Tb.none0).take k).length = k) := by unfold Hid; rw [List.length_take, HLL.out]; omega
        have hkz : (k : Int) = (f : Int) := by omega
        clear HX HY HLL hkz
        have hfk : f = k := hkf.symm
        clear hkf
        subst hfk
        generalize hN0 : Tb.lastN ((l.set f Tb.none0).take f) = N0 at *
        have HN0 : Hid (Tb.lastN ((l.set f Tb.none0).take f) = N0) := hN0
        clear hN0
        go_wp2_with (with_reducible refine stop_t (.call { callee := .builtin .append, args := #[.tmp 32, .tmp 34], argTypes := #[56, 56] }) rfl ?_)
        unfold HoldT
        clear c0 c1 c2
        have HB3 : Hid (Below w.heap.size w (wr.alloc (.cells #[.bool false, .int .i64 0, .int .i64 0] 60))) := HB.out.alloc HB.out.size _
        have HM3 : Hid (Mine (wr.alloc (.cells #[.bool false, .int .i64 0, .int .i64 0] 60)) w.heap.size 60 3 u8 (((l.set f Tb.none0).take f).map tC)) := HM.out.on (On.alloc _ _) fun g hg => (HM.out.lt g hg).2
        have HK3 : Hid (Blk (wr.alloc (.cells #[.bool false, .int .i64 0, .int .i64 0] 60)) wr.heap.size #[.bool false, .int .i64 0, .int .i64 0] 60) := Blk.new wr _ _
        have HNG : Hid (∀ g, u8.ownBlock = some g → g ≠ wr.heap.size) := fun g hg => by have := (HM.out.lt g hg).2; omega
        have hz3 : (wr.alloc (.cells #[.bool false, .int .i64 0, .int .i64 0] 60)).heap.size = wr.heap.size + 1 := by simp
        clear HM HB
        generalize wr.alloc (.cells #[.bool false, .int .i64 0, .int .i64 0] 60) = W3 at *
        have HR3 : Hid (Row (W3.alloc (.cells #[.bool false, .int .i64 0, .int .i64 0] 60)) (fun b => b = wr.heap.size + 1) 3 (.slice (some ⟨wr.heap.size + 1, 0, none⟩) 1 1) ([(⟨false, 0, 0⟩ : Tb.Slt)].map tC)) := by
          have := t_one (x := (⟨false, 0, 0⟩ : Tb.Slt)) (Blk.new W3 (tC ⟨false, 0, 0⟩).toArray 60)
          rw [hz3] at this
          exact this
        have HM4 : Hid (Mine (W3.alloc (.cells #[.bool false, .int .i64 0, .int .i64 0] 60)) w.heap.size 60 3 u8 (((l.set f Tb.none0).take f).map tC)) := HM3.out.on (On.alloc _ _) fun g hg => (HM3.out.lt g hg).2
        have HB4 : Hid (Below w.heap.size w (W3.alloc (.cells #[.bool false, .int .i64 0, .int .i64 0] 60))) := HB3.out.alloc HB3.out.size _
        have HK4 : Hid (Blk (W3.alloc (.cells #[.bool false, .int .i64 0, .int .i64 0] 60)) wr.heap.size #[.bool false, .int .i64 0, .int .i64 0] 60) := HK3.out.alloc _
        clear HM3 HB3 HK3 hz3
        generalize W3.alloc (.cells #[.bool false, .int .i64 0, .int .i64 0] 60) = W4 at *
        obtain ⟨i0, hi, hz0, hz1, hz2⟩ := info_parts Tb.infoSlot
        refine wpList_append_row rfl _ _ _ rfl w.heap.size 60 i0 (.agg #[.bool false, .int .i64 0, .int .i64 0]) 3 24 Try.underlying56 hi hz0 hz1 hz2 rfl (by decide) _ (((l.set f Tb.none0).take f).map tC) rfl HM4.out _ _ _ rfl HR3.out (even_t _) (ones_t _) ?_ (by decide) HB4.out.size ?_
        · rw [List.length_map, HTL.out, List.length_map, List.length_cons, List.length_nil]; have := HU.out; omega
        intro v5 W5 ho5 hg5
        clear hi hz0 hz1 hz2
        have HB5 : Hid (Below w.heap.size w W5) := HB4.out.grown hg5 HB4.out.size (fun j hj => (HM4.out.lt j hj).1)
        have HM5 : Hid (Mine W5 w.heap.size 60 3 v5 (((l.set f Tb.none0).take (f + 1)).map tC)) := by
          unfold Hid
          rw [HTK.out, List.map_append]
          exact ho5
        have hK5 : Blk W5 wr.heap.size #[.bool false, .int .i64 0, .int .i64 0] 60 := (hg5.block wr.heap.size HK4.out.lt (fun e => HNG.out _ e.symm rfl)).trans HK4.out
        have d0 : W5.cell? ⟨wr.heap.size, 0, none⟩ = some (.bool false) := hK5.cell 0
        clear ho5 hg5 HM4 HR3 HB4 HK4 hK5 HNG HTK HTL
        go_wp2
        exact ⟨⟨f + 1, by omega, by go_num, by rw [HLN.out], HM5.out, HB5.out⟩, by simp [intOf]; omega⟩
      · have HY : Hid ((l.set f Tb.none0)[k]? = some x) := by unfold Hid; rw [List.getElem?_set_ne (by omega)]; exact HX.out
        have HTK : Hid ((l.set f Tb.none0).take (k + 1) = (l.set f Tb.none0).take k ++ [x]) := set_take_lt l f k _ _ HY.out
        have HTL : Hid (((l.set f Tb.none0).take k).length = k) := by unfold Hid; rw [List.length_take, HLL.out]; omega
        have HLN : Hid (Tb.lastN ((l.set f Tb.none0).take (k + 1)) = if x.has = true then k + 1 else Tb.lastN ((l.set f Tb.none0).take k)) := by unfold Hid; rw [HTK.out, Tb.lastN_snoc, HTL.out]
        have hkz : ¬ (k : Int) = (f : Int) := by omega
        clear HX HY HLL
        generalize hN0 : Tb.lastN ((l.set f Tb.none0).take k) = N0 at *
        have HN0 : Hid (Tb.lastN ((l.set f Tb.none0).take k) = N0) := hN0
        clear hN0
        obtain ⟨xh, xo, xr⟩ := x
        dsimp only at c0 c1 c2 HLN HTK
        cases xh with
        | false =>
          go_wp2_with (with_reducible refine stop_t (.call { callee := .builtin .append, args := #[.tmp 32, .tmp 34], argTypes := #[56, 56] }) rfl ?_)
          unfold HoldT
          clear c0 c1 c2
          have HB3 : Hid (Below w.heap.size w (wr.alloc (.cells #[.bool false, .int .i64 xo, .int .i64 xr] 60))) := HB.out.alloc HB.out.size _
          have HM3 : Hid (Mine (wr.alloc (.cells #[.bool false, .int .i64 xo, .int .i64 xr] 60)) w.heap.size 60 3 u8 (((l.set f Tb.none0).take k).map tC)) := HM.out.on (On.alloc _ _) fun g hg => (HM.out.lt g hg).2
          have HK3 : Hid (Blk (wr.alloc (.cells #[.bool false, .int .i64 xo, .int .i64 xr] 60)) wr.heap.size #[.bool false, .int .i64 xo, .int .i64 xr] 60) := Blk.new wr _ _
          have HNG : Hid (∀ g, u8.ownBlock = some g → g ≠ wr.heap.size) := fun g hg => by have := (HM.out.lt g hg).2; omega
          have hz3 : (wr.alloc (.cells #[.bool false, .int .i64 xo, .int .i64 xr] 60)).heap.size = wr.heap.size + 1 := by simp
          clear HM HB
          generalize wr.alloc (.cells #[.bool false, .int .i64 xo, .int .i64 xr] 60) = W3 at *
          have HR3 : Hid (Row (W3.alloc (.cells #[.bool false, .int .i64 xo, .int .i64 xr] 60)) (fun b => b = wr.heap.size + 1) 3 (.slice (some ⟨wr.heap.size + 1, 0, none⟩) 1 1) ([(⟨false, xo, xr⟩ : Tb.Slt)].map tC)) := by
            have := t_one (x := (⟨false, xo, xr⟩ : Tb.Slt)) (Blk.new W3 (tC ⟨false, xo, xr⟩).toArray 60)
            rw [hz3] at this
            exact this
          have HM4 : Hid (Mine (W3.alloc (.cells #[.bool false, .int .i64 xo, .int .i64 xr] 60)) w.heap.size 60 3 u8 (((l.set f Tb.none0).take k).map tC)) := HM3.out.on (On.alloc _ _) fun g hg => (HM3.out.lt g hg).2
          have HB4 : Hid (Below w.heap.size w (W3.alloc (.cells #[.bool false, .int .i64 xo, .int .i64 xr] 60))) := HB3.out.alloc HB3.out.size _
          have HK4 : Hid (Blk (W3.alloc (.cells #[.bool false, .int .i64 xo, .int .i64 xr] 60)) wr.heap.size #[.bool false, .int .i64 xo, .int .i64 xr] 60) := HK3.out.alloc _
          clear HM3 HB3 HK3 hz3
          generalize W3.alloc (.cells #[.bool false, .int .i64 xo, .int .i64 xr] 60) = W4 at *
          obtain ⟨i0, hi, hz0, hz1, hz2⟩ := info_parts Tb.infoSlot
          refine wpList_append_row rfl _ _ _ rfl w.heap.size 60 i0 (.agg #[.bool false, .int .i64 0, .int .i64 0]) 3 24 Try.underlying56 hi hz0 hz1 hz2 rfl (by decide) _ (((l.set f Tb.none0).take k).map tC) rfl HM4.out _ _ _ rfl HR3.out (even_t _) (ones_t _) ?_ (by decide) HB4.out.size ?_
          · rw [List.length_map, HTL.out, List.length_map, List.length_cons, List.length_nil]; have := HU.out; omega
          intro v5 W5 ho5 hg5
          clear hi hz0 hz1 hz2
          have HB5 : Hid (Below w.heap.size w W5) := HB4.out.grown hg5 HB4.out.size (fun j hj => (HM4.out.lt j hj).1)
          have HM5 : Hid (Mine W5 w.heap.size 60 3 v5 (((l.set f Tb.none0).take (k + 1)).map tC)) := by
            unfold Hid
            rw [HTK.out, List.map_append]
            exact ho5
          have hK5 : Blk W5 wr.heap.size #[.bool false, .int .i64 xo, .int .i64 xr] 60 := (hg5.block wr.heap.size HK4.out.lt (fun e => HNG.out _ e.symm rfl)).trans HK4.out
          have d0 : W5.cell? ⟨wr.heap.size, 0, none⟩ = some (.bool false) := hK5.cell 0
          clear ho5 hg5 HM4 HR3 HB4 HK4 hK5 HNG HTK HTL
          go_wp2
          exact ⟨⟨k + 1, by omega, by go_num, by rw [HLN.out]; rfl, HM5.out, HB5.out⟩, by simp [intOf]; omega⟩

        | true =>
          go_wp2_with (with_reducible refine stop_t (.call { callee := .builtin .append, args := #[.tmp 32, .tmp 34], argTypes := #[56, 56] }) rfl ?_)
          unfold HoldT
          clear c0 c1 c2
          have HB3 : Hid (Below w.heap.size w (wr.alloc (.cells #[.bool true, .int .i64 xo, .int .i64 xr] 60))) := HB.out.alloc HB.out.size _
          have HM3 : Hid (Mine (wr.alloc (.cells #[.bool true, .int .i64 xo, .int .i64 xr] 60)) w.heap.size 60 3 u8 (((l.set f Tb.none0).take k).map tC)) := HM.out.on (On.alloc _ _) fun g hg => (HM.out.lt g hg).2
          have HK3 : Hid (Blk (wr.alloc (.cells #[.bool true, .int .i64 xo, .int .i64 xr] 60)) wr.heap.size #[.bool true, .int .i64 xo, .int .i64 xr] 60) := Blk.new wr _ _
          have HNG : Hid (∀ g, u8.ownBlock = some g → g ≠ wr.heap.size) := fun g hg => by have := (HM.out.lt g hg).2; omega
          have hz3 : (wr.alloc (.cells #[.bool true, .int .i64 xo, .int .i64 xr] 60)).heap.size = wr.heap.size + 1 := by simp
          clear HM HB
          generalize wr.alloc (.cells #[.bool true, .int .i64 xo, .int .i64 xr] 60) = W3 at *
          have HR3 : Hid (Row (W3.alloc (.cells #[.bool true, .int .i64 xo, .int .i64 xr] 60)) (fun b => b = wr.heap.size + 1) 3 (.slice (some ⟨wr.heap.size + 1, 0, none⟩) 1 1) ([(⟨true, xo, xr⟩ : Tb.Slt)].map tC)) := by
            have := t_one (x := (⟨true, xo, xr⟩ : Tb.Slt)) (Blk.new W3 (tC ⟨true, xo, xr⟩).toArray 60)
            rw [hz3] at this
            exact this
          have HM4 : Hid (Mine (W3.alloc (.cells #[.bool true, .int .i64 xo, .int .i64 xr] 60)) w.heap.size 60 3 u8 (((l.set f Tb.none0).take k).map tC)) := HM3.out.on (On.alloc _ _) fun g hg => (HM3.out.lt g hg).2
          have HB4 : Hid (Below w.heap.size w (W3.alloc (.cells #[.bool true, .int .i64 xo, .int .i64 xr] 60))) := HB3.out.alloc HB3.out.size _
          have HK4 : Hid (Blk (W3.alloc (.cells #[.bool true, .int .i64 xo, .int .i64 xr] 60)) wr.heap.size #[.bool true, .int .i64 xo, .int .i64 xr] 60) := HK3.out.alloc _
          clear HM3 HB3 HK3 hz3
          generalize W3.alloc (.cells #[.bool true, .int .i64 xo, .int .i64 xr] 60) = W4 at *
          obtain ⟨i0, hi, hz0, hz1, hz2⟩ := info_parts Tb.infoSlot
          refine wpList_append_row rfl _ _ _ rfl w.heap.size 60 i0 (.agg #[.bool false, .int .i64 0, .int .i64 0]) 3 24 Try.underlying56 hi hz0 hz1 hz2 rfl (by decide) _ (((l.set f Tb.none0).take k).map tC) rfl HM4.out _ _ _ rfl HR3.out (even_t _) (ones_t _) ?_ (by decide) HB4.out.size ?_
          · rw [List.length_map, HTL.out, List.length_map, List.length_cons, List.length_nil]; have := HU.out; omega
          intro v5 W5 ho5 hg5
          clear hi hz0 hz1 hz2
          have HB5 : Hid (Below w.heap.size w W5) := HB4.out.grown hg5 HB4.out.size (fun j hj => (HM4.out.lt j hj).1)
          have HM5 : Hid (Mine W5 w.heap.size 60 3 v5 (((l.set f Tb.none0).take (k + 1)).map tC)) := by
            unfold Hid
            rw [HTK.out, List.map_append]
            exact ho5
          have hK5 : Blk W5 wr.heap.size #[.bool true, .int .i64 xo, .int .i64 xr] 60 := (hg5.block wr.heap.size HK4.out.lt (fun e => HNG.out _ e.symm rfl)).trans HK4.out
          have d0 : W5.cell? ⟨wr.heap.size, 0, none⟩ = some (.bool true) := hK5.cell 0
          clear ho5 hg5 HM4 HR3 HB4 HK4 hK5 HNG HTK HTL
          go_wp2
          exact ⟨⟨k + 1, by omega, by go_num, by rw [HLN.out]; go_num, HM5.out, HB5.out⟩, by simp [intOf]; omega⟩

    · obtain rfl : k = l.length := by omega
      have hTL : (l.set f Tb.none0).take l.length = l.set f Tb.none0 := by rw [← HLL.out, List.take_length]
      rw [hTL] at HM hla ⊢
      obtain ⟨g, c2, hv8, hg0, hgl, hc2, hcm, -⟩ := t_own HM.out (k := f) (by rw [List.length_set]; exact hfl)
      subst hv8
      have HR : Hid (Tab wr (fun b => w.heap.size ≤ b ∧ b < wr.heap.size) (.slice (some ⟨g, 0, none⟩) (Tb.lastN (l.set f Tb.none0)) c2) (Tb.trim (l.set f Tb.none0))) := t_take' (t_row HM.out) (Tb.lastN_le _)
      generalize hN : Tb.lastN (l.set f Tb.none0) = N at *
      rw [List.length_set] at hc2 ⊢
      have hNz : (N : Int) ≤ (c2 : Int) := by omega
      unfold maxLen at hcm
      clear hN HM hB hTL HLL
      go_wp2
      go_ret2
      exact ⟨_, rfl, HR.out, HB.out⟩
set_option maxRecDepth 100000 in
theorem rclose_any (l : List Tb.Slt) (fd : Int) (v : Value) (S : Nat → Prop) (w : World) (hv : Tab w S v l) (hS : ∀ b, S b → b < w.heap.size) (hU : l.length * 24 ≤ 140737488355328) :
    Calls Try.prog 33 #[v, .int .i64 fd] w fun e w' => ∃ v', e = .returned (.tuple #[v', .int .i64 (Tb.closeR l fd).2]) ∧ TabNew w w' v' (Tb.closeR l fd).1 := by
  cases hg : Tb.get l fd with
  | none =>
    have e : Tb.closeR l fd = ([], 6) := by unfold Tb.closeR; rw [hg]
    rw [e]
    show Calls Try.prog 33 #[v, .int .i64 fd] w fun e w' => ∃ v', e = .returned (.tuple #[v', .int .i64 6]) ∧ TabNew w w' v' []
    have HG : Hid (Calls Try.prog 28 #[v, .int .i64 fd] w fun e w' => e = .returned (.tuple #[.agg #[.int .i64 0, .int .i64 0], .int .i64 6]) ∧ Below w.heap.size w w') := by have := rget_any l fd v S w hv hS; rw [hg] at this; exact this
    clear hg hv hS hU e
    go_enter Try.func33, Try.ntmps33
    go_wp2_with fail
    refine HG.out.mono ?_
    rintro e w1 ⟨rfl, hb1⟩
    have HB : Hid (Below w.heap.size w w1) := hb1
    clear hb1
    go_wp2
    go_ret2
    exact ⟨_, rfl, Row.nil _ _ _ _ _, HB.out.alloc HB.out.size _⟩
  | some x =>
    have e : Tb.closeR l fd = (Tb.trim (l.set fd.toNat Tb.none0), 0) := by unfold Tb.closeR; rw [hg]
    rw [e]
    obtain ⟨k, rfl, hx, hh⟩ := Tb.get_some hg
    rw [Int.toNat_natCast]
    exact rclose_ok l k x v S w hv hS hU hx hh
end Go.Proofs.Ytaobjpajbpoamaa
