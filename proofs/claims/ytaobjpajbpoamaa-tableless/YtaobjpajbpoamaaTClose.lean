/-
  table.change, Close, Limit, Dup, walked.
-/
import Derived.Test.YtaobjpajbpoamaaTMine
namespace Go.Proofs.Ytaobjpajbpoamaa
open Go.RowKit
theorem t_take {w : World} {S : Nat → Prop} {b o c m : Nat} {l : List Tb.Slt} (h : Tab w S (.slice (some ⟨b, o, none⟩) l.length c) l) (hm : m < l.length) : Tab w S (.slice (some ⟨b, o, none⟩) (m + 1) c) (l.take (m + 1)) := by
  obtain ⟨b', o', c', h1, h2, h3, h4, h5⟩ := Row.some h (by rw [List.length_map]; omega)
  rw [List.length_map] at h3
  have e := Value.slice.inj h1
  obtain ⟨e1, -, rfl⟩ := e
  cases e1
  refine Or.inr ⟨b, o, c, by rw [List.length_map, List.length_take, Nat.min_eq_left (by omega)], h2, by rw [List.length_map, List.length_take]; omega, h4, fun i cs hi j u hj => ?_⟩
  rw [List.map_take, List.getElem?_take] at hi
  split at hi
  · exact h5 i cs hi j u hj
  · cases hi
/-- The function value that change is handed answers so of x: an error, or a slot. -/
def ByAns (f : Value) (x : Tb.Slt) (w : World) (y : Tb.Slt) (er : Int) : Prop := ∃ n caps, f = .func (.func n) #[] caps ∧ Enters Try.prog n ∧ ∀ W, Below w.heap.size w W → Calls Try.prog n (#[capV x] ++ caps) W fun e w' => e = .returned (.tuple #[.agg #[.bool y.has, .int .i64 y.op, .int .i64 y.rt], .int .i64 er]) ∧ Below W.heap.size W w'
set_option maxRecDepth 100000 in
set_option maxHeartbeats 4000000 in
theorem change_none (l : List Tb.Slt) (fd : Int) (f : Value) (v : Value) (S : Nat → Prop) (w : World) (hv : Tab w S v l) (hS : ∀ b, S b → b < w.heap.size) (hg : Tb.get l fd = none) :
    Calls Try.prog 64 #[v, .int .i64 fd, f] w fun e w' => e = .returned (.tuple #[.slice none 0 0, .int .i64 6]) ∧ Below w.heap.size w w' := by
  have HG : Hid (Calls Try.prog 27 #[v, .int .i64 fd] w fun e w' => e = .returned (.tuple #[.agg #[.int .i64 0, .int .i64 0], .int .i64 6]) ∧ Below w.heap.size w w') := by have := tget_any l fd v S w hv hS; rw [hg] at this; exact this
  clear hv hS hg
  go_enter Try.func64, Try.ntmps64
  go_wp2_with fail
  refine HG.out.mono ?_
  rintro e w1 ⟨rfl, hb1⟩
  have HB : Hid (Below w.heap.size w w1) := hb1
  clear hb1
  go_wp2
  go_ret2
  exact ⟨rfl, HB.out.alloc HB.out.size _⟩
set_option maxRecDepth 100000 in
set_option maxHeartbeats 4000000 in
theorem change_err (l : List Tb.Slt) (k : Nat) (x y : Tb.Slt) (er : Int) (her : er ≠ 0) (f : Value) (v : Value) (S : Nat → Prop) (w : World) (hv : Tab w S v l) (hS : ∀ b, S b → b < w.heap.size) (hx : l[k]? = some x) (hh : x.has = true) (hf : ByAns f x w y er) :
    Calls Try.prog 64 #[v, .int .i64 k, f] w fun e w' => e = .returned (.tuple #[.slice none 0 0, .int .i64 er]) ∧ Below w.heap.size w w' := by
  have HG : Hid (Calls Try.prog 27 #[v, .int .i64 k] w fun e w' => e = .returned (.tuple #[.agg #[.int .i64 x.op, .int .i64 x.rt], .int .i64 0]) ∧ Below w.heap.size w w') := by have := tget_any l k v S w hv hS; rw [Tb.get_ok hx hh] at this; exact this
  obtain ⟨n, caps, rfl, eg, hf⟩ := hf
  have HF : Hid (∀ W, Below w.heap.size w W → Calls Try.prog n (#[.agg #[.int .i64 x.op, .int .i64 x.rt]] ++ caps) W fun e w' => e = .returned (.tuple #[.agg #[.bool y.has, .int .i64 y.op, .int .i64 y.rt], .int .i64 er]) ∧ Below W.heap.size W w') := hf
  unfold Enters at eg
  clear hv hS hx hh hf
  go_enter Try.func64, Try.ntmps64
  go_wp2_with fail
  refine HG.out.mono ?_
  rintro e w1 ⟨rfl, hb1⟩
  have HB : Hid (Below w.heap.size w (w1.alloc (.cells #[.int .i64 x.op, .int .i64 x.rt] 58))) := hb1.alloc hb1.size _
  clear hb1
  go_wp2_with fail
  refine (HF.out _ HB.out).mono ?_
  rintro e w2 ⟨rfl, hb2⟩
  have HB2 : Hid (Below w.heap.size w w2) := HB.out.trans (hb2.mono HB.out.size)
  clear hb2
  go_wp2
  go_ret2
  exact ⟨rfl, HB2.out.alloc HB2.out.size _⟩
set_option maxRecDepth 100000 in
set_option maxHeartbeats 4000000 in
theorem change_ok (l : List Tb.Slt) (k : Nat) (x y : Tb.Slt) (f : Value) (v : Value) (S : Nat → Prop) (w : World) (hv : Tab w S v l) (hS : ∀ b, S b → b < w.heap.size) (hU : l.length * 24 ≤ 140737488355328) (hx : l[k]? = some x) (hh : x.has = true) (hf : ByAns f x w y 0) :
    Calls Try.prog 64 #[v, .int .i64 k, f] w fun e w' => ∃ v', e = .returned (.tuple #[v', .int .i64 0]) ∧ TabNew w w' v' (l.set k y) := by
  have HG : Hid (Calls Try.prog 27 #[v, .int .i64 k] w fun e w' => e = .returned (.tuple #[.agg #[.int .i64 x.op, .int .i64 x.rt], .int .i64 0]) ∧ Below w.heap.size w w') := by have := tget_any l k v S w hv hS; rw [Tb.get_ok hx hh] at this; exact this
  obtain ⟨n, caps, rfl, eg, hf⟩ := hf
  have HF : Hid (∀ W, Below w.heap.size w W → Calls Try.prog n (#[.agg #[.int .i64 x.op, .int .i64 x.rt]] ++ caps) W fun e w' => e = .returned (.tuple #[.agg #[.bool y.has, .int .i64 y.op, .int .i64 y.rt], .int .i64 0]) ∧ Below W.heap.size W w') := hf
  unfold Enters at eg
  have HC : Hid (∀ W, Below w.heap.size w W → Calls Try.prog 63 #[v] W fun e w' => ∃ v', e = .returned v' ∧ Mine w' W.heap.size 60 3 v' (l.map tC) ∧ Below W.heap.size W w') := fun W hW => tclone_any l v S W (hv.below hW hS) (fun b hb => by have := hS b hb; have := hW.size; omega) hU
  have HX : Hid (l[k]? = some x) := hx
  have hk := (List.getElem?_eq_some_iff.1 hx).1
  clear hv hS hx hh hf hU
  go_enter Try.func64, Try.ntmps64
  go_wp2_with fail
  refine HG.out.mono ?_
  rintro e w1 ⟨rfl, hb1⟩
  have HB : Hid (Below w.heap.size w (w1.alloc (.cells #[.int .i64 x.op, .int .i64 x.rt] 58))) := hb1.alloc hb1.size _
  clear hb1
  go_wp2_with fail
  refine (HF.out _ HB.out).mono ?_
  rintro e w2 ⟨rfl, hb2⟩
  have HB2 : Hid (Below w.heap.size w (w2.alloc (.cells #[.bool y.has, .int .i64 y.op, .int .i64 y.rt] 60))) := (HB.out.trans (hb2.mono HB.out.size)).alloc (by have := HB.out.size; have := hb2.size; omega) _
  have HK2 : Hid (Blk (w2.alloc (.cells #[.bool y.has, .int .i64 y.op, .int .i64 y.rt] 60)) w2.heap.size #[.bool y.has, .int .i64 y.op, .int .i64 y.rt] 60) := Blk.new w2 _ _
  have hz : (w2.alloc (.cells #[.bool y.has, .int .i64 y.op, .int .i64 y.rt] 60)).heap.size = w2.heap.size + 1 := by simp
  have HZ : Hid _ := hz
  clear hb2 HB HG HF hz
  go_wp2_with fail
  generalize w2.alloc (.cells #[.bool y.has, .int .i64 y.op, .int .i64 y.rt] 60) = w3 at *
  generalize w2.heap.size = G at *
  refine (HC.out _ HB2.out).mono ?_
  rintro e w4 ⟨v4, rfl, hm4, hb4⟩
  have HB4 : Hid (Below w.heap.size w w4) := HB2.out.trans (hb4.mono HB2.out.size)
  have hK4 : Blk w4 G #[.bool y.has, .int .i64 y.op, .int .i64 y.rt] 60 := HK2.out.below hb4 (by have := HZ.out; omega)
  have hGl := hK4.lt
  have d0 : w4.cell? ⟨G, 0, none⟩ = some (.bool y.has) := hK4.cell 0
  have d1 : w4.cell? ⟨G, 1, none⟩ = some (.int .i64 y.op) := hK4.cell 1
  have d2 : w4.cell? ⟨G, 2, none⟩ = some (.int .i64 y.rt) := hK4.cell 2
  obtain ⟨g, c2, rfl, hg0, hgl, hc2, hcm, hcell⟩ := t_own hm4 hk
  have hgw : w.heap.size ≤ g := by have := HB2.out.size; omega
  have HM5 : Hid (∀ W, W = ((w4.setCell ⟨g, k * 3, none⟩ (.bool y.has)).setCell ⟨g, k * 3 + 1, none⟩ (.int .i64 y.op)).setCell ⟨g, k * 3 + 2, none⟩ (.int .i64 y.rt) → TabNew w W (.slice (some ⟨g, 0, none⟩) l.length c2) (l.set k y)) := fun W hW => by
    subst hW
    exact ⟨(t_row (t_set hm4 k x y HX.out)).more fun b hb => ⟨by have := HB2.out.size; omega, hb.2⟩, ((HB4.out.setCell hgw _).setCell hgw _).setCell hgw _⟩
  obtain ⟨⟨u0, a0⟩, b0⟩ := hcell (k * 3) (by omega)
  obtain ⟨⟨u1, a1⟩, b1⟩ := hcell (k * 3 + 1) (by omega)
  obtain ⟨⟨u2, a2⟩, b2⟩ := hcell (k * 3 + 2) (by omega)
  unfold maxLen at hcm
  clear hcell hm4 HB2 HK2 HZ HB4 HC HX hb4 hK4
  go_wp2
  go_ret2
  exact ⟨_, rfl, HM5.out _ rfl⟩
def lenV (v : Value) : Nat := match v with
  | .slice _ n _ => n
  | _ => 0
set_option maxRecDepth 100000 in
theorem trim_any (l : List Tb.Slt) (v : Value) (S : Nat → Prop) (w : World) (hv : Tab w S v l) :
    Calls Try.prog 66 #[v] w fun e w' => ∃ v', e = .returned v' ∧ Tab w S v' (Tb.trim l) ∧ w' = w := by
  obtain ⟨a, c, rfl, hm⟩ := hv.form
  have HT : Hid (Tab w S (.slice a l.length c) l) := hv
  unfold maxLen at hm
  clear hv
  go_enter Try.func66, Try.ntmps66
  go_wp2
  go_loop [0] (fun s => ∃ n : Nat, n ≤ l.length ∧ Tb.lastN l = Tb.lastN (l.take n) ∧ s = .slice a n c) (fun s => lenV s)
  case atStart => exact ⟨l.length, Nat.le_refl _, by rw [List.take_length], rfl⟩
  case round =>
    obtain ⟨n, hn, hL, rfl⟩ := hrel
    have HL : Hid (Tb.lastN l = Tb.lastN (l.take n)) := hL
    clear hL
    by_cases h0 : n = 0
    · subst h0
      go_wp2
      go_ret
      refine ⟨_, rfl, ?_, rfl⟩
      unfold Tb.trim
      rw [HL.out]
      exact Row.nil _ _ _ _ _
    · obtain ⟨m, rfl⟩ : ∃ m, n = m + 1 := ⟨n - 1, by omega⟩
      have hlt : m < l.length := by omega
      have hx : l[m]? = some l[m] := List.getElem?_eq_getElem hlt
      obtain ⟨b, o, c', he, hb, hc, hm', c0, -, -⟩ := HT.out.open hx
      obtain ⟨rfl, -, rfl⟩ := Value.slice.inj he
      have HD : Hid (Tb.lastN l = if l[m].has = true then m + 1 else Tb.lastN (l.take m)) := by
        unfold Hid
        rw [HL.out, List.take_succ_eq_append_getElem hlt, Tb.lastN_snoc, List.length_take, Nat.min_eq_left (by omega)]
      unfold maxLen at hm'
      have hcz : ((m : Int) + 1) ≤ (c : Int) := by omega
      clear hx he hb
      generalize l[m] = x at *
      cases hh : x.has with
      | true =>
        rw [hh] at c0 HD
        have HD' : Hid (Tb.lastN l = m + 1) := HD.out.trans (if_pos rfl)
        clear HD hh HL
        go_wp2
        go_ret
        refine ⟨_, rfl, ?_, rfl⟩
        unfold Tb.trim
        rw [HD'.out]
        exact t_take HT.out hlt
      | false =>
        rw [hh] at c0 HD
        have HD' : Hid (Tb.lastN l = Tb.lastN (l.take m)) := HD.out.trans (if_neg (by decide))
        clear HD hh HL
        go_wp2
        exact ⟨⟨m, by omega, HD'.out, by go_num⟩, by simp [lenV]⟩
end Go.Proofs.Ytaobjpajbpoamaa
