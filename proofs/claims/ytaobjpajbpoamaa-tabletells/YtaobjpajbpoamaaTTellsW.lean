/-
  rglaw7.TableTells, walked.
-/
import Derived.Test.YtaobjpajbpoamaaTPut
import Derived.Test.YtaobjpajbpoamaaTLimit
import Derived.Test.YtaobjpajbpoamaaTAll
import Derived.Test.YtaobjpajbpoamaaRSlots
import Derived.Test.YtaobjpajbpoamaaRPutT
import Derived.Test.YtaobjpajbpoamaaRCloseT
namespace Go.Proofs.Ytaobjpajbpoamaa
open Go.RowKit
theorem capO_form (o : Option Tb.Slt) : ∃ p q : Int, capO o = .agg #[.int .i64 p, .int .i64 q] ∧ (errO o = 0 ∨ errO o = 6) ∧ (errO o = 0 → ∃ x, o = some x ∧ x.op = p ∧ x.rt = q) ∧ (errO o = 6 → o = none) := by
  cases o with
  | none => exact ⟨0, 0, rfl, Or.inr rfl, fun h => absurd h (by show ¬ (6 : Int) = 0; decide), fun _ => rfl⟩
  | some x => exact ⟨x.op, x.rt, rfl, Or.inl rfl, fun _ => ⟨x, rfl, rfl, rfl⟩, fun h => absurd h (by show ¬ (0 : Int) = 6; decide)⟩
theorem PutW.alloc {w W : World} {op rt : Int} (h : PutW w op rt W) (o : Obj) : PutW w op rt (W.alloc o) := ⟨h.1.alloc h.1.size _, h.2.alloc _⟩
theorem PutW.below {w W W' : World} {op rt : Int} (h : PutW w op rt W) (hb : Below W.heap.size W W') : PutW w op rt W' := ⟨h.1.trans (hb.mono h.1.size), h.2.below hb h.2.lt⟩
/-- What is new in W' lies below its end. -/
theorem TabNew.tab {w w' : World} {v : Value} {l : List Tb.Slt} (h : TabNew w w' v l) : Tab w' (fun b => b < w'.heap.size) v l := h.1.more fun _ hb => hb.2
theorem Tab.later {W W' : World} {v : Value} {l : List Tb.Slt} (h : Tab W (fun b => b < W.heap.size) v l) (hb : Below W.heap.size W W') : Tab W' (fun b => b < W'.heap.size) v l := (h.on (On.of hb)).more fun _ hb' => Nat.lt_of_lt_of_le hb' hb.size
theorem eqCn (a b : Int) (w : World) : (binOp .neq 58 (.agg #[.int .i64 a, .int .i64 b]) (.agg #[.int .i64 a, .int .i64 b])).run Try.prog w = .ok (.bool false) w := by
  rw [run_neq_struct, eqC]
  rfl
set_option maxRecDepth 1000000 in
set_option maxHeartbeats 16000000 in
theorem ttells_any (l : List Tb.Slt) (fd n op rt : Int) (v : Value) (w : World) (hv : Tab w (fun b => b < w.heap.size) v l) (hU : l.length * 24 ≤ 140737488355328) :
    Calls Try.prog 6 #[v, .int .i64 fd, .int .i64 n, .agg #[.int .i64 op, .int .i64 rt]] w fun e w' => e = .returned (.bool true) ∧ Below w.heap.size w w' := by
  obtain ⟨a, c, rfl, hm⟩ := hv.form
  have HT : Hid (Tab w (fun b => b < w.heap.size) (.slice a l.length c) l) := hv
  have HU : Hid (l.length * 24 ≤ 140737488355328) := hU
  obtain ⟨cp, cq, hcap, hge, hg0, hg6⟩ := capO_form (Tb.get l fd)
  have HG : Hid (∀ W, PutW w op rt W → Calls Try.prog 27 #[.slice a l.length c, .int .i64 fd] W fun e w' => e = .returned (.tuple #[.agg #[.int .i64 cp, .int .i64 cq], .int .i64 (errO (Tb.get l fd))]) ∧ Below W.heap.size W w') := fun W hW => by
    have := tget_any l fd (.slice a l.length c) _ W (hv.below hW.1 (fun b hb => hb)) (fun b hb => Nat.lt_of_lt_of_le hb hW.1.size)
    rw [hcap] at this
    exact this
  have HRG : Hid (∀ W, PutW w op rt W → Calls Try.prog 28 #[.slice a l.length c, .int .i64 fd] W fun e w' => e = .returned (.tuple #[.agg #[.int .i64 cp, .int .i64 cq], .int .i64 (errO (Tb.get l fd))]) ∧ Below W.heap.size W w') := fun W hW => by
    have := rget_any l fd (.slice a l.length c) _ W (hv.below hW.1 (fun b hb => hb)) (fun b hb => Nat.lt_of_lt_of_le hb hW.1.size)
    rw [hcap] at this
    exact this
  have HP : Hid (∀ W, PutW w op rt W → Calls Try.prog 29 #[.slice a l.length c, .agg #[.int .i64 op, .int .i64 rt]] W fun e w' => ∃ v', e = .returned (.tuple #[v', .int .i64 (Tb.putR l op rt).2.1, .int .i64 (Tb.putR l op rt).2.2]) ∧ TabNew W w' v' (Tb.putR l op rt).1) := fun W hW => tput_any l op rt _ _ W (hv.below hW.1 (fun b hb => hb)) (fun b hb => Nat.lt_of_lt_of_le hb hW.1.size) hU
  have HRP : Hid (∀ W p q, PutW w op rt W → Calls Try.prog 30 #[.slice a l.length c, .agg #[.int .i64 p, .int .i64 q]] W fun e w' => ∃ v', e = .returned (.tuple #[v', .int .i64 (Tb.putR l p q).2.1, .int .i64 (Tb.putR l p q).2.2]) ∧ TabNew W w' v' (Tb.putR l p q).1) := fun W p q hW => rput_any l p q _ _ W (hv.below hW.1 (fun b hb => hb)) (fun b hb => Nat.lt_of_lt_of_le hb hW.1.size) hU
  have HC : Hid (∀ W, PutW w op rt W → Calls Try.prog 32 #[.slice a l.length c, .int .i64 fd] W fun e w' => ∃ v', e = .returned (.tuple #[v', .int .i64 (Tb.closeR l fd).2]) ∧ TabNew W w' v' (Tb.closeR l fd).1) := fun W hW => tclose_any l fd _ _ W (hv.below hW.1 (fun b hb => hb)) (fun b hb => Nat.lt_of_lt_of_le hb hW.1.size) hU
  have HRC : Hid (∀ W, PutW w op rt W → Calls Try.prog 33 #[.slice a l.length c, .int .i64 fd] W fun e w' => ∃ v', e = .returned (.tuple #[v', .int .i64 (Tb.closeR l fd).2]) ∧ TabNew W w' v' (Tb.closeR l fd).1) := fun W hW => rclose_any l fd _ _ W (hv.below hW.1 (fun b hb => hb)) (fun b hb => Nat.lt_of_lt_of_le hb hW.1.size) hU
  have HL : Hid ((∀ x ∈ l, 0 ≤ x.rt ∧ x.rt ≤ 4095) → ∀ W, PutW w op rt W → Calls Try.prog 34 #[.slice a l.length c, .int .i64 fd, .int .i64 n] W fun e w' => ∃ v', e = .returned (.tuple #[v', .int .i64 (Tb.limitR l fd n).2]) ∧ TabNew W w' v' (Tb.limitR l fd n).1) := fun hall W hW => tlimit_any l fd n _ _ W (hv.below hW.1 (fun b hb => hb)) (fun b hb => Nat.lt_of_lt_of_le hb hW.1.size) hU (fun x hx => by obtain ⟨k, -, h1, -⟩ := Tb.get_some hx; exact hall x (List.mem_of_getElem? h1))
  have HRL : Hid ((∀ x ∈ l, 0 ≤ x.rt ∧ x.rt ≤ 4095) → ∀ W, PutW w op rt W → Calls Try.prog 35 #[.slice a l.length c, .int .i64 fd, .int .i64 n] W fun e w' => ∃ v', e = .returned (.tuple #[v', .int .i64 (Tb.limitR l fd n).2]) ∧ TabNew W w' v' (Tb.limitR l fd n).1) := fun hall W hW => rlimit_any l fd n _ _ W (hv.below hW.1 (fun b hb => hb)) (fun b hb => Nat.lt_of_lt_of_le hb hW.1.size) hU (fun x hx => by obtain ⟨k, -, h1, -⟩ := Tb.get_some hx; exact hall x (List.mem_of_getElem? h1))
  have HA : Hid (∀ W, PutW w op rt W → Calls Try.prog 36 #[.slice a l.length c] W fun e w' => ∃ v', e = .returned v' ∧ Row w' (fun b => W.heap.size ≤ b ∧ b < w'.heap.size) 1 v' ((Tb.allF l 0).map tI) ∧ Below W.heap.size W w') := fun W hW => tall_any l _ _ W (hv.below hW.1 (fun b hb => hb)) (fun b hb => Nat.lt_of_lt_of_le hb hW.1.size) hU
  have HD : Hid (∀ W, PutW w op rt W → Calls Try.prog 37 #[.slice a l.length c, .int .i64 fd] W fun e w' => ∃ v', e = .returned (.tuple #[v', .int .i64 (dupR l fd).2.1, .int .i64 (dupR l fd).2.2]) ∧ TabNew W w' v' (dupR l fd).1) := fun W hW => tdup_any l fd _ _ W (hv.below hW.1 (fun b hb => hb)) (fun b hb => Nat.lt_of_lt_of_le hb hW.1.size) hU
  have HD0 : Hid (errO (Tb.get l fd) = 0 → dupR l fd = Tb.putR l cp cq) := fun h => by
    obtain ⟨x, hx, rfl, rfl⟩ := hg0 h
    exact dupR_some hx
  have HD6 : Hid (errO (Tb.get l fd) = 6 → dupR l fd = ([], 0, 6)) := fun h => dupR_none (hg6 h)
  have HGE : Hid (errO (Tb.get l fd) = 0 ∨ errO (Tb.get l fd) = 6) := hge
  have HPW0 : Hid (PutW w op rt (w.alloc (.cells #[.int .i64 op, .int .i64 rt] 58))) := ⟨(Below.refl _ _).alloc (Nat.le_refl _) _, Blk.new w _ _⟩
  have hneq := eqCn cp cq
  unfold maxLen at hm
  clear hv hU hcap hge hg0 hg6
  generalize errO (Tb.get l fd) = ge at *
  generalize hdR : dupR l fd = DR at *
  clear hdR
  go_enter Try.func6, Try.ntmps6
  go_wp2_with fail
  generalize w.alloc (.cells #[.int .i64 op, .int .i64 rt] 58) = w0 at *
  go_loopw [27] (fun i wr => ∃ k : Nat, k ≤ l.length ∧ i = .int .i64 k ∧ (∀ x ∈ l.take k, 0 ≤ x.rt ∧ x.rt ≤ 4095) ∧ PutW w op rt wr) (fun i _ => l.length - (intOf i).toNat)
  case atStart => exact ⟨0, Nat.zero_le _, rfl, fun x hx => by simp at hx, HPW0.out⟩
  case round =>
    obtain ⟨k, hk, rfl, hall, hPW⟩ := hrel
    have HPW : Hid (PutW w op rt wr) := hPW
    have HALL : Hid (∀ x ∈ l.take k, 0 ≤ x.rt ∧ x.rt ≤ 4095) := hall
    clear hPW hall HPW0
    by_cases hlt : k < l.length
    · have hx : l[k]? = some l[k] := List.getElem?_eq_getElem hlt
      obtain ⟨b, o, c', he, hb, hc, hm', c0, c1, c2⟩ := (HT.out.below HPW.out.1 (fun b hb => hb)).open hx
      obtain ⟨rfl, -, rfl⟩ := Value.slice.inj he
      have hbl : b < wr.heap.size := Nat.lt_of_lt_of_le hb HPW.out.1.size
      have HTK : Hid (l.take (k + 1) = l.take k ++ [l[k]]) := List.take_succ_eq_append_getElem hlt
      clear hx he hm' hb
      generalize l[k] = x at *
      have HB2 : Hid (PutW w op rt (wr.alloc (.cells #[.bool x.has, .int .i64 x.op, .int .i64 x.rt] 60))) := HPW.out.alloc _
      clear HG HRG HP HRP HC HRC HL HRL HA HD HD0 HD6 HGE
      by_cases h1 : x.rt < 0
      · go_wp2
        go_ret
        exact ⟨rfl, HB2.out.1⟩
      by_cases h2 : 4095 < x.rt
      · go_wp2
        go_ret
        exact ⟨rfl, HB2.out.1⟩
      go_wp2
      refine ⟨⟨k + 1, by omega, by go_num, fun y hy => ?_, HB2.out⟩, by simp [intOf]; omega⟩
      rw [HTK.out] at hy
      rcases List.mem_append.1 hy with hy | hy
      · exact HALL.out y hy
      · rw [List.mem_singleton.1 hy]; exact ⟨by omega, by omega⟩
    · obtain rfl : k = l.length := by omega
      have HALL2 : Hid (∀ x ∈ l, 0 ≤ x.rt ∧ x.rt ≤ 4095) := by
        have := HALL.out
        rw [List.take_length] at this
        exact this
      clear HALL
      go_wp2_with fail
      refine (HG.out _ HPW.out).mono ?_
      rintro e w1 ⟨rfl, hb1⟩
      have HW1 : Hid (PutW w op rt (w1.alloc (.cells #[.int .i64 cp, .int .i64 cq] 58))) := (HPW.out.below hb1).alloc _
      have HK1 : Hid (Blk (w1.alloc (.cells #[.int .i64 cp, .int .i64 cq] 58)) w1.heap.size #[.int .i64 cp, .int .i64 cq] 58) := Blk.new w1 _ _
      clear hb1 HPW
      go_wp2_with fail
      generalize w1.alloc (.cells #[.int .i64 cp, .int .i64 cq] 58) = W1 at *
      generalize w1.heap.size = G1 at *
      refine (HRG.out _ HW1.out).mono ?_
      rintro e w2 ⟨rfl, hb2⟩
      have HW2 : Hid (PutW w op rt (w2.alloc (.cells #[.int .i64 cp, .int .i64 cq] 58))) := (HW1.out.below hb2).alloc _
      have hK2 : Blk w2 G1 #[.int .i64 cp, .int .i64 cq] 58 := HK1.out.below hb2 HK1.out.lt
      have hlt2 := hK2.lt
      have k0 : w2.cell? ⟨G1, 0, none⟩ = some (.int .i64 cp) := hK2.cell 0
      have k1 : w2.cell? ⟨G1, 1, none⟩ = some (.int .i64 cq) := hK2.cell 1
      have hB2 : Blk w2 w.heap.size #[.int .i64 op, .int .i64 rt] 58 := (HW1.out.below hb2).2
      have hlB2 := hB2.lt
      have b0 : w2.cell? ⟨w.heap.size, 0, none⟩ = some (.int .i64 op) := hB2.cell 0
      have b1 : w2.cell? ⟨w.heap.size, 1, none⟩ = some (.int .i64 rt) := hB2.cell 1
      clear hb2 HW1 HK1 hK2 hB2
      go_wp2_with fail
      clear k0 k1 hlt2 b0 b1 hlB2
      generalize w2.alloc (.cells #[.int .i64 cp, .int .i64 cq] 58) = W2 at *
      generalize w2.heap.size = G2 at *
      refine (HP.out _ HW2.out).mono ?_
      rintro e w3 ⟨v3, rfl, hn3⟩
      have HW3 : Hid (PutW w op rt w3) := HW2.out.below hn3.2
      have HV3 : Hid (Tab w3 (fun b => b < w3.heap.size) v3 (Tb.putR l op rt).1) := hn3.tab
      have b0 : w3.cell? ⟨w.heap.size, 0, none⟩ = some (.int .i64 op) := HW3.out.2.cell 0
      have b1 : w3.cell? ⟨w.heap.size, 1, none⟩ = some (.int .i64 rt) := HW3.out.2.cell 1
      clear hn3 HW2 HP
      have HRP3 := HRP.out w3 op rt HW3.out
      generalize Tb.putR l op rt = R at *
      have HRP4 : Hid _ := HRP3
      clear HRP3
      go_wp2_with fail
      clear b0 b1
      refine Calls.mono HRP4.out ?_
      rintro e w4 ⟨v4, rfl, hn4⟩
      have HW4 : Hid (PutW w op rt w4) := HW3.out.below hn4.2
      have HS4 : Hid (Calls Try.prog 31 #[v3, v4] w4 fun e w' => e = .returned (.bool true) ∧ Below w4.heap.size w4 w') := same_any R.1 v3 v4 _ _ w4 (HV3.out.later hn4.2) hn4.tab
      clear hn4 HW3 HV3 HRP4
      go_wp2_with fail
      refine HS4.out.mono ?_
      rintro e w5 ⟨rfl, hb5⟩
      have HW5 : Hid (PutW w op rt w5) := HW4.out.below hb5
      clear hb5 HS4 HW4
      go_wp2_with fail
      refine (HC.out _ HW5.out).mono ?_
      rintro e w6 ⟨v6, rfl, hn6⟩
      have HW6 : Hid (PutW w op rt w6) := HW5.out.below hn6.2
      have HV6 : Hid (Tab w6 (fun b => b < w6.heap.size) v6 (Tb.closeR l fd).1) := hn6.tab
      clear hn6 HW5 HC
      generalize Tb.closeR l fd = R2 at *
      go_wp2_with fail
      refine (HRC.out _ HW6.out).mono ?_
      rintro e w7 ⟨v7, rfl, hn7⟩
      have HW7 : Hid (PutW w op rt w7) := HW6.out.below hn7.2
      have HS7 : Hid (Calls Try.prog 31 #[v6, v7] w7 fun e w' => e = .returned (.bool true) ∧ Below w7.heap.size w7 w') := same_any R2.1 v6 v7 _ _ w7 (HV6.out.later hn7.2) hn7.tab
      clear hn7 HW6 HV6 HRC
      go_wp2_with fail
      refine HS7.out.mono ?_
      rintro e w8 ⟨rfl, hb8⟩
      have HW8 : Hid (PutW w op rt w8) := HW7.out.below hb8
      clear hb8 HS7 HW7
      go_wp2_with fail
      refine (HL.out HALL2.out _ HW8.out).mono ?_
      rintro e w9 ⟨v9, rfl, hn9⟩
      have HW9 : Hid (PutW w op rt w9) := HW8.out.below hn9.2
      have HV9 : Hid (Tab w9 (fun b => b < w9.heap.size) v9 (Tb.limitR l fd n).1) := hn9.tab
      clear hn9 HW8 HL
      generalize Tb.limitR l fd n = R3 at *
      go_wp2_with fail
      refine (HRL.out HALL2.out _ HW9.out).mono ?_
      rintro e w10 ⟨v10, rfl, hn10⟩
      have HW10 : Hid (PutW w op rt w10) := HW9.out.below hn10.2
      have HS10 : Hid (Calls Try.prog 31 #[v9, v10] w10 fun e w' => e = .returned (.bool true) ∧ Below w10.heap.size w10 w') := same_any R3.1 v9 v10 _ _ w10 (HV9.out.later hn10.2) hn10.tab
      clear hn10 HW9 HV9 HRL
      go_wp2_with fail
      refine HS10.out.mono ?_
      rintro e w11 ⟨rfl, hb11⟩
      have HW11 : Hid (PutW w op rt w11) := HW10.out.below hb11
      clear hb11 HS10 HW10
      go_wp2_with fail
      refine (HA.out _ HW11.out).mono ?_
      rintro e w12 ⟨v12, rfl, hr12, hb12⟩
      have HW12 : Hid (PutW w op rt w12) := HW11.out.below hb12
      obtain ⟨aa, ac, rfl, -⟩ := hr12.form
      rw [List.length_map] at hr12 ⊢
      have HR12 : Hid (Row w12 (fun b => b < w12.heap.size) 1 (.slice aa (Tb.allF l 0).length ac) ((Tb.allF l 0).map tI)) := hr12.more fun _ hb => hb.2
      have HLE : Hid ((Tb.allF l 0).length ≤ l.length) := Tb.allF_length l 0
      clear hr12 hb12 HW11 HA
      generalize hAL : Tb.allF l 0 = AL at *
      have HAL : Hid (Tb.allF l 0 = AL) := hAL
      clear hAL
      go_wp2_with fail
      go_loopw [19, 138] (fun q i wr => ∃ (k : Nat) (pre : List Int), k ≤ l.length ∧ i = .int .i64 k ∧ q = .int .i64 (pre.length : Nat) ∧ AL = pre ++ Tb.allF (l.drop k) k ∧ PutW w op rt wr ∧ Below w12.heap.size w12 wr) (fun _ i _ => l.length - (intOf i).toNat)
      case atStart => exact ⟨0, [], Nat.zero_le _, rfl, rfl, by rw [← HAL.out]; simp, HW12.out, Below.refl _ _⟩
      case round =>
        obtain ⟨k, pre, hk, rfl, rfl, hF, hPW, hB12⟩ := hrel
        have HPW : Hid (PutW w op rt wr) := hPW
        have HF : Hid (AL = pre ++ Tb.allF (l.drop k) k) := hF
        have HB12 : Hid (Below w12.heap.size w12 wr) := hB12
        clear hPW hF hB12 HW12
        by_cases hlt : k < l.length
        · have hx : l[k]? = some l[k] := List.getElem?_eq_getElem hlt
          obtain ⟨b, o, c', he, hb, hc, hm', c0, c1, c2⟩ := (HT.out.below HPW.out.1 (fun b hb => hb)).open hx
          obtain ⟨rfl, -, rfl⟩ := Value.slice.inj he
          have hbl : b < wr.heap.size := Nat.lt_of_lt_of_le hb HPW.out.1.size
          have HDR : Hid (Tb.allF (l.drop k) k = _) := Tb.allF_drop l k _ hx
          clear hx he hm' hb
          generalize l[k] = x at *
          have HB2 : Hid (PutW w op rt (wr.alloc (.cells #[.bool x.has, .int .i64 x.op, .int .i64 x.rt] 60))) := HPW.out.alloc _
          have HB3 : Hid (Below w12.heap.size w12 (wr.alloc (.cells #[.bool x.has, .int .i64 x.op, .int .i64 x.rt] 60))) := HB12.out.alloc HB12.out.size _
          have HE := HF.out.trans (by rw [HDR.out])
          clear HG HRG HRP HD HD0 HD6 HGE HDR HF HALL2 HAL
          cases hh : x.has with
          | false =>
            rw [hh] at c0 HE HB2 HB3
            have HN : Hid (AL = pre ++ Tb.allF (l.drop (k + 1)) (k + 1)) := HE
            clear HE hh
            go_wp2
            exact ⟨⟨k + 1, pre, by omega, by go_num, rfl, HN.out, HB2.out, HB3.out⟩, by simp [intOf]; omega⟩
          | true =>
            rw [hh] at c0 HE HB2 HB3
            have hE : AL = pre ++ ((k : Int) :: Tb.allF (l.drop (k + 1)) (k + 1)) := HE
            have HN : Hid (AL = (pre ++ [(k : Int)]) ++ Tb.allF (l.drop (k + 1)) (k + 1)) := by
              unfold Hid
              rw [List.append_assoc]
              exact hE
            have hpl : pre.length < AL.length := by rw [hE, List.length_append, List.length_cons]; omega
            have hpx : AL[pre.length]? = some (k : Int) := by rw [hE, List.getElem?_append_right (Nat.le_refl _), Nat.sub_self]; rfl
            obtain ⟨b2, o2, cc2, he2, hb2, hc2, hm2, hcell⟩ := HR12.out.some (by rw [List.length_map]; omega)
            rw [List.length_map] at he2 hc2
            obtain ⟨rfl, -, rfl⟩ := Value.slice.inj he2
            have e0 := hcell pre.length (tI (k : Int)) (by rw [List.getElem?_map, hpx]; rfl) 0 _ rfl
            rw [Nat.mul_one, Nat.add_zero] at e0
            have e1 : wr.cell? ⟨b2, o2 + pre.length, none⟩ = some (.int .i64 (k : Int)) := by rw [HB12.out.cell hb2]; exact e0
            have hbl2 : b2 < wr.heap.size := Nat.lt_of_lt_of_le hb2 HB12.out.size
            have hnz : ¬ (AL.length : Int) ≤ (pre.length : Int) := by omega
            have hpz : (pre.length : Int) < (AL.length : Int) := by omega
            unfold maxLen at hm2
            have hl63 : AL.length ≤ 9223372036854775807 := by omega
            clear HE hh hE hpx he2 hcell e0 HR12
            go_wp2
            refine ⟨⟨k + 1, pre ++ [(k : Int)], by omega, by go_num, ?_, HN.out, HB2.out, HB3.out⟩, by simp [intOf]; omega⟩
            rw [List.length_append, List.length_cons, List.length_nil]
            go_num
        · obtain rfl : k = l.length := by omega
          have HPL : Hid (AL = pre) := by
            unfold Hid
            rw [HF.out, Tb.allF_end, List.append_nil]
          have hple : pre.length = AL.length := by rw [HPL.out]
          rw [hple]
          clear HF HPL hple
          go_wp2_with fail
          refine (HD.out _ HPW.out).mono ?_
          rintro e w13 ⟨v13, rfl, hn13⟩
          have HW13 : Hid (PutW w op rt w13) := HPW.out.below hn13.2
          have HV13 : Hid (Tab w13 (fun b => b < w13.heap.size) v13 DR.1) := hn13.tab
          clear hn13 HPW HD
          go_wp2_with fail
          refine (HRG.out _ HW13.out).mono ?_
          rintro e w14 ⟨rfl, hb14⟩
          have HW15 : Hid (PutW w op rt (w14.alloc (.cells #[.int .i64 cp, .int .i64 cq] 58))) := (HW13.out.below hb14).alloc _
          have HV15 : Hid (Tab (w14.alloc (.cells #[.int .i64 cp, .int .i64 cq] 58)) (fun b => b < (w14.alloc (.cells #[.int .i64 cp, .int .i64 cq] 58)).heap.size) v13 DR.1) := (HV13.out.later hb14).later ((Below.refl _ _).alloc (Nat.le_refl _) _)
          clear hb14 HW13 HV13
          have hGE := HGE.out
          rcases hGE with h0 | h6
          · have HDR : Hid (DR = Tb.putR l cp cq) := HD0.out h0
            clear HD0 HD6 HGE
            subst h0
            go_wp2_with fail
            generalize w14.alloc (.cells #[.int .i64 cp, .int .i64 cq] 58) = W15 at *
            have hRP := HRP.out W15 cp cq HW15.out
            rw [← HDR.out] at hRP
            have HRP5 : Hid (Calls Try.prog 30 #[.slice a l.length c, .agg #[.int .i64 cp, .int .i64 cq]] W15 fun e w' => ∃ v', e = .returned (.tuple #[v', .int .i64 DR.2.1, .int .i64 DR.2.2]) ∧ TabNew W15 w' v' DR.1) := hRP
            clear hRP HRP HDR
            refine HRP5.out.mono ?_
            rintro e w16 ⟨v16, rfl, hn16⟩
            have HB16 : Hid (Below w.heap.size w w16) := (HW15.out.below hn16.2).1
            have HS16 : Hid (Calls Try.prog 31 #[v13, v16] w16 fun e w' => e = .returned (.bool true) ∧ Below w16.heap.size w16 w') := same_any DR.1 v13 v16 _ _ w16 (HV15.out.later hn16.2) hn16.tab
            clear hn16 HW15 HV15 HRP5
            go_wp2_with fail
            refine HS16.out.mono ?_
            rintro e w17 ⟨rfl, hb17⟩
            have HB17 : Hid (Below w.heap.size w w17) := HB16.out.trans (hb17.mono HB16.out.size)
            clear hb17 HS16
            go_wp2
            go_ret
            exact ⟨rfl, HB17.out⟩
          · have HDR : Hid (DR = ([], 0, 6)) := HD6.out h6
            have hDR := HDR.out
            clear HD0 HD6 HGE HDR
            subst h6
            subst hDR
            have HB15 : Hid (Below w.heap.size w (w14.alloc (.cells #[.int .i64 cp, .int .i64 cq] 58))) := HW15.out.1
            have HS16 : Hid (Calls Try.prog 31 #[v13, .slice none 0 0] (w14.alloc (.cells #[.int .i64 cp, .int .i64 cq] 58)) fun e w' => e = .returned (.bool true) ∧ Below (w14.alloc (.cells #[.int .i64 cp, .int .i64 cq] 58)).heap.size (w14.alloc (.cells #[.int .i64 cp, .int .i64 cq] 58)) w') := same_any [] v13 _ _ (fun _ => True) _ HV15.out (Row.nil _ _ _ _ _)
            clear HW15 HV15
            go_wp2_with fail
            refine HS16.out.mono ?_
            rintro e w17 ⟨rfl, hb17⟩
            have HB17 : Hid (Below w.heap.size w w17) := HB15.out.trans (hb17.mono HB15.out.size)
            clear hb17 HS16
            go_wp2
            go_ret
            exact ⟨rfl, HB17.out⟩
end Go.Proofs.Ytaobjpajbpoamaa
