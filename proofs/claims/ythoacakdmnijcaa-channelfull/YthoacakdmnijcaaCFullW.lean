/-
  rglaw9.ChannelFull, walked.
-/
import Derived.Test.YthoacakdmnijcaaCAlive
import Derived.Test.YthoacakdmnijcaaRSameE
namespace Go.Proofs.Ythoacakdmnijcaa
open Go.RowKit
def msgC' (op rt : Int) : Sp.Msg := ⟨[], true, op, rt⟩
theorem upd_upd (q : Bool → List Sp.Msg) (y : Bool) (l l' : List Sp.Msg) : Ch.upd (Ch.upd q y l) y l' = Ch.upd q y l' := by
  funext z
  unfold Ch.upd
  split <;> rfl
theorem upd_self (q : Bool → List Sp.Msg) (y : Bool) (l : List Sp.Msg) : Ch.upd q y l y = l := if_pos rfl
def fullQ (op rt : Int) (k : Nat) : Bool → List Sp.Msg := Ch.upd (fun _ => []) false (List.replicate k (msgC' op rt))
theorem fullQ_ok (op rt : Int) (k : Nat) (hk : k ≤ 4) : Ch.okQ (fullQ op rt k) := Ch.okQ_upd Ch.okQ_none false (by simp; omega) fun m hm => by
  rw [(List.mem_replicate.1 hm).2]
  exact Nat.zero_le _
theorem fullQ_more (op rt : Int) (k : Nat) : Ch.upd (fullQ op rt k) false (fullQ op rt k false ++ [msgC' op rt]) = fullQ op rt (k + 1) := by
  unfold fullQ
  rw [upd_upd, upd_self, List.replicate_succ']
/-- Where the loop stands. -/
def FI (w : World) (ge : Nat) (op rt : Int) (s5 s29 : Value) (wr : World) : Prop :=
  ∃ (k : Nat) (a : Option Addr) (c : Nat), s29 = .int .i64 k ∧ s5 = .slice a 2 c ∧ Objs wr (fun b => b < wr.heap.size) s5 (Ch.st [] (fullQ op rt (min k 4))) ∧ Blk wr w.heap.size #[.int .i64 op, .int .i64 rt] 47 ∧ Blk wr ge #[.int .i64 0, .int .i64 1] 50 ∧ Below w.heap.size w wr
set_option maxRecDepth 100000 in
set_option maxHeartbeats 8000000 in
theorem cfull_any (n op rt : Int) (w : World) :
    Calls Try.prog 8 #[.int .i64 n, .agg #[.int .i64 op, .int .i64 rt]] w fun e w' => e = .returned (.bool true) ∧ Below w.heap.size w w' := by
  have HK0 : Hid (Blk (w.alloc (.cells #[.int .i64 op, .int .i64 rt] 47)) w.heap.size #[.int .i64 op, .int .i64 rt] 47) := Blk.new _ _ _
  have HB0 : Hid (Below w.heap.size w (w.alloc (.cells #[.int .i64 op, .int .i64 rt] 47))) := (Below.refl _ _).alloc (Nat.le_refl _) _
  by_cases hn : n < 0 ∨ 9 < n
  · by_cases hn0 : n < 0
    all_goals
      go_enter Try.func8, Try.ntmps8
      go_wp2_with fail
      refine (alive9_any _).mono ?_
      rintro e w1 ⟨rfl, hb1⟩
      have HB1 : Hid (Below w.heap.size w w1) := HB0.out.trans (hb1.mono HB0.out.size)
      clear hb1
      go_wp2
      go_ret
      exact ⟨rfl, HB1.out⟩
  · obtain ⟨N, rfl⟩ := Int.eq_ofNat_of_zero_le (show 0 ≤ n by omega)
    have hN : N ≤ 9 := by omega
    clear hn
    go_enter Try.func8, Try.ntmps8
    go_wp2_with fail
    refine (alive9_any _).mono ?_
    rintro e w1 ⟨rfl, hb1⟩
    have HB1 : Hid (Below w.heap.size w w1) := HB0.out.trans (hb1.mono HB0.out.size)
    have HK1 : Hid (Blk w1 w.heap.size #[.int .i64 op, .int .i64 rt] 47) := HK0.out.below hb1 HK0.out.lt
    clear hb1 HB0 HK0
    go_wp2_with fail
    have hP : Calls Try.prog 19 #[.slice none 0 0] w1 fun e w' => ∃ a c, e = .returned (.tuple #[.slice a 2 c, .agg #[.int .i64 0, .int .i64 1], .int .i64 0]) ∧ Objs w' (fun b => b < w'.heap.size) (.slice a 2 c) (Ch.st [] fun _ => []) ∧ Below w1.heap.size w1 w' :=
      spair [] (.slice none 0 0) (fun _ => False) w1 ⟨[], rfl, Row.nil _ _ _ _ _, fun t ht => by simp at ht⟩ (fun b hb => hb.elim) (fun o ho => by simp at ho) (by decide) (fun o ho => by simp at ho)
    refine Calls.mono hP ?_
    rintro e w2 ⟨a2, c2, rfl, hO2, hb2⟩
    have hB3 : Below w2.heap.size w2 (w2.alloc (.cells #[.int .i64 0, .int .i64 1] 50)) := (Below.refl _ _).alloc (Nat.le_refl _) _
    have hk1 := HK1.out.lt
    have HST : Hid (FI w w2.heap.size op rt (.slice a2 2 c2) (.int .i64 0) (w2.alloc (.cells #[.int .i64 0, .int .i64 1] 50))) := by
      refine ⟨0, a2, c2, rfl, rfl, ?_, ((HK1.out.below hb2 hk1).alloc _), Blk.new _ _ _, (HB1.out.trans (hb2.mono HB1.out.size)).alloc (by have := hb2.size; omega) _⟩
      have h := hO2.later hB3
      have e : fullQ op rt (min 0 4) = fun _ => [] := by funext z; unfold fullQ Ch.upd; split <;> rfl
      rw [e]
      exact h
    clear hP hO2 hb2 hB3 HB1 HK1 hk1
    go_wp2
    go_loopw [5, 29] (fun s5 s29 wr => FI w w2.heap.size op rt s5 s29 wr ∧ (intOf s29).toNat ≤ N) (fun _ s29 _ => N - (intOf s29).toNat)
    case atStart => exact ⟨HST.out, by simp [intOf]⟩
    case round =>
      clear HST
      obtain ⟨⟨k, a, c, rfl, rfl, hO, hkc, hke, hB⟩, hkN⟩ := hrel
      have hkN' : k ≤ N := by simpa [intOf] using hkN
      have HO : Hid (Objs wr (fun b => b < wr.heap.size) (.slice a 2 c) (Ch.st [] (fullQ op rt (min k 4)))) := hO
      have HKC : Hid (Blk wr w.heap.size #[.int .i64 op, .int .i64 rt] 47) := hkc
      have HKE : Hid (Blk wr w2.heap.size #[.int .i64 0, .int .i64 1] 50) := hke
      have HB : Hid (Below w.heap.size w wr) := hB
      have k0 := hkc.cell
      have k1 := hke.cell
      have l0 := hkc.lt
      have l1 := hke.lt
      clear hO hkc hke hB hkN
      by_cases hlt : k < N
      · by_cases h4 : k < 4
        · have hmk : min k 4 = k := by omega
          have hmk1 : min (k + 1) 4 = k + 1 := by omega
          rw [hmk] at HO
          have hl4 : (fullQ op rt k false).length < 4 := by unfold fullQ; rw [upd_self, List.length_replicate]; exact h4
          have HS : Hid (Calls Try.prog 22 #[.slice a 2 c, .int .i64 1, .agg #[.slice none 0 0, .bool true, .int .i64 op, .int .i64 rt]] wr fun e w' => ∃ a c, e = .returned (.tuple #[.slice a 2 c, .int .i64 0]) ∧ Objs w' (fun b => b < w'.heap.size) (.slice a 2 c) (Ch.st [] (fullQ op rt (min (k + 1) 4))) ∧ Below wr.heap.size wr w') := by
            have h := ssend_ok [] (fullQ op rt k) true (nilSl, msgC' op rt) (.slice a 2 c) _ wr HO.out (fun b hb => hb) (Row.nil _ _ _ _ _) (fun o ho => by simp at ho) (fullQ_ok op rt k (by omega)) (by decide) (Nat.zero_le _) hl4
            rw [hmk1, ← fullQ_more]
            exact h
          have h4' : (k : Int) < 4 := by omega
          clear hmk hmk1 hl4
          go_wp2_with fail
          refine Calls.mono HS.out ?_
          rintro e w3 ⟨a3, c3, rfl, hO3, hb3⟩
          have HO3 : Hid (Objs w3 (fun b => b < w3.heap.size) (.slice a3 2 c3) (Ch.st [] (fullQ op rt (min (k + 1) 4)))) := hO3
          have HKC3 : Hid (Blk w3 w.heap.size #[.int .i64 op, .int .i64 rt] 47) := HKC.out.below hb3 l0
          have HKE3 : Hid (Blk w3 w2.heap.size #[.int .i64 0, .int .i64 1] 50) := HKE.out.below hb3 l1
          have HB3 : Hid (Below w.heap.size w w3) := HB.out.trans (hb3.mono HB.out.size)
          clear hO3 hb3 k0 k1 l0 l1 HKC HKE HB HO HS
          go_wp2
          exact ⟨⟨⟨k + 1, a3, c3, by go_num, rfl, HO3.out, HKC3.out, HKE3.out, HB3.out⟩, by simp [intOf]; omega⟩, by simp [intOf]; omega⟩
        · have hmk : min k 4 = 4 := by omega
          have hmk1 : min (k + 1) 4 = 4 := by omega
          rw [hmk] at HO
          have HS : Hid (Calls Try.prog 22 #[.slice a 2 c, .int .i64 1, .agg #[.slice none 0 0, .bool true, .int .i64 op, .int .i64 rt]] wr fun e w' => e = .returned (.tuple #[.slice none 0 0, .int .i64 15]) ∧ Below wr.heap.size wr w') :=
            ssend_err [] (fullQ op rt 4) true (nilSl, msgC' op rt) (.slice a 2 c) _ wr HO.out (fun b hb => hb) (Row.nil _ _ _ _ _) (Or.inr (Nat.le_refl _))
          have h4' : ¬ (k : Int) < 4 := by omega
          have HM1 : Hid (min (k + 1) 4 = 4) := hmk1
          clear hmk hmk1
          go_wp2_with fail
          refine Calls.mono HS.out ?_
          rintro e w3 ⟨rfl, hb3⟩
          have HO3 : Hid (Objs w3 (fun b => b < w3.heap.size) (.slice a 2 c) (Ch.st [] (fullQ op rt 4))) := HO.out.later hb3
          have HKC3 : Hid (Blk w3 w.heap.size #[.int .i64 op, .int .i64 rt] 47) := HKC.out.below hb3 l0
          have HKE3 : Hid (Blk w3 w2.heap.size #[.int .i64 0, .int .i64 1] 50) := HKE.out.below hb3 l1
          have HB3 : Hid (Below w.heap.size w w3) := HB.out.trans (hb3.mono HB.out.size)
          clear hb3 k0 k1 l0 l1 HKC HKE HB HO HS
          go_wp2
          exact ⟨⟨⟨k + 1, a, c, by go_num, rfl, by rw [HM1.out]; exact HO3.out, HKC3.out, HKE3.out, HB3.out⟩, by simp [intOf]; omega⟩, by simp [intOf]; omega⟩
      · obtain rfl : k = N := by omega
        have heqC : ∀ w, (Op.equalIn 10000 47 (.agg #[.int .i64 op, .int .i64 rt]) (.agg #[.int .i64 op, .int .i64 rt])).run Try.prog w = .ok true w := fun w => eqCap op rt w
        have hgC := guardCap
        by_cases hz : k = 0
        · subst hz
          have HR : Hid (Calls Try.prog 24 #[.slice a 2 c, .int .i64 0] wr fun e w' => e = .returned (.tuple #[.slice none 0 0, .agg #[.slice none 0 0, .bool false, .int .i64 0, .int .i64 0], .int .i64 16]) ∧ Below wr.heap.size wr w') :=
            srecv_err [] (fullQ op rt 0) false (.slice a 2 c) _ wr HO.out (fun b hb => hb) rfl
          clear HO
          go_wp2_with fail
          refine Calls.mono HR.out ?_
          rintro e w3 ⟨rfl, hb3⟩
          have HB3 : Hid (Below w.heap.size w w3) := HB.out.trans (hb3.mono HB.out.size)
          clear hb3
          go_wp2
          go_ret
          exact ⟨rfl, HB3.out.alloc HB3.out.size _⟩
        · obtain ⟨j, hj⟩ : ∃ j, min k 4 = j + 1 := ⟨min k 4 - 1, by omega⟩
          have hj4 : j + 1 ≤ 4 := by omega
          rw [hj] at HO
          have HR : Hid (Calls Try.prog 24 #[.slice a 2 c, .int .i64 0] wr fun e w' => ∃ a c r, e = .returned (.tuple #[.slice a 2 c, msgV (r, msgC' op rt), .int .i64 0]) ∧ Objs w' (fun b => b < w'.heap.size) (.slice a 2 c) (Ch.st [] (fullQ op rt j)) ∧ Bytes w' (fun b => b < w'.heap.size) (.slice r.a r.n r.c) [] ∧ Below wr.heap.size wr w') := by
            have h := srecv_ok [] (fullQ op rt (j + 1)) false (msgC' op rt) (List.replicate j (msgC' op rt)) (.slice a 2 c) _ wr HO.out (fun b hb => hb) (fun o ho => by simp at ho) (fullQ_ok op rt _ hj4) (by decide) (by unfold fullQ; rw [upd_self, List.replicate_succ])
            have e : Ch.upd (fullQ op rt (j + 1)) false (List.replicate j (msgC' op rt)) = fullQ op rt j := by unfold fullQ; rw [upd_upd]
            rw [e] at h
            exact h
          have hkz : ((k : Int) == 0) = false := by simpa using hz
          have HJ : Hid (j + 1 ≤ 4) := hj4
          clear HO hj hj4 hz
          go_wp2_with fail
          refine Calls.mono HR.out ?_
          rintro e w3 ⟨a3, c3, r, rfl, hO3, -, hb3⟩
          unfold msgV
          dsimp only [msgC']
          have HO3 : Hid (Objs w3 (fun b => b < w3.heap.size) (.slice a3 2 c3) (Ch.st [] (fullQ op rt j))) := hO3
          have HKC3 : Hid (Blk w3 w.heap.size #[.int .i64 op, .int .i64 rt] 47) := HKC.out.below hb3 l0
          have HKE3 : Hid (Blk w3 w2.heap.size #[.int .i64 0, .int .i64 1] 50) := HKE.out.below hb3 l1
          have HB3 : Hid (Below w.heap.size w w3) := HB.out.trans (hb3.mono HB.out.size)
          have q0 := (HKC.out.below hb3 l0).cell
          have q1 := (HKE.out.below hb3 l1).cell
          have l03 := (HKC.out.below hb3 l0).lt
          have l13 := (HKE.out.below hb3 l1).lt
          clear hO3 hb3 k0 k1 l0 l1 HKC HKE HB HR
          go_wp2_with fail
          have hB4 : Below w3.heap.size w3 (w3.alloc (.cells #[.slice r.a r.n r.c, .bool true, .int .i64 op, .int .i64 rt] 49)) := (Below.refl _ _).alloc (Nat.le_refl _) _
          have hS : Calls Try.prog 22 #[.slice a3 2 c3, .int .i64 1, .agg #[.slice none 0 0, .bool false, .int .i64 0, .int .i64 0]] (w3.alloc (.cells #[.slice r.a r.n r.c, .bool true, .int .i64 op, .int .i64 rt] 49)) fun e w' => ∃ a c, e = .returned (.tuple #[.slice a 2 c, .int .i64 0]) ∧ Objs w' (fun b => b < w'.heap.size) (.slice a 2 c) (Ch.st [] (Ch.upd (fullQ op rt j) false (fullQ op rt j false ++ [msg0]))) ∧ Below (w3.alloc (.cells #[.slice r.a r.n r.c, .bool true, .int .i64 op, .int .i64 rt] 49)).heap.size (w3.alloc (.cells #[.slice r.a r.n r.c, .bool true, .int .i64 op, .int .i64 rt] 49)) w' :=
            ssend_ok [] (fullQ op rt j) true (nilSl, msg0) (.slice a3 2 c3) _ _ (HO3.out.later hB4) (fun b hb => hb) (Row.nil _ _ _ _ _) (fun o ho => by simp at ho) (fullQ_ok op rt j (by have := HJ.out; omega)) (by decide) (Nat.zero_le _) (by show (fullQ op rt j false).length < 4; unfold fullQ; rw [upd_self, List.length_replicate]; have := HJ.out; omega)
          refine Calls.mono hS ?_
          rintro e w5 ⟨a5, c5, rfl, -, hb5⟩
          have HB5 : Hid (Below w.heap.size w w5) := HB3.out.trans ((hB4.trans (hb5.mono hB4.size)).mono HB3.out.size)
          clear hb5 hB4 hS
          go_wp2
          go_ret
          exact ⟨rfl, HB5.out⟩
end Go.Proofs.Ythoacakdmnijcaa
