/-
  rglaw7.alive answers true.
-/
import Derived.Test.YtaobjpajbpoamaaTPut
import Derived.Test.YtaobjpajbpoamaaTLimit
import Derived.Test.YtaobjpajbpoamaaTAll
import Derived.Test.YtaobjpajbpoamaaRSlots
namespace Go.Proofs.Ytaobjpajbpoamaa
open Go.RowKit
theorem eqCe (a b : Int) (w : World) : (binOp .eql 58 (.agg #[.int .i64 a, .int .i64 b]) (.agg #[.int .i64 a, .int .i64 b])).run Try.prog w = .ok (.bool true) w := by
  rw [run_eql_struct, eqC]
  rfl
def al1 : List Tb.Slt := [⟨true, 5, 3⟩]
def al2 : List Tb.Slt := [⟨true, 5, 3⟩, ⟨true, 5, 3⟩]
def al3 : List Tb.Slt := [⟨true, 5, 3⟩, ⟨true, 5, 1⟩]
def al4 : List Tb.Slt := [⟨false, 0, 0⟩, ⟨true, 5, 1⟩]
theorem TabNew.tab' {w w' : World} {v : Value} {l : List Tb.Slt} (h : TabNew w w' v l) : Tab w' (fun b => b < w'.heap.size) v l := h.1.more fun _ hb => hb.2
theorem Tab.later' {W W' : World} {v : Value} {l : List Tb.Slt} (h : Tab W (fun b => b < W.heap.size) v l) (hb : Below W.heap.size W W') : Tab W' (fun b => b < W'.heap.size) v l := (h.on (On.of hb)).more fun _ hb' => Nat.lt_of_lt_of_le hb' hb.size
theorem al_put : Tb.putR [] 5 3 = (al1, 0, 0) := rfl
theorem al_dup : dupR al1 0 = (al2, 1, 0) := rfl
theorem al_limit : Tb.limitR al2 1 1 = (al3, 0) := rfl
theorem al_close : Tb.closeR al3 0 = (al4, 0) := rfl
theorem al_get : Tb.get al4 1 = some ⟨true, 5, 1⟩ := rfl
theorem al_all : Tb.allF al4 0 = [1] := rfl
set_option maxRecDepth 1000000 in
set_option maxHeartbeats 8000000 in
theorem talive_any (w : World) : Calls Try.prog 38 #[] w fun e w' => e = .returned (.bool true) ∧ Below w.heap.size w w' := by
  have HP : Hid (Calls Try.prog 29 #[.slice none 0 0, .agg #[.int .i64 5, .int .i64 3]] w fun e w' => ∃ v', e = .returned (.tuple #[v', .int .i64 0, .int .i64 0]) ∧ TabNew w w' v' al1) := by
    have := tput_any [] 5 3 (.slice none 0 0) (fun _ => False) w (Row.nil _ _ _ _ _) (fun _ h => h.elim) (by decide)
    rw [al_put] at this
    exact this
  have HD : Hid (∀ v W, Tab W (fun b => b < W.heap.size) v al1 → Calls Try.prog 37 #[v, .int .i64 0] W fun e w' => ∃ v', e = .returned (.tuple #[v', .int .i64 1, .int .i64 0]) ∧ TabNew W w' v' al2) := fun v W h => by
    have := tdup_any al1 0 v _ W h (fun _ h => h) (by decide)
    rw [al_dup] at this
    exact this
  have HL : Hid (∀ v W, Tab W (fun b => b < W.heap.size) v al2 → Calls Try.prog 34 #[v, .int .i64 1, .int .i64 1] W fun e w' => ∃ v', e = .returned (.tuple #[v', .int .i64 0]) ∧ TabNew W w' v' al3) := fun v W h => by
    have := tlimit_any al2 1 1 v _ W h (fun _ h => h) (by decide) (fun x hx => by cases hx; decide)
    rw [al_limit] at this
    exact this
  have HC : Hid (∀ v W, Tab W (fun b => b < W.heap.size) v al3 → Calls Try.prog 32 #[v, .int .i64 0] W fun e w' => ∃ v', e = .returned (.tuple #[v', .int .i64 0]) ∧ TabNew W w' v' al4) := fun v W h => by
    have := tclose_any al3 0 v _ W h (fun _ h => h) (by decide)
    rw [al_close] at this
    exact this
  have HW1 : Hid (∀ v W, Tab W (fun b => b < W.heap.size) v al4 → Calls Try.prog 40 #[v, .int .i64 1, .int .i64 1] W fun e w' => e = .returned (.tuple #[.agg #[.int .i64 5, .int .i64 1], .int .i64 0]) ∧ Below W.heap.size W w') := fun v W h => twith_ok al4 1 ⟨true, 5, 1⟩ 1 v _ W h (fun _ h => h) rfl rfl (by decide) (by decide) (by decide) (by decide)
  have HW2 : Hid (∀ v W, Tab W (fun b => b < W.heap.size) v al4 → Calls Try.prog 40 #[v, .int .i64 1, .int .i64 2] W fun e w' => e = .returned (.tuple #[.agg #[.int .i64 0, .int .i64 0], .int .i64 10]) ∧ Below W.heap.size W w') := fun v W h => twith_ok al4 1 ⟨true, 5, 1⟩ 2 v _ W h (fun _ h => h) rfl rfl (by decide) (by decide) (by decide) (by decide)
  have HG : Hid (∀ v W, Tab W (fun b => b < W.heap.size) v al4 → Calls Try.prog 27 #[v, .int .i64 1] W fun e w' => e = .returned (.tuple #[.agg #[.int .i64 5, .int .i64 1], .int .i64 0]) ∧ Below W.heap.size W w') := fun v W h => by
    have := tget_any al4 1 v _ W h (fun _ h => h)
    rw [al_get] at this
    exact this
  have HA : Hid (∀ v W, Tab W (fun b => b < W.heap.size) v al4 → Calls Try.prog 36 #[v] W fun e w' => ∃ a c, e = .returned (.slice a 1 c) ∧ Below W.heap.size W w') := fun v W h => by
    refine (tall_any al4 v _ W h (fun _ h => h) (by decide)).mono ?_
    rintro e w' ⟨v', rfl, hr, hb⟩
    obtain ⟨a, c, rfl, -⟩ := hr.form
    exact ⟨a, c, rfl, hb⟩
  have heq := eqCe 5 1
  go_enter Try.func38, Try.ntmps38
  go_wp2_with fail
  refine HP.out.mono ?_
  rintro e w1 ⟨v1, rfl, hn1⟩
  have HB1 : Hid (Below w.heap.size w w1) := hn1.2
  have HV1 : Hid (Tab w1 (fun b => b < w1.heap.size) v1 al1) := hn1.tab'
  clear hn1 HP
  go_wp2_with fail
  refine (HD.out _ _ HV1.out).mono ?_
  rintro e w2 ⟨v2, rfl, hn2⟩
  have HB2 : Hid (Below w.heap.size w w2) := HB1.out.trans (hn2.2.mono HB1.out.size)
  have HV2 : Hid (Tab w2 (fun b => b < w2.heap.size) v2 al2) := hn2.tab'
  clear hn2 HD HB1 HV1
  go_wp2_with fail
  refine (HL.out _ _ HV2.out).mono ?_
  rintro e w3 ⟨v3, rfl, hn3⟩
  have HB3 : Hid (Below w.heap.size w w3) := HB2.out.trans (hn3.2.mono HB2.out.size)
  have HV3 : Hid (Tab w3 (fun b => b < w3.heap.size) v3 al3) := hn3.tab'
  clear hn3 HL HB2 HV2
  go_wp2_with fail
  refine (HC.out _ _ HV3.out).mono ?_
  rintro e w4 ⟨v4, rfl, hn4⟩
  have HB4 : Hid (Below w.heap.size w w4) := HB3.out.trans (hn4.2.mono HB3.out.size)
  have HV4 : Hid (Tab w4 (fun b => b < w4.heap.size) v4 al4) := hn4.tab'
  clear hn4 HC HB3 HV3
  go_wp2_with fail
  refine (HW1.out _ _ HV4.out).mono ?_
  rintro e w5 ⟨rfl, hb5⟩
  have HB5 : Hid (Below w4.heap.size w4 (w5.alloc (.cells #[.int .i64 5, .int .i64 1] 58))) := hb5.alloc hb5.size _
  have HK5 : Hid (Blk (w5.alloc (.cells #[.int .i64 5, .int .i64 1] 58)) w5.heap.size #[.int .i64 5, .int .i64 1] 58) := Blk.new w5 _ _
  clear hb5 HW1
  go_wp2_with fail
  generalize w5.alloc (.cells #[.int .i64 5, .int .i64 1] 58) = W5 at *
  generalize w5.heap.size = G5 at *
  refine (HW2.out _ _ (HV4.out.later' HB5.out)).mono ?_
  rintro e w6 ⟨rfl, hb6⟩
  have HB6 : Hid (Below w4.heap.size w4 (w6.alloc (.cells #[.int .i64 0, .int .i64 0] 58))) := (HB5.out.trans (hb6.mono HB5.out.size)).alloc (by have := HB5.out.size; have := hb6.size; omega) _
  have HK6 : Hid (Blk (w6.alloc (.cells #[.int .i64 0, .int .i64 0] 58)) G5 #[.int .i64 5, .int .i64 1] 58) := (HK5.out.below hb6 HK5.out.lt).alloc _
  clear hb6 HW2 HB5 HK5
  go_wp2_with fail
  generalize w6.alloc (.cells #[.int .i64 0, .int .i64 0] 58) = W6 at *
  refine (HG.out _ _ (HV4.out.later' HB6.out)).mono ?_
  rintro e w7 ⟨rfl, hb7⟩
  have HB7 : Hid (Below w4.heap.size w4 (w7.alloc (.cells #[.int .i64 5, .int .i64 1] 58))) := (HB6.out.trans (hb7.mono HB6.out.size)).alloc (by have := HB6.out.size; have := hb7.size; omega) _
  have hK7 : Blk w7 G5 #[.int .i64 5, .int .i64 1] 58 := HK6.out.below hb7 HK6.out.lt
  have hl7 := hK7.lt
  have k0 : w7.cell? ⟨G5, 0, none⟩ = some (.int .i64 5) := hK7.cell 0
  have k1 : w7.cell? ⟨G5, 1, none⟩ = some (.int .i64 1) := hK7.cell 1
  clear hb7 HG HB6 HK6 hK7
  go_wp2_with fail
  refine (HA.out _ _ (HV4.out.later' HB7.out)).mono ?_
  rintro e w8 ⟨a8, c8, rfl, hb8⟩
  have HB8 : Hid (Below w.heap.size w w8) := HB4.out.trans ((HB7.out.trans (hb8.mono HB7.out.size)).mono HB4.out.size)
  clear hb8 HA HB7
  go_wp2
  go_ret
  exact ⟨rfl, HB8.out⟩
end Go.Proofs.Ytaobjpajbpoamaa
