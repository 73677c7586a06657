/-
  rgref1.Same; bytes as a string.
-/
import Derived.Test.YtkobjcbcmbecfaaWalkG
import Derived.Laws.StructEq
import Derived.Laws.IdiomStrings
import Derived.Laws.BytesString
namespace Go.Proofs.Ytkobjcbcmbecfaa
open Go.RowKit
theorem part4_0 (a b c d : Int) (w : World) : (part 3 #[.int .i64 a, .int .i64 b, .int .i64 c, .int .i64 d] 0).run Try.prog w = .ok (.int .i64 a) w := by kernel_rfl
theorem part4_1 (a b c d : Int) (w : World) : (part 3 #[.int .i64 a, .int .i64 b, .int .i64 c, .int .i64 d] 1).run Try.prog w = .ok (.int .i64 b) w := by kernel_rfl
theorem part4_2 (a b c d : Int) (w : World) : (part 3 #[.int .i64 a, .int .i64 b, .int .i64 c, .int .i64 d] 2).run Try.prog w = .ok (.int .i64 c) w := by kernel_rfl
theorem part4_3 (a b c d : Int) (w : World) : (part 3 #[.int .i64 a, .int .i64 b, .int .i64 c, .int .i64 d] 3).run Try.prog w = .ok (.int .i64 d) w := by kernel_rfl
theorem fieldsIns : Try.prog.underlying 68 = some (.struct (Try.prog.fieldsOf 68)) := by unfold Program.fieldsOf; rw [Try.underlying68]
theorem eqIns' (n : Nat) (a b c d a' b' c' d' : Int) (w : World) : (Op.equalIn (n + 2) 68 (.agg #[.int .i64 a, .int .i64 b, .int .i64 c, .int .i64 d]) (.agg #[.int .i64 a', .int .i64 b', .int .i64 c', .int .i64 d'])).run Try.prog w = .ok (decide ((⟨a, b, c, d⟩ : Bp.Ins) = ⟨a', b', c', d'⟩)) w := by
  rw [run_equalIn_struct w (n + 1) 68 _ _ fieldsIns (by kernel_rfl)]
  unfold Program.fieldsOf
  rw [Try.underlying68]
  have q := fun (x y : Int) (w : World) => run_equalIn_int (P := Try.prog) w n 3 .i64 .i64 x y Try.underlying3
  simp [Op.eqFields, part4_0, part4_1, part4_2, part4_3, q]
  by_cases h1 : a = a' <;> by_cases h2 : b = b' <;> by_cases h3 : c = c' <;> by_cases h4 : d = d' <;> simp [h1, h2, h3, h4]
theorem eqIns (a b c d a' b' c' d' : Int) (w : World) : (Op.equalIn 10000 68 (.agg #[.int .i64 a, .int .i64 b, .int .i64 c, .int .i64 d]) (.agg #[.int .i64 a', .int .i64 b', .int .i64 c', .int .i64 d'])).run Try.prog w = .ok (decide ((⟨a, b, c, d⟩ : Bp.Ins) = ⟨a', b', c', d'⟩)) w := eqIns' 9998 a b c d a' b' c' d' w
theorem guardIns : Try.prog.eqGuardType Try.prog.depth 68 = false := by kernel_rfl
theorem ret_bool {a b : Bool} (h : a = b) : Ending.returned (.bool a) = .returned (.bool b) := by rw [h]
def SRel (w : World) (p q : List Bp.Ins) (i : Value) (wr : World) : Prop :=
  ∃ k n : Nat, k ≤ p.length ∧ i = .int .i64 k ∧ wr = w.drewN n ∧ p.take k = q.take k
theorem same_lie (p q : List Bp.Ins) (hpq : p.length = q.length) (b o cap b' o' cap' : Nat) (w : World) (hl : Lies w b o p) (hl' : Lies w b' o' q) (hm : p.length ≤ maxLen) :
    Calls Try.prog 37 #[.slice (some ⟨b, o, none⟩) p.length cap, .slice (some ⟨b', o', none⟩) q.length cap'] w fun e w' => e = .returned (.bool (decide (p = q))) ∧ ∃ n, w' = w.drewN n := by
  have HL : Hid (Lies w b o p) := hl
  have HL' : Hid (Lies w b' o' q) := hl'
  have HQ : Hid (p.length = q.length) := hpq
  clear hl hl' 
  rw [← hpq]
  clear hpq
  unfold maxLen at hm
  go_enter Try.func37, Try.ntmps37
  go_wp2
  go_loopw [13] (fun i wr => SRel w p q i wr) (fun i _ => p.length - (intOf i).toNat)
  case atStart => exact ⟨0, 0, Nat.zero_le _, rfl, rfl, rfl⟩
  case round =>
    obtain ⟨k, n, hk, rfl, rfl, hT⟩ := hrel
    have HT : Hid (p.take k = q.take k) := hT
    clear hT
    by_cases hlt : k < p.length
    · have hx : p[k]? = some p[k] := List.getElem?_eq_getElem hlt
      have hy : q[k]? = some (q[k]'(by have := HQ.out; omega)) := List.getElem?_eq_getElem _
      obtain ⟨c0, c1, c2, c3⟩ := HL.out k _ hx
      obtain ⟨c4, c5, c6, c7⟩ := HL'.out k _ hy
      generalize p[k] = x at *
      generalize q[k]'(by have := HQ.out; omega) = y at *
      obtain ⟨x0, x1, x2, x3⟩ := x
      obtain ⟨y0, y1, y2, y3⟩ := y
      dsimp only at c0 c1 c2 c3 c4 c5 c6 c7
      have HX : Hid (p[k]? = _ ∧ q[k]? = _) := ⟨hx, hy⟩
      clear hx hy
      have heq := fun (w : World) => eqIns x0 x1 x2 x3 y0 y1 y2 y3 w
      have hgd := guardIns
      generalize hd : decide ((⟨x0, x1, x2, x3⟩ : Bp.Ins) = ⟨y0, y1, y2, y3⟩) = dd at heq
      have HD : Hid (decide ((⟨x0, x1, x2, x3⟩ : Bp.Ins) = ⟨y0, y1, y2, y3⟩) = dd) := hd
      clear hd
      cases dd
      · have hne : p ≠ q := by
          intro e
          have h1 := HX.out.1
          rw [e, HX.out.2] at h1
          exact of_decide_eq_false HD.out (Option.some.inj h1).symm
        have hdec : decide (p = q) = false := decide_eq_false hne
        clear hne HD
        go_wp2
        go_region
        all_goals (try go_wp2)
        go_ret
        exact ⟨ret_bool hdec.symm, _, rfl⟩
      · have he := of_decide_eq_true HD.out
        have HN : Hid (p.take (k + 1) = q.take (k + 1)) := by
          unfold Hid
          rw [List.take_add_one, List.take_add_one, HX.out.1, HX.out.2, he, HT.out]
        clear he HD
        go_wp2
        go_region
        all_goals (try go_wp2)
        exact ⟨⟨k + 1, n + 1, by omega, by go_num, rfl, HN.out⟩, by simp [intOf]; omega⟩
    · obtain rfl : k = p.length := by omega
      have hT := HT.out
      rw [List.take_length, HQ.out, List.take_length] at hT
      have hdec : decide (p = q) = true := decide_eq_true hT
      clear hT
      go_wp2
      go_ret
      exact ⟨ret_bool hdec.symm, _, rfl⟩
theorem same_off (p q : List Bp.Ins) (hpq : p.length ≠ q.length) (a a' : Option Addr) (cap cap' : Nat) (w : World) :
    Calls Try.prog 37 #[.slice a p.length cap, .slice a' q.length cap'] w fun e w' => e = .returned (.bool (decide (p = q))) ∧ ∃ n, w' = w.drewN n := by
  have hdec : decide (p = q) = false := decide_eq_false (fun e => hpq (by rw [e]))
  rw [hdec]
  have hne : ((p.length : Int) != (q.length : Int)) = true := by rw [bne_iff_ne]; omega
  clear hdec hpq
  go_enter Try.func37, Try.ntmps37
  go_wp2
  go_ret
  exact ⟨rfl, 0, rfl⟩
theorem same_nil (a a' : Option Addr) (cap cap' : Nat) (w : World) :
    Calls Try.prog 37 #[.slice a 0 cap, .slice a' 0 cap'] w fun e w' => e = .returned (.bool true) ∧ ∃ n, w' = w.drewN n := by
  go_enter Try.func37, Try.ntmps37
  go_wp2
  refine wp_loop_rounds 1 ?_
  rw [rounds_succ]
  go_wp2
  go_ret
  exact ⟨rfl, 0, rfl⟩
/-- rgref1.Same: are they the same? -/
theorem same_any (p q : List Bp.Ins) (v v' : Value) (w : World) (B B' : Nat) (hv : Holds w B v p) (hv' : Holds w B' v' q) :
    Calls Try.prog 37 #[v, v'] w fun e w' => e = .returned (.bool (decide (p = q))) ∧ ∃ n, w' = w.drewN n := by
  by_cases hpq : p.length = q.length
  · rcases hv with ⟨a, cap, rfl, rfl⟩ | ⟨b, o, cap, rfl, hlt, hm, hl⟩
    · rcases hv' with ⟨a', cap', rfl, rfl⟩ | ⟨b', o', cap', rfl, hlt', hm', hl'⟩
      · exact same_nil a a' cap cap' w
      · have : q = [] := List.length_eq_zero_iff.1 (by simpa using hpq.symm)
        subst this
        exact same_nil a _ cap cap' w
    · rcases hv' with ⟨a', cap', rfl, rfl⟩ | ⟨b', o', cap', rfl, hlt', hm', hl'⟩
      · have : p = [] := List.length_eq_zero_iff.1 (by simpa using hpq)
        subst this
        exact same_nil _ a' cap cap' w
      · exact same_lie p q hpq b o cap b' o' cap' w hl hl' hm
  · obtain ⟨a, cap, rfl⟩ : ∃ a cap, v = .slice a p.length cap := by
      rcases hv with ⟨a, cap, rfl, rfl⟩ | ⟨b, o, cap, rfl, _⟩
      · exact ⟨a, cap, rfl⟩
      · exact ⟨_, cap, rfl⟩
    obtain ⟨a', cap', rfl⟩ : ∃ a cap, v' = .slice a q.length cap := by
      rcases hv' with ⟨a, cap, rfl, rfl⟩ | ⟨b, o, cap, rfl, _⟩
      · exact ⟨a, cap, rfl⟩
      · exact ⟨_, cap, rfl⟩
    exact same_off p q hpq a a' cap cap' w
/-- Bytes as a string. -/
def strOf (l : List Nat) : ByteArray := ⟨(l.map UInt8.ofNat).toArray⟩
theorem conv_any (l : List Nat) (v : Value) (w : World) (B : Nat) (hv : HoldsB w B v l) : (convert 45 9 v).run Try.prog w = .ok (.string (strOf l)) w := by
  rcases hv with ⟨a, cap, rfl, rfl⟩ | ⟨b, o, cap, rfl, hlt, h1, h2, hl⟩
  · cases a with
    | none => rw [run_convert_bytes_string w 45 9 5 none 0 cap Try.underlying45 Try.underlying5 Try.underlying9]; rfl
    | some a => exact run_convert_bytes_back (P := Try.prog) w 45 9 5 a cap [] Try.underlying45 Try.underlying5 Try.underlying9 (fun j hj => by simp at hj)
  · have h := run_convert_bytes_back (P := Try.prog) w 45 9 5 ⟨b, o, none⟩ cap (l.map UInt8.ofNat) Try.underlying45 Try.underlying5 Try.underlying9 (fun j hj => by
      have hj' : j < l.length := by simpa using hj
      obtain ⟨hb, hc⟩ := hl j l[j] (List.getElem?_eq_getElem hj')
      rw [Addr.add_lit, hc]
      simp only [List.getElem_map, UInt8.toNat_ofNat']
      congr 2
      omega)
    rw [List.length_map] at h
    exact h
end Go.Proofs.Ytkobjcbcmbecfaa
