/-
  The document's own answer: rgref1.Bytes.
-/
import Derived.Test.YtkobjcbcmbecfaaRefC
import Derived.Test.YtkobjcbcmbecfaaWalkG
namespace Go.Proofs.Ytkobjcbcmbecfaa
open Go.RowKit
theorem rbytes_bad (p : List Bp.Ins) (v : Value) (w : World) (hv : Holds w w.heap.size v p) (h0 : (Bp.chk p).1 ≠ 0) :
    Calls Try.prog 34 #[v] w fun e w' => e = .returned (.tuple #[.slice none 0 0, faultV (Bp.chk p)]) ∧ Below w.heap.size w w' := by
  have hv2 : Holds (withFault w) (withFault w).heap.size v p := (hv.on (withFault_below w) (Nat.le_refl _)).up (by rw [withFault_size]; omega)
  have hb : ((Bp.chk p).1 != 0) = true := by simpa using h0
  have HV : Hid (Holds (withFault w) (withFault w).heap.size v p) := hv2
  clear hv hv2 h0
  unfold faultV
  go_enter Try.func34, Try.ntmps34
  go_wp2_with fail
  refine (rcheck_any p v (withFault w) HV.out).mono ?_
  rintro e w1 ⟨rfl, hb1⟩
  rw [withFault_size] at hb1
  obtain ⟨d0, d1, f0, f1⟩ := fault_cells hb1
  have hsz : w.heap.size < w1.heap.size := by have := hb1.size; rw [withFault_size] at this; omega
  unfold faultV
  go_wp2
  go_region
  all_goals (try go_wp2)
  exact bodyPost_ret (v := .tuple #[.slice none 0 0, .agg #[.int .i64 (Bp.chk p).1, .int .i64 (Bp.chk p).2]]) (by simp [results, Try.results34, go_sem, d0, d1, hsz]) rfl ⟨rfl, ((fault_below hb1 _ _).alloc (by simp; omega) _).drew⟩
theorem rbytes_good (p : List Bp.Ins) (v : Value) (w : World) (hv : Holds w w.heap.size v p) (hg : Bp.Good p) :
    Calls Try.prog 34 #[v] w fun e w' => ∃ x, e = .returned (.tuple #[x, faultV (0, 0)]) ∧ Below w.heap.size w w' ∧ w'.ownsRow (w.heap.size + 1) 5 1 x (7 * p.length) ((Bp.bytes p).map u8V) := by
  have hv2 : Holds (withFault w) (withFault w).heap.size v p := (hv.on (withFault_below w) (Nat.le_refl _)).up (by rw [withFault_size]; omega)
  have hck : Bp.chk p = (0, 0) := Bp.chk_good hg
  have HV : Hid (Holds (withFault w) (withFault w).heap.size v p) := hv2
  have HG : Hid (Bp.Good p) := hg
  have hmany := hg.many
  have hone := hg.one
  clear hv2 hg
  rcases hv with ⟨_, _, rfl, rfl⟩ | ⟨b, o, cap, rfl, hlt, hlen, hl⟩
  · simp at hone
  have HL : Hid (Lies (withFault w) b o p) := hl.on (withFault_below w) hlt
  clear hl
  unfold faultV
  go_enter Try.func34, Try.ntmps34
  go_wp2_with fail
  refine (rcheck_any p _ (withFault w) HV.out).mono ?_
  rintro e w1 ⟨rfl, hb1⟩
  rw [withFault_size] at hb1
  obtain ⟨d0, d1, f0, f1⟩ := fault_cells hb1
  rw [hck]
  unfold faultV
  have hsz : w.heap.size < w1.heap.size := by have := hb1.size; rw [withFault_size] at this; omega
  go_wp2_with fail
  have hB2 : Below (w.heap.size + 1) (withFault w) (w1.alloc (.cells #[.int .i64 0, .int .i64 0] 47)) := hb1.alloc (by omega) _
  have hown := World.ownsRow_nil (w1.alloc (.cells #[.int .i64 0, .int .i64 0] 47)) (w.heap.size + 1) 5 1
  clear hb1 d0 d1 f0 f1
  go_loopw [5, 17] (fun v i wr => BRel w p v i wr) (fun _ i _ => p.length - (intOf i).toNat)
  case atStart => exact ⟨0, Nat.zero_le _, rfl, hB2, by simpa [Bp.bytes] using hown⟩
  case round =>
    clear hown hB2
    obtain ⟨k, hk, rfl, hB, hown⟩ := hrel
    have hsz : w.heap.size < wr.heap.size := by have := hB.size; rw [withFault_size] at this; omega
    by_cases hlt : k < p.length
    · have hx : p[k]? = some p[k] := List.getElem?_eq_getElem hlt
      obtain ⟨c0, c1, c2, c3⟩ := (HL.out.on hB (by omega)) k _ hx
      have HX : Hid (p[k]? = some p[k]) := hx
      have hk0 : 0 ≤ p[k].k ∧ p[k].k < 2147483648 := by have := Bp.wrong_zero (HG.out.each k _ hx); omega
      clear hx
      generalize p[k] = x at *
      go_wp2_with (at_builtin; refine wpList_bytes rfl _ _ rfl (w.heap.size + 1) _ _ _ rfl ((hown.alloc _).alloc _) ⟨wr.heap.size + 1, 0, none⟩ 3 3 [.int .u8 (x.op % 256), .int .u8 (x.jt % 256), .int .u8 (x.jf % 256)] rfl rfl ?c1 ?c2 ?c3 ?c4 ?_)
      case c1 =>
        intro j u hj
        match j, hj with
        | 0, hj => simp at hj; subst hj; simp [Addr.add]
        | 1, hj => simp at hj; subst hj; simp [Addr.add]
        | 2, hj => simp at hj; subst hj; simp [Addr.add]
      case c2 => intro u hu; simp at hu; rcases hu with rfl | rfl | rfl <;> rfl
      case c3 => omega
      case c4 => simp; omega
      intro v1 wa ho1 hg1
      have hI0 : Inn w wr.heap.size x _ (7 * k) ((Bp.bytes (p.take k)).map u8V) (wr.alloc (.cells #[.int .i64 x.op, .int .i64 x.jt, .int .i64 x.jf, .int .i64 x.k] 68)) := ⟨hown.alloc _, hB.alloc (by omega) _, by show (wr.heap.push _)[wr.heap.size]? = _; simp⟩
      have hI1 := hI0.step ho1 hg1
      clear hI0 ho1 hg1 hown hB c0 c1 c2 c3
      have hK := hI1.cellK
      obtain ⟨hk0, hk1⟩ := hk0
      go_wp2
      refine wp_loop_rounds 5 ?_
      clear hK
      rw [rounds_succ]
      go_wp2_with (at_builtin; refine wpList_bytes rfl _ _ rfl (w.heap.size + 1) _ _ _ rfl (hI1.own.alloc _) ⟨wa.heap.size, 0, none⟩ 1 1 [.int .u8 (x.k % 256)] rfl rfl (cells_one (by simp)) (by intro u hu; simp at hu; subst hu; rfl) (by omega) (by simp; have := hI1.size; omega) ?_)
      intro v2 wb ho2 hg2
      have hI2 := hI1.step ho2 hg2
      clear hI1 ho2 hg2
      go_wp2
      rw [rounds_succ]
      go_wp2_with (at_builtin; refine wpList_bytes rfl _ _ rfl (w.heap.size + 1) _ _ _ rfl (hI2.own.alloc _) ⟨wb.heap.size, 0, none⟩ 1 1 [.int .u8 (x.k / 256 % 256)] rfl rfl (cells_one (by simp)) (by intro u hu; simp at hu; subst hu; rfl) (by omega) (by simp; have := hI2.size; omega) ?_)
      intro v3 wc ho3 hg3
      have hI3 := hI2.step ho3 hg3
      clear hI2 ho3 hg3
      go_wp2
      rw [rounds_succ]
      go_wp2_with (at_builtin; refine wpList_bytes rfl _ _ rfl (w.heap.size + 1) _ _ _ rfl (hI3.own.alloc _) ⟨wc.heap.size, 0, none⟩ 1 1 [.int .u8 (x.k / 256 / 256 % 256)] rfl rfl (cells_one (by simp)) (by intro u hu; simp at hu; subst hu; rfl) (by omega) (by simp; have := hI3.size; omega) ?_)
      intro v4 wd ho4 hg4
      have hI4 := hI3.step ho4 hg4
      clear hI3 ho4 hg4
      go_wp2
      rw [rounds_succ]
      go_wp2_with (at_builtin; refine wpList_bytes rfl _ _ rfl (w.heap.size + 1) _ _ _ rfl (hI4.own.alloc _) ⟨wd.heap.size, 0, none⟩ 1 1 [.int .u8 (x.k / 256 / 256 / 256 % 256)] rfl rfl (cells_one (by simp)) (by intro u hu; simp at hu; subst hu; rfl) (by omega) (by simp; have := hI4.size; omega) ?_)
      intro v5 we ho5 hg5
      have hI5 := hI4.step ho5 hg5
      clear hI4 ho5 hg5
      go_wp2
      rw [rounds_succ]
      go_wp2
      go_roundw
      case rel =>
        refine ⟨k + 1, by omega, by go_num, hI5.below, ?_⟩
        have ho := hI5.own
        rw [show 7 * (k + 1) = 7 * k + 3 + 1 + 1 + 1 + 1 by omega, bytes_snoc p k x HX.out, show x.k / 65536 = x.k / 256 / 256 by omega, show x.k / 16777216 = x.k / 256 / 256 / 256 by omega]
        simpa using ho
      case measure => simp [intOf]; omega
    · obtain rfl : k = p.length := by omega
      obtain ⟨d0, d1, f0, f1⟩ := fault_cells hB
      rw [List.take_length] at hown
      go_wp2
      exact bodyPost_ret (v := .tuple #[u5, .agg #[.int .i64 0, .int .i64 0]]) (by simp [results, Try.results34, go_sem, d0, d1]) rfl ⟨u5, rfl, fault_below hB _ _, ownsRow_setCell_below (ownsRow_setCell_below hown (by simp) _) (by simp) _⟩
end Go.Proofs.Ytkobjcbcmbecfaa
