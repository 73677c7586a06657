/-
  What bpf.Bytes answers.
-/
import Derived.Test.YtkobjcbcmbecfaaWalkC
import Derived.Handy
import Derived.BigQuiet
import Derived.Deep.QuietTactic
import Derived.Deep.RegionWith
import Derived.Laws.AppendOwn
import Derived.Laws.MakeOwn
import Derived.Laws.OwnMore
namespace Go.Proofs.Ytkobjcbcmbecfaa
open Go.RowKit
def u8V (n : Nat) : Value := .int .u8 n
theorem bytes_bad (p : List Bp.Ins) (v : Value) (w : World) (hv : Holds w w.heap.size v p) (h0 : (Bp.chk p).1 ≠ 0) :
    Calls Try.prog 33 #[v] w fun e w' => e = .returned (.tuple #[.slice none 0 0, faultV (Bp.chk p)]) ∧ Below w.heap.size w w' := by
  have hv2 : Holds (withFault w) (withFault w).heap.size v p := (hv.on (withFault_below w) (Nat.le_refl _)).up (by rw [withFault_size]; omega)
  have hb : ((Bp.chk p).1 != 0) = true := by simpa using h0
  have HV : Hid (Holds (withFault w) (withFault w).heap.size v p) := hv2
  clear hv hv2 h0
  unfold faultV
  go_enter Try.func33, Try.ntmps33
  go_wp2_with fail
  refine (check_any p v (withFault w) HV.out).mono ?_
  rintro e w1 ⟨rfl, hb1⟩
  rw [withFault_size] at hb1
  obtain ⟨d0, d1, f0, f1⟩ := fault_cells hb1
  have hsz : w.heap.size < w1.heap.size := by have := hb1.size; rw [withFault_size] at this; omega
  unfold faultV
  go_wp2
  go_region
  all_goals (try go_wp2)
  exact bodyPost_ret (v := .tuple #[.slice none 0 0, .agg #[.int .i64 (Bp.chk p).1, .int .i64 (Bp.chk p).2]]) (by simp [results, Try.results33, go_sem, d0, d1, hsz]) rfl ⟨rfl, ((fault_below hb1 _ _).alloc (by simp; omega) _).drew⟩
theorem Try.info5 : (Try.prog.info? 5).map (fun i => (i.zero, i.size, i.bytes)) = some (some (.int .u8 0), 1, 1) := by kernel_rfl
/-- An append of bytes to a row of one's own. -/
theorem wpList_bytes {w : World} {ops : Array Oper} {rest : List Oper} {o : Oper} {a : Act} {Q : Exit → Act → World → Prop} (hgd : o.guard = none) (s x : Operand)
    (ho : o.op = .call { callee := .builtin .append, args := #[s, x], argTypes := #[45, 45] }) (base : Nat) (v : Value) (n : Nat) (xs : List Value) (hs : a.eval s = v) (hown : w.ownsRow base 5 1 v n xs)
    (ad : Addr) (m c : Nat) (news : List Value) (hx : a.eval x = .slice (some ad) m c) (hl : news.length = m) (hnews : ∀ j u, news[j]? = some u → w.cell? (ad.add j) = some u) (h1 : ∀ u ∈ news, u.oneCell' = true)
    (h63 : n + m ≤ 1000000) (hbase : base ≤ w.heap.size)
    (h : ∀ v' w', w'.ownsRow base 5 1 v' (n + m) (xs ++ news) → w.grownBy w' v.ownBlock → wpList Try.prog ops Q rest (a.put o.dst v') w') : wpList Try.prog ops Q (o :: rest) a w := by
  obtain ⟨i0, hi, hz0, hz1, hz2⟩ := info_parts Try.info5
  exact wpList_append_own w hgd s x 45 ho base 5 i0 (.int .u8 0) 1 1 Try.underlying45 hi hz0 hz1 hz2 rfl (by decide) v n xs hs hown ad m c news hx (by simpa using hl) hnews h1 (by unfold maxLen; omega) (by omega) hbase fun v' w' h2 h3 _ => h v' w' h2 h3
theorem cells_one {w : World} {g o : Nat} {x : Value} (h : w.cell? ⟨g, o, none⟩ = some x) : ∀ j u, [x][j]? = some u → w.cell? ((⟨g, o, none⟩ : Addr).add j) = some u := by
  intro j u hj
  match j, hj with
  | 0, hj => simp at hj; subst hj; simpa [Addr.add] using h
/-- While bytes are appended: the row so far, old memory, the instruction's own block. -/
structure Inn (w : World) (g : Nat) (x : Bp.Ins) (v : Value) (n : Nat) (xs : List Value) (W : World) : Prop where
  own : W.ownsRow (w.heap.size + 1) 5 1 v n xs
  below : Below (w.heap.size + 1) (withFault w) W
  ins : W.heap[g]? = some (.cells #[.int .i64 x.op, .int .i64 x.jt, .int .i64 x.jf, .int .i64 x.k] 68 (0, 0))
theorem Inn.lt {w : World} {g : Nat} {x : Bp.Ins} {v : Value} {n : Nat} {xs : List Value} {W : World} (h : Inn w g x v n xs W) : g < W.heap.size := by
  have := h.ins
  exact (Array.getElem?_eq_some_iff.1 this).1
theorem Inn.size {w : World} {g : Nat} {x : Bp.Ins} {v : Value} {n : Nat} {xs : List Value} {W : World} (h : Inn w g x v n xs W) : w.heap.size + 1 ≤ W.heap.size := by
  have := h.below.size; rw [withFault_size] at this; exact this
theorem Inn.ne {w : World} {g : Nat} {x : Bp.Ins} {v : Value} {n : Nat} {xs : List Value} {W : World} (h : Inn w g x v n xs W) : v.ownBlock ≠ some g := by
  intro e
  rcases h.own.2 with ⟨rfl, _⟩ | ⟨g', cap, cur, rfl, _, hh, _⟩
  · simp [Value.ownBlock] at e
  · simp [Value.ownBlock] at e
    subst e
    rw [h.ins] at hh
    simp at hh
theorem Inn.cellK {w : World} {g : Nat} {x : Bp.Ins} {v : Value} {n : Nat} {xs : List Value} {W : World} (h : Inn w g x v n xs W) : W.cell? ⟨g, 3, none⟩ = some (.int .i64 x.k) := by
  simp [World.cell?, h.ins]
theorem Inn.step {w : World} {g : Nat} {x : Bp.Ins} {v v' : Value} {n n' : Nat} {xs xs' : List Value} {W W' : World} {o : Obj} (h : Inn w g x v n xs W) (ho : W'.ownsRow (w.heap.size + 1) 5 1 v' n' xs') (hg : (W.alloc o).grownBy W' v.ownBlock) : Inn w g x v' n' xs' W' := by
  refine ⟨ho, (h.below.alloc h.size _).grown hg (by simp; have := h.size; omega) (fun j hj => (h.own.lt j hj).1), ?_⟩
  rw [hg.block g (by simp; have := h.lt; omega) (fun e => h.ne (by rw [← e])), Below.heap_alloc _ _ _ h.lt]
  exact h.ins
theorem byt_val (n : Int) : Value.int .u8 (n % 256) = u8V (Bp.byt n) := by
  unfold u8V Bp.byt
  rw [Int.toNat_of_nonneg (by omega)]
theorem bytes_snoc (p : List Bp.Ins) (k : Nat) (x : Bp.Ins) (hx : p[k]? = some x) : (Bp.bytes (p.take (k + 1))).map u8V = (Bp.bytes (p.take k)).map u8V ++ [.int .u8 (x.op % 256), .int .u8 (x.jt % 256), .int .u8 (x.jf % 256)] ++ [.int .u8 (x.k % 256)] ++ [.int .u8 (x.k / 256 % 256)] ++ [.int .u8 (x.k / 65536 % 256)] ++ [.int .u8 (x.k / 16777216 % 256)] := by
  rw [List.take_add_one, hx]
  simp [Bp.bytes, Bp.insBytes, byt_val]
def BRel (w : World) (p : List Bp.Ins) (v i : Value) (wr : World) : Prop :=
  ∃ k : Nat, k ≤ p.length ∧ i = .int .i64 k ∧ Below (w.heap.size + 1) (withFault w) wr ∧ wr.ownsRow (w.heap.size + 1) 5 1 v (7 * k) ((Bp.bytes (p.take k)).map u8V)
theorem bytes_good (p : List Bp.Ins) (v : Value) (w : World) (hv : Holds w w.heap.size v p) (hg : Bp.Good p) :
    Calls Try.prog 33 #[v] w fun e w' => ∃ x, e = .returned (.tuple #[x, faultV (0, 0)]) ∧ Below w.heap.size w w' ∧ w'.ownsRow (w.heap.size + 1) 5 1 x (7 * p.length) ((Bp.bytes p).map u8V) := by
  have hv2 : Holds (withFault w) (withFault w).heap.size v p := (hv.on (withFault_below w) (Nat.le_refl _)).up (by rw [withFault_size]; omega)
  have hck : Bp.chk p = (0, 0) := Bp.chk_good hg
  have HV : Hid (Holds (withFault w) (withFault w).heap.size v p) := hv2
  have HG : Hid (Bp.Good p) := hg
  have hmany := hg.many
  have hone := hg.one
  clear hv2 hg
  rcases hv with ⟨_, _, rfl, rfl⟩ | ⟨b, o, cap, rfl, hlt, hlen, hl⟩
  · simp at hone
  have HL : Hid (Lies (withFault w) b o p) := hl.on (withFault_below w) hlt
  clear hl
  unfold faultV
  go_enter Try.func33, Try.ntmps33
  go_wp2_with fail
  refine (check_any p _ (withFault w) HV.out).mono ?_
  rintro e w1 ⟨rfl, hb1⟩
  rw [withFault_size] at hb1
  obtain ⟨d0, d1, f0, f1⟩ := fault_cells hb1
  rw [hck]
  unfold faultV
  have hsz : w.heap.size < w1.heap.size := by have := hb1.size; rw [withFault_size] at this; omega
  go_wp2_with fail
  obtain ⟨i0, hi, hz0, hz1, hz2⟩ := info_parts Try.info5
  obtain ⟨w2, hr, hown, hgrow⟩ := run_make_own (P := Try.prog) (w1.alloc (.cells #[.int .i64 0, .int .i64 0] 47)) (w.heap.size + 1) 45 5 i0 (.int .u8 0) 1 Try.underlying45 hi hz0 hz1 .i64 .i64 (p.length * 7) (by rw [hz2]; omega) (by unfold maxLen; omega) (by simp; omega)
  have hB2 : Below (w.heap.size + 1) (withFault w) w2 := (hb1.alloc (by omega) _).grown hgrow (by simp; omega) (by simp)
  rw [show ((p.length : Int) * 7) = ((p.length * 7 : Nat) : Int) by omega, hr]
  simp only [Result.andThen]
  rw [Oper.upon_value]
  clear hr hgrow hb1 d0 d1 f0 f1 hsz
  go_wp2
  go_loopw [5, 21] (fun v i wr => BRel w p v i wr) (fun _ i _ => p.length - (intOf i).toNat)
  case atStart => exact ⟨0, Nat.zero_le _, rfl, hB2, by simpa [Bp.bytes] using hown⟩
  case round =>
    clear hown hB2
    obtain ⟨k, hk, rfl, hB, hown⟩ := hrel
    have hsz : w.heap.size < wr.heap.size := by have := hB.size; rw [withFault_size] at this; omega
    by_cases hlt : k < p.length
    · have hx : p[k]? = some p[k] := List.getElem?_eq_getElem hlt
      obtain ⟨c0, c1, c2, c3⟩ := (HL.out.on hB (by omega)) k _ hx
      have HX : Hid (p[k]? = some p[k]) := hx
      clear hx
      generalize p[k] = x at *
      go_wp2_with (at_builtin; refine wpList_bytes rfl _ _ rfl (w.heap.size + 1) _ _ _ rfl ((hown.alloc _).alloc _) ⟨wr.heap.size + 1, 0, none⟩ 3 3 [.int .u8 (x.op % 256), .int .u8 (x.jt % 256), .int .u8 (x.jf % 256)] rfl rfl ?c1 ?c2 ?c3 ?c4 ?_)
      case c1 =>
        intro j u hj
        match j, hj with
        | 0, hj => simp at hj; subst hj; simp [Addr.add]
        | 1, hj => simp at hj; subst hj; simp [Addr.add]
        | 2, hj => simp at hj; subst hj; simp [Addr.add]
      case c2 => intro u hu; simp at hu; rcases hu with rfl | rfl | rfl <;> rfl
      case c3 => omega
      case c4 => simp; omega
      intro v1 wa ho1 hg1
      have hI0 : Inn w wr.heap.size x _ (7 * k) ((Bp.bytes (p.take k)).map u8V) (wr.alloc (.cells #[.int .i64 x.op, .int .i64 x.jt, .int .i64 x.jf, .int .i64 x.k] 68)) := ⟨hown.alloc _, hB.alloc (by omega) _, by show (wr.heap.push _)[wr.heap.size]? = _; simp⟩
      have hI1 := hI0.step ho1 hg1
      clear hI0 ho1 hg1 hown hB c0 c1 c2 c3
      go_wp2
      refine wp_loop_rounds 5 ?_
      have hK := hI1.cellK
      rw [rounds_succ]
      go_wp2_with (at_builtin; refine wpList_bytes rfl _ _ rfl (w.heap.size + 1) _ _ _ rfl (hI1.own.alloc _) ⟨wa.heap.size, 0, none⟩ 1 1 [.int .u8 (x.k % 256)] rfl rfl (cells_one (by simp)) (by intro u hu; simp at hu; subst hu; rfl) (by omega) (by simp; have := hI1.size; omega) ?_)
      intro v2 wb ho2 hg2
      have hI2 := hI1.step ho2 hg2
      clear hI1 ho2 hg2 hK
      go_wp2
      have hK := hI2.cellK
      rw [rounds_succ]
      go_wp2_with (at_builtin; refine wpList_bytes rfl _ _ rfl (w.heap.size + 1) _ _ _ rfl (hI2.own.alloc _) ⟨wb.heap.size, 0, none⟩ 1 1 [.int .u8 (x.k / 256 % 256)] rfl rfl (cells_one (by simp)) (by intro u hu; simp at hu; subst hu; rfl) (by omega) (by simp; have := hI2.size; omega) ?_)
      intro v3 wc ho3 hg3
      have hI3 := hI2.step ho3 hg3
      clear hI2 ho3 hg3 hK
      go_wp2
      have hK := hI3.cellK
      rw [rounds_succ]
      go_wp2_with (at_builtin; refine wpList_bytes rfl _ _ rfl (w.heap.size + 1) _ _ _ rfl (hI3.own.alloc _) ⟨wc.heap.size, 0, none⟩ 1 1 [.int .u8 (x.k / 65536 % 256)] rfl rfl (cells_one (by simp)) (by intro u hu; simp at hu; subst hu; rfl) (by omega) (by simp; have := hI3.size; omega) ?_)
      intro v4 wd ho4 hg4
      have hI4 := hI3.step ho4 hg4
      clear hI3 ho4 hg4 hK
      go_wp2
      have hK := hI4.cellK
      rw [rounds_succ]
      go_wp2_with (at_builtin; refine wpList_bytes rfl _ _ rfl (w.heap.size + 1) _ _ _ rfl (hI4.own.alloc _) ⟨wd.heap.size, 0, none⟩ 1 1 [.int .u8 (x.k / 16777216 % 256)] rfl rfl (cells_one (by simp)) (by intro u hu; simp at hu; subst hu; rfl) (by omega) (by simp; have := hI4.size; omega) ?_)
      intro v5 we ho5 hg5
      have hI5 := hI4.step ho5 hg5
      clear hI4 ho5 hg5 hK
      go_wp2
      rw [rounds_succ]
      go_wp2
      go_roundw
      case rel =>
        refine ⟨k + 1, by omega, by go_num, hI5.below, ?_⟩
        have ho := hI5.own
        rw [show 7 * (k + 1) = 7 * k + 3 + 1 + 1 + 1 + 1 by omega, bytes_snoc p k x HX.out]
        simpa using ho
      case measure => simp [intOf]; omega
    · obtain rfl : k = p.length := by omega
      obtain ⟨d0, d1, f0, f1⟩ := fault_cells hB
      rw [List.take_length] at hown
      go_wp2
      exact bodyPost_ret (v := .tuple #[u5, .agg #[.int .i64 0, .int .i64 0]]) (by simp [results, Try.results33, go_sem, d0, d1]) rfl ⟨u5, rfl, fault_below hB _ _, ownsRow_setCell_below (ownsRow_setCell_below hown (by simp) _) (by simp) _⟩
end Go.Proofs.Ytkobjcbcmbecfaa
