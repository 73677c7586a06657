/-
  bpf.Bytes in one word; rglaw2.alive.
-/
import Derived.Test.YtkobjcbcmbecfaaWalkF
namespace Go.Proofs.Ytkobjcbcmbecfaa
open Go.RowKit
/-- The bytes of a program with which nothing is wrong. -/
def byts (p : List Bp.Ins) : List Nat := if (Bp.chk p).1 = 0 then Bp.bytes p else []
theorem bytes_length (p : List Bp.Ins) : (Bp.bytes p).length = 7 * p.length := by
  unfold Bp.bytes
  induction p with
  | nil => rfl
  | cons a t ih => rw [List.flatMap_cons, List.length_append, ih]; simp [Bp.insBytes]; omega
theorem bytes_lt (p : List Bp.Ins) : ∀ x ∈ Bp.bytes p, x < 256 := by
  intro x hx
  unfold Bp.bytes at hx
  rw [List.mem_flatMap] at hx
  obtain ⟨i, _, hx⟩ := hx
  simp only [Bp.insBytes, List.mem_cons, List.not_mem_nil, or_false] at hx
  unfold Bp.byt at hx
  omega
/-- A row of bytes of one's own holds them. -/
theorem holdsB_own {w : World} {base : Nat} {x : Value} {l : List Nat} (h : w.ownsRow base 5 1 x l.length (l.map u8V)) (hl : ∀ y ∈ l, y < 256) : HoldsB w w.heap.size x l := by
  have hlt := h.lt
  have hc := fun g hg => h.cells (g := g) hg
  rcases h.2 with ⟨rfl, h0⟩ | ⟨g, cap, cur, rfl, _, _, h1, h2, _, _⟩
  · exact Or.inl ⟨_, _, rfl, List.length_eq_zero_iff.1 h0⟩
  · refine Or.inr ⟨g, 0, cap, rfl, (hlt g rfl).2, h1, h2, fun i y hy => ⟨hl y (List.mem_of_getElem? hy), ?_⟩⟩
    have := hc g rfl i (u8V y) (by rw [List.getElem?_map, hy]; rfl)
    rw [Addr.add_lit] at this
    exact this
/-- bpf.Bytes answers what the document says. -/
theorem bytes_any (p : List Bp.Ins) (v : Value) (w : World) (hv : Holds w w.heap.size v p) :
    Calls Try.prog 33 #[v] w fun e w' => ∃ x, e = .returned (.tuple #[x, faultV (Bp.chk p)]) ∧ Below w.heap.size w w' ∧ HoldsB w' w'.heap.size x (byts p) := by
  unfold byts
  by_cases h0 : (Bp.chk p).1 = 0
  · have hg := (Bp.good_iff p).1 h0
    rw [if_pos h0, Bp.chk_good hg]
    refine (bytes_good p v w hv hg).mono fun e w' ⟨x, h1, h2, h3⟩ => ⟨x, h1, h2, ?_⟩
    rw [← bytes_length] at h3
    exact holdsB_own h3 (bytes_lt p)
  · rw [if_neg h0]
    exact (bytes_bad p v w hv h0).mono fun e w' ⟨h1, h2⟩ => ⟨_, h1, h2, Or.inl ⟨_, _, rfl, rfl⟩⟩
theorem back_any (n : Int) (w : World) : Calls Try.prog 49 #[.int .i64 n] w fun e w' => e = .returned (insV ⟨6, 0, 0, n⟩) ∧ Below w.heap.size w w' := by
  unfold insV
  go_enter Try.func49, Try.ntmps49
  go_wp2
  exact bodyPost_ret (v := .agg #[.int .i64 6, .int .i64 0, .int .i64 0, .int .i64 n]) (by simp [results, Try.results49, go_sem]) rfl ⟨rfl, (Below.refl _ _).alloc (Nat.le_refl _) _⟩
/-- The closed program. -/
def aP : List Bp.Ins := [⟨1, 0, 0, 2⟩, ⟨2, 0, 1, 7⟩, ⟨6, 0, 0, 1⟩, ⟨6, 0, 0, 0⟩]
def aR : Nat → Int := fun k => if k = 2 then 7 else 0
def zR : Nat → Int := fun _ => 0
theorem aP_chk : Bp.chk aP = (0, 0) := by decide
theorem aP_run : Bp.run aP aR = (1, 3) := by
  unfold Bp.run
  rw [if_neg (by rw [aP_chk]; simp)]
  simp [aP, aR, Bp.from', Bp.over, Bp.acc', Bp.holds]
theorem aP_run0 : Bp.run aP zR = (0, 3) := by
  unfold Bp.run
  rw [if_neg (by rw [aP_chk]; simp)]
  simp [aP, zR, Bp.from', Bp.over, Bp.acc', Bp.holds]
theorem aP_bytes : byts aP = [1, 0, 0, 2, 0, 0, 0, 2, 0, 1, 7, 0, 0, 0, 6, 0, 0, 1, 0, 0, 0, 6, 0, 0, 0, 0, 0, 0] := by decide
theorem aP_prs : prs (byts aP) = (aP, (0, 0)) := by rw [aP_bytes]; decide
theorem run_a (v : Value) (w : World) (hv : Holds w w.heap.size v aP) : Calls Try.prog 31 #[v, .agg #[.int .i64 0, .int .i64 0, .int .i64 7, .int .i64 0, .int .i64 0, .int .i64 0]] w fun e w' => e = .returned (.tuple #[.int .i64 1, .int .i64 3]) ∧ Below w.heap.size w w' := by
  have := run_any aP aR v w hv
  rw [aP_run] at this
  exact this
theorem run_z (v : Value) (w : World) (hv : Holds w w.heap.size v aP) : Calls Try.prog 31 #[v, .agg #[.int .i64 0, .int .i64 0, .int .i64 0, .int .i64 0, .int .i64 0, .int .i64 0]] w fun e w' => e = .returned (.tuple #[.int .i64 0, .int .i64 3]) ∧ Below w.heap.size w w' := by
  have := run_any aP zR v w hv
  rw [aP_run0] at this
  exact this
theorem bytes_a (v : Value) (w : World) (hv : Holds w w.heap.size v aP) : Calls Try.prog 33 #[v] w fun e w' => ∃ b cap, e = .returned (.tuple #[.slice (some b) 28 cap, .agg #[.int .i64 0, .int .i64 0]]) ∧ Below w.heap.size w w' ∧ HoldsB w' w'.heap.size (.slice (some b) 28 cap) (byts aP) := by
  refine (bytes_any aP v w hv).mono fun e w' ⟨x, h1, h2, h3⟩ => ?_
  rw [aP_chk] at h1
  have h4 := h3
  rcases h4 with ⟨_, _, _, h0⟩ | ⟨b, o, cap, rfl, _⟩
  · rw [aP_bytes] at h0; cases h0
  · have e28 : (byts aP).length = 28 := by rw [aP_bytes]; rfl
    rw [e28] at h1 h3
    exact ⟨_, cap, h1, h2, h3⟩
theorem parse_a (v : Value) (w : World) (hv : HoldsB w w.heap.size v (byts aP)) : Calls Try.prog 35 #[v] w fun e w' => ∃ b cap, e = .returned (.tuple #[.slice (some b) 4 cap, .agg #[.int .i64 0, .int .i64 0]]) ∧ Below w.heap.size w w' := by
  refine (parse_any (byts aP) v w hv).mono fun e w' ⟨x, h1, h2, h3⟩ => ?_
  rw [aP_prs] at h1 h3
  rcases h3 with ⟨_, _, _, h0⟩ | ⟨b, o, cap, rfl, _⟩
  · cases h0
  · exact ⟨_, cap, h1, h2⟩
theorem check_a (v : Value) (w : World) (hv : Holds w w.heap.size v aP) : Calls Try.prog 29 #[v] w fun e w' => e = .returned (.agg #[.int .i64 0, .int .i64 0]) ∧ Below w.heap.size w w' := by
  have := check_any aP v w hv
  rw [aP_chk] at this
  exact this
theorem aP_holds (w : World) : Holds (w.alloc (.cells #[.int .i64 1, .int .i64 0, .int .i64 0, .int .i64 2, .int .i64 2, .int .i64 0, .int .i64 1, .int .i64 7, .int .i64 6, .int .i64 0, .int .i64 0, .int .i64 1, .int .i64 6, .int .i64 0, .int .i64 0, .int .i64 0] 68)) (w.heap.size + 1) (.slice (some ⟨w.heap.size, 0, none⟩) 4 4) aP := by
  refine Or.inr ⟨w.heap.size, 0, 4, rfl, by omega, by decide, ?_⟩
  intro i x hx
  match i, hx with
  | 0, hx | 1, hx | 2, hx | 3, hx => simp [aP] at hx; subst hx; simp
  | i + 4, hx => simp [aP] at hx
set_option maxHeartbeats 4000000 in
theorem alive_any (w : World) : Calls Try.prog 38 #[] w fun e w' => e = .returned (.bool true) ∧ Below w.heap.size w w' := by
  go_enter Try.func38, Try.ntmps38
  go_wp2_with fail
  refine (back_any 1 _).mono ?_
  rintro e w1 ⟨rfl, hb1⟩
  unfold insV
  go_wp2_with fail
  refine (back_any 0 _).mono ?_
  rintro e w2 ⟨rfl, hb2⟩
  unfold insV
  have hB2 : Below w.heap.size w w2 := hb1.trans (hb2.mono hb1.size)
  have hz2 : w.heap.size ≤ w2.heap.size := hB2.size
  clear hb1 hb2
  go_wp2_with fail
  have hH := aP_holds w2
  have hB3 := hB2.alloc hz2 (.cells #[.int .i64 1, .int .i64 0, .int .i64 0, .int .i64 2, .int .i64 2, .int .i64 0, .int .i64 1, .int .i64 7, .int .i64 6, .int .i64 0, .int .i64 0, .int .i64 1, .int .i64 6, .int .i64 0, .int .i64 0, .int .i64 0] 68)
  refine (run_a _ _ (hH.up (by simp))).mono ?_
  rintro e w3 ⟨rfl, hb3⟩
  replace hH := hH.on hb3 (by simp)
  replace hB3 := hB3.trans (hb3.mono (by simp; omega))
  have hz3 : w2.heap.size + 1 ≤ w3.heap.size := by have := hb3.size; simp at this; omega
  clear hb3 hB2
  go_wp2_with fail
  refine (run_z _ _ (hH.up (by omega))).mono ?_
  rintro e w4 ⟨rfl, hb3⟩
  replace hH := hH.on hb3 (by omega)
  replace hB3 := hB3.trans (hb3.mono (by omega))
  replace hz3 := Nat.le_trans hz3 hb3.size
  clear hb3
  go_wp2_with fail
  refine (bytes_a _ _ (hH.up (by omega))).mono ?_
  rintro e w5 ⟨b, cap, rfl, hb3, hHB⟩
  replace hH := hH.on hb3 (by omega)
  replace hB3 := hB3.trans (hb3.mono (by omega))
  replace hz3 := Nat.le_trans hz3 hb3.size
  clear hb3
  have hz5 : w5.heap.size < w5.heap.size + 1 := Nat.lt_succ_self _
  go_wp2_with fail
  refine (parse_a _ _ ((hHB.on ((Below.refl _ _).alloc (Nat.le_refl _) _) (Nat.le_refl _)).up (by simp))).mono ?_
  rintro e w6 ⟨b', cap', rfl, hb3⟩
  have c0 : w6.cell? ⟨w5.heap.size, 0, none⟩ = some (.int .i64 0) := (hb3.cell (p := ⟨w5.heap.size, 0, none⟩) (by simp)).trans (by simp)
  replace hH := (hH.on ((Below.refl _ _).alloc (Nat.le_refl _) _) hz3).on hb3 (by simp; omega)
  replace hB3 := (hB3.alloc (by omega) _).trans (hb3.mono (by simp; omega))
  have hz6 : w5.heap.size < w6.heap.size := by have := hb3.size; simp at this; omega
  replace hz3 : w2.heap.size + 1 ≤ w6.heap.size := by omega
  clear hb3 hHB hz5
  have hfe := fun (w : World) => field_err 0 0 w
  go_wp2_with fail
  refine (check_a _ _ ((hH.on ((Below.refl _ _).alloc (Nat.le_refl _) _) hz3).up (by simp; omega))).mono ?_
  rintro e w7 ⟨rfl, hb3⟩
  replace hB3 := (hB3.alloc (by omega) _).trans (hb3.mono (by simp; omega))
  go_wp2
  go_ret
  exact ⟨rfl, hB3⟩
end Go.Proofs.Ytkobjcbcmbecfaa
