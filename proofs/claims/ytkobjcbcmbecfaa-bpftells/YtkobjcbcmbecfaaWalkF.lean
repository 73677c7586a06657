/-
  What bpf.Parse answers.
-/
import Derived.Test.YtkobjcbcmbecfaaWalkE
namespace Go.Proofs.Ytkobjcbcmbecfaa
open Go.RowKit
def PRel (w : World) (n : Nat) (l : List Nat) (i : Value) (wr : World) : Prop :=
  ∃ k : Nat, k ≤ n ∧ i = .int .i64 k ∧ Below (w.heap.size + 1) (withFault w) wr ∧ Laid wr (w.heap.size + 1) n k l
theorem Laid.holds {W : World} {g n : Nat} {l : List Nat} (h : Laid W g n n l) (hn : n = l.length / 7) (hm : n ≤ 400) : Holds W (g + 1) (.slice (some ⟨g, 0, none⟩) n n) (sevens l) := by
  refine Or.inr ⟨g, 0, n, ?_, by omega, ?_, ?_⟩
  · unfold sevens; simp [← hn]
  · unfold sevens maxLen; simp; omega
  · unfold sevens; rw [← hn]; exact h.lies
theorem liesB_getD {w : World} {b o : Nat} {l : List Nat} (h : LiesB w b o l) (j : Nat) (hj : j < l.length) : l.getD j 0 < 256 ∧ w.cell? ⟨b, o + j, none⟩ = some (.int .u8 (l.getD j 0 : Nat)) := by
  have e : l[j]? = some (l.getD j 0) := by rw [List.getD_eq_getElem?_getD, List.getElem?_eq_getElem hj]; rfl
  exact h j _ e
theorem instr_lies (l : List Nat) (k : Nat) (hk : k * 7 + 7 ≤ l.length) (b o cap : Nat) (hm : l.length ≤ maxLen) (w : World) (hb : b < w.heap.size) (hl : LiesB w b o l) :
    Calls Try.prog 48 #[.slice (some ⟨b, o + k * 7, none⟩) (l.length - k * 7) cap] w fun e w' => e = .returned (insV (insOf l k)) ∧ Below w.heap.size w w' := by
  obtain ⟨l0, c0⟩ := liesB_getD hl (k * 7) (by omega)
  obtain ⟨l1, c1⟩ := liesB_getD hl (k * 7 + 1) (by omega)
  obtain ⟨l2, c2⟩ := liesB_getD hl (k * 7 + 2) (by omega)
  obtain ⟨l3, c3⟩ := liesB_getD hl (k * 7 + 3) (by omega)
  obtain ⟨l4, c4⟩ := liesB_getD hl (k * 7 + 4) (by omega)
  obtain ⟨l5, c5⟩ := liesB_getD hl (k * 7 + 5) (by omega)
  obtain ⟨l6, c6⟩ := liesB_getD hl (k * 7 + 6) (by omega)
  exact instr_any b (o + k * 7) (l.length - k * 7) cap _ _ _ _ _ _ _ (by omega) (by omega) w hb c0 c1 c2 c3 c4 c5 c6 l0 l1 l2 l3 l4 l5 l6
theorem Lies.far {w : World} {b o : Nat} {p : List Bp.Ins} (h : Lies w b o p) (a : Addr) (v : Value) (hne : a.block ≠ b) : Lies (w.setCell a v) b o p := by
  intro i x hx
  have := h i x hx
  rw [World.cell?_setCell_other _ _ _ _ (by intro e; apply hne; rw [e]), World.cell?_setCell_other _ _ _ _ (by intro e; apply hne; rw [e]), World.cell?_setCell_other _ _ _ _ (by intro e; apply hne; rw [e]), World.cell?_setCell_other _ _ _ _ (by intro e; apply hne; rw [e])]
  exact this
theorem Holds.far {w : World} {B : Nat} {v : Value} {p : List Bp.Ins} (h : Holds w B v p) (a : Addr) (u : Value) (hne : v.ownBlock ≠ some a.block) : Holds (w.setCell a u) B v p := by
  rcases h with h | ⟨b, o, cap, rfl, hlt, hlen, hl⟩
  · exact Or.inl h
  · exact Or.inr ⟨b, o, cap, rfl, hlt, hlen, hl.far a u (fun e => hne (by simp [Value.ownBlock, e]))⟩
theorem parse_read (l : List Nat) (h7 : l.length % 7 = 0) (hm : l.length / 7 ≤ 400) (b o cap : Nat) (hlen : l.length ≤ cap) (hcap : cap ≤ maxLen) (w : World) (hb : b < w.heap.size) (hl : LiesB w b o l) :
    Calls Try.prog 35 #[.slice (some ⟨b, o, none⟩) l.length cap] w fun e w' =>
      ((Bp.chk (sevens l)).1 ≠ 0 → e = .returned (.tuple #[.slice none 0 0, faultV (Bp.chk (sevens l))]) ∧ Below w.heap.size w w') ∧
      ((Bp.chk (sevens l)).1 = 0 → ∃ x, e = .returned (.tuple #[x, faultV (0, 0)]) ∧ Below w.heap.size w w' ∧ Holds w' w'.heap.size x (sevens l)) := by
  have HL : Hid (LiesB (withFault w) b o l) := hl.on (withFault_below w) hb
  have hn7 : 7 * (l.length / 7) = l.length := by omega
  have hw : ((l.length : Int) / 7) = ((l.length / 7 : Nat) : Int) := by omega
  have h9 : ((l.length : Int) % 7 != 0) = false := by rw [bne_eq_false_iff_eq]; omega
  clear hl h7
  generalize hN : l.length / 7 = N at *
  have HN : Hid (l.length / 7 = N) := hN
  clear hN
  obtain ⟨i0, hi, hz0, hz1, hz2⟩ := info_parts Try.info68
  have hmake := run_make (P := Try.prog) (withFault w) 43 68 i0 _ Try.underlying43 hi hz0 .i64 .i64 N N (by omega) (Int.le_refl _) (by rw [hz2]; omega) (by omega)
  rw [hz1] at hmake
  simp only [Int.toNat_natCast, withFault_size] at hmake
  clear hi hz0 hz1 hz2
  have hlaid : Laid ((withFault w).alloc (.cells (madeCells (insV ⟨0, 0, 0, 0⟩).cells (N * 4)) 68)) (w.heap.size + 1) N 0 l := by
    refine ⟨by simp [withFault_size], fun j hj => ?_, fun j => ?_, fun i x hx => by simp at hx⟩
    · rw [World.cell?_alloc_at _ _ _ _ (by rw [withFault_size]), Array.getElem?_eq_getElem (by rw [size_madeCells]; exact hj)]; rfl
    · exact World.frozen?_alloc_at _ _ _ _ (by rw [withFault_size])
  have hB0 : Below (w.heap.size + 1) (withFault w) ((withFault w).alloc (.cells (madeCells (insV ⟨0, 0, 0, 0⟩).cells (N * 4)) 68)) := (Below.refl _ _).alloc (by rw [withFault_size]; exact Nat.le_refl _) _
  have HLD : Hid (PRel w N l (.int .i64 0) ((withFault w).alloc (.cells (madeCells (insV ⟨0, 0, 0, 0⟩).cells (N * 4)) 68))) := ⟨0, Nat.zero_le _, rfl, hB0, hlaid⟩
  clear hlaid hB0
  generalize ((withFault w).alloc (.cells (madeCells (insV ⟨0, 0, 0, 0⟩).cells (N * 4)) 68)) = w0 at *
  unfold withFault at hmake
  go_enter Try.func35, Try.ntmps35
  go_wp2
  go_loopw [24] (fun i wr => PRel w N l i wr) (fun i _ => N - (intOf i).toNat)
  case atStart => exact HLD.out
  case round =>
    clear HLD
    obtain ⟨k, hk, rfl, hB, hlaid⟩ := hrel
    have HLD : Hid (Laid wr (w.heap.size + 1) N k l) := hlaid
    clear hlaid
    by_cases hlt : k < N
    · go_wp2_with fail
      refine (instr_lies l k (by omega) b o _ (by omega) wr (by have := hB.size; rw [withFault_size] at this; omega) (HL.out.on hB (by omega))).mono ?_
      rintro e w2 ⟨rfl, hb2⟩
      have hlaid2 : Laid w2 (w.heap.size + 1) N k l := HLD.out.on hb2
      have hB2 : Below (w.heap.size + 1) (withFault w) w2 := hB.trans (hb2.mono (by have := hB.size; rw [withFault_size] at this; exact this))
      have hstep := hlaid2.step hlt
      obtain ⟨u0, t0⟩ := Option.isSome_iff_exists.1 (hlaid2.there (k * 4) (by omega))
      obtain ⟨u1, t1⟩ := Option.isSome_iff_exists.1 (hlaid2.there (k * 4 + 1) (by omega))
      obtain ⟨u2, t2⟩ := Option.isSome_iff_exists.1 (hlaid2.there (k * 4 + 2) (by omega))
      obtain ⟨u3, t3⟩ := Option.isSome_iff_exists.1 (hlaid2.there (k * 4 + 3) (by omega))
      have s0 := hlaid2.soft (k * 4)
      have s1 := hlaid2.soft (k * 4 + 1)
      have s2 := hlaid2.soft (k * 4 + 2)
      have s3 := hlaid2.soft (k * 4 + 3)
      have HST : Hid (PRel w N l (.int .i64 (k + 1 : Nat)) (put4 w2 (w.heap.size + 1) k (insOf l k))) := ⟨k + 1, by omega, rfl, put4_below hB2 (Nat.le_refl _), hstep⟩
      clear hlaid2 hB2 hstep hb2 hB HLD
      unfold put4 at HST
      unfold insV
      generalize insOf l k = x at *
      go_wp2
      go_roundw
      case rel =>
        have := HST.out
        simpa using this
      case measure => simp [intOf]; omega
    · obtain rfl : k = N := by omega
      have hsz : w.heap.size + 1 < wr.heap.size := HLD.out.lt
      have HH : Hid (Holds wr (w.heap.size + 2) (.slice (some ⟨w.heap.size + 1, 0, none⟩) k k) (sevens l)) := HLD.out.holds HN.out.symm hm
      clear HLD
      go_wp2_with fail
      refine (check_any (sevens l) _ wr (HH.out.up (by omega))).mono ?_
      rintro e w2 ⟨rfl, hb2⟩
      have hB2 : Below (w.heap.size + 1) (withFault w) w2 := hB.trans (hb2.mono (by omega))
      have HH2 : Hid (Holds w2 (w.heap.size + 2) (.slice (some ⟨w.heap.size + 1, 0, none⟩) k k) (sevens l)) := HH.out.on hb2 (by omega)
      have hsz2 : w.heap.size + 1 < w2.heap.size := Nat.lt_of_lt_of_le hsz hb2.size
      have hsz3 : w.heap.size < w2.heap.size := by omega
      clear hb2 hB HH hsz
      generalize hF : Bp.chk (sevens l) = f at *
      obtain ⟨fe, fa⟩ := f
      have HF : Hid (Bp.chk (sevens l) = (fe, fa)) := hF
      clear hF
      obtain ⟨d0, d1, f0, f1⟩ := fault_cells hB2
      unfold faultV
      by_cases hf : fe = 0
      · subst hf
        go_wp2
        refine bodyPost_ret (v := .tuple #[.slice (some ⟨w.heap.size + 1, 0, none⟩) k k, .agg #[.int .i64 0, .int .i64 0]]) (by simp [results, Try.results35, go_sem, d0, d1, hsz3]) rfl ⟨fun h => absurd (by rw [HF.out]) h, fun _ => ⟨_, rfl, (fault_below hB2 _ _).alloc (by simp; omega) _, ?_⟩⟩
        refine Holds.up (B := w.heap.size + 2) (Holds.on (B' := w.heap.size + 2) ((HH2.out.far _ _ (by simp [Value.ownBlock])).far _ _ (by simp [Value.ownBlock])) ((Below.refl _ _).alloc (by simp; omega) _) (Nat.le_refl _)) (by simp; omega)
      · have hf' : (fe != 0) = true := by simp [hf]
        go_wp2
        go_region
        all_goals (try go_wp2)
        exact bodyPost_ret (v := .tuple #[.slice none 0 0, .agg #[.int .i64 fe, .int .i64 fa]]) (by simp [results, Try.results35, go_sem, d0, d1, hsz3]) rfl ⟨fun _ => ⟨by rw [HF.out]; rfl, ((fault_below hB2 _ _).alloc (by simp; omega) _).drew⟩, fun h => absurd (by rw [HF.out] at h; exact h) hf⟩
theorem parse_nil (a : Option Addr) (cap : Nat) (w : World) :
    Calls Try.prog 35 #[.slice a 0 cap] w fun e w' => e = .returned (.tuple #[.slice none 0 0, faultV (5, 0)]) ∧ Below w.heap.size w w' := by
  obtain ⟨i0, hi, hz0, hz1, hz2⟩ := info_parts Try.info68
  have hmake := run_make (P := Try.prog) (withFault w) 43 68 i0 _ Try.underlying43 hi hz0 .i64 .i64 0 0 (by omega) (Int.le_refl _) (by rw [hz2]; omega) (by omega)
  rw [hz1] at hmake
  simp only [Int.toNat_zero, withFault_size] at hmake
  clear hi hz0 hz1 hz2
  have hB : Below (w.heap.size + 1) (withFault w) ((withFault w).alloc (.cells (madeCells (insV ⟨0, 0, 0, 0⟩).cells (0 * 4)) 68)) := (Below.refl _ _).alloc (by rw [withFault_size]; exact Nat.le_refl _) _
  generalize ((withFault w).alloc (.cells (madeCells (insV ⟨0, 0, 0, 0⟩).cells (0 * 4)) 68)) = w0 at *
  unfold withFault at hmake
  unfold faultV
  go_enter Try.func35, Try.ntmps35
  go_wp2
  refine wp_loop_rounds 1 ?_
  rw [rounds_succ]
  go_wp2_with fail
  refine (check_many _ 0 0 (by omega) w0).mono ?_
  rintro e w2 ⟨rfl, hb2⟩
  have hs0 : w.heap.size < w0.heap.size := by have := hB.size; rw [withFault_size] at this; omega
  have hB2 : Below (w.heap.size + 1) (withFault w) w2 := hB.trans (hb2.mono (by omega))
  have hsz3 : w.heap.size < w2.heap.size := Nat.lt_of_lt_of_le hs0 hb2.size
  obtain ⟨d0, d1, f0, f1⟩ := fault_cells hB2
  clear hb2 hB hmake hs0
  go_wp2
  go_region
  all_goals (try go_wp2)
  exact bodyPost_ret (v := .tuple #[.slice none 0 0, .agg #[.int .i64 5, .int .i64 0]]) (by simp [results, Try.results35, go_sem, d0, d1, hsz3]) rfl ⟨rfl, ((fault_below hB2 _ _).alloc (by simp; omega) _).drew⟩
/-- What bytes are read as: the program, the fault. -/
def prs (l : List Nat) : List Bp.Ins × (Int × Nat) :=
  if l.length % 7 ≠ 0 ∨ 400 < l.length / 7 then ([], (2, 0)) else if (Bp.chk (sevens l)).1 ≠ 0 then ([], Bp.chk (sevens l)) else (sevens l, (0, 0))
/-- bpf.Parse answers what the document says. -/
theorem parse_any (l : List Nat) (v : Value) (w : World) (hv : HoldsB w w.heap.size v l) :
    Calls Try.prog 35 #[v] w fun e w' => ∃ x, e = .returned (.tuple #[x, faultV (prs l).2]) ∧ Below w.heap.size w w' ∧ Holds w' w'.heap.size x (prs l).1 := by
  unfold prs
  by_cases h : l.length % 7 ≠ 0 ∨ 400 < l.length / 7
  · rw [if_pos h]
    exact (parse_form l v w hv h).mono fun e w' ⟨h1, h2⟩ => ⟨_, h1, h2, Holds.nil _ _ _ _⟩
  · rw [if_neg h]
    rcases hv with ⟨a, cap, rfl, rfl⟩ | ⟨b, o, cap, rfl, hlt, h1, h2, hl⟩
    · exact (parse_nil a cap w).mono fun e w' ⟨h1, h2⟩ => ⟨_, h1, h2, Holds.nil _ _ _ _⟩
    · refine (parse_read l (by omega) (by omega) b o cap h1 h2 w hlt hl).mono fun e w' ⟨g1, g2⟩ => ?_
      by_cases h0 : (Bp.chk (sevens l)).1 = 0
      · rw [if_neg (by simpa using h0)]
        exact g2 h0
      · rw [if_pos h0]
        obtain ⟨a, b⟩ := g1 h0
        exact ⟨_, a, b, Holds.nil _ _ _ _⟩
end Go.Proofs.Ytkobjcbcmbecfaa
