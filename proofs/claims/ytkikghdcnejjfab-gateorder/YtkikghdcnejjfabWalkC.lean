/-
  What bpf.Run answers.
-/
import Derived.Test.YtkikghdcnejjfabWalkB
import Derived.Test.YtkikghdcnejjfabFacts
namespace Go.Proofs.Ytkikghdcnejjfab
open Go.RowKit
theorem ret_two {a b c d : Int} (h1 : a = c) (h2 : b = d) : Ending.returned (.tuple #[.int .i64 a, .int .i64 b]) = .returned (.tuple #[.int .i64 c, .int .i64 d]) := by rw [h1, h2]
/-- The first field of a fault. -/
theorem field_err (x y : Int) (w : World) : (Instr.field 27 (.agg #[.int .i64 x, .int .i64 y]) 0).run Try.prog w = .ok (.int .i64 x) w := by kernel_rfl
/-- A record as a value, and the world with a copy of it. -/
def recV (r : Nat → Int) : Value := .agg #[.int .i64 (r 0), .int .i64 (r 1), .int .i64 (r 2), .int .i64 (r 3), .int .i64 (r 4), .int .i64 (r 5)]
def withRec (w : World) (r : Nat → Int) : World := w.alloc (.cells #[.int .i64 (r 0), .int .i64 (r 1), .int .i64 (r 2), .int .i64 (r 3), .int .i64 (r 4), .int .i64 (r 5)] 23)
theorem withRec_size (w : World) (r : Nat → Int) : (withRec w r).heap.size = w.heap.size + 1 := by simp [withRec]
theorem withRec_below (w : World) (r : Nat → Int) : Below w.heap.size w (withRec w r) := (Below.refl _ _).alloc (Nat.le_refl _) _
theorem rec_cell {w wr : World} {r : Nat → Int} (hB : Below (w.heap.size + 1) (withRec w r) wr) (k : Nat) (hk : k < 6) : wr.cell? ⟨w.heap.size, k, none⟩ = some (.int .i64 (r k)) := by
  refine (hB.cell (p := ⟨w.heap.size, k, none⟩) (by simp)).trans ?_
  have : k = 0 ∨ k = 1 ∨ k = 2 ∨ k = 3 ∨ k = 4 ∨ k = 5 := by omega
  rcases this with rfl | rfl | rfl | rfl | rfl | rfl <;> simp [withRec]
theorem rec_below {w wr : World} {r : Nat → Int} (hB : Below (w.heap.size + 1) (withRec w r) wr) : Below w.heap.size w wr := (withRec_below w r).trans (hB.mono (Nat.le_succ _))
def RRel (w : World) (p : List Bp.Ins) (r : Nat → Int) (sv cv av : Value) (wr : World) : Prop :=
  ∃ (s a : Nat) (c : Int), sv = .int .i64 s ∧ cv = .int .i64 c ∧ av = .int .i64 a ∧ a < p.length ∧ s ≤ a ∧ Below (w.heap.size + 1) (withRec w r) wr ∧
    Bp.from' r p 0 = ((Bp.from' r (p.drop a) c).1, (Bp.from' r (p.drop a) c).2 + s)
theorem run_good (p : List Bp.Ins) (r : Nat → Int) (hg : Bp.Good p) (b o cap : Nat) (w : World) (hb : b < w.heap.size) (hl : Lies w b o p) (hlen : p.length ≤ maxLen) :
    Calls Try.prog 9 #[.slice (some ⟨b, o, none⟩) p.length cap, recV r] w fun e w' => e = .returned (.tuple #[.int .i64 (Bp.from' r p 0).1, .int .i64 (Bp.from' r p 0).2]) ∧ Below w.heap.size w w' := by
  have HG : Hid (Bp.Good p) := hg
  have HL : Hid (Lies (withRec w r) b o p) := hl.on (withRec_below w r) hb
  have hmany := hg.many
  have hone := hg.one
  have hck : Bp.chk p = (0, 0) := Bp.chk_good hg
  clear hl hg
  have HX : Hid (Bp.from' r p 0 = Bp.from' r p 0) := rfl
  revert HX
  generalize hres : Bp.from' r p 0 = res
  intro HX
  have HR : Hid (Bp.from' r p 0 = res) := hres
  clear hres HX
  obtain ⟨re, rs⟩ := res
  dsimp only
  unfold recV
  go_enter Try.func9, Try.ntmps9
  go_wp2_with fail
  refine (check_any p _ (withRec w r) (Or.inr ⟨b, o, cap, rfl, by rw [withRec_size]; omega, hlen, HL.out⟩)).mono ?_
  rintro e w1 ⟨rfl, hb1⟩
  rw [withRec_size] at hb1
  rw [hck]
  unfold faultV
  clear hck
  have hfe := fun (w : World) => field_err 0 0 w
  go_wp2_with fail
  clear hfe
  go_loopw [5, 6, 7] (fun sv cv av wr => RRel w p r sv cv av wr) (fun _ _ av _ => p.length - (intOf av).toNat)
  case atStart => exact ⟨0, 0, 0, rfl, rfl, rfl, by omega, Nat.le_refl _, hb1, by simp⟩
  case round =>
    obtain ⟨s, a, c, rfl, rfl, rfl, ha, hsa, hB, hF⟩ := hrel
    have HF : Hid (Bp.from' r p 0 = ((Bp.from' r (p.drop a) c).1, (Bp.from' r (p.drop a) c).2 + s)) := hF
    have hsz : w.heap.size < wr.heap.size := by have := hB.size; rw [withRec_size] at this; omega
    have HB1 : Hid (Below (w.heap.size + 1) (withRec w r) w1) := hb1
    clear hF hb1
    have hx : p[a]? = some p[a] := List.getElem?_eq_getElem ha
    obtain ⟨c0, c1, c2, c3⟩ := (HL.out.on hB (by omega)) a _ hx
    have HX : Hid (p[a]? = some p[a]) := hx
    have HW := Bp.wrong_zero (HG.out.each a _ hx)
    clear hx
    generalize p[a] = x at *
    by_cases h6 : x.op = 6
    · have HE := HR.out.symm.trans HF.out
      rw [Bp.from_last r c HX.out h6] at HE
      simp only [Prod.mk.injEq] at HE
      obtain ⟨rfl, rfl⟩ := HE
      rw [h6] at c0
      clear HW h6
      go_wp2
      go_ret2
      exact ⟨ret_two rfl (by omega), rec_below (hB.alloc (by omega) _)⟩
    · have hov := Bp.over_ok HG.out HX.out h6 c
      have HS := HF.out
      rw [Bp.from_step r c HX.out h6] at HS
      have HT : Hid _ := HS
      clear HS HF
      rcases HW with g | g | g | g
      · obtain ⟨g1, g2, g3, -, -⟩ := g
        have e0 : Bp.over x c = 0 := by unfold Bp.over; rw [if_pos g1]
        have ea : Bp.acc' r x c = r x.k.toNat := by unfold Bp.acc'; rw [if_pos g1]
        rw [e0] at hov
        rw [e0, ea] at HT
        have hr := rec_cell hB x.k.toNat (by omega)
        rw [g1] at c0
        clear h6 e0 ea
        generalize x.k = kk at *
        obtain ⟨kn, rfl⟩ := Int.eq_ofNat_of_zero_le g2
        simp only [Int.toNat_natCast] at hr HT
        go_wp2
        refine ⟨⟨s + 1, a + 1, r kn, by go_num, rfl, by go_num, by simpa using hov.2, by omega, hB.alloc (by omega) _, ?_⟩, by simp [intOf]; omega⟩
        rw [HT.out]
        simp; omega
      · obtain ⟨g1, -, -, -, g4, -, -, g5, -⟩ := g
        have e0 : Bp.over x c = if Bp.holds x c then x.jt else x.jf := by unfold Bp.over; rw [if_neg (by omega), if_neg (by omega)]
        have ea : Bp.acc' r x c = c := by unfold Bp.acc'; rw [if_neg (by omega)]
        rw [e0] at hov
        rw [e0, ea] at HT
        have n1 : (x.op == 1) = false := by rw [beq_eq_false_iff_ne]; omega
        have n5 : (x.op == 5) = false := by rw [beq_eq_false_iff_ne]; omega
        have n6 : (x.op == 6) = false := by rw [beq_eq_false_iff_ne]; omega
        have hle : (if Bp.holds x c then x.jt else x.jf) ≤ 40 := by split <;> omega
        clear h6 e0 ea g1 g4 g5
        generalize hj : (if Bp.holds x c then x.jt else x.jf) = jj at *
        obtain ⟨jn, rfl⟩ := Int.eq_ofNat_of_zero_le hov.1
        simp only [Int.toNat_natCast] at hov HT
        have HJ : Hid (_ = (jn : Int)) := hj
        clear hj
        go_wp2_with fail
        refine (branch_z x.op x.jt x.jf x.k c _ HJ.out _).mono ?_
        rintro e w2 ⟨rfl, hb2⟩
        have hB2 : Below (w.heap.size + 1) (withRec w r) w2 := (hB.alloc (by omega) _).trans (hb2.mono (by simp; omega))
        clear hb2 hB HJ
        go_wp2
        refine ⟨⟨s + 1, a + 1 + jn, c, by go_num, rfl, by go_num, by simpa using hov.2, by omega, hB2, ?_⟩, by simp [intOf]; omega⟩
        rw [HT.out]
        simp; omega
      · obtain ⟨g1, g2, g3, -, -⟩ := g
        have e0 : Bp.over x c = x.k := by unfold Bp.over; rw [if_neg (by omega), if_pos g1]
        have ea : Bp.acc' r x c = c := by unfold Bp.acc'; rw [if_neg (by omega)]
        rw [e0] at hov
        rw [e0, ea] at HT
        rw [g1] at c0
        clear h6 e0 ea
        generalize x.k = kk at *
        obtain ⟨kn, rfl⟩ := Int.eq_ofNat_of_zero_le g2
        simp only [Int.toNat_natCast] at hov HT
        go_wp2
        refine ⟨⟨s + 1, a + 1 + kn, c, by go_num, rfl, by go_num, by simpa using hov.2, by omega, hB.alloc (by omega) _, ?_⟩, by simp [intOf]; omega⟩
        rw [HT.out]
        simp; omega
      · exact absurd g.1 h6
/-- bpf.Run comes to what the document says. -/
theorem run_any (p : List Bp.Ins) (r : Nat → Int) (v : Value) (w : World) (hv : Holds w w.heap.size v p) :
    Calls Try.prog 9 #[v, recV r] w fun e w' => e = .returned (.tuple #[.int .i64 (Bp.run p r).1, .int .i64 (Bp.run p r).2]) ∧ Below w.heap.size w w' := by
  by_cases h0 : (Bp.chk p).1 = 0
  · have hg := (Bp.good_iff p).1 h0
    have e : Bp.run p r = Bp.from' r p 0 := by unfold Bp.run; rw [if_neg (by simpa using h0)]
    rw [e]
    rcases hv with ⟨_, _, rfl, rfl⟩ | ⟨b, o, cap, rfl, hlt, hlen, hl⟩
    · have := hg.one; simp at this
    · exact run_good p r hg b o cap w hlt hl hlen
  · have e : Bp.run p r = (0, 0) := by unfold Bp.run; rw [if_pos h0]
    rw [e]
    have hv2 : Holds (withRec w r) (withRec w r).heap.size v p := (hv.on (withRec_below w r) (Nat.le_refl _)).up (by rw [withRec_size]; omega)
    have hb : ((Bp.chk p).1 != 0) = true := by simpa using h0
    have HV : Hid (Holds (withRec w r) (withRec w r).heap.size v p) := hv2
    have HC := fun (w : World) => field_err (Bp.chk p).1 (Bp.chk p).2 w
    clear hv hv2 h0
    unfold recV
    go_enter Try.func9, Try.ntmps9
    go_wp2_with fail
    refine (check_any p v (withRec w r) HV.out).mono ?_
    rintro e w1 ⟨rfl, hb1⟩
    rw [withRec_size] at hb1
    unfold faultV
    go_wp2
    go_ret2
    exact ⟨rfl, rec_below hb1⟩
end Go.Proofs.Ytkikghdcnejjfab
