/-
  The document's own answer: rgref1.Run.
-/
import Derived.Test.YtkikghdcnejjfabRefR
namespace Go.Proofs.Ytkikghdcnejjfab
open Go.RowKit
/-- A slice no longer than its room. -/
def CapOk (v : Value) : Prop := ∀ a n cap, v = .slice a n cap → n ≤ cap ∧ cap ≤ maxLen
theorem rrun_good (p : List Bp.Ins) (r : Nat → Int) (hg : Bp.Good p) (b o cap : Nat) (w : World) (hb : b < w.heap.size) (hl : Lies w b o p) (hc : p.length ≤ cap) (hm : cap ≤ maxLen) :
    Calls Try.prog 17 #[.slice (some ⟨b, o, none⟩) p.length cap, recV r] w fun e w' => e = .returned (.tuple #[.int .i64 (Bp.from' r p 0).1, .int .i64 (Bp.from' r p 0).2]) ∧ Below w.heap.size w w' := by
  have hL1 : Lies (withRec w r) b o p := hl.on (withRec_below w r) hb
  have hck : Bp.chk p = (0, 0) := Bp.chk_good hg
  have hone := hg.one
  have HF : Hid (FromSaid p r b o p.length) := rfrom_any p hg r b o p.length
  have hfe := fun (w : World) => field_err 0 0 w
  clear hl hg
  unfold recV
  go_enter Try.func17, Try.ntmps17
  go_wp2_with fail
  refine (rcheck_any p _ (withRec w r) (Or.inr ⟨b, o, cap, rfl, by rw [withRec_size]; omega, by omega, hL1⟩)).mono ?_
  rintro e w1 ⟨rfl, hb1⟩
  rw [withRec_size] at hb1
  rw [hck]
  unfold faultV
  have c0 := rec_cell hb1 0 (by omega)
  have c1 := rec_cell hb1 1 (by omega)
  have c2 := rec_cell hb1 2 (by omega)
  have c3 := rec_cell hb1 3 (by omega)
  have c4 := rec_cell hb1 4 (by omega)
  have c5 := rec_cell hb1 5 (by omega)
  have hz : w.heap.size < w1.heap.size := by have := hb1.size; rw [withRec_size] at this; omega
  have HC : Hid (Calls Try.prog 30 #[.slice (some ⟨b, o, none⟩) p.length cap, recV r, .int .i64 0] w1 fun e w' => e = .returned (.tuple #[.int .i64 (Bp.from' r p 0).1, .int .i64 (Bp.from' r p 0).2]) ∧ Below w1.heap.size w1 w') := by
    have := HF.out 0 0 cap w1 (by omega) (by omega) (by omega) hm (by omega) (hL1.on hb1 (by omega))
    rw [Nat.zero_mul, Nat.add_zero, Nat.sub_zero, List.drop_zero] at this
    exact this
  unfold recV at HC
  clear hck HF hL1
  go_wp2_with fail
  refine (Calls.mono HC.out) ?_
  rintro e w2 ⟨rfl, hb2⟩
  go_wp2
  go_ret2
  exact ⟨rfl, rec_below (hb1.trans (hb2.mono (by omega)))⟩
/-- rgref1.Run comes to what the document says. -/
theorem rrun_any (p : List Bp.Ins) (r : Nat → Int) (v : Value) (w : World) (hv : Holds w w.heap.size v p) (hc : CapOk v) :
    Calls Try.prog 17 #[v, recV r] w fun e w' => e = .returned (.tuple #[.int .i64 (Bp.run p r).1, .int .i64 (Bp.run p r).2]) ∧ Below w.heap.size w w' := by
  by_cases h0 : (Bp.chk p).1 = 0
  · have hg := (Bp.good_iff p).1 h0
    have e : Bp.run p r = Bp.from' r p 0 := by unfold Bp.run; rw [if_neg (by simpa using h0)]
    rw [e]
    rcases hv with ⟨_, _, rfl, rfl⟩ | ⟨b, o, cap, rfl, hlt, hlen, hl⟩
    · have := hg.one; simp at this
    · obtain ⟨h1, h2⟩ := hc _ _ _ rfl
      exact rrun_good p r hg b o cap w hlt hl h1 h2
  · have e : Bp.run p r = (0, 0) := by unfold Bp.run; rw [if_pos h0]
    rw [e]
    have hv2 : Holds (withRec w r) (withRec w r).heap.size v p := (hv.on (withRec_below w r) (Nat.le_refl _)).up (by rw [withRec_size]; omega)
    have hb : ((Bp.chk p).1 != 0) = true := by simpa using h0
    have HV : Hid (Holds (withRec w r) (withRec w r).heap.size v p) := hv2
    have HC := fun (w : World) => field_err (Bp.chk p).1 (Bp.chk p).2 w
    clear hv hv2 h0 hc
    unfold recV
    go_enter Try.func17, Try.ntmps17
    go_wp2_with fail
    refine (rcheck_any p v (withRec w r) HV.out).mono ?_
    rintro e w1 ⟨rfl, hb1⟩
    rw [withRec_size] at hb1
    unfold faultV
    go_wp2
    go_ret2
    exact ⟨rfl, rec_below hb1⟩
end Go.Proofs.Ytkikghdcnejjfab
