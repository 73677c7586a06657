/-
  The document's own answer: rgref1.from and rgref1.Run.
-/
import Derived.Test.YtkikghdcnejjfabRefC
import Derived.Test.YtkikghdcnejjfabEndsP
import Derived.Deep.RegionWith
import Derived.BigQuiet
namespace Go.Proofs.Ytkikghdcnejjfab
open Go.RowKit
/-- What is called in the recursion. -/
def FromSaid (P : List Bp.Ins) (r : Nat → Int) (b o n : Nat) : Prop :=
  ∀ (a : Nat) (acc : Int) (cap : Nat) (w : World), P.length - a ≤ n → a < P.length → P.length - a ≤ cap → cap ≤ maxLen → b < w.heap.size → Lies w b o P →
    Calls Try.prog 30 #[.slice (some ⟨b, o + a * 4, none⟩) (P.length - a) cap, recV r, .int .i64 acc] w fun e w' => e = .returned (.tuple #[.int .i64 (Bp.from' r (P.drop a) acc).1, .int .i64 (Bp.from' r (P.drop a) acc).2]) ∧ Below w.heap.size w w'
set_option maxRecDepth 100000 in
set_option maxHeartbeats 4000000 in
theorem from_back (P : List Bp.Ins) (hg : Bp.Good P) (r : Nat → Int) (b o n : Nat) (_ih : FromSaid P r b o n) (a : Nat) (acc : Int) (cap : Nat) (w : World) (_hn : P.length - a ≤ n + 1) (ha : a < P.length) (_hc : P.length - a ≤ cap) (_hm : cap ≤ maxLen) (hb : b < w.heap.size) (hl : Lies w b o P) (jt jf k : Int) (hx : P[a]? = some ⟨6, jt, jf, k⟩) :
    Calls Try.prog 30 #[.slice (some ⟨b, o + a * 4, none⟩) (P.length - a) cap, recV r, .int .i64 acc] w fun e w' => e = .returned (.tuple #[.int .i64 (Bp.from' r (P.drop a) acc).1, .int .i64 (Bp.from' r (P.drop a) acc).2]) ∧ Below w.heap.size w w' := by
  have hmany := hg.many
  have hlen : 0 < P.length - a := by omega
  have HW := Bp.wrong_zero (hg.each a _ hx)
  obtain ⟨c0, c1, c2, c3⟩ := hl a _ hx
  dsimp only at c0 c1 c2 c3 HW
  have HR : Hid (Bp.from' r (P.drop a) acc = (k, 1)) := Bp.from_last r acc hx rfl
  clear HW _ih hx hl hg
  generalize Bp.from' r (P.drop a) acc = res at *
  obtain rfl := HR.out
  dsimp only
  unfold recV
  go_enter Try.func30, Try.ntmps30
  go_wp2
  go_ret2
  exact ⟨rfl, ((Below.refl _ _).alloc (Nat.le_refl _) _).alloc (by simp) _⟩
set_option maxRecDepth 100000 in
set_option maxHeartbeats 4000000 in
theorem from_load (P : List Bp.Ins) (hg : Bp.Good P) (r : Nat → Int) (b o n : Nat) (ih : FromSaid P r b o n) (a : Nat) (acc : Int) (cap : Nat) (w : World) (hn : P.length - a ≤ n + 1) (ha : a < P.length) (hc : P.length - a ≤ cap) (hm : cap ≤ maxLen) (hb : b < w.heap.size) (hl : Lies w b o P) (jt jf k : Int) (hx : P[a]? = some ⟨1, jt, jf, k⟩) :
    Calls Try.prog 30 #[.slice (some ⟨b, o + a * 4, none⟩) (P.length - a) cap, recV r, .int .i64 acc] w fun e w' => e = .returned (.tuple #[.int .i64 (Bp.from' r (P.drop a) acc).1, .int .i64 (Bp.from' r (P.drop a) acc).2]) ∧ Below w.heap.size w w' := by
  have hmany := hg.many
  have hlen : 0 < P.length - a := by omega
  have HW := Bp.wrong_zero (hg.each a _ hx)
  obtain ⟨c0, c1, c2, c3⟩ := hl a _ hx
  dsimp only at c0 c1 c2 c3 HW
  have hov := Bp.over_ok hg hx (by simp) acc
  have HS : Hid (Bp.from' r (P.drop a) acc = _) := Bp.from_step r acc hx (by simp)
  have hL2 : Lies ((withRec w r).alloc (.cells #[.int .i64 1, .int .i64 jt, .int .i64 jf, .int .i64 k] 30)) b o P := (hl.on (withRec_below w r) hb).on (B := (withRec w r).heap.size) ((Below.refl _ _).alloc (Nat.le_refl _) _) (by rw [withRec_size]; omega)
  have e0 : Bp.over ⟨1, jt, jf, k⟩ acc = 0 := rfl
  have ea : Bp.acc' r ⟨1, jt, jf, k⟩ acc = r k.toNat := rfl
  have g2 : 0 ≤ k := by omega
  have g3 : k < 6 := by omega
  rw [e0] at hov
  rw [e0, ea] at HS
  obtain ⟨kn, rfl⟩ := Int.eq_ofNat_of_zero_le g2
  simp only [Int.toNat_natCast, Int.toNat_zero] at hov HS
  have hr := rec_cell (wr := (withRec w r).alloc (.cells #[.int .i64 1, .int .i64 jt, .int .i64 jf, .int .i64 kn] 30)) ((Below.refl (w.heap.size + 1) (withRec w r)).alloc (by rw [withRec_size]; exact Nat.le_refl _) _) kn (by omega)
  unfold withRec at hr
  have HC : Hid (∀ W, b < W.heap.size → Lies W b o P → Calls Try.prog 30 #[.slice (some ⟨b, o + a * 4 + 4, none⟩) (P.length - a - 1) (cap - 1), recV r, .int .i64 (r kn)] W fun e w' => e = .returned (.tuple #[.int .i64 (Bp.from' r (P.drop (a + 1 + 0)) (r kn)).1, .int .i64 (Bp.from' r (P.drop (a + 1 + 0)) (r kn)).2]) ∧ Below W.heap.size W w') := by
    intro W h1 h2
    have := ih (a + 1 + 0) (r kn) (cap - 1) W (by omega) hov.2 (by omega) (by omega) h1 h2
    rw [show o + (a + 1 + 0) * 4 = o + a * 4 + 4 by omega, show P.length - (a + 1 + 0) = P.length - a - 1 by omega] at this
    exact this
  have hy := (Bp.from_ends hg r _ (a + 1 + 0) (r kn) rfl hov.2).2.2
  generalize Bp.from' r (P.drop a) acc = res at *
  generalize Bp.from' r (P.drop (a + 1 + 0)) (r kn) = y at *
  obtain ⟨y1, y2⟩ := y
  obtain rfl := HS.out
  dsimp only at *
  unfold recV at *
  clear ih hg hx HS hl HW e0 ea
  go_enter Try.func30, Try.ntmps30
  go_wp2_with fail
  go_region_with (go_at_call 30; refine (HC.out _ (by simp; omega) (by exact hL2)).mono ?_; rintro e w2 ⟨rfl, hb2⟩)
  all_goals (try go_wp2)
  all_goals go_ret2
  all_goals exact ⟨ret_two rfl (by omega), (((withRec_below w r).alloc (by rw [withRec_size]; omega) _).drew).trans (hb2.mono (by simp; omega))⟩
set_option maxRecDepth 100000 in
set_option maxHeartbeats 4000000 in
theorem from_skip (P : List Bp.Ins) (hg : Bp.Good P) (r : Nat → Int) (b o n : Nat) (ih : FromSaid P r b o n) (a : Nat) (acc : Int) (cap : Nat) (w : World) (hn : P.length - a ≤ n + 1) (ha : a < P.length) (hc : P.length - a ≤ cap) (hm : cap ≤ maxLen) (hb : b < w.heap.size) (hl : Lies w b o P) (jt jf k : Int) (hx : P[a]? = some ⟨5, jt, jf, k⟩) :
    Calls Try.prog 30 #[.slice (some ⟨b, o + a * 4, none⟩) (P.length - a) cap, recV r, .int .i64 acc] w fun e w' => e = .returned (.tuple #[.int .i64 (Bp.from' r (P.drop a) acc).1, .int .i64 (Bp.from' r (P.drop a) acc).2]) ∧ Below w.heap.size w w' := by
  have hmany := hg.many
  have hlen : 0 < P.length - a := by omega
  have HW := Bp.wrong_zero (hg.each a _ hx)
  obtain ⟨c0, c1, c2, c3⟩ := hl a _ hx
  dsimp only at c0 c1 c2 c3 HW
  have hov := Bp.over_ok hg hx (by simp) acc
  have HS : Hid (Bp.from' r (P.drop a) acc = _) := Bp.from_step r acc hx (by simp)
  have hL2 : Lies ((withRec w r).alloc (.cells #[.int .i64 5, .int .i64 jt, .int .i64 jf, .int .i64 k] 30)) b o P := (hl.on (withRec_below w r) hb).on (B := (withRec w r).heap.size) ((Below.refl _ _).alloc (Nat.le_refl _) _) (by rw [withRec_size]; omega)
  have e0 : Bp.over ⟨5, jt, jf, k⟩ acc = k := rfl
  have ea : Bp.acc' r ⟨5, jt, jf, k⟩ acc = acc := rfl
  have g2 : 0 ≤ k := by omega
  rw [e0] at hov
  rw [e0, ea] at HS
  obtain ⟨kn, rfl⟩ := Int.eq_ofNat_of_zero_le g2
  simp only [Int.toNat_natCast] at hov HS
  have HC : Hid (∀ W, b < W.heap.size → Lies W b o P → Calls Try.prog 30 #[.slice (some ⟨b, o + a * 4 + (1 + kn) * 4, none⟩) (P.length - a - (1 + kn)) (cap - (1 + kn)), recV r, .int .i64 (acc)] W fun e w' => e = .returned (.tuple #[.int .i64 (Bp.from' r (P.drop (a + 1 + kn)) (acc)).1, .int .i64 (Bp.from' r (P.drop (a + 1 + kn)) (acc)).2]) ∧ Below W.heap.size W w') := by
    intro W h1 h2
    have := ih (a + 1 + kn) (acc) (cap - (1 + kn)) W (by omega) hov.2 (by omega) (by omega) h1 h2
    rw [show o + (a + 1 + kn) * 4 = o + a * 4 + (1 + kn) * 4 by omega, show P.length - (a + 1 + kn) = P.length - a - (1 + kn) by omega] at this
    exact this
  have hy := (Bp.from_ends hg r _ (a + 1 + kn) (acc) rfl hov.2).2.2
  generalize Bp.from' r (P.drop a) acc = res at *
  generalize Bp.from' r (P.drop (a + 1 + kn)) (acc) = y at *
  obtain ⟨y1, y2⟩ := y
  obtain rfl := HS.out
  dsimp only at *
  unfold recV at *
  clear ih hg hx HS hl HW e0 ea
  go_enter Try.func30, Try.ntmps30
  go_wp2_with fail
  go_region_with (go_at_call 30; refine (HC.out _ (by simp; omega) (by exact hL2)).mono ?_; rintro e w2 ⟨rfl, hb2⟩)
  all_goals (try go_wp2)
  all_goals go_ret2
  all_goals exact ⟨ret_two rfl (by omega), (((withRec_below w r).alloc (by rw [withRec_size]; omega) _).drew).trans (hb2.mono (by simp; omega))⟩
set_option maxRecDepth 100000 in
set_option maxHeartbeats 4000000 in
theorem from_j2t (P : List Bp.Ins) (hg : Bp.Good P) (r : Nat → Int) (b o n : Nat) (ih : FromSaid P r b o n) (a : Nat) (acc : Int) (cap : Nat) (w : World) (hn : P.length - a ≤ n + 1) (ha : a < P.length) (hc : P.length - a ≤ cap) (hm : cap ≤ maxLen) (hb : b < w.heap.size) (hl : Lies w b o P) (jt jf k : Int) (hx : P[a]? = some ⟨2, jt, jf, k⟩) (hq : (acc == k) = true) :
    Calls Try.prog 30 #[.slice (some ⟨b, o + a * 4, none⟩) (P.length - a) cap, recV r, .int .i64 acc] w fun e w' => e = .returned (.tuple #[.int .i64 (Bp.from' r (P.drop a) acc).1, .int .i64 (Bp.from' r (P.drop a) acc).2]) ∧ Below w.heap.size w w' := by
  have hmany := hg.many
  have hlen : 0 < P.length - a := by omega
  have HW := Bp.wrong_zero (hg.each a _ hx)
  obtain ⟨c0, c1, c2, c3⟩ := hl a _ hx
  dsimp only at c0 c1 c2 c3 HW
  have hov := Bp.over_ok hg hx (by simp) acc
  have HS : Hid (Bp.from' r (P.drop a) acc = _) := Bp.from_step r acc hx (by simp)
  have hL2 : Lies ((withRec w r).alloc (.cells #[.int .i64 2, .int .i64 jt, .int .i64 jf, .int .i64 k] 30)) b o P := (hl.on (withRec_below w r) hb).on (B := (withRec w r).heap.size) ((Below.refl _ _).alloc (Nat.le_refl _) _) (by rw [withRec_size]; omega)
  have e0 : Bp.over ⟨2, jt, jf, k⟩ acc = jt := by
    have e : Bp.over ⟨2, jt, jf, k⟩ acc = if (acc == k) then jt else jf := rfl
    rw [e, hq]; rfl
  have ea : Bp.acc' r ⟨2, jt, jf, k⟩ acc = acc := rfl
  have g2 : 0 ≤ jt := by omega
  rw [e0] at hov
  rw [e0, ea] at HS
  obtain ⟨kn, rfl⟩ := Int.eq_ofNat_of_zero_le g2
  simp only [Int.toNat_natCast] at hov HS
  have HC : Hid (∀ W, b < W.heap.size → Lies W b o P → Calls Try.prog 30 #[.slice (some ⟨b, o + a * 4 + (1 + kn) * 4, none⟩) (P.length - a - (1 + kn)) (cap - (1 + kn)), recV r, .int .i64 (acc)] W fun e w' => e = .returned (.tuple #[.int .i64 (Bp.from' r (P.drop (a + 1 + kn)) (acc)).1, .int .i64 (Bp.from' r (P.drop (a + 1 + kn)) (acc)).2]) ∧ Below W.heap.size W w') := by
    intro W h1 h2
    have := ih (a + 1 + kn) (acc) (cap - (1 + kn)) W (by omega) hov.2 (by omega) (by omega) h1 h2
    rw [show o + (a + 1 + kn) * 4 = o + a * 4 + (1 + kn) * 4 by omega, show P.length - (a + 1 + kn) = P.length - a - (1 + kn) by omega] at this
    exact this
  have hy := (Bp.from_ends hg r _ (a + 1 + kn) (acc) rfl hov.2).2.2
  generalize Bp.from' r (P.drop a) acc = res at *
  generalize Bp.from' r (P.drop (a + 1 + kn)) (acc) = y at *
  obtain ⟨y1, y2⟩ := y
  obtain rfl := HS.out
  dsimp only at *
  unfold recV at *
  clear ih hg hx HS hl HW e0 ea
  go_enter Try.func30, Try.ntmps30
  go_wp2_with fail
  go_region_with (go_at_call 30; refine (HC.out _ (by simp; omega) (by exact hL2)).mono ?_; rintro e w2 ⟨rfl, hb2⟩)
  all_goals (try go_wp2)
  all_goals go_ret2
  all_goals exact ⟨ret_two rfl (by omega), (((withRec_below w r).alloc (by rw [withRec_size]; omega) _).drew).trans (hb2.mono (by simp; omega))⟩
set_option maxRecDepth 100000 in
set_option maxHeartbeats 4000000 in
theorem from_j2f (P : List Bp.Ins) (hg : Bp.Good P) (r : Nat → Int) (b o n : Nat) (ih : FromSaid P r b o n) (a : Nat) (acc : Int) (cap : Nat) (w : World) (hn : P.length - a ≤ n + 1) (ha : a < P.length) (hc : P.length - a ≤ cap) (hm : cap ≤ maxLen) (hb : b < w.heap.size) (hl : Lies w b o P) (jt jf k : Int) (hx : P[a]? = some ⟨2, jt, jf, k⟩) (hq : (acc == k) = false) :
    Calls Try.prog 30 #[.slice (some ⟨b, o + a * 4, none⟩) (P.length - a) cap, recV r, .int .i64 acc] w fun e w' => e = .returned (.tuple #[.int .i64 (Bp.from' r (P.drop a) acc).1, .int .i64 (Bp.from' r (P.drop a) acc).2]) ∧ Below w.heap.size w w' := by
  have hmany := hg.many
  have hlen : 0 < P.length - a := by omega
  have HW := Bp.wrong_zero (hg.each a _ hx)
  obtain ⟨c0, c1, c2, c3⟩ := hl a _ hx
  dsimp only at c0 c1 c2 c3 HW
  have hov := Bp.over_ok hg hx (by simp) acc
  have HS : Hid (Bp.from' r (P.drop a) acc = _) := Bp.from_step r acc hx (by simp)
  have hL2 : Lies ((withRec w r).alloc (.cells #[.int .i64 2, .int .i64 jt, .int .i64 jf, .int .i64 k] 30)) b o P := (hl.on (withRec_below w r) hb).on (B := (withRec w r).heap.size) ((Below.refl _ _).alloc (Nat.le_refl _) _) (by rw [withRec_size]; omega)
  have e0 : Bp.over ⟨2, jt, jf, k⟩ acc = jf := by
    have e : Bp.over ⟨2, jt, jf, k⟩ acc = if (acc == k) then jt else jf := rfl
    rw [e, hq]; rfl
  have ea : Bp.acc' r ⟨2, jt, jf, k⟩ acc = acc := rfl
  have g2 : 0 ≤ jf := by omega
  rw [e0] at hov
  rw [e0, ea] at HS
  obtain ⟨kn, rfl⟩ := Int.eq_ofNat_of_zero_le g2
  simp only [Int.toNat_natCast] at hov HS
  have HC : Hid (∀ W, b < W.heap.size → Lies W b o P → Calls Try.prog 30 #[.slice (some ⟨b, o + a * 4 + (1 + kn) * 4, none⟩) (P.length - a - (1 + kn)) (cap - (1 + kn)), recV r, .int .i64 (acc)] W fun e w' => e = .returned (.tuple #[.int .i64 (Bp.from' r (P.drop (a + 1 + kn)) (acc)).1, .int .i64 (Bp.from' r (P.drop (a + 1 + kn)) (acc)).2]) ∧ Below W.heap.size W w') := by
    intro W h1 h2
    have := ih (a + 1 + kn) (acc) (cap - (1 + kn)) W (by omega) hov.2 (by omega) (by omega) h1 h2
    rw [show o + (a + 1 + kn) * 4 = o + a * 4 + (1 + kn) * 4 by omega, show P.length - (a + 1 + kn) = P.length - a - (1 + kn) by omega] at this
    exact this
  have hy := (Bp.from_ends hg r _ (a + 1 + kn) (acc) rfl hov.2).2.2
  generalize Bp.from' r (P.drop a) acc = res at *
  generalize Bp.from' r (P.drop (a + 1 + kn)) (acc) = y at *
  obtain ⟨y1, y2⟩ := y
  obtain rfl := HS.out
  dsimp only at *
  unfold recV at *
  clear ih hg hx HS hl HW e0 ea
  go_enter Try.func30, Try.ntmps30
  go_wp2_with fail
  go_region_with (go_at_call 30; refine (HC.out _ (by simp; omega) (by exact hL2)).mono ?_; rintro e w2 ⟨rfl, hb2⟩)
  all_goals (try go_wp2)
  all_goals go_ret2
  all_goals exact ⟨ret_two rfl (by omega), (((withRec_below w r).alloc (by rw [withRec_size]; omega) _).drew).trans (hb2.mono (by simp; omega))⟩
set_option maxRecDepth 100000 in
set_option maxHeartbeats 4000000 in
theorem from_j3t (P : List Bp.Ins) (hg : Bp.Good P) (r : Nat → Int) (b o n : Nat) (ih : FromSaid P r b o n) (a : Nat) (acc : Int) (cap : Nat) (w : World) (hn : P.length - a ≤ n + 1) (ha : a < P.length) (hc : P.length - a ≤ cap) (hm : cap ≤ maxLen) (hb : b < w.heap.size) (hl : Lies w b o P) (jt jf k : Int) (hx : P[a]? = some ⟨3, jt, jf, k⟩) (hq : decide (k ≤ acc) = true) :
    Calls Try.prog 30 #[.slice (some ⟨b, o + a * 4, none⟩) (P.length - a) cap, recV r, .int .i64 acc] w fun e w' => e = .returned (.tuple #[.int .i64 (Bp.from' r (P.drop a) acc).1, .int .i64 (Bp.from' r (P.drop a) acc).2]) ∧ Below w.heap.size w w' := by
  have hmany := hg.many
  have hlen : 0 < P.length - a := by omega
  have HW := Bp.wrong_zero (hg.each a _ hx)
  obtain ⟨c0, c1, c2, c3⟩ := hl a _ hx
  dsimp only at c0 c1 c2 c3 HW
  have hov := Bp.over_ok hg hx (by simp) acc
  have HS : Hid (Bp.from' r (P.drop a) acc = _) := Bp.from_step r acc hx (by simp)
  have hL2 : Lies ((withRec w r).alloc (.cells #[.int .i64 3, .int .i64 jt, .int .i64 jf, .int .i64 k] 30)) b o P := (hl.on (withRec_below w r) hb).on (B := (withRec w r).heap.size) ((Below.refl _ _).alloc (Nat.le_refl _) _) (by rw [withRec_size]; omega)
  have e0 : Bp.over ⟨3, jt, jf, k⟩ acc = jt := by
    have e : Bp.over ⟨3, jt, jf, k⟩ acc = if decide (k ≤ acc) then jt else jf := rfl
    rw [e, hq]; rfl
  have ea : Bp.acc' r ⟨3, jt, jf, k⟩ acc = acc := rfl
  have g2 : 0 ≤ jt := by omega
  rw [e0] at hov
  rw [e0, ea] at HS
  obtain ⟨kn, rfl⟩ := Int.eq_ofNat_of_zero_le g2
  simp only [Int.toNat_natCast] at hov HS
  have HC : Hid (∀ W, b < W.heap.size → Lies W b o P → Calls Try.prog 30 #[.slice (some ⟨b, o + a * 4 + (1 + kn) * 4, none⟩) (P.length - a - (1 + kn)) (cap - (1 + kn)), recV r, .int .i64 (acc)] W fun e w' => e = .returned (.tuple #[.int .i64 (Bp.from' r (P.drop (a + 1 + kn)) (acc)).1, .int .i64 (Bp.from' r (P.drop (a + 1 + kn)) (acc)).2]) ∧ Below W.heap.size W w') := by
    intro W h1 h2
    have := ih (a + 1 + kn) (acc) (cap - (1 + kn)) W (by omega) hov.2 (by omega) (by omega) h1 h2
    rw [show o + (a + 1 + kn) * 4 = o + a * 4 + (1 + kn) * 4 by omega, show P.length - (a + 1 + kn) = P.length - a - (1 + kn) by omega] at this
    exact this
  have hy := (Bp.from_ends hg r _ (a + 1 + kn) (acc) rfl hov.2).2.2
  generalize Bp.from' r (P.drop a) acc = res at *
  generalize Bp.from' r (P.drop (a + 1 + kn)) (acc) = y at *
  obtain ⟨y1, y2⟩ := y
  obtain rfl := HS.out
  dsimp only at *
  unfold recV at *
  clear ih hg hx HS hl HW e0 ea
  go_enter Try.func30, Try.ntmps30
  go_wp2_with fail
  go_region_with (go_at_call 30; refine (HC.out _ (by simp; omega) (by exact hL2)).mono ?_; rintro e w2 ⟨rfl, hb2⟩)
  all_goals (try go_wp2)
  all_goals go_ret2
  all_goals exact ⟨ret_two rfl (by omega), (((withRec_below w r).alloc (by rw [withRec_size]; omega) _).drew).trans (hb2.mono (by simp; omega))⟩
set_option maxRecDepth 100000 in
set_option maxHeartbeats 4000000 in
theorem from_j3f (P : List Bp.Ins) (hg : Bp.Good P) (r : Nat → Int) (b o n : Nat) (ih : FromSaid P r b o n) (a : Nat) (acc : Int) (cap : Nat) (w : World) (hn : P.length - a ≤ n + 1) (ha : a < P.length) (hc : P.length - a ≤ cap) (hm : cap ≤ maxLen) (hb : b < w.heap.size) (hl : Lies w b o P) (jt jf k : Int) (hx : P[a]? = some ⟨3, jt, jf, k⟩) (hq : decide (k ≤ acc) = false) :
    Calls Try.prog 30 #[.slice (some ⟨b, o + a * 4, none⟩) (P.length - a) cap, recV r, .int .i64 acc] w fun e w' => e = .returned (.tuple #[.int .i64 (Bp.from' r (P.drop a) acc).1, .int .i64 (Bp.from' r (P.drop a) acc).2]) ∧ Below w.heap.size w w' := by
  have hmany := hg.many
  have hlen : 0 < P.length - a := by omega
  have HW := Bp.wrong_zero (hg.each a _ hx)
  obtain ⟨c0, c1, c2, c3⟩ := hl a _ hx
  dsimp only at c0 c1 c2 c3 HW
  have hov := Bp.over_ok hg hx (by simp) acc
  have HS : Hid (Bp.from' r (P.drop a) acc = _) := Bp.from_step r acc hx (by simp)
  have hL2 : Lies ((withRec w r).alloc (.cells #[.int .i64 3, .int .i64 jt, .int .i64 jf, .int .i64 k] 30)) b o P := (hl.on (withRec_below w r) hb).on (B := (withRec w r).heap.size) ((Below.refl _ _).alloc (Nat.le_refl _) _) (by rw [withRec_size]; omega)
  have e0 : Bp.over ⟨3, jt, jf, k⟩ acc = jf := by
    have e : Bp.over ⟨3, jt, jf, k⟩ acc = if decide (k ≤ acc) then jt else jf := rfl
    rw [e, hq]; rfl
  have ea : Bp.acc' r ⟨3, jt, jf, k⟩ acc = acc := rfl
  have g2 : 0 ≤ jf := by omega
  rw [e0] at hov
  rw [e0, ea] at HS
  obtain ⟨kn, rfl⟩ := Int.eq_ofNat_of_zero_le g2
  simp only [Int.toNat_natCast] at hov HS
  have HC : Hid (∀ W, b < W.heap.size → Lies W b o P → Calls Try.prog 30 #[.slice (some ⟨b, o + a * 4 + (1 + kn) * 4, none⟩) (P.length - a - (1 + kn)) (cap - (1 + kn)), recV r, .int .i64 (acc)] W fun e w' => e = .returned (.tuple #[.int .i64 (Bp.from' r (P.drop (a + 1 + kn)) (acc)).1, .int .i64 (Bp.from' r (P.drop (a + 1 + kn)) (acc)).2]) ∧ Below W.heap.size W w') := by
    intro W h1 h2
    have := ih (a + 1 + kn) (acc) (cap - (1 + kn)) W (by omega) hov.2 (by omega) (by omega) h1 h2
    rw [show o + (a + 1 + kn) * 4 = o + a * 4 + (1 + kn) * 4 by omega, show P.length - (a + 1 + kn) = P.length - a - (1 + kn) by omega] at this
    exact this
  have hy := (Bp.from_ends hg r _ (a + 1 + kn) (acc) rfl hov.2).2.2
  generalize Bp.from' r (P.drop a) acc = res at *
  generalize Bp.from' r (P.drop (a + 1 + kn)) (acc) = y at *
  obtain ⟨y1, y2⟩ := y
  obtain rfl := HS.out
  dsimp only at *
  unfold recV at *
  clear ih hg hx HS hl HW e0 ea
  go_enter Try.func30, Try.ntmps30
  go_wp2_with fail
  go_region_with (go_at_call 30; refine (HC.out _ (by simp; omega) (by exact hL2)).mono ?_; rintro e w2 ⟨rfl, hb2⟩)
  all_goals (try go_wp2)
  all_goals go_ret2
  all_goals exact ⟨ret_two rfl (by omega), (((withRec_below w r).alloc (by rw [withRec_size]; omega) _).drew).trans (hb2.mono (by simp; omega))⟩
set_option maxRecDepth 100000 in
set_option maxHeartbeats 4000000 in
theorem from_j4t (P : List Bp.Ins) (hg : Bp.Good P) (r : Nat → Int) (b o n : Nat) (ih : FromSaid P r b o n) (a : Nat) (acc : Int) (cap : Nat) (w : World) (hn : P.length - a ≤ n + 1) (ha : a < P.length) (hc : P.length - a ≤ cap) (hm : cap ≤ maxLen) (hb : b < w.heap.size) (hl : Lies w b o P) (jt jf k : Int) (hx : P[a]? = some ⟨4, jt, jf, k⟩) (hq : (bits .and .i64 acc k != 0) = true) :
    Calls Try.prog 30 #[.slice (some ⟨b, o + a * 4, none⟩) (P.length - a) cap, recV r, .int .i64 acc] w fun e w' => e = .returned (.tuple #[.int .i64 (Bp.from' r (P.drop a) acc).1, .int .i64 (Bp.from' r (P.drop a) acc).2]) ∧ Below w.heap.size w w' := by
  have hmany := hg.many
  have hlen : 0 < P.length - a := by omega
  have HW := Bp.wrong_zero (hg.each a _ hx)
  obtain ⟨c0, c1, c2, c3⟩ := hl a _ hx
  dsimp only at c0 c1 c2 c3 HW
  have hov := Bp.over_ok hg hx (by simp) acc
  have HS : Hid (Bp.from' r (P.drop a) acc = _) := Bp.from_step r acc hx (by simp)
  have hL2 : Lies ((withRec w r).alloc (.cells #[.int .i64 4, .int .i64 jt, .int .i64 jf, .int .i64 k] 30)) b o P := (hl.on (withRec_below w r) hb).on (B := (withRec w r).heap.size) ((Below.refl _ _).alloc (Nat.le_refl _) _) (by rw [withRec_size]; omega)
  have e0 : Bp.over ⟨4, jt, jf, k⟩ acc = jt := by
    have e : Bp.over ⟨4, jt, jf, k⟩ acc = if (bits .and .i64 acc k != 0) then jt else jf := rfl
    rw [e, hq]; rfl
  have ea : Bp.acc' r ⟨4, jt, jf, k⟩ acc = acc := rfl
  have g2 : 0 ≤ jt := by omega
  rw [e0] at hov
  rw [e0, ea] at HS
  obtain ⟨kn, rfl⟩ := Int.eq_ofNat_of_zero_le g2
  simp only [Int.toNat_natCast] at hov HS
  have HC : Hid (∀ W, b < W.heap.size → Lies W b o P → Calls Try.prog 30 #[.slice (some ⟨b, o + a * 4 + (1 + kn) * 4, none⟩) (P.length - a - (1 + kn)) (cap - (1 + kn)), recV r, .int .i64 (acc)] W fun e w' => e = .returned (.tuple #[.int .i64 (Bp.from' r (P.drop (a + 1 + kn)) (acc)).1, .int .i64 (Bp.from' r (P.drop (a + 1 + kn)) (acc)).2]) ∧ Below W.heap.size W w') := by
    intro W h1 h2
    have := ih (a + 1 + kn) (acc) (cap - (1 + kn)) W (by omega) hov.2 (by omega) (by omega) h1 h2
    rw [show o + (a + 1 + kn) * 4 = o + a * 4 + (1 + kn) * 4 by omega, show P.length - (a + 1 + kn) = P.length - a - (1 + kn) by omega] at this
    exact this
  have hy := (Bp.from_ends hg r _ (a + 1 + kn) (acc) rfl hov.2).2.2
  generalize Bp.from' r (P.drop a) acc = res at *
  generalize Bp.from' r (P.drop (a + 1 + kn)) (acc) = y at *
  obtain ⟨y1, y2⟩ := y
  obtain rfl := HS.out
  dsimp only at *
  unfold recV at *
  clear ih hg hx HS hl HW e0 ea
  go_enter Try.func30, Try.ntmps30
  go_wp2_with fail
  go_region_with (go_at_call 30; refine (HC.out _ (by simp; omega) (by exact hL2)).mono ?_; rintro e w2 ⟨rfl, hb2⟩)
  all_goals (try go_wp2)
  all_goals go_ret2
  all_goals exact ⟨ret_two rfl (by omega), (((withRec_below w r).alloc (by rw [withRec_size]; omega) _).drew).trans (hb2.mono (by simp; omega))⟩
set_option maxRecDepth 100000 in
set_option maxHeartbeats 4000000 in
theorem from_j4f (P : List Bp.Ins) (hg : Bp.Good P) (r : Nat → Int) (b o n : Nat) (ih : FromSaid P r b o n) (a : Nat) (acc : Int) (cap : Nat) (w : World) (hn : P.length - a ≤ n + 1) (ha : a < P.length) (hc : P.length - a ≤ cap) (hm : cap ≤ maxLen) (hb : b < w.heap.size) (hl : Lies w b o P) (jt jf k : Int) (hx : P[a]? = some ⟨4, jt, jf, k⟩) (hq : (bits .and .i64 acc k != 0) = false) :
    Calls Try.prog 30 #[.slice (some ⟨b, o + a * 4, none⟩) (P.length - a) cap, recV r, .int .i64 acc] w fun e w' => e = .returned (.tuple #[.int .i64 (Bp.from' r (P.drop a) acc).1, .int .i64 (Bp.from' r (P.drop a) acc).2]) ∧ Below w.heap.size w w' := by
  have hmany := hg.many
  have hlen : 0 < P.length - a := by omega
  have HW := Bp.wrong_zero (hg.each a _ hx)
  obtain ⟨c0, c1, c2, c3⟩ := hl a _ hx
  dsimp only at c0 c1 c2 c3 HW
  have hov := Bp.over_ok hg hx (by simp) acc
  have HS : Hid (Bp.from' r (P.drop a) acc = _) := Bp.from_step r acc hx (by simp)
  have hL2 : Lies ((withRec w r).alloc (.cells #[.int .i64 4, .int .i64 jt, .int .i64 jf, .int .i64 k] 30)) b o P := (hl.on (withRec_below w r) hb).on (B := (withRec w r).heap.size) ((Below.refl _ _).alloc (Nat.le_refl _) _) (by rw [withRec_size]; omega)
  have e0 : Bp.over ⟨4, jt, jf, k⟩ acc = jf := by
    have e : Bp.over ⟨4, jt, jf, k⟩ acc = if (bits .and .i64 acc k != 0) then jt else jf := rfl
    rw [e, hq]; rfl
  have ea : Bp.acc' r ⟨4, jt, jf, k⟩ acc = acc := rfl
  have g2 : 0 ≤ jf := by omega
  rw [e0] at hov
  rw [e0, ea] at HS
  obtain ⟨kn, rfl⟩ := Int.eq_ofNat_of_zero_le g2
  simp only [Int.toNat_natCast] at hov HS
  have HC : Hid (∀ W, b < W.heap.size → Lies W b o P → Calls Try.prog 30 #[.slice (some ⟨b, o + a * 4 + (1 + kn) * 4, none⟩) (P.length - a - (1 + kn)) (cap - (1 + kn)), recV r, .int .i64 (acc)] W fun e w' => e = .returned (.tuple #[.int .i64 (Bp.from' r (P.drop (a + 1 + kn)) (acc)).1, .int .i64 (Bp.from' r (P.drop (a + 1 + kn)) (acc)).2]) ∧ Below W.heap.size W w') := by
    intro W h1 h2
    have := ih (a + 1 + kn) (acc) (cap - (1 + kn)) W (by omega) hov.2 (by omega) (by omega) h1 h2
    rw [show o + (a + 1 + kn) * 4 = o + a * 4 + (1 + kn) * 4 by omega, show P.length - (a + 1 + kn) = P.length - a - (1 + kn) by omega] at this
    exact this
  have hy := (Bp.from_ends hg r _ (a + 1 + kn) (acc) rfl hov.2).2.2
  generalize Bp.from' r (P.drop a) acc = res at *
  generalize Bp.from' r (P.drop (a + 1 + kn)) (acc) = y at *
  obtain ⟨y1, y2⟩ := y
  obtain rfl := HS.out
  dsimp only at *
  unfold recV at *
  clear ih hg hx HS hl HW e0 ea
  go_enter Try.func30, Try.ntmps30
  go_wp2_with fail
  go_region_with (go_at_call 30; refine (HC.out _ (by simp; omega) (by exact hL2)).mono ?_; rintro e w2 ⟨rfl, hb2⟩)
  all_goals (try go_wp2)
  all_goals go_ret2
  all_goals exact ⟨ret_two rfl (by omega), (((withRec_below w r).alloc (by rw [withRec_size]; omega) _).drew).trans (hb2.mono (by simp; omega))⟩
theorem from_one (P : List Bp.Ins) (hg : Bp.Good P) (r : Nat → Int) (b o n : Nat) (ih : FromSaid P r b o n) : FromSaid P r b o (n + 1) := by
  intro a acc cap w hn ha hc hm hb hl
  have hx : P[a]? = some P[a] := List.getElem?_eq_getElem ha
  have HW := Bp.wrong_zero (hg.each a _ hx)
  generalize P[a] = x at *
  obtain ⟨op, jt, jf, k⟩ := x
  dsimp only at HW
  have hop : op = 1 ∨ op = 2 ∨ op = 3 ∨ op = 4 ∨ op = 5 ∨ op = 6 := by omega
  clear HW
  rcases hop with rfl | rfl | rfl | rfl | rfl | rfl
  · exact from_load P hg r b o n ih a acc cap w hn ha hc hm hb hl jt jf k hx
  · cases hq : (acc == k)
    · exact from_j2f P hg r b o n ih a acc cap w hn ha hc hm hb hl jt jf k hx hq
    · exact from_j2t P hg r b o n ih a acc cap w hn ha hc hm hb hl jt jf k hx hq
  · cases hq : decide (k ≤ acc)
    · exact from_j3f P hg r b o n ih a acc cap w hn ha hc hm hb hl jt jf k hx hq
    · exact from_j3t P hg r b o n ih a acc cap w hn ha hc hm hb hl jt jf k hx hq
  · cases hq : (bits .and .i64 acc k != 0)
    · exact from_j4f P hg r b o n ih a acc cap w hn ha hc hm hb hl jt jf k hx hq
    · exact from_j4t P hg r b o n ih a acc cap w hn ha hc hm hb hl jt jf k hx hq
  · exact from_skip P hg r b o n ih a acc cap w hn ha hc hm hb hl jt jf k hx
  · exact from_back P hg r b o n ih a acc cap w hn ha hc hm hb hl jt jf k hx
theorem rfrom_any (P : List Bp.Ins) (hg : Bp.Good P) (r : Nat → Int) (b o n : Nat) : FromSaid P r b o n := by
  induction n with
  | zero => intro a acc cap w hn ha; omega
  | succ n ih => exact from_one P hg r b o n ih
end Go.Proofs.Ytkikghdcnejjfab
