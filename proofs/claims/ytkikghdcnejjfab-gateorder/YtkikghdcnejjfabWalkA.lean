/-
  What bpf.below, branches, wrong and branch answer.
-/
import Derived.Test.YtkikghdcnejjfabPlain
import Derived.Laws.Externs
import Derived.WalkLawsBesides
import Derived.Below
namespace Go.Proofs.Ytkikghdcnejjfab
open Go.RowKit
/-- An instruction as a value. -/
def insV (i : Bp.Ins) : Value := .agg #[.int .i64 i.op, .int .i64 i.jt, .int .i64 i.jf, .int .i64 i.k]
theorem below_any (n m : Int) (w : World) : Calls Try.prog 32 #[.int .i64 n, .int .i64 m] w fun e w' => e = .returned (.bool (Bp.bel n m)) ∧ w' = w := by
  by_cases h0 : 0 ≤ n
  · have h : decide (n < m) = Bp.bel n m := by simp [Bp.bel, h0]
    go_enter Try.func32, Try.ntmps32
    go_wp2
    go_ret
    exact ⟨by simp, rfl⟩
  · have h : Bp.bel n m = false := by simp [Bp.bel, h0]
    go_enter Try.func32, Try.ntmps32
    go_wp2
    go_ret
    exact ⟨by simp, rfl⟩
theorem branches_any (n : Int) (w : World) : Calls Try.prog 33 #[.int .i64 n] w fun e w' => e = .returned (.bool (Bp.br n)) ∧ w' = w := by
  by_cases h2 : n = 2
  · subst h2
    go_enter Try.func33, Try.ntmps33
    go_wp2
    go_ret
    exact ⟨rfl, rfl⟩
  by_cases h3 : n = 3
  · subst h3
    go_enter Try.func33, Try.ntmps33
    go_wp2
    go_ret
    exact ⟨rfl, rfl⟩
  have g2 : (n == 2) = false := by simpa using h2
  have g3 : (n == 3) = false := by simpa using h3
  have g : (n == 4) = Bp.br n := by simp [Bp.br, h2, h3]; rfl
  clear h2 h3
  go_enter Try.func33, Try.ntmps33
  go_wp2
  go_ret
  exact ⟨by simp, rfl⟩
theorem ret_int {k : IntKind} {a b : Int} (h : a = b) : Ending.returned (.int k a) = .returned (.int k b) := by rw [h]
theorem wrong_kind (i : Bp.Ins) (m : Int) (h : i.op < 1 ∨ 6 < i.op) (w : World) : Calls Try.prog 21 #[insV i, .int .i64 m] w fun e w' => e = .returned (.int .i64 (Bp.wrong i m)) ∧ Below w.heap.size w w' := by
  obtain ⟨op, jt, jf, k⟩ := i
  have HW : Hid (1 = Bp.wrong ⟨op, jt, jf, k⟩ m) := by unfold Hid Bp.wrong; rw [if_pos h]
  dsimp only at h
  have g1 : (op == 1) = false := by rw [beq_eq_false_iff_ne]; omega
  have g2 : (op == 2) = false := by rw [beq_eq_false_iff_ne]; omega
  have g3 : (op == 3) = false := by rw [beq_eq_false_iff_ne]; omega
  have g4 : (op == 4) = false := by rw [beq_eq_false_iff_ne]; omega
  have g5 : (op == 5) = false := by rw [beq_eq_false_iff_ne]; omega
  have g6 : (op == 6) = false := by rw [beq_eq_false_iff_ne]; omega
  clear h
  unfold insV
  go_enter Try.func21, Try.ntmps21
  go_wp2
  go_ret
  exact ⟨ret_int HW.out, (Below.refl _ _).alloc (Nat.le_refl _) _⟩
theorem wrong_load (jt jf k m : Int) (w : World) : Calls Try.prog 21 #[insV ⟨1, jt, jf, k⟩, .int .i64 m] w fun e w' => e = .returned (.int .i64 (Bp.wrong ⟨1, jt, jf, k⟩ m)) ∧ Below w.heap.size w w' := by
  have HW : Hid ((if Bp.bel k 6 = false then 3 else if jt ≠ 0 ∨ jf ≠ 0 then 2 else 0) = Bp.wrong ⟨1, jt, jf, k⟩ m) := by unfold Hid Bp.wrong Bp.fits Bp.br; simp
  have hbr : Bp.br 1 = false := rfl
  unfold insV
  cases hb : Bp.bel k 6
  · have HV := HW.out
    simp [hb] at HV
    have HX : Hid _ := HV
    clear HV HW
    go_enter Try.func21, Try.ntmps21
    go_wp2_with (first | (go_at_call 32; refine (below_any _ _ _).mono ?_; rintro e w' ⟨rfl, rfl⟩) | (go_at_call 33; refine (branches_any _ _).mono ?_; rintro e w' ⟨rfl, rfl⟩))
    all_goals go_ret
    all_goals exact ⟨ret_int HX.out, (Below.refl _ _).alloc (Nat.le_refl _) _⟩
  · by_cases hj : jt = 0 <;> by_cases hf : jf = 0
    all_goals
      have HV := HW.out
      simp [hb, hj, hf] at HV
      have HX : Hid _ := HV
      clear HV HW
      try (have hj' : (jt != 0) = true := by simp [hj])
      try (have hf' : (jf != 0) = true := by simp [hf])
      try subst hj
      try subst hf
      go_enter Try.func21, Try.ntmps21
      go_wp2_with (first | (go_at_call 32; refine (below_any _ _ _).mono ?_; rintro e w' ⟨rfl, rfl⟩) | (go_at_call 33; refine (branches_any _ _).mono ?_; rintro e w' ⟨rfl, rfl⟩))
      all_goals go_ret
      all_goals exact ⟨ret_int HX.out, (Below.refl _ _).alloc (Nat.le_refl _) _⟩
theorem wrong_skip (jt jf k m : Int) (w : World) : Calls Try.prog 21 #[insV ⟨5, jt, jf, k⟩, .int .i64 m] w fun e w' => e = .returned (.int .i64 (Bp.wrong ⟨5, jt, jf, k⟩ m)) ∧ Below w.heap.size w w' := by
  have HW : Hid ((if Bp.bel k m = false then 3 else if jt ≠ 0 ∨ jf ≠ 0 then 2 else 0) = Bp.wrong ⟨5, jt, jf, k⟩ m) := by unfold Hid Bp.wrong Bp.fits Bp.br; simp
  have hbr : Bp.br 5 = false := rfl
  unfold insV
  cases hb : Bp.bel k m
  · have HV := HW.out
    simp [hb] at HV
    have HX : Hid _ := HV
    clear HV HW
    go_enter Try.func21, Try.ntmps21
    go_wp2_with (first | (go_at_call 32; refine (below_any _ _ _).mono ?_; rintro e w' ⟨rfl, rfl⟩) | (go_at_call 33; refine (branches_any _ _).mono ?_; rintro e w' ⟨rfl, rfl⟩))
    all_goals go_ret
    all_goals exact ⟨ret_int HX.out, (Below.refl _ _).alloc (Nat.le_refl _) _⟩
  · by_cases hj : jt = 0 <;> by_cases hf : jf = 0
    all_goals
      have HV := HW.out
      simp [hb, hj, hf] at HV
      have HX : Hid _ := HV
      clear HV HW
      try (have hj' : (jt != 0) = true := by simp [hj])
      try (have hf' : (jf != 0) = true := by simp [hf])
      try subst hj
      try subst hf
      go_enter Try.func21, Try.ntmps21
      go_wp2_with (first | (go_at_call 32; refine (below_any _ _ _).mono ?_; rintro e w' ⟨rfl, rfl⟩) | (go_at_call 33; refine (branches_any _ _).mono ?_; rintro e w' ⟨rfl, rfl⟩))
      all_goals go_ret
      all_goals exact ⟨ret_int HX.out, (Below.refl _ _).alloc (Nat.le_refl _) _⟩
theorem wrong_jump (jt jf k m : Int) (w : World) : Calls Try.prog 21 #[insV ⟨2, jt, jf, k⟩, .int .i64 m] w fun e w' => e = .returned (.int .i64 (Bp.wrong ⟨2, jt, jf, k⟩ m)) ∧ Below w.heap.size w w' := by
  have HW : Hid ((if (Bp.bel k 2147483648 && Bp.bel jt (min m 41) && Bp.bel jf (min m 41)) = false then 3 else 0) = Bp.wrong ⟨2, jt, jf, k⟩ m) := by unfold Hid Bp.wrong Bp.fits Bp.br; simp
  have hbr : Bp.br 2 = true := rfl
  unfold insV
  cases hk : Bp.bel k 2147483648
  · have HV := HW.out
    simp [hk] at HV
    have HX : Hid _ := HV
    clear HV HW
    by_cases hm : 41 < m
    all_goals
      go_enter Try.func21, Try.ntmps21
      go_wp2_with (first | (go_at_call 32; refine (below_any _ _ _).mono ?_; rintro e w' ⟨rfl, rfl⟩) | (go_at_call 33; refine (branches_any _ _).mono ?_; rintro e w' ⟨rfl, rfl⟩))
      all_goals go_ret
      all_goals exact ⟨ret_int HX.out, (Below.refl _ _).alloc (Nat.le_refl _) _⟩
  · by_cases hm : 41 < m
    · rw [show min m 41 = 41 by omega] at HW
      cases hj : Bp.bel jt 41 <;> cases hf : Bp.bel jf 41
      all_goals
        have HV := HW.out
        simp [hk, hj, hf] at HV
        have HX : Hid _ := HV
        clear HV HW
        go_enter Try.func21, Try.ntmps21
        go_wp2_with (first | (go_at_call 32; refine (below_any _ _ _).mono ?_; rintro e w' ⟨rfl, rfl⟩) | (go_at_call 33; refine (branches_any _ _).mono ?_; rintro e w' ⟨rfl, rfl⟩))
        all_goals go_ret
        all_goals exact ⟨ret_int HX.out, (Below.refl _ _).alloc (Nat.le_refl _) _⟩
    · rw [show min m 41 = m by omega] at HW
      cases hj : Bp.bel jt m <;> cases hf : Bp.bel jf m
      all_goals
        have HV := HW.out
        simp [hk, hj, hf] at HV
        have HX : Hid _ := HV
        clear HV HW
        go_enter Try.func21, Try.ntmps21
        go_wp2_with (first | (go_at_call 32; refine (below_any _ _ _).mono ?_; rintro e w' ⟨rfl, rfl⟩) | (go_at_call 33; refine (branches_any _ _).mono ?_; rintro e w' ⟨rfl, rfl⟩))
        all_goals go_ret
        all_goals exact ⟨ret_int HX.out, (Below.refl _ _).alloc (Nat.le_refl _) _⟩
theorem wrong_more (jt jf k m : Int) (w : World) : Calls Try.prog 21 #[insV ⟨3, jt, jf, k⟩, .int .i64 m] w fun e w' => e = .returned (.int .i64 (Bp.wrong ⟨3, jt, jf, k⟩ m)) ∧ Below w.heap.size w w' := by
  have HW : Hid ((if (Bp.bel k 2147483648 && Bp.bel jt (min m 41) && Bp.bel jf (min m 41)) = false then 3 else 0) = Bp.wrong ⟨3, jt, jf, k⟩ m) := by unfold Hid Bp.wrong Bp.fits Bp.br; simp
  have hbr : Bp.br 3 = true := rfl
  unfold insV
  cases hk : Bp.bel k 2147483648
  · have HV := HW.out
    simp [hk] at HV
    have HX : Hid _ := HV
    clear HV HW
    by_cases hm : 41 < m
    all_goals
      go_enter Try.func21, Try.ntmps21
      go_wp2_with (first | (go_at_call 32; refine (below_any _ _ _).mono ?_; rintro e w' ⟨rfl, rfl⟩) | (go_at_call 33; refine (branches_any _ _).mono ?_; rintro e w' ⟨rfl, rfl⟩))
      all_goals go_ret
      all_goals exact ⟨ret_int HX.out, (Below.refl _ _).alloc (Nat.le_refl _) _⟩
  · by_cases hm : 41 < m
    · rw [show min m 41 = 41 by omega] at HW
      cases hj : Bp.bel jt 41 <;> cases hf : Bp.bel jf 41
      all_goals
        have HV := HW.out
        simp [hk, hj, hf] at HV
        have HX : Hid _ := HV
        clear HV HW
        go_enter Try.func21, Try.ntmps21
        go_wp2_with (first | (go_at_call 32; refine (below_any _ _ _).mono ?_; rintro e w' ⟨rfl, rfl⟩) | (go_at_call 33; refine (branches_any _ _).mono ?_; rintro e w' ⟨rfl, rfl⟩))
        all_goals go_ret
        all_goals exact ⟨ret_int HX.out, (Below.refl _ _).alloc (Nat.le_refl _) _⟩
    · rw [show min m 41 = m by omega] at HW
      cases hj : Bp.bel jt m <;> cases hf : Bp.bel jf m
      all_goals
        have HV := HW.out
        simp [hk, hj, hf] at HV
        have HX : Hid _ := HV
        clear HV HW
        go_enter Try.func21, Try.ntmps21
        go_wp2_with (first | (go_at_call 32; refine (below_any _ _ _).mono ?_; rintro e w' ⟨rfl, rfl⟩) | (go_at_call 33; refine (branches_any _ _).mono ?_; rintro e w' ⟨rfl, rfl⟩))
        all_goals go_ret
        all_goals exact ⟨ret_int HX.out, (Below.refl _ _).alloc (Nat.le_refl _) _⟩
theorem wrong_mask (jt jf k m : Int) (w : World) : Calls Try.prog 21 #[insV ⟨4, jt, jf, k⟩, .int .i64 m] w fun e w' => e = .returned (.int .i64 (Bp.wrong ⟨4, jt, jf, k⟩ m)) ∧ Below w.heap.size w w' := by
  have HW : Hid ((if (Bp.bel k 2147483648 && Bp.bel jt (min m 41) && Bp.bel jf (min m 41)) = false then 3 else 0) = Bp.wrong ⟨4, jt, jf, k⟩ m) := by unfold Hid Bp.wrong Bp.fits Bp.br; simp
  have hbr : Bp.br 4 = true := rfl
  unfold insV
  cases hk : Bp.bel k 2147483648
  · have HV := HW.out
    simp [hk] at HV
    have HX : Hid _ := HV
    clear HV HW
    by_cases hm : 41 < m
    all_goals
      go_enter Try.func21, Try.ntmps21
      go_wp2_with (first | (go_at_call 32; refine (below_any _ _ _).mono ?_; rintro e w' ⟨rfl, rfl⟩) | (go_at_call 33; refine (branches_any _ _).mono ?_; rintro e w' ⟨rfl, rfl⟩))
      all_goals go_ret
      all_goals exact ⟨ret_int HX.out, (Below.refl _ _).alloc (Nat.le_refl _) _⟩
  · by_cases hm : 41 < m
    · rw [show min m 41 = 41 by omega] at HW
      cases hj : Bp.bel jt 41 <;> cases hf : Bp.bel jf 41
      all_goals
        have HV := HW.out
        simp [hk, hj, hf] at HV
        have HX : Hid _ := HV
        clear HV HW
        go_enter Try.func21, Try.ntmps21
        go_wp2_with (first | (go_at_call 32; refine (below_any _ _ _).mono ?_; rintro e w' ⟨rfl, rfl⟩) | (go_at_call 33; refine (branches_any _ _).mono ?_; rintro e w' ⟨rfl, rfl⟩))
        all_goals go_ret
        all_goals exact ⟨ret_int HX.out, (Below.refl _ _).alloc (Nat.le_refl _) _⟩
    · rw [show min m 41 = m by omega] at HW
      cases hj : Bp.bel jt m <;> cases hf : Bp.bel jf m
      all_goals
        have HV := HW.out
        simp [hk, hj, hf] at HV
        have HX : Hid _ := HV
        clear HV HW
        go_enter Try.func21, Try.ntmps21
        go_wp2_with (first | (go_at_call 32; refine (below_any _ _ _).mono ?_; rintro e w' ⟨rfl, rfl⟩) | (go_at_call 33; refine (branches_any _ _).mono ?_; rintro e w' ⟨rfl, rfl⟩))
        all_goals go_ret
        all_goals exact ⟨ret_int HX.out, (Below.refl _ _).alloc (Nat.le_refl _) _⟩
theorem wrong_back (jt jf k m : Int) (w : World) : Calls Try.prog 21 #[insV ⟨6, jt, jf, k⟩, .int .i64 m] w fun e w' => e = .returned (.int .i64 (Bp.wrong ⟨6, jt, jf, k⟩ m)) ∧ Below w.heap.size w w' := by
  have HW : Hid ((if ¬ (k = 1 ∨ k = 0) then 3 else if jt ≠ 0 ∨ jf ≠ 0 then 2 else 0) = Bp.wrong ⟨6, jt, jf, k⟩ m) := by unfold Hid Bp.wrong Bp.fits Bp.br; simp
  have hbr : Bp.br 6 = false := rfl
  unfold insV
  by_cases h1 : k = 1 <;> by_cases h0 : k = 0 <;> by_cases hj : jt = 0 <;> by_cases hf : jf = 0
  all_goals try (exfalso; omega)
  all_goals
    have HV := HW.out
    simp [h1, h0, hj, hf] at HV
    have HX : Hid _ := HV
    clear HV HW
    try (have h1' : (k == 1) = false := by simp [h1])
    try (have h0' : (k == 0) = false := by simp [h0])
    try (have hj' : (jt != 0) = true := by simp [hj])
    try (have hf' : (jf != 0) = true := by simp [hf])
    try subst h1
    try subst h0
    try subst hj
    try subst hf
    go_enter Try.func21, Try.ntmps21
    go_wp2_with (first | (go_at_call 32; refine (below_any _ _ _).mono ?_; rintro e w' ⟨rfl, rfl⟩) | (go_at_call 33; refine (branches_any _ _).mono ?_; rintro e w' ⟨rfl, rfl⟩))
    all_goals go_ret
    all_goals exact ⟨ret_int HX.out, (Below.refl _ _).alloc (Nat.le_refl _) _⟩
theorem wrong_any (i : Bp.Ins) (m : Int) (w : World) : Calls Try.prog 21 #[insV i, .int .i64 m] w fun e w' => e = .returned (.int .i64 (Bp.wrong i m)) ∧ Below w.heap.size w w' := by
  by_cases h : i.op < 1 ∨ 6 < i.op
  · exact wrong_kind i m h w
  · obtain ⟨op, jt, jf, k⟩ := i
    have : op = 1 ∨ op = 2 ∨ op = 3 ∨ op = 4 ∨ op = 5 ∨ op = 6 := by dsimp only at h; omega
    rcases this with rfl | rfl | rfl | rfl | rfl | rfl
    · exact wrong_load jt jf k m w
    · exact wrong_jump jt jf k m w
    · exact wrong_more jt jf k m w
    · exact wrong_mask jt jf k m w
    · exact wrong_skip jt jf k m w
    · exact wrong_back jt jf k m w
/-- branch, of a jump. -/
theorem branch_z (op jt jf k acc z : Int) (hz : (if Bp.holds ⟨op, jt, jf, k⟩ acc then jt else jf) = z) (w : World) : Calls Try.prog 22 #[.agg #[.int .i64 op, .int .i64 jt, .int .i64 jf, .int .i64 k], .int .i64 acc] w fun e w' => e = .returned (.int .i64 z) ∧ Below w.heap.size w w' := by
  by_cases h2 : op = 2
  · subst h2
    have hc : (if (acc == k) then jt else jf) = z := hz
    clear hz
    cases h : (acc == k)
    all_goals
      rw [h] at hc
      have HR : Hid (_ = z) := hc
      clear hc
      go_enter Try.func22, Try.ntmps22
      go_wp2
      go_ret
      exact ⟨ret_int HR.out, (Below.refl _ _).alloc (Nat.le_refl _) _⟩
  by_cases h3 : op = 3
  · subst h3
    have hc : (if (decide (k ≤ acc)) then jt else jf) = z := hz
    clear hz
    cases h : (decide (k ≤ acc))
    all_goals
      rw [h] at hc
      have HR : Hid (_ = z) := hc
      clear hc
      go_enter Try.func22, Try.ntmps22
      go_wp2
      go_ret
      exact ⟨ret_int HR.out, (Below.refl _ _).alloc (Nat.le_refl _) _⟩
  by_cases h4 : op = 4
  · subst h4
    have hc : (if (bits .and .i64 acc k != 0) then jt else jf) = z := hz
    clear hz
    cases h : (bits .and .i64 acc k != 0)
    all_goals
      rw [h] at hc
      have HR : Hid (_ = z) := hc
      clear hc
      go_enter Try.func22, Try.ntmps22
      go_wp2
      go_ret
      exact ⟨ret_int HR.out, (Below.refl _ _).alloc (Nat.le_refl _) _⟩
  have HR : Hid (jf = z) := by unfold Hid; rw [← hz]; unfold Bp.holds; simp [h2, h3, h4]
  have g2 : (op == 2) = false := by simpa using h2
  have g3 : (op == 3) = false := by simpa using h3
  have g4 : (op == 4) = false := by simpa using h4
  clear h2 h3 h4 hz
  go_enter Try.func22, Try.ntmps22
  go_wp2
  go_ret
  exact ⟨ret_int HR.out, (Below.refl _ _).alloc (Nat.le_refl _) _⟩
theorem branch_any (i : Bp.Ins) (acc : Int) (w : World) : Calls Try.prog 22 #[insV i, .int .i64 acc] w fun e w' => e = .returned (.int .i64 (if Bp.holds i acc then i.jt else i.jf)) ∧ Below w.heap.size w w' :=
  branch_z _ _ _ _ acc _ rfl w
end Go.Proofs.Ytkikghdcnejjfab
