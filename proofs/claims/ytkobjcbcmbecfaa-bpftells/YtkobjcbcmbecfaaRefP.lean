/-
  The document's own answer: rgref1.Program.
-/
import Derived.Test.YtkobjcbcmbecfaaRefB
import Derived.Deep.RegionHeldLaw
import Derived.Deep.AppendLies
namespace Go.Proofs.Ytkobjcbcmbecfaa
open Go.RowKit
theorem rbytes_any (p : List Bp.Ins) (v : Value) (w : World) (hv : Holds w w.heap.size v p) :
    Calls Try.prog 34 #[v] w fun e w' => ∃ x, e = .returned (.tuple #[x, faultV (Bp.chk p)]) ∧ Below w.heap.size w w' ∧ HoldsB w' w'.heap.size x (byts p) := by
  unfold byts
  by_cases h0 : (Bp.chk p).1 = 0
  · have hg := (Bp.good_iff p).1 h0
    rw [if_pos h0, Bp.chk_good hg]
    refine (rbytes_good p v w hv hg).mono fun e w' ⟨x, h1, h2, h3⟩ => ⟨x, h1, h2, ?_⟩
    rw [← bytes_length] at h3
    exact holdsB_own h3 (bytes_lt p)
  · rw [if_neg h0]
    exact (rbytes_bad p v w hv h0).mono fun e w' ⟨h1, h2⟩ => ⟨_, h1, h2, Or.inl ⟨_, _, rfl, rfl⟩⟩
/-- The cells of a program. -/
def flat (p : List Bp.Ins) : List Value := p.flatMap fun x => [.int .i64 x.op, .int .i64 x.jt, .int .i64 x.jf, .int .i64 x.k]
theorem flat_at : ∀ (p : List Bp.Ins) (i : Nat) (x : Bp.Ins), p[i]? = some x → (flat p)[i * 4]? = some (.int .i64 x.op) ∧ (flat p)[i * 4 + 1]? = some (.int .i64 x.jt) ∧ (flat p)[i * 4 + 2]? = some (.int .i64 x.jf) ∧ (flat p)[i * 4 + 3]? = some (.int .i64 x.k)
  | [], i, x, h => by simp at h
  | a :: t, 0, x, h => by simp at h; subst h; simp [flat]
  | a :: t, i + 1, x, h => by
    have := flat_at t i x (by simpa using h)
    have e : flat (a :: t) = [.int .i64 a.op, .int .i64 a.jt, .int .i64 a.jf, .int .i64 a.k] ++ flat t := rfl
    rw [e]
    rw [List.getElem?_append_right (by simp; omega), List.getElem?_append_right (by simp; omega), List.getElem?_append_right (by simp; omega), List.getElem?_append_right (by simp; omega)]
    simp only [List.length_cons, List.length_nil]
    rw [show (i + 1) * 4 - (0 + 1 + 1 + 1 + 1) = i * 4 by omega, show (i + 1) * 4 + 1 - (0 + 1 + 1 + 1 + 1) = i * 4 + 1 by omega, show (i + 1) * 4 + 2 - (0 + 1 + 1 + 1 + 1) = i * 4 + 2 by omega, show (i + 1) * 4 + 3 - (0 + 1 + 1 + 1 + 1) = i * 4 + 3 by omega]
    exact this
theorem flat_snoc (p : List Bp.Ins) (x : Bp.Ins) : flat (p ++ [x]) = flat p ++ [.int .i64 x.op, .int .i64 x.jt, .int .i64 x.jf, .int .i64 x.k] := by
  unfold flat; rw [List.flatMap_append]; simp
/-- A row of instructions of one's own holds them. -/
theorem holds_own {w : World} {base : Nat} {v : Value} {p : List Bp.Ins} (h : w.ownsRow base 68 4 v p.length (flat p)) : Holds w w.heap.size v p := by
  have hlt := h.lt
  have hc := fun g hg => h.cells (g := g) hg
  rcases h.2 with ⟨rfl, h0⟩ | ⟨g, cap, cur, rfl, _, _, h1, h2, _, _⟩
  · rw [List.length_eq_zero_iff.1 h0]; exact Holds.nil _ _ _ _
  · refine Or.inr ⟨g, 0, cap, rfl, (hlt g rfl).2, by omega, fun i x hx => ?_⟩
    obtain ⟨e0, e1, e2, e3⟩ := flat_at p i x hx
    have k0 := hc g rfl _ _ e0
    have k1 := hc g rfl _ _ e1
    have k2 := hc g rfl _ _ e2
    have k3 := hc g rfl _ _ e3
    simp only [Addr.add_lit] at k0 k1 k2 k3
    simp only [Nat.zero_add] at k0 k1 k2 k3 ⊢
    exact ⟨k0, k1, k2, k3⟩
theorem wrap_near (K : Nat) (h : K ≤ 1000000) : ∀ c : Int, (c = 1 ∨ c = 2) → IntKind.i64.wrap ((K : Int) + c) = (K : Int) + c := by intro c hc; rw [IntKind.wrap_i64]; omega
theorem wrap_byte : ∀ z : Nat, z < 256 → IntKind.i64.wrap (z : Int) = (z : Int) := by intro z hz; rw [IntKind.wrap_i64]; omega
def GRel (w : World) (n : Nat) (l : List Nat) (v i : Value) (wr : World) : Prop :=
  ∃ k : Nat, k ≤ n ∧ i = .int .i64 (k * 7 : Nat) ∧ Below (w.heap.size + 1) (withFault w) wr ∧ wr.ownsRow (w.heap.size + 1) 68 4 v k (flat ((List.range k).map (insOf l)))
set_option maxRecDepth 100000 in
set_option maxHeartbeats 4000000 in
theorem rprog_read (l : List Nat) (h7 : l.length % 7 = 0) (hm : l.length / 7 ≤ 400) (b o cap : Nat) (_hlen : l.length ≤ cap) (_hcap : cap ≤ maxLen) (w : World) (hb : b < w.heap.size) (hl : LiesB w b o l) :
    Calls Try.prog 36 #[.slice (some ⟨b, o, none⟩) l.length cap] w fun e w' =>
      ((Bp.chk (sevens l)).1 ≠ 0 → e = .returned (.tuple #[.slice none 0 0, faultV (Bp.chk (sevens l))]) ∧ Below w.heap.size w w') ∧
      ((Bp.chk (sevens l)).1 = 0 → ∃ x, e = .returned (.tuple #[x, faultV (0, 0)]) ∧ Below w.heap.size w w' ∧ Holds w' w'.heap.size x (sevens l)) := by
  have HL : Hid (LiesB (withFault w) b o l) := hl.on (withFault_below w) hb
  have hn7 : 7 * (l.length / 7) = l.length := by omega
  have h9 : (l.length : Int) % 7 = 0 := by omega
  have hw : ((l.length : Int) / 7) = ((l.length / 7 : Nat) : Int) := by omega
  clear hl h7
  generalize hN : l.length / 7 = N at *
  have HN : Hid (l.length / 7 = N) := hN
  clear hN
  obtain ⟨i0, hi, hz0, hz1, hz2⟩ := info_parts Try.info68
  go_enter Try.func36, Try.ntmps36
  go_wp2
  go_loopw [4, 5] (fun v i wr => GRel w N l v i wr) (fun _ i _ => l.length - (intOf i).toNat)
  case atStart => exact ⟨0, Nat.zero_le _, rfl, Below.refl _ _, World.ownsRow_nil _ _ _ _⟩
  case round =>
    obtain ⟨k, hk, rfl, hB, hown⟩ := hrel
    clear h9
    have hsz : w.heap.size < wr.heap.size := by have := hB.size; rw [withFault_size] at this; omega
    by_cases hlt : k < N
    · have hLr := HL.out.on hB (by omega)
      obtain ⟨l0, c0⟩ := liesB_getD hLr (k * 7) (by omega)
      obtain ⟨l1, c1⟩ := liesB_getD hLr (k * 7 + 1) (by omega)
      obtain ⟨l2, c2⟩ := liesB_getD hLr (k * 7 + 2) (by omega)
      obtain ⟨l3, c3⟩ := liesB_getD hLr (k * 7 + 3) (by omega)
      obtain ⟨l4, c4⟩ := liesB_getD hLr (k * 7 + 4) (by omega)
      obtain ⟨l5, c5⟩ := liesB_getD hLr (k * 7 + 5) (by omega)
      obtain ⟨l6, c6⟩ := liesB_getD hLr (k * 7 + 6) (by omega)
      have HI : Hid (insOf l k = ⟨l.getD (k * 7) 0, l.getD (k * 7 + 1) 0, l.getD (k * 7 + 2) 0, (l.getD (k * 7 + 3) 0 + 256 * l.getD (k * 7 + 4) 0 + 65536 * l.getD (k * 7 + 5) 0 + 16777216 * l.getD (k * 7 + 6) 0 : Nat)⟩) := rfl
      clear hLr
      generalize l.getD (k * 7) 0 = b0 at *
      generalize l.getD (k * 7 + 1) 0 = b1 at *
      generalize l.getD (k * 7 + 2) 0 = b2 at *
      generalize l.getD (k * 7 + 3) 0 = b3 at *
      generalize l.getD (k * 7 + 4) 0 = b4 at *
      generalize l.getD (k * 7 + 5) 0 = b5 at *
      generalize l.getD (k * 7 + 6) 0 = b6 at *
      have hK7 : k * 7 + 7 ≤ l.length := by omega
      have HK : Hid (∃ q, q = k * 7) := ⟨_, rfl⟩
      generalize hKe : k * 7 = K at *
      have HKe : Hid (k * 7 = K) := hKe
      have i0' : (0 : Int) ≤ (K : Int) := by omega
      have i1 : (0 : Int) ≤ (K : Int) + 1 := by omega
      have i2 : (0 : Int) ≤ (K : Int) + 2 := by omega
      have j0 : (K : Int) < (l.length : Int) := by omega
      have j1 : (K : Int) + 1 < (l.length : Int) := by omega
      have j2 : (K : Int) + 2 < (l.length : Int) := by omega
      have HW1 : Hid (∀ c : Int, (c = 1 ∨ c = 2) → IntKind.i64.wrap ((K : Int) + c) = (K : Int) + c) := wrap_near K (by omega)
      clear hKe HK
      go_wp2_with fail
      refine wp_loop_rounds 5 ?_
      rw [rounds_succ]
      go_wp2
      rw [rounds_succ]
      go_wp2
      rw [rounds_succ]
      go_wp2
      rw [rounds_succ]
      go_wp2
      rw [rounds_succ]
      go_wp2
      have w' := HW1.out
      have wb := wrap_byte
      have tn2 : ((K : Int) + 2).toNat = K + 2 := by clear w'; omega
      have hne : u4.ownBlock ≠ some b := fun e => by have := (hown.lt b e).1; omega
      go_region_held_law (fun w' => w'.cell? ⟨b, o + K, none⟩ = some (.int .u8 b0) ∧ w'.cell? ⟨b, o + (K + 1), none⟩ = some (.int .u8 b1) ∧ w'.cell? ⟨b, o + (K + 2), none⟩ = some (.int .u8 b2))
        (first
          | go_keep
          | (go_split_ands
             refine ⟨?_, ?_, ?_⟩
             · (rw [hgrow.cell_far _ (by simp; omega) (Ne.symm hne)]; assumption)
             · (rw [hgrow.cell_far _ (by simp; omega) (Ne.symm hne)]; assumption)
             · (rw [hgrow.cell_far _ (by simp; omega) (Ne.symm hne)]; assumption)))
        ((refine step_append_lies _ (by rfl) _ _ _ (by rfl) (w.heap.size + 1) 68 i0 _ 4 32 Try.underlying43 hi hz0 hz1 hz2 rfl (by omega) u4 k _ (by rfl) ((hown.alloc _).drew)
            ⟨wr.heap.size, 0, none⟩ 1 1 [.int .i64 b0, .int .i64 b1, .int .i64 b2, .int .i64 (256 * (256 * (256 * (b6 : Int) + b5) + b4) + b3)] (by rfl) (by rfl) (World.news_of_block (cs := #[.int .i64 b0, .int .i64 b1, .int .i64 b2, .int .i64 (256 * (256 * (256 * (b6 : Int) + b5) + b4) + b3)]) (t := 68) (fr := (0, 0)) (heap_alloc_new wr _)) (by simp [Value.oneCell'])
            (by omega) (by unfold maxLen; omega) (by omega) (by simp; omega) (wr.heap.size + 1) (by simp) ?_; intro gg cap1 w1 hown1 hgrow hat hlt1))
      go_wp2
      go_roundw
      case rel =>
        refine ⟨k + 1, by omega, congrArg (Value.int .i64) (by have := HKe.out; omega), ((hB.alloc (by omega) _).drew).grown hgrow (by simp; omega) (fun j hj => (hown.lt j hj).1), ?_⟩
        rw [List.range_succ, List.map_append, List.map_cons, List.map_nil, flat_snoc, HI.out]
        dsimp only
        rw [show ((b3 + 256 * b4 + 65536 * b5 + 16777216 * b6 : Nat) : Int) = 256 * (256 * (256 * (b6 : Int) + b5) + b4) + b3 by omega]
        exact hown1
      case measure => simp [intOf]; omega
    · obtain rfl : k = N := by omega
      have hlk : (List.map (insOf l) (List.range k)) = sevens l := by unfold sevens; rw [HN.out]
      rw [hlk] at hown
      have hkl : k = (sevens l).length := by unfold sevens; simp [HN.out]
      have HH : Hid (Holds wr wr.heap.size u4 (sevens l)) := holds_own (base := w.heap.size + 1) (by rw [← hkl]; exact hown)
      have hne : u4.ownBlock ≠ some w.heap.size := fun e => by have := (hown.lt w.heap.size e).1; omega
      clear hown hlk hkl
      go_wp2_with fail
      refine (rcheck_any (sevens l) _ wr HH.out).mono ?_
      rintro e w2 ⟨rfl, hb2⟩
      have hB2 : Below (w.heap.size + 1) (withFault w) w2 := hB.trans (hb2.mono (by omega))
      have HH2 : Hid (Holds w2 wr.heap.size u4 (sevens l)) := HH.out.on hb2 (Nat.le_refl _)
      have hsz3 : w.heap.size < w2.heap.size := Nat.lt_of_lt_of_le hsz hb2.size
      have hszr : wr.heap.size ≤ w2.heap.size := hb2.size
      clear hb2 hB HH hsz
      generalize hF : Bp.chk (sevens l) = f at *
      obtain ⟨fe, fa⟩ := f
      have HF : Hid (Bp.chk (sevens l) = (fe, fa)) := hF
      clear hF
      obtain ⟨d0, d1, f0, f1⟩ := fault_cells hB2
      unfold faultV
      by_cases hf : fe = 0
      · subst hf
        go_wp2
        refine bodyPost_ret (v := .tuple #[u4, .agg #[.int .i64 0, .int .i64 0]]) (by simp [results, Try.results36, go_sem, d0, d1, hsz3]) rfl ⟨fun h => absurd (by rw [HF.out]) h, fun _ => ⟨_, rfl, (fault_below hB2 _ _).alloc (by simp; omega) _, ?_⟩⟩
        exact Holds.up (B := wr.heap.size) (Holds.on (B' := w2.heap.size) ((HH2.out.far _ _ hne).far _ _ hne) ((Below.refl _ _).alloc (by simp) _) hszr) (by simp; omega)
      · have hf' : (fe != 0) = true := by simp [hf]
        go_wp2
        go_region
        all_goals (try go_wp2)
        exact bodyPost_ret (v := .tuple #[.slice none 0 0, .agg #[.int .i64 fe, .int .i64 fa]]) (by simp [results, Try.results36, go_sem, d0, d1, hsz3]) rfl ⟨fun _ => ⟨by rw [HF.out]; rfl, ((fault_below hB2 _ _).alloc (by simp; omega) _).drew⟩, fun h => absurd (by rw [HF.out] at h; exact h) hf⟩
theorem rprog_form (l : List Nat) (v : Value) (w : World) (hv : HoldsB w w.heap.size v l) (h : l.length % 7 ≠ 0 ∨ 400 < l.length / 7) :
    Calls Try.prog 36 #[v] w fun e w' => e = .returned (.tuple #[.slice none 0 0, faultV (2, 0)]) ∧ Below w.heap.size w w' := by
  have hv' : ∃ a cap, v = .slice a l.length cap ∧ l.length ≤ maxLen := by
    rcases hv with ⟨_, _, rfl, rfl⟩ | ⟨b, o, cap, rfl, _, h1, h2, _⟩
    · simp at h
    · exact ⟨_, cap, rfl, by omega⟩
  obtain ⟨a, cap, rfl, hm⟩ := hv'
  clear hv
  unfold faultV
  generalize l.length = n at *
  have hw : wrap64 ((n : Int) / 7) = ((n / 7 : Nat) : Int) := by unfold wrap64; unfold maxLen at hm; omega
  by_cases h7 : n % 7 = 0
  · have h8 : 400 < n / 7 := by omega
    have h9 : (n : Int) % 7 = 0 := by omega
    clear h h7
    go_enter Try.func36, Try.ntmps36
    go_wp2
    exact bodyPost_ret (v := .tuple #[.slice none 0 0, .agg #[.int .i64 2, .int .i64 0]]) (by simp [results, Try.results36, go_sem]) rfl ⟨rfl, (Below.refl _ _).alloc (Nat.le_refl _) _⟩
  · have h9 : (0 : Int) < (n : Int) % 7 := by omega
    clear h h7
    go_enter Try.func36, Try.ntmps36
    go_wp2
    exact bodyPost_ret (v := .tuple #[.slice none 0 0, .agg #[.int .i64 2, .int .i64 0]]) (by simp [results, Try.results36, go_sem]) rfl ⟨rfl, (Below.refl _ _).alloc (Nat.le_refl _) _⟩
theorem rprog_nil (a : Option Addr) (cap : Nat) (w : World) :
    Calls Try.prog 36 #[.slice a 0 cap] w fun e w' => e = .returned (.tuple #[.slice none 0 0, faultV (5, 0)]) ∧ Below w.heap.size w w' := by
  unfold faultV
  go_enter Try.func36, Try.ntmps36
  go_wp2
  refine wp_loop_rounds 1 ?_
  rw [rounds_succ]
  go_wp2_with fail
  refine (rcheck_many _ 0 0 (by omega) (withFault w)).mono ?_
  rintro e w2 ⟨rfl, hb2⟩
  rw [withFault_size] at hb2
  have hsz3 : w.heap.size < w2.heap.size := by have := hb2.size; rw [withFault_size] at this; omega
  obtain ⟨d0, d1, f0, f1⟩ := fault_cells hb2
  go_wp2
  go_region
  all_goals (try go_wp2)
  exact bodyPost_ret (v := .tuple #[.slice none 0 0, .agg #[.int .i64 5, .int .i64 0]]) (by simp [results, Try.results36, go_sem, d0, d1, hsz3]) rfl ⟨rfl, ((fault_below hb2 _ _).alloc (by simp; omega) _).drew⟩
/-- rgref1.Program answers what the document says. -/
theorem rprog_any (l : List Nat) (v : Value) (w : World) (hv : HoldsB w w.heap.size v l) :
    Calls Try.prog 36 #[v] w fun e w' => ∃ x, e = .returned (.tuple #[x, faultV (prs l).2]) ∧ Below w.heap.size w w' ∧ Holds w' w'.heap.size x (prs l).1 := by
  unfold prs
  by_cases h : l.length % 7 ≠ 0 ∨ 400 < l.length / 7
  · rw [if_pos h]
    exact (rprog_form l v w hv h).mono fun e w' ⟨h1, h2⟩ => ⟨_, h1, h2, Holds.nil _ _ _ _⟩
  · rw [if_neg h]
    rcases hv with ⟨a, cap, rfl, rfl⟩ | ⟨b, o, cap, rfl, hlt, h1, h2, hl⟩
    · exact (rprog_nil a cap w).mono fun e w' ⟨h1, h2⟩ => ⟨_, h1, h2, Holds.nil _ _ _ _⟩
    · refine (rprog_read l (by omega) (by omega) b o cap h1 h2 w hlt hl).mono fun e w' ⟨g1, g2⟩ => ?_
      by_cases h0 : (Bp.chk (sevens l)).1 = 0
      · rw [if_neg (by simpa using h0)]
        exact g2 h0
      · rw [if_pos h0]
        obtain ⟨a, b⟩ := g1 h0
        exact ⟨_, a, b, Holds.nil _ _ _ _⟩
end Go.Proofs.Ytkobjcbcmbecfaa
