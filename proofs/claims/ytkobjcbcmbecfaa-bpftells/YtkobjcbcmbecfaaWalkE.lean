/-
  What bpf.instr and bpf.Parse answer.
-/
import Derived.Test.YtkobjcbcmbecfaaWalkD
namespace Go.Proofs.Ytkobjcbcmbecfaa
open Go.RowKit
/-- Bytes l lie in block b, from cell o on. -/
def LiesB (w : World) (b o : Nat) (l : List Nat) : Prop :=
  ∀ (i : Nat) (x : Nat), l[i]? = some x → x < 256 ∧ w.cell? ⟨b, o + i, none⟩ = some (.int .u8 x)
theorem i64_or_nat (a b : Nat) (ha : a < 2 ^ 40) (hb : b < 2 ^ 40) : bits .or .i64 (a : Int) (b : Int) = ((a ||| b : Nat) : Int) := by
  have hx : a ||| b < 2 ^ 40 := Nat.or_lt_two_pow ha hb
  show IntKind.i64.wrap ((BitVec.ofInt 64 (a : Int) ||| BitVec.ofInt 64 (b : Int)).toNat : Int) = _
  rw [BitVec.toNat_or, BitVec.ofInt_natCast, BitVec.toNat_ofNat, BitVec.ofInt_natCast, BitVec.toNat_ofNat, IntKind.wrap_i64]
  have e1 : a % 2 ^ 64 = a := by omega
  have e2 : b % 2 ^ 64 = b := by omega
  rw [e1, e2]
  omega
theorem or_add (m a b : Nat) (ha : a < 2 ^ m) (h1 : a < 2 ^ 40) (h2 : b * 2 ^ m < 2 ^ 40) : bits .or .i64 (a : Int) ((b * 2 ^ m : Nat) : Int) = ((a + b * 2 ^ m : Nat) : Int) := by
  rw [i64_or_nat _ _ h1 h2, Nat.or_comm, Nat.mul_comm b, ← Nat.two_pow_add_eq_or_of_lt ha, Nat.add_comm]
theorem or_bytes (b3 b4 b5 b6 : Nat) (l3 : b3 < 256) (l4 : b4 < 256) (l5 : b5 < 256) (l6 : b6 < 256) :
    bits .or .i64 (bits .or .i64 (bits .or .i64 (bits .or .i64 0 (b3 : Int)) ((b4 : Int) * 256)) ((b5 : Int) * 65536)) ((b6 : Int) * 16777216) = ((b3 + 256 * b4 + 65536 * b5 + 16777216 * b6 : Nat) : Int) := by
  have e0 := or_add 0 0 b3 (by omega) (by omega) (by omega)
  have e1 := or_add 8 b3 b4 (by omega) (by omega) (by omega)
  have e2 := or_add 16 (b3 + b4 * 256) b5 (by omega) (by omega) (by omega)
  have e3 := or_add 24 (b3 + b4 * 256 + b5 * 65536) b6 (by omega) (by omega) (by omega)
  simp at e0 e1 e2 e3
  rw [e0, e1, e2, e3]
  omega
theorem instr_any (b o n cap : Nat) (b0 b1 b2 b3 b4 b5 b6 : Nat) (_hn : 7 ≤ n) (_hm : n ≤ maxLen) (w : World) (_hb : b < w.heap.size)
    (c0 : w.cell? ⟨b, o, none⟩ = some (.int .u8 b0)) (c1 : w.cell? ⟨b, o + 1, none⟩ = some (.int .u8 b1)) (c2 : w.cell? ⟨b, o + 2, none⟩ = some (.int .u8 b2)) (c3 : w.cell? ⟨b, o + 3, none⟩ = some (.int .u8 b3)) (c4 : w.cell? ⟨b, o + 4, none⟩ = some (.int .u8 b4)) (c5 : w.cell? ⟨b, o + 5, none⟩ = some (.int .u8 b5)) (c6 : w.cell? ⟨b, o + 6, none⟩ = some (.int .u8 b6))
    (l0 : b0 < 256) (l1 : b1 < 256) (l2 : b2 < 256) (l3 : b3 < 256) (l4 : b4 < 256) (l5 : b5 < 256) (l6 : b6 < 256) :
    Calls Try.prog 48 #[.slice (some ⟨b, o, none⟩) n cap] w fun e w' => e = .returned (insV ⟨b0, b1, b2, (b3 + 256 * b4 + 65536 * b5 + 16777216 * b6 : Nat)⟩) ∧ Below w.heap.size w w' := by
  unfold insV
  go_enter Try.func48, Try.ntmps48
  go_wp2
  go_region
  all_goals (try go_wp2)
  refine wp_loop_rounds 5 ?_
  rw [rounds_succ]
  go_wp2
  go_region
  go_wp2
  rw [rounds_succ]
  go_wp2
  go_region
  go_wp2
  rw [rounds_succ]
  go_wp2
  go_region
  go_wp2
  rw [rounds_succ]
  go_wp2
  go_region
  go_wp2
  rw [rounds_succ]
  go_wp2
  have hor := or_bytes b3 b4 b5 b6 l3 l4 l5 l6
  rw [hor]
  exact bodyPost_ret (v := .agg #[.int .i64 b0, .int .i64 b1, .int .i64 b2, .int .i64 (b3 + 256 * b4 + 65536 * b5 + 16777216 * b6 : Nat)]) (by simp [results, Try.results48, go_sem]) rfl ⟨rfl, (((((((Below.refl _ _).alloc (Nat.le_refl _) _).alloc (by simp) _).drew).drew).drew).drew).drew⟩
/-- The k-th seven of bytes as an instruction. -/
def insOf (l : List Nat) (k : Nat) : Bp.Ins :=
  ⟨l.getD (k * 7) 0, l.getD (k * 7 + 1) 0, l.getD (k * 7 + 2) 0, (l.getD (k * 7 + 3) 0 + 256 * l.getD (k * 7 + 4) 0 + 65536 * l.getD (k * 7 + 5) 0 + 16777216 * l.getD (k * 7 + 6) 0 : Nat)⟩
def sevens (l : List Nat) : List Bp.Ins := (List.range (l.length / 7)).map (insOf l)
/-- The value v is a slice that holds the bytes l, all below block number B. -/
def HoldsB (w : World) (B : Nat) (v : Value) (l : List Nat) : Prop :=
  (∃ a cap, v = .slice a 0 cap ∧ l = []) ∨ ∃ b o cap, v = .slice (some ⟨b, o, none⟩) l.length cap ∧ b < B ∧ l.length ≤ cap ∧ cap ≤ maxLen ∧ LiesB w b o l
theorem LiesB.on {w w' : World} {b o B : Nat} {l : List Nat} (h : LiesB w b o l) (hb : Below B w w') (hB : b < B) : LiesB w' b o l := by
  intro i x hx
  have := h i x hx
  rw [hb.cell (p := ⟨b, _, none⟩) hB]
  exact this
theorem HoldsB.on {w w' : World} {B B' : Nat} {v : Value} {l : List Nat} (h : HoldsB w B v l) (hb : Below B' w w') (hB : B ≤ B') : HoldsB w' B v l := by
  rcases h with h | ⟨b, o, cap, hv, hlt, hlen, hcap, hl⟩
  · exact Or.inl h
  · exact Or.inr ⟨b, o, cap, hv, hlt, hlen, hcap, hl.on hb (by omega)⟩
theorem HoldsB.up {w : World} {B B' : Nat} {v : Value} {l : List Nat} (h : HoldsB w B v l) (hB : B ≤ B') : HoldsB w B' v l := by
  rcases h with h | ⟨b, o, cap, hv, hlt, hlen, hcap, hl⟩
  · exact Or.inl h
  · exact Or.inr ⟨b, o, cap, hv, by omega, hlen, hcap, hl⟩
theorem parse_form (l : List Nat) (v : Value) (w : World) (hv : HoldsB w w.heap.size v l) (h : l.length % 7 ≠ 0 ∨ 400 < l.length / 7) :
    Calls Try.prog 35 #[v] w fun e w' => e = .returned (.tuple #[.slice none 0 0, faultV (2, 0)]) ∧ Below w.heap.size w w' := by
  have hv' : ∃ a cap, v = .slice a l.length cap ∧ l.length ≤ maxLen := by
    rcases hv with ⟨_, _, rfl, rfl⟩ | ⟨b, o, cap, rfl, _, h1, h2, _⟩
    · simp at h
    · exact ⟨_, cap, rfl, by omega⟩
  obtain ⟨a, cap, rfl, hm⟩ := hv'
  clear hv
  unfold faultV
  generalize l.length = n at *
  have hw : wrap64 ((n : Int) / 7) = ((n / 7 : Nat) : Int) := by unfold wrap64; unfold maxLen at hm; omega
  by_cases h7 : n % 7 = 0
  · have h8 : 400 < n / 7 := by omega
    have h9 : ((n : Int) % 7 != 0) = false := by rw [bne_eq_false_iff_eq]; omega
    clear h h7
    go_enter Try.func35, Try.ntmps35
    go_wp2
    exact bodyPost_ret (v := .tuple #[.slice none 0 0, .agg #[.int .i64 2, .int .i64 0]]) (by simp [results, Try.results35, go_sem]) rfl ⟨rfl, (Below.refl _ _).alloc (Nat.le_refl _) _⟩
  · have h9 : ((n : Int) % 7 != 0) = true := by rw [bne_iff_ne]; omega
    clear h h7
    go_enter Try.func35, Try.ntmps35
    go_wp2
    exact bodyPost_ret (v := .tuple #[.slice none 0 0, .agg #[.int .i64 2, .int .i64 0]]) (by simp [results, Try.results35, go_sem]) rfl ⟨rfl, (Below.refl _ _).alloc (Nat.le_refl _) _⟩
theorem Try.info68 : (Try.prog.info? 68).map (fun i => (i.zero, i.size, i.bytes)) = some (some (insV ⟨0, 0, 0, 0⟩), 4, 32) := by kernel_rfl
/-- Places for n instructions, the first k of which are l's. -/
structure Laid (W : World) (g n k : Nat) (l : List Nat) : Prop where
  lt : g < W.heap.size
  there : ∀ j, j < n * 4 → (W.cell? ⟨g, j, none⟩).isSome = true
  soft : ∀ j, W.frozen? ⟨g, j, none⟩ = false
  lies : Lies W g 0 ((List.range k).map (insOf l))
theorem Laid.on {W W' : World} {g n k : Nat} {l : List Nat} (h : Laid W g n k l) (hb : Below W.heap.size W W') : Laid W' g n k l := by
  refine ⟨Nat.lt_of_lt_of_le h.lt hb.size, fun j hj => ?_, fun j => ?_, h.lies.on hb h.lt⟩
  · rw [hb.cell (p := ⟨g, j, none⟩) h.lt]; exact h.there j hj
  · rw [hb.frozen (p := ⟨g, j, none⟩) h.lt]; exact h.soft j
theorem frozen_setCell (w : World) (p a : Addr) (v : Value) : (w.setCell p v).frozen? a = w.frozen? a := by
  simp only [World.setCell, World.frozen?, Array.getElem?_modify]
  by_cases hb : p.block = a.block
  · simp only [hb, if_true]
    cases hh : w.heap[a.block]? with
    | none => simp
    | some x => cases x <;> simp
  · simp [hb]
theorem there_setCell (w : World) (p a : Addr) (v : Value) (h : (w.cell? a).isSome = true) : ((w.setCell p v).cell? a).isSome = true := by
  by_cases e : p = a
  · subst e
    obtain ⟨u, hu⟩ := Option.isSome_iff_exists.1 h
    rw [World.cell?_setCell_same w p v hu]; rfl
  · rw [World.cell?_setCell_other w p a v e]; exact h
/-- One more instruction is laid. -/
def put4 (W : World) (g k : Nat) (x : Bp.Ins) : World :=
  (((W.setCell ⟨g, k * 4, none⟩ (.int .i64 x.op)).setCell ⟨g, k * 4 + 1, none⟩ (.int .i64 x.jt)).setCell ⟨g, k * 4 + 2, none⟩ (.int .i64 x.jf)).setCell ⟨g, k * 4 + 3, none⟩ (.int .i64 x.k)
theorem put4_same {W : World} {g k : Nat} {x : Bp.Ins} (h : ∀ j, j < 4 → (W.cell? ⟨g, k * 4 + j, none⟩).isSome = true) :
    (put4 W g k x).cell? ⟨g, k * 4, none⟩ = some (.int .i64 x.op) ∧ (put4 W g k x).cell? ⟨g, k * 4 + 1, none⟩ = some (.int .i64 x.jt) ∧ (put4 W g k x).cell? ⟨g, k * 4 + 2, none⟩ = some (.int .i64 x.jf) ∧ (put4 W g k x).cell? ⟨g, k * 4 + 3, none⟩ = some (.int .i64 x.k) := by
  have t0 := h 0 (by omega)
  have t1 := h 1 (by omega)
  have t2 := h 2 (by omega)
  have t3 := h 3 (by omega)
  unfold put4
  refine ⟨?_, ?_, ?_, ?_⟩
  · rw [World.cell?_setCell_other _ _ _ _ (by simp), World.cell?_setCell_other _ _ _ _ (by simp), World.cell?_setCell_other _ _ _ _ (by simp)]
    obtain ⟨u, hu⟩ := Option.isSome_iff_exists.1 t0
    exact World.cell?_setCell_same _ _ _ hu
  · rw [World.cell?_setCell_other _ _ _ _ (by simp), World.cell?_setCell_other _ _ _ _ (by simp)]
    obtain ⟨u, hu⟩ := Option.isSome_iff_exists.1 (there_setCell W ⟨g, k * 4, none⟩ _ (.int .i64 x.op) t1)
    exact World.cell?_setCell_same _ _ _ hu
  · rw [World.cell?_setCell_other _ _ _ _ (by simp)]
    obtain ⟨u, hu⟩ := Option.isSome_iff_exists.1 (there_setCell _ ⟨g, k * 4 + 1, none⟩ _ (.int .i64 x.jt) (there_setCell W ⟨g, k * 4, none⟩ _ (.int .i64 x.op) t2))
    exact World.cell?_setCell_same _ _ _ hu
  · obtain ⟨u, hu⟩ := Option.isSome_iff_exists.1 (there_setCell _ ⟨g, k * 4 + 2, none⟩ _ (.int .i64 x.jf) (there_setCell _ ⟨g, k * 4 + 1, none⟩ _ (.int .i64 x.jt) (there_setCell W ⟨g, k * 4, none⟩ _ (.int .i64 x.op) t3)))
    exact World.cell?_setCell_same _ _ _ hu
theorem put4_other (W : World) (g k : Nat) (x : Bp.Ins) (b o : Nat) (h : b ≠ g ∨ o < k * 4 ∨ k * 4 + 3 < o) : (put4 W g k x).cell? ⟨b, o, none⟩ = W.cell? ⟨b, o, none⟩ := by
  unfold put4
  rw [World.cell?_setCell_other _ _ _ _ (by simp; omega), World.cell?_setCell_other _ _ _ _ (by simp; omega), World.cell?_setCell_other _ _ _ _ (by simp; omega), World.cell?_setCell_other _ _ _ _ (by simp; omega)]
theorem put4_there (W : World) (g k : Nat) (x : Bp.Ins) (a : Addr) (h : (W.cell? a).isSome = true) : ((put4 W g k x).cell? a).isSome = true :=
  there_setCell _ _ _ _ (there_setCell _ _ _ _ (there_setCell _ _ _ _ (there_setCell _ _ _ _ h)))
theorem put4_frozen (W : World) (g k : Nat) (x : Bp.Ins) (a : Addr) : (put4 W g k x).frozen? a = W.frozen? a := by
  unfold put4; rw [frozen_setCell, frozen_setCell, frozen_setCell, frozen_setCell]
theorem put4_below {B : Nat} {w W : World} {g k : Nat} {x : Bp.Ins} (h : Below B w W) (hg : B ≤ g) : Below B w (put4 W g k x) :=
  (((h.setCell hg _).setCell hg _).setCell hg _).setCell hg _
theorem Laid.step {W : World} {g n k : Nat} {l : List Nat} (h : Laid W g n k l) (hk : k < n) : Laid (put4 W g k (insOf l k)) g n (k + 1) l := by
  refine ⟨by have := h.lt; simpa [put4] using this, fun j hj => put4_there _ _ _ _ _ (h.there j hj), fun j => by rw [put4_frozen]; exact h.soft j, ?_⟩
  intro i x hx
  rw [List.range_succ, List.map_append] at hx
  simp only [Nat.zero_add]
  by_cases hi : i < k
  · rw [List.getElem?_append_left (by simpa using hi)] at hx
    have := h.lies i x hx
    simp only [Nat.zero_add] at this
    rw [put4_other _ _ _ _ _ _ (by omega), put4_other _ _ _ _ _ _ (by omega), put4_other _ _ _ _ _ _ (by omega), put4_other _ _ _ _ _ _ (by omega)]
    exact this
  · rw [List.getElem?_append_right (by simp; omega)] at hx
    simp only [List.length_map, List.length_range, List.map_cons, List.map_nil] at hx
    have hik : i - k = 0 := by
      rcases Nat.eq_zero_or_pos (i - k) with h | h
      · exact h
      · rw [List.getElem?_eq_none (by simp; omega)] at hx; cases hx
    obtain rfl : i = k := by omega
    simp at hx
    subst hx
    exact put4_same (fun j hj => h.there _ (by omega))
end Go.Proofs.Ytkobjcbcmbecfaa
