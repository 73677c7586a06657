/-
  What bpf.Check answers.
-/
import Derived.Test.YtkikghdcnejjfabWalkA
namespace Go.Proofs.Ytkikghdcnejjfab
open Go.RowKit
/-- The instructions p lie in block b, from cell o on. -/
def Lies (w : World) (b o : Nat) (p : List Bp.Ins) : Prop :=
  ∀ (i : Nat) (x : Bp.Ins), p[i]? = some x → w.cell? ⟨b, o + i * 4, none⟩ = some (.int .i64 x.op) ∧ w.cell? ⟨b, o + i * 4 + 1, none⟩ = some (.int .i64 x.jt) ∧ w.cell? ⟨b, o + i * 4 + 2, none⟩ = some (.int .i64 x.jf) ∧ w.cell? ⟨b, o + i * 4 + 3, none⟩ = some (.int .i64 x.k)
theorem Lies.on {w w' : World} {b o B : Nat} {p : List Bp.Ins} (h : Lies w b o p) (hb : Below B w w') (hB : b < B) : Lies w' b o p := by
  intro i x hx
  have := h i x hx
  rw [hb.cell (p := ⟨b, _, none⟩) hB, hb.cell (p := ⟨b, _, none⟩) hB, hb.cell (p := ⟨b, _, none⟩) hB, hb.cell (p := ⟨b, _, none⟩) hB]
  exact this
theorem first_drop (p : List Bp.Ins) (k : Nat) (x : Bp.Ins) (hx : p[k]? = some x) : Bp.first (p.drop k) k = if Bp.wrong x (p.length - 1 - k : Nat) ≠ 0 then some (Bp.wrong x (p.length - 1 - k : Nat), k) else Bp.first (p.drop (k + 1)) (k + 1) := by
  obtain ⟨hk, rfl⟩ := List.getElem?_eq_some_iff.1 hx
  rw [List.drop_eq_getElem_cons hk, Bp.first]
  rw [show (p.drop (k + 1)).length = p.length - 1 - k by simp; omega]
def faultV (f : Int × Nat) : Value := .agg #[.int .i64 f.1, .int .i64 f.2]
/-- The world with a new fault in it. -/
def withFault (w : World) : World := w.alloc (.cells #[.int .i64 0, .int .i64 0] 27)
theorem withFault_size (w : World) : (withFault w).heap.size = w.heap.size + 1 := by simp [withFault]
theorem withFault_below (w : World) : Below w.heap.size w (withFault w) := (Below.refl _ _).alloc (Nat.le_refl _) _
/-- What a fault's two cells are, while nothing below is touched. -/
theorem fault_cells {w wr : World} (hB : Below (w.heap.size + 1) (withFault w) wr) :
    wr.cell? ⟨w.heap.size, 0, none⟩ = some (.int .i64 0) ∧ wr.cell? ⟨w.heap.size, 1, none⟩ = some (.int .i64 0) ∧ wr.frozen? ⟨w.heap.size, 0, none⟩ = false ∧ wr.frozen? ⟨w.heap.size, 1, none⟩ = false := by
  refine ⟨(hB.cell (p := ⟨w.heap.size, 0, none⟩) (by simp)).trans ?_, (hB.cell (p := ⟨w.heap.size, 1, none⟩) (by simp)).trans ?_, (hB.frozen (p := ⟨w.heap.size, 0, none⟩) (by simp)).trans ?_, (hB.frozen (p := ⟨w.heap.size, 1, none⟩) (by simp)).trans ?_⟩
  all_goals simp [withFault]
theorem fault_below {w wr : World} (hB : Below (w.heap.size + 1) (withFault w) wr) (x y : Value) : Below w.heap.size w ((wr.setCell ⟨w.heap.size, 0, none⟩ x).setCell ⟨w.heap.size, 1, none⟩ y) :=
  (((withFault_below w).trans (hB.mono (Nat.le_succ _))).setCell (Nat.le_refl _) _).setCell (Nat.le_refl _) _
def KRel (w : World) (p : List Bp.Ins) (i : Value) (wr : World) : Prop :=
  ∃ k : Nat, k ≤ p.length ∧ i = .int .i64 k ∧ Below (w.heap.size + 1) (withFault w) wr ∧ Bp.first p 0 = Bp.first (p.drop k) k
theorem check_some (p : List Bp.Ins) (b o cap : Nat) (hn : 1 ≤ p.length) (hm : p.length ≤ 400) (w : World) (hb : b < w.heap.size) (hl : Lies w b o p) :
    Calls Try.prog 8 #[.slice (some ⟨b, o, none⟩) p.length cap] w fun e w' => e = .returned (faultV (Bp.chk p)) ∧ Below w.heap.size w w' := by
  have HC : Hid (Bp.chk p = match Bp.first p 0 with | some f => f | none => if (p.getD (p.length - 1) default).op ≠ 6 then (2, p.length - 1) else (0, 0)) := by
    unfold Hid Bp.chk; rw [if_neg (by omega)]; rfl
  have HL : Hid (Lies (withFault w) b o p) := hl.on (withFault_below w) hb
  clear hl
  generalize Bp.chk p = res at *
  obtain ⟨re, ra⟩ := res
  unfold faultV
  go_enter Try.func8, Try.ntmps8
  go_wp2
  go_loopw [21] (fun i wr => KRel w p i wr) (fun i _ => p.length - (intOf i).toNat)
  case atStart => exact ⟨0, Nat.zero_le _, rfl, Below.refl _ _, by simp⟩
  case round =>
    obtain ⟨k, hk, rfl, hB, hF⟩ := hrel
    have HF : Hid (Bp.first p 0 = Bp.first (p.drop k) k) := hF
    have hsz : w.heap.size < wr.heap.size := by have := hB.size; rw [withFault_size] at this; omega
    clear hF
    by_cases hlt : k < p.length
    · have hx : p[k]? = some p[k] := List.getElem?_eq_getElem hlt
      obtain ⟨c0, c1, c2, c3⟩ := (HL.out.on hB (by omega)) k _ hx
      have HD : Hid (Bp.first (p.drop k) k = if Bp.wrong p[k] (p.length - 1 - k : Nat) ≠ 0 then some (Bp.wrong p[k] (p.length - 1 - k : Nat), k) else Bp.first (p.drop (k + 1)) (k + 1)) := first_drop p k _ hx
      have hcast : ((p.length : Int) - 1 - (k : Int)) = ((p.length - 1 - k : Nat) : Int) := by omega
      clear hx
      go_wp2_with fail
      refine (wrong_any p[k] (p.length - 1 - k : Nat) _).mono ?_
      rintro e w2 ⟨rfl, hb2⟩
      have hB2 : Below (w.heap.size + 1) (withFault w) w2 := (hB.alloc (by omega) _).trans (hb2.mono (by simp; omega))
      clear hb2 hB hsz c0 c1 c2 c3 hcast
      generalize Bp.wrong p[k] (p.length - 1 - k : Nat) = x at *
      by_cases hw : x = 0
      · subst hw
        have HN : Hid (Bp.first p 0 = Bp.first (p.drop (k + 1)) (k + 1)) := by unfold Hid; rw [HF.out, HD.out]; simp
        clear HF HD
        go_wp2
        go_roundw
        case rel => exact ⟨k + 1, by omega, by go_num, hB2, HN.out⟩
        case measure => simp [intOf]; omega
      · have hw' : (x != 0) = true := by simp [hw]
        have hres : (re, ra) = (x, k) := by rw [HC.out, HF.out, HD.out]; simp [hw]
        clear HF HD HC hw
        simp only [Prod.mk.injEq] at hres
        obtain ⟨rfl, rfl⟩ := hres
        obtain ⟨d0, d1, f0, f1⟩ := fault_cells hB2
        go_wp2
        exact bodyPost_ret (v := .agg #[.int .i64 re, .int .i64 ra]) (by simp [results, Try.results8, go_sem, d0, d1]) rfl ⟨rfl, fault_below hB2 _ _⟩
    · obtain rfl : k = p.length := by omega
      have hx : p[p.length - 1]? = some (p.getD (p.length - 1) default) := by rw [List.getD_eq_getElem?_getD, List.getElem?_eq_getElem (by omega)]; rfl
      obtain ⟨c0, _, _, _⟩ := (HL.out.on hB (by omega)) (p.length - 1) _ hx
      have hcast : ((p.length : Int) - 1) = ((p.length - 1 : Nat) : Int) := by omega
      have HR : Hid ((re, ra) = if (p.getD (p.length - 1) default).op ≠ 6 then (2, p.length - 1) else (0, 0)) := by
        unfold Hid; rw [HC.out, HF.out]; simp [Bp.first]
      obtain ⟨d0, d1, f0, f1⟩ := fault_cells hB
      clear hx HF HC
      generalize p.getD (p.length - 1) default = x at *
      by_cases h6 : x.op = 6
      · have hR := HR.out
        simp only [h6, ne_eq, not_true, if_false, Prod.mk.injEq] at hR
        obtain ⟨rfl, rfl⟩ := hR
        rw [h6] at c0
        clear HR h6
        go_wp2
        exact bodyPost_ret (v := .agg #[.int .i64 0, .int .i64 0]) (by simp [results, Try.results8, go_sem, d0, d1]) rfl ⟨rfl, fault_below hB _ _⟩
      · have hR := HR.out
        simp only [h6, ne_eq, not_false_eq_true, if_true, Prod.mk.injEq] at hR
        obtain ⟨rfl, rfl⟩ := hR
        have h6' : (x.op != 6) = true := by simp [h6]
        clear HR h6
        go_wp2
        exact bodyPost_ret (v := .agg #[.int .i64 2, .int .i64 (p.length - 1 : Nat)]) (by simp [results, Try.results8, go_sem, d0, d1]) rfl ⟨rfl, fault_below hB _ _⟩
theorem check_many (b : Option Addr) (n cap : Nat) (hn : n < 1 ∨ 400 < n) (w : World) :
    Calls Try.prog 8 #[.slice b n cap] w fun e w' => e = .returned (.agg #[.int .i64 5, .int .i64 0]) ∧ Below w.heap.size w w' := by
  by_cases h : n < 1
  · obtain rfl : n = 0 := by omega
    go_enter Try.func8, Try.ntmps8
    go_wp2
    exact bodyPost_ret (v := .agg #[.int .i64 5, .int .i64 0]) (by simp [results, Try.results8, go_sem]) rfl ⟨rfl, (Below.refl _ _).alloc (Nat.le_refl _) _⟩
  · have h2 : 400 < n := by omega
    clear hn h
    go_enter Try.func8, Try.ntmps8
    go_wp2
    exact bodyPost_ret (v := .agg #[.int .i64 5, .int .i64 0]) (by simp [results, Try.results8, go_sem]) rfl ⟨rfl, (Below.refl _ _).alloc (Nat.le_refl _) _⟩
/-- The value v is a slice that holds the program p, all below block number B. -/
def Holds (w : World) (B : Nat) (v : Value) (p : List Bp.Ins) : Prop :=
  (∃ a cap, v = .slice a 0 cap ∧ p = []) ∨ ∃ b o cap, v = .slice (some ⟨b, o, none⟩) p.length cap ∧ b < B ∧ p.length ≤ maxLen ∧ Lies w b o p
theorem Holds.on {w w' : World} {B B' : Nat} {v : Value} {p : List Bp.Ins} (h : Holds w B v p) (hb : Below B' w w') (hB : B ≤ B') : Holds w' B v p := by
  rcases h with h | ⟨b, o, cap, hv, hlt, hlen, hl⟩
  · exact Or.inl h
  · exact Or.inr ⟨b, o, cap, hv, hlt, hlen, hl.on hb (by omega)⟩
theorem Holds.up {w : World} {B B' : Nat} {v : Value} {p : List Bp.Ins} (h : Holds w B v p) (hB : B ≤ B') : Holds w B' v p := by
  rcases h with h | ⟨b, o, cap, hv, hlt, hlen, hl⟩
  · exact Or.inl h
  · exact Or.inr ⟨b, o, cap, hv, by omega, hlen, hl⟩
theorem Holds.nil (w : World) (B : Nat) (a : Option Addr) (cap : Nat) : Holds w B (.slice a 0 cap) [] := Or.inl ⟨a, cap, rfl, rfl⟩
/-- bpf.Check tells what the document says. -/
theorem check_any (p : List Bp.Ins) (v : Value) (w : World) (hv : Holds w w.heap.size v p) :
    Calls Try.prog 8 #[v] w fun e w' => e = .returned (faultV (Bp.chk p)) ∧ Below w.heap.size w w' := by
  by_cases hn : p.length < 1 ∨ 400 < p.length
  · have hc : Bp.chk p = (5, 0) := by unfold Bp.chk; rw [if_pos hn]
    rw [hc]
    rcases hv with ⟨a, cap, rfl, rfl⟩ | ⟨b, o, cap, rfl, _, _, _⟩
    · exact check_many a 0 cap (by simp) w
    · exact check_many _ p.length cap hn w
  · rcases hv with ⟨a, cap, rfl, rfl⟩ | ⟨b, o, cap, rfl, hlt, _, hl⟩
    · simp at hn
    · exact check_some p b o cap (by omega) (by omega) w hlt hl
end Go.Proofs.Ytkikghdcnejjfab
