/-
  What gate.verdict makes of masks.
-/
import Derived.Test.YtkikghdcnejjfabGWalkD
import Derived.Test.YtkikghdcnejjfabOwn
namespace Go.Proofs.Ytkikghdcnejjfab
open Go.RowKit
theorem runMakeFunc' (fn : Fn) (first cap : Array Value) (w : World) : (Instr.makeFunc fn first cap).run Try.prog w = .ok (.func fn first cap) w := rfl
/-- A variable, in block g, that has a program of one's own; all below B is as it was. -/
def VInv (w0 : World) (B g : Nat) (w : World) (p : List Bp.Ins) : Prop :=
  ∃ v, w.heap[g]? = some (.cells #[v] 22 (0, 0)) ∧ w.ownsRow (g + 1) 30 4 v p.length (flat p) ∧ Below B w0 w ∧ B ≤ g
theorem VInv.lt {w0 w : World} {B g : Nat} {p : List Bp.Ins} (h : VInv w0 B g w p) : g < w.heap.size := by
  obtain ⟨v, h1, _⟩ := h
  exact lt_of_block h1
theorem VInv.alloc {w0 w : World} {B g : Nat} {p : List Bp.Ins} (h : VInv w0 B g w p) (o : Obj) : VInv w0 B g (w.alloc o) p := by
  have hlt := h.lt
  obtain ⟨v, h1, h2, h3, h4⟩ := h
  exact ⟨v, by rw [Below.heap_alloc _ _ _ hlt]; exact h1, h2.alloc o, h3.alloc (by omega) o, h4⟩
theorem ins_lies (w : World) (i : Bp.Ins) : Lies (w.alloc (.cells #[.int .i64 i.op, .int .i64 i.jt, .int .i64 i.jf, .int .i64 i.k] 30)) w.heap.size 0 [i] := by
  intro k x hx
  match k, hx with
  | 0, hx =>
    simp at hx
    subst hx
    simp
  | k + 1, hx => simp at hx
/-- Blocks of other things than instructions are as they were. -/
def Beside (g : Nat) (w w' : World) : Prop := ∀ (b : Nat) (cs : Array Value) (t : TypeId) (fz : Nat × Nat), b ≠ g → t ≠ 30 → w.heap[b]? = some (.cells cs t fz) → w'.heap[b]? = some (.cells cs t fz)
theorem own_other {w : World} {base : Nat} {size : Nat} {v : Value} {n : Nat} {xs : List Value} (h : w.ownsRow base 30 size v n xs) {b : Nat} {cs : Array Value} {t : TypeId} {fz : Nat × Nat} (hb : w.heap[b]? = some (.cells cs t fz)) (ht : t ≠ 30) : v.ownBlock ≠ some b := by
  intro e
  rcases h.2 with ⟨rfl, _⟩ | ⟨g, cap, cur, rfl, _, hg, _⟩
  · simp [Value.ownBlock] at e
  · simp [Value.ownBlock] at e
    subst e
    rw [hb] at hg
    simp at hg
    exact ht hg.2.1
theorem own_form {w : World} {base : Nat} {e : TypeId} {size : Nat} {v : Value} {n : Nat} {xs : List Value} (h : w.ownsRow base e size v n xs) (hn : 1 ≤ n) : ∃ g cap, v = .slice (some ⟨g, 0, none⟩) n cap := by
  rcases h.2 with ⟨_, h0⟩ | ⟨g, cap, cur, hv, _⟩
  · omega
  · exact ⟨g, cap, hv⟩
set_option maxHeartbeats 1000000 in
theorem emit_any (op k jt : Int) (w0 : World) (B g : Nat) (p : List Bp.Ins) (w : World) (hI : VInv w0 B g w p) (hp : p.length ≤ 100000) :
    Calls Try.prog 38 #[.int .i64 op, .int .i64 k, .int .i64 jt, .pointer (some ⟨g, 0, none⟩)] w fun e w' => e = .returned (.tuple #[]) ∧ VInv w0 B g w' (p ++ [⟨op, jt, 0, k⟩]) ∧ Beside g w w' := by
  have hlt := hI.lt
  obtain ⟨v, h1, h2, h3, h4⟩ := hI
  have hc := cell_of_one h1
  have hown := h2.alloc (.cells #[.int .i64 op, .int .i64 jt, .int .i64 0, .int .i64 k] 30)
  have hblk := (Below.heap_alloc w (.cells #[.int .i64 op, .int .i64 jt, .int .i64 0, .int .i64 k] 30) g hlt).trans h1
  have hB := h3.alloc (by omega) (.cells #[.int .i64 op, .int .i64 jt, .int .i64 0, .int .i64 k] 30)
  have HL := ins_lies w ⟨op, jt, 0, k⟩
  clear h2 h1 h3
  go_enter Try.func38, Try.ntmps38
  go_wp2_with (at_builtin; refine wpList_inss rfl _ _ rfl (g + 1) v p [⟨op, jt, 0, k⟩] rfl hown w.heap.size 0 1 rfl HL ?a1 ?a2 ?_)
  case a1 => first | omega | (simp; omega)
  case a2 => first | omega | (simp; omega)
  intro v' w' ho hg
  obtain ⟨g', cap', rfl⟩ := own_form ho (by simp)
  have hne : v.ownBlock ≠ some g := fun e => by have := (hown.lt g e).1; omega
  have hblk' : w'.heap[g]? = some (.cells #[v] 22 (0, 0)) := (hg.block g (by simp; omega) (fun e => hne (by first | exact e.symm | exact e))).trans hblk
  have hfz := free_of_one hblk'
  have hcl := cell_of_one hblk'
  have hB' : Below B w0 w' := hB.grown hg (by simp; omega) (fun j hj => by have := (hown.lt j hj).1; omega)
  have HO : Hid _ := hown
  clear hown hblk hB HL hc
  go_wp2
  go_end0
  refine ⟨rfl, ⟨_, one_setCell hblk', ?_, hB'.setCell h4 _, h4⟩, ?_⟩
  · rw [List.length_append]
    exact ownsRow_setCell_other (a := ⟨g, 0, none⟩) ho (fun e => by have := (ho.lt g e).1; omega) _
  · intro b' cs t fz hbg ht hb'
    rw [Below.heap_setCell _ _ _ _ hbg]
    have hlt' := lt_of_block hb'
    have hb2 := (Below.heap_alloc w (.cells #[.int .i64 op, .int .i64 jt, .int .i64 0, .int .i64 k] 30) b' hlt').trans hb'
    rw [hg.block b' (by simp; omega) (fun e => own_other HO.out hb2 ht (by first | exact e.symm | exact e))]
    exact hb2
theorem vm_drop (ms : List (Int × Int)) (k : Nat) (m : Int × Int) (hm : ms[k]? = some m) : Gp.vm (ms.drop k) = ⟨1, 0, 0, m.1⟩ :: ⟨4, 2 * ((ms.length : Int) - 1 - k) + 1, 0, m.2⟩ :: Gp.vm (ms.drop (k + 1)) := by
  obtain ⟨hk, rfl⟩ := List.getElem?_eq_some_iff.1 hm
  rw [List.drop_eq_getElem_cons hk, Gp.vm]
  congr 2
  congr 1
  rw [List.length_drop]
  omega
def vstart (w : World) : World := w.alloc (.cells #[.slice none 0 0] 22)
theorem vstart_inv (w : World) : VInv w w.heap.size w.heap.size (vstart w) [] := by
  refine ⟨.slice none 0 0, ?_, ⟨rfl, Or.inl ⟨rfl, rfl⟩⟩, (Below.refl _ _).alloc (Nat.le_refl _) _, Nat.le_refl _⟩
  show (w.heap.push _)[w.heap.size]? = _
  simp
set_option maxHeartbeats 4000000 in
theorem verdict_some (ms : List (Int × Int)) (b o cap : Nat) (w : World) (hb : b < w.heap.size) (hl : MLies w b o ms) (h1 : 1 ≤ ms.length) (h3 : ms.length ≤ 3) :
    Calls Try.prog 29 #[.slice (some ⟨b, o, none⟩) ms.length cap] w fun e w' => ∃ x, e = .returned x ∧ w'.ownsRow (w.heap.size + 1) 30 4 x (Gp.verdict ms).length (flat (Gp.verdict ms)) ∧ Below w.heap.size w w' := by
  have HL : Hid (MLies w b o ms) := hl
  have hmk := runMakeFunc'
  have HI := vstart_inv w
  unfold vstart at HI
  have H0 : Hid _ := HI
  have HVD : Hid (Gp.verdict ms = Gp.vm ms ++ [⟨6, 0, 0, 0⟩]) := by unfold Hid Gp.verdict; rw [if_pos (by omega)]
  generalize Gp.verdict ms = vd at *
  clear hl HI
  go_enter Try.func29, Try.ntmps29
  go_wp2
  clear hmk
  go_loopw [11] (fun i wr => ∃ (k : Nat) (p : List Bp.Ins), k ≤ ms.length ∧ i = .int .i64 k ∧ VInv w w.heap.size w.heap.size wr p ∧ p.length = 2 * k ∧ Gp.vm ms = p ++ Gp.vm (ms.drop k)) (fun i _ => ms.length - (intOf i).toNat)
  case atStart => exact ⟨0, [], Nat.zero_le _, rfl, H0.out, rfl, by simp⟩
  case round =>
    obtain ⟨k, p, hk, rfl, hI, hpl, hF⟩ := hrel
    have HF : Hid (Gp.vm ms = p ++ Gp.vm (ms.drop k)) := hF
    have hlt0 := hI.lt
    have HI : Hid (VInv w w.heap.size w.heap.size wr p) := hI
    clear hF hI H0
    by_cases hlt : k < ms.length
    · have hx : ms[k]? = some ms[k] := List.getElem?_eq_getElem hlt
      obtain ⟨c0, c1⟩ := (HL.out.on (by obtain ⟨v, _, _, h, _⟩ := HI.out; exact h) hb) k _ hx
      have HD : Hid (Gp.vm (ms.drop k) = _) := vm_drop ms k _ hx
      clear hx
      generalize ms[k] = m at *
      obtain ⟨mw, mb⟩ := m
      dsimp only at c0 c1 HD
      go_wp2_with fail
      refine (emit_any 1 mw 0 w w.heap.size w.heap.size p _ (HI.out.alloc _) (by omega)).mono ?_
      rintro e w2 ⟨rfl, hI2, hS2⟩
      have hbox := hS2 wr.heap.size #[.int .i64 mw, .int .i64 mb] 53 (0, 0) (by omega) (by decide) (by show (wr.heap.push _)[wr.heap.size]? = _; simp)
      have cB : w2.cell? ⟨wr.heap.size, 1, none⟩ = some (.int .i64 mb) := by simp [World.cell?, hbox]
      have HI2 : Hid _ := hI2
      clear HI hS2 hbox hI2 c0 c1
      go_wp2_with fail
      refine (emit_any 4 mb (2 * ((ms.length : Int) - 1 - k) + 1) w w.heap.size w.heap.size _ _ HI2.out (by simp; omega)).mono ?_
      rintro e w3 ⟨rfl, hI3, -⟩
      have HN : Hid (Gp.vm ms = ((p ++ [⟨1, 0, 0, mw⟩]) ++ [⟨4, 2 * ((ms.length : Int) - 1 - k) + 1, 0, mb⟩]) ++ Gp.vm (ms.drop (k + 1))) := by
        unfold Hid; rw [HF.out, HD.out]; simp
      clear HI2 HF HD cB
      go_wp2
      exact ⟨⟨k + 1, _, by omega, by go_num, hI3, by simp; omega, HN.out⟩, by simp [intOf]; omega⟩
    · obtain rfl : k = ms.length := by omega
      have HN : Hid (Gp.vm ms = p ++ [⟨6, 0, 0, 1⟩]) := by unfold Hid; rw [HF.out, List.drop_length]; rfl
      clear HF
      go_wp2_with fail
      refine (emit_any 6 1 0 w w.heap.size w.heap.size p _ HI.out (by omega)).mono ?_
      rintro e w2 ⟨rfl, hI2, -⟩
      rw [← HN.out] at hI2
      have HI2 : Hid _ := hI2
      have hvl : (Gp.vm ms).length ≤ 100000 := by rw [Gp.vm_length]; omega
      clear HI hI2 HN
      go_wp2_with fail
      refine (emit_any 6 0 0 w w.heap.size w.heap.size _ _ HI2.out hvl).mono ?_
      rintro e w3 ⟨rfl, hI3, -⟩
      rw [← HVD.out] at hI3
      obtain ⟨v, hv1, hv2, hv3, -⟩ := hI3
      have hc := cell_of_one hv1
      clear HI2 hv1 HVD
      go_wp2
      go_ret
      exact ⟨_, rfl, hv2, hv3⟩
theorem verdict_any (ms : List (Int × Int)) (v : Value) (w : World) (hv : MHolds w w.heap.size v ms) (h3 : ms.length ≤ 3) :
    Calls Try.prog 29 #[v] w fun e w' => ∃ x, e = .returned x ∧ w'.ownsRow (w.heap.size + 1) 30 4 x (Gp.verdict ms).length (flat (Gp.verdict ms)) ∧ Below w.heap.size w w' := by
  by_cases h1 : 1 ≤ ms.length
  · rcases hv with ⟨a, cap, rfl, rfl⟩ | ⟨b, o, cap, rfl, hlt, _, hl⟩
    · simp at h1
    · exact verdict_some ms b o cap w hlt hl h1 h3
  · obtain rfl : ms = [] := List.length_eq_zero_iff.1 (by omega)
    obtain ⟨a, cap, rfl, -⟩ := hv.form
    have hmk := runMakeFunc'
    have HI := vstart_inv w
    unfold vstart at HI
    have H0 : Hid _ := HI
    have HVD : Hid (Gp.verdict [] = [] ++ [⟨6, 0, 0, 1⟩]) := rfl
    generalize Gp.verdict [] = vd at *
    clear HI hv
    simp only [List.length_nil]
    go_enter Try.func29, Try.ntmps29
    go_wp2
    refine wp_loop_rounds 1 ?_
    rw [rounds_succ]
    go_wp2_with fail
    refine (emit_any 6 1 0 w w.heap.size w.heap.size [] _ H0.out (by simp)).mono ?_
    rintro e w3 ⟨rfl, hI3, -⟩
    rw [← HVD.out] at hI3
    obtain ⟨v, hv1, hv2, hv3, -⟩ := hI3
    have hc := cell_of_one hv1
    clear H0 hv1 HVD
    go_wp2
    go_ret
    exact ⟨_, rfl, hv2, hv3⟩
end Go.Proofs.Ytkikghdcnejjfab
