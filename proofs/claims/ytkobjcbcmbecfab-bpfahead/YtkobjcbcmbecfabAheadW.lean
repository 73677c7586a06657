/-
  The law BpfAhead, walked.
-/
import Derived.Test.YtkobjcbcmbecfabEndsP
namespace Go.Proofs.Ytkobjcbcmbecfab
open Go.RowKit
namespace Bp
theorem wrong_more_behind {x : Ins} {m m' : Nat} (h : wrong x m = 0) (hm : m ≤ m') : wrong x m' = 0 := by
  have hz := wrong_zero h
  clear h
  obtain ⟨op, jt, jf, k⟩ := x
  dsimp only at hz
  unfold wrong
  rw [if_neg (by dsimp only; omega)]
  rw [if_neg]
  · rw [if_neg]
    unfold br
    dsimp only
    rcases hz with h | h | h | h
    · simp [h]
    · have : op = 2 ∨ op = 3 ∨ op = 4 := h.1
      simp [this]
    · simp [h]
    · simp [h]
  · rcases hz with h | h | h | h
    · simp [fits, bel, h]
    · have e1 : op ≠ 1 := by omega
      have : op = 2 ∨ op = 3 ∨ op = 4 := h.1
      simp [fits, bel, e1, this]
      omega
    · simp [fits, bel, h]
      omega
    · simp [fits, h]
      omega
/-- A skip over others ahead of a program. -/
def ahead (p others : List Ins) : List Ins := ⟨5, 0, 0, others.length⟩ :: (others ++ p)
theorem ahead_good {p others : List Ins} (hp : Good p) (ho : Good others) (h1 : p.length ≤ 150) (h2 : others.length ≤ 150) : Good (ahead p others) := by
  have hl : (ahead p others).length = 1 + others.length + p.length := by simp [ahead]; omega
  have hp1 := hp.one
  refine ⟨by omega, by omega, ?_, ?_⟩
  · intro k x hx
    rw [hl]
    match k, hx with
    | 0, hx =>
      simp [ahead] at hx
      subst hx
      unfold wrong
      rw [if_neg (by dsimp only; omega), if_neg, if_neg]
      · simp [br]
      · simp [fits, bel]; omega
    | k + 1, hx =>
      simp only [ahead, List.getElem?_cons_succ] at hx
      by_cases hk : k < others.length
      · rw [List.getElem?_append_left hk] at hx
        exact wrong_more_behind (ho.each k x hx) (by omega)
      · rw [List.getElem?_append_right (by omega)] at hx
        have := hp.each _ x hx
        rw [show 1 + others.length + p.length - 1 - (k + 1) = p.length - 1 - (k - others.length) by omega]
        exact this
  · intro x hx
    rw [hl, show 1 + others.length + p.length - 1 = (others.length + p.length - 1) + 1 by omega] at hx
    simp only [ahead, List.getElem?_cons_succ] at hx
    rw [List.getElem?_append_right (by omega), show others.length + p.length - 1 - others.length = p.length - 1 by omega] at hx
    exact hp.last x hx
theorem ahead_run {p others : List Ins} (hp : Good p) (ho : Good others) (h1 : p.length ≤ 150) (h2 : others.length ≤ 150) (r : Nat → Int) : run (ahead p others) r = ((run p r).1, (run p r).2 + 1) := by
  have hg := ahead_good hp ho h1 h2
  unfold run
  rw [if_neg (by rw [chk_good hg]; simp), if_neg (by rw [chk_good hp]; simp)]
  unfold ahead
  rw [from', if_neg (by dsimp only; omega)]
  simp [over, acc']
end Bp
/-- The cells of a program. -/
def flat (p : List Bp.Ins) : List Value := p.flatMap fun x => [.int .i64 x.op, .int .i64 x.jt, .int .i64 x.jf, .int .i64 x.k]
theorem flat_length (p : List Bp.Ins) : (flat p).length = p.length * 4 := by
  unfold flat
  induction p with
  | nil => rfl
  | cons a t ih => rw [List.flatMap_cons, List.length_append, ih]; simp; omega
theorem flat_append (p q : List Bp.Ins) : flat (p ++ q) = flat p ++ flat q := List.flatMap_append ..
theorem flat_at : ∀ (p : List Bp.Ins) (i : Nat) (x : Bp.Ins), p[i]? = some x → (flat p)[i * 4]? = some (.int .i64 x.op) ∧ (flat p)[i * 4 + 1]? = some (.int .i64 x.jt) ∧ (flat p)[i * 4 + 2]? = some (.int .i64 x.jf) ∧ (flat p)[i * 4 + 3]? = some (.int .i64 x.k)
  | [], i, x, h => by simp at h
  | a :: t, 0, x, h => by simp at h; subst h; simp [flat]
  | a :: t, i + 1, x, h => by
    have := flat_at t i x (by simpa using h)
    have e : flat (a :: t) = [.int .i64 a.op, .int .i64 a.jt, .int .i64 a.jf, .int .i64 a.k] ++ flat t := rfl
    rw [e]
    rw [List.getElem?_append_right (by simp; omega), List.getElem?_append_right (by simp; omega), List.getElem?_append_right (by simp; omega), List.getElem?_append_right (by simp; omega)]
    simp only [List.length_cons, List.length_nil]
    rw [show (i + 1) * 4 - (0 + 1 + 1 + 1 + 1) = i * 4 by omega, show (i + 1) * 4 + 1 - (0 + 1 + 1 + 1 + 1) = i * 4 + 1 by omega, show (i + 1) * 4 + 2 - (0 + 1 + 1 + 1 + 1) = i * 4 + 2 by omega, show (i + 1) * 4 + 3 - (0 + 1 + 1 + 1 + 1) = i * 4 + 3 by omega]
    exact this
theorem Lies.flat {w : World} {b o : Nat} {p : List Bp.Ins} (h : Lies w b o p) : ∀ j u, (flat p)[j]? = some u → w.cell? ((⟨b, o, none⟩ : Addr).add j) = some u := by
  intro j u hj
  have hlt := (List.getElem?_eq_some_iff.1 hj).1
  rw [flat_length] at hlt
  obtain ⟨q, s, hs, rfl⟩ : ∃ q s, s < 4 ∧ j = q * 4 + s := ⟨j / 4, j % 4, by omega, by omega⟩
  have hx : p[q]? = some (p[q]'(by omega)) := List.getElem?_eq_getElem _
  generalize p[q]'(by omega) = x at hx
  obtain ⟨c0, c1, c2, c3⟩ := h q _ hx
  obtain ⟨e0, e1, e2, e3⟩ := flat_at p q _ hx
  rw [Addr.add_lit]
  have hm : s = 0 ∨ s = 1 ∨ s = 2 ∨ s = 3 := by omega
  rcases hm with rfl | rfl | rfl | rfl
  · rw [Nat.add_zero, e0] at hj; cases hj; exact c0
  · rw [e1] at hj; cases hj; exact c1
  · rw [e2] at hj; cases hj; exact c2
  · rw [e3] at hj; cases hj; exact c3
theorem flat_one (p : List Bp.Ins) : ∀ u ∈ flat p, u.oneCell' = true := by
  intro u hu
  unfold flat at hu
  rw [List.mem_flatMap] at hu
  obtain ⟨x, _, hx⟩ := hu
  simp at hx
  rcases hx with rfl | rfl | rfl | rfl <;> rfl
/-- A row of instructions of one's own holds them. -/
theorem holds_own {w : World} {base : Nat} {v : Value} {p : List Bp.Ins} (h : w.ownsRow base 30 4 v p.length (flat p)) : Holds w w.heap.size v p := by
  have hlt := h.lt
  have hc := fun g hg => h.cells (g := g) hg
  rcases h.2 with ⟨rfl, h0⟩ | ⟨g, cap, cur, rfl, _, _, h1, h2, _, _⟩
  · rw [List.length_eq_zero_iff.1 h0]; exact Holds.nil _ _ _ _
  · refine Or.inr ⟨g, 0, cap, rfl, (hlt g rfl).2, by omega, fun i x hx => ?_⟩
    obtain ⟨e0, e1, e2, e3⟩ := flat_at p i x hx
    have k0 := hc g rfl _ _ e0
    have k1 := hc g rfl _ _ e1
    have k2 := hc g rfl _ _ e2
    have k3 := hc g rfl _ _ e3
    simp only [Addr.add_lit] at k0 k1 k2 k3
    simp only [Nat.zero_add] at k0 k1 k2 k3 ⊢
    exact ⟨k0, k1, k2, k3⟩
theorem Try.infoIns : (Try.prog.info? 30).map (fun i => (i.zero, i.size, i.bytes)) = some (some (insV ⟨0, 0, 0, 0⟩), 4, 32) := by kernel_rfl
theorem wpList_inss {w : World} {ops : Array Oper} {rest : List Oper} {o : Oper} {a : Act} {Q : Exit → Act → World → Prop} (hgd : o.guard = none) (s x : Operand)
    (ho : o.op = .call { callee := .builtin .append, args := #[s, x], argTypes := #[22, 22] }) (base : Nat) (v : Value) (p q : List Bp.Ins) (hs : a.eval s = v) (hown : w.ownsRow base 30 4 v p.length (flat p))
    (b off c : Nat) (hx : a.eval x = .slice (some ⟨b, off, none⟩) q.length c) (hl : Lies w b off q)
    (h63 : p.length + q.length ≤ 1000000) (hbase : base ≤ w.heap.size)
    (h : ∀ v' w', w'.ownsRow base 30 4 v' (p ++ q).length (flat (p ++ q)) → w.grownBy w' v.ownBlock → wpList Try.prog ops Q rest (a.put o.dst v') w') : wpList Try.prog ops Q (o :: rest) a w := by
  obtain ⟨i0, hi, hz0, hz1, hz2⟩ := info_parts Try.infoIns
  refine wpList_append_own w hgd s x 22 ho base 30 i0 (insV ⟨0, 0, 0, 0⟩) 4 32 Try.underlying22 hi hz0 hz1 hz2 rfl (by decide) v p.length (flat p) hs hown ⟨b, off, none⟩ q.length c (flat q) hx (flat_length q) hl.flat (flat_one q) (by unfold maxLen; omega) (by omega) hbase fun v' w' h2 h3 _ => h v' w' ?_ h3
  rw [flat_append, List.length_append]
  exact h2
set_option maxHeartbeats 4000000 in
theorem ahead_good_any (p others : List Bp.Ins) (hp : Bp.Good p) (ho : Bp.Good others) (h1 : p.length ≤ 150) (h2 : others.length ≤ 150) (r : Nat → Int) (b o cap b' o' cap' : Nat) (w : World) (hlt : b < w.heap.size) (hl : Lies w b o p) (hlt' : b' < w.heap.size) (hl' : Lies w b' o' others) :
    Calls Try.prog 3 #[.slice (some ⟨b, o, none⟩) p.length cap, .slice (some ⟨b', o', none⟩) others.length cap', recV r] w fun e w' => e = .returned (.bool true) ∧ Below w.heap.size w w' := by
  have hck : Bp.chk p = (0, 0) := Bp.chk_good hp
  have hck' : Bp.chk others = (0, 0) := Bp.chk_good ho
  have hckq : Bp.chk (Bp.ahead p others) = (0, 0) := Bp.chk_good (Bp.ahead_good hp ho h1 h2)
  have HR : Hid (Bp.run (Bp.ahead p others) r = ((Bp.run p r).1, (Bp.run p r).2 + 1)) := Bp.ahead_run hp ho h1 h2 r
  have HE : Hid ((Bp.run p r).2 ≤ p.length) := (Bp.run_ends (by rw [hck]) r).2.2
  have hLp : Lies (withRec w r) b o p := hl.on (withRec_below w r) hlt
  have hLo : Lies (withRec w r) b' o' others := hl'.on (withRec_below w r) hlt'
  have hp1 := hp.one
  have ho1 := ho.one
  have hfe := fun (w : World) => field_err 0 0 w
  clear hl hl' hp ho
  unfold recV
  go_enter Try.func3, Try.ntmps3
  go_wp2_with fail
  refine (alive_any (withRec w r)).mono ?_
  rintro e w1 ⟨rfl, hb1⟩
  rw [withRec_size] at hb1
  replace hLp := hLp.on hb1 (by omega)
  replace hLo := hLo.on hb1 (by omega)
  have hz : w.heap.size < w1.heap.size := by have := hb1.size; rw [withRec_size] at this; omega
  go_wp2_with fail
  refine (check_any p _ w1 (Or.inr ⟨b, o, cap, rfl, by omega, by unfold maxLen; omega, hLp⟩)).mono ?_
  rintro e w2 ⟨rfl, hb2⟩
  rw [hck]
  unfold faultV
  replace hLp := hLp.on hb2 (by omega)
  replace hLo := hLo.on hb2 (by omega)
  replace hb1 := hb1.trans (hb2.mono (by omega))
  replace hz : w.heap.size < w2.heap.size := by have := hb2.size; omega
  clear hb2
  go_wp2_with fail
  refine (check_any others _ w2 (Or.inr ⟨b', o', cap', rfl, by omega, by unfold maxLen; omega, hLo⟩)).mono ?_
  rintro e w3 ⟨rfl, hb2⟩
  rw [hck']
  unfold faultV
  replace hLp := hLp.on hb2 (by omega)
  replace hLo := hLo.on hb2 (by omega)
  replace hb1 := hb1.trans (hb2.mono (by omega))
  replace hz : w.heap.size < w3.heap.size := by have := hb2.size; omega
  clear hb2
  go_wp2_with (at_builtin; refine wpList_inss rfl _ _ rfl (w.heap.size + 1) _ [⟨5, 0, 0, others.length⟩] others rfl ?a1 b' o' cap' rfl ?a2 ?a3 ?a4 ?_)
  case a1 => exact World.ownsRow_lit _ _ 1 (by omega) (by decide) rfl
  case a2 => exact hLo.on ((Below.refl _ _).alloc (Nat.le_refl _) _) (by omega)
  case a3 => simp; omega
  case a4 => simp; omega
  intro v4 w4 ho4 hg4
  have hsz4 : w3.heap.size + 1 ≤ w4.heap.size := by have := hg4.size; simpa using this
  have hB4 : Below (w.heap.size + 1) (withRec w r) w4 := (hb1.alloc (by omega) _).grown hg4 (by simp; omega) (fun j hj => by simp [Value.ownBlock] at hj; omega)
  have hL4 : Lies w4 b o p := hLp.on (((Below.refl (w.heap.size + 1) w3).alloc (by omega) _).grown hg4 (by simp; omega) (fun j hj => by simp [Value.ownBlock] at hj; omega)) (by omega)
  clear hg4 hLo hLp hb1 hck'
  go_wp2_with (at_builtin; refine wpList_inss rfl _ _ rfl (w.heap.size + 1) _ (⟨5, 0, 0, others.length⟩ :: others) p rfl ho4 b o cap rfl hL4 ?a3 ?a4 ?_)
  case a3 => simp; omega
  case a4 => omega
  intro v5 w5 ho5 hg5
  have hB5 : Below (w.heap.size + 1) (withRec w r) w5 := hB4.grown hg5 (by omega) (fun j hj => (ho4.lt j hj).1)
  have hL5 : Lies w5 b o p := hL4.on ((Below.refl (w.heap.size + 1) w4).grown hg5 (by omega) (fun j hj => (ho4.lt j hj).1)) (by omega)
  have hQ : Holds w5 w5.heap.size v5 (Bp.ahead p others) := holds_own (base := w.heap.size + 1) (by rw [show (Bp.ahead p others).length = others.length + p.length + 1 by simp [Bp.ahead]]; exact ho5)
  have hz5 : w.heap.size < w5.heap.size := by have := hB5.size; rw [withRec_size] at this; omega
  have c0 := rec_cell hB5 0 (by omega)
  have c1 := rec_cell hB5 1 (by omega)
  have c2 := rec_cell hB5 2 (by omega)
  have c3 := rec_cell hB5 3 (by omega)
  have c4 := rec_cell hB5 4 (by omega)
  have c5 := rec_cell hB5 5 (by omega)
  clear hg5 ho5 ho4 hB4 hL4 hsz4 hz
  go_wp2_with fail
  refine (run_any p r _ w5 (Or.inr ⟨b, o, cap, rfl, by omega, by unfold maxLen; omega, hL5⟩)).mono ?_
  rintro e w6 ⟨rfl, hb2⟩
  replace hQ := (hQ.on hb2 (Nat.le_refl _)).up hb2.size
  have hB6 := hB5.trans (hb2.mono (by omega))
  replace c0 := rec_cell hB6 0 (by omega)
  replace c1 := rec_cell hB6 1 (by omega)
  replace c2 := rec_cell hB6 2 (by omega)
  replace c3 := rec_cell hB6 3 (by omega)
  replace c4 := rec_cell hB6 4 (by omega)
  replace c5 := rec_cell hB6 5 (by omega)
  have hz6 : w.heap.size < w6.heap.size := by have := hb2.size; omega
  clear hb2 hB5 hL5 hz5
  go_wp2_with fail
  refine (run_any (Bp.ahead p others) r v5 w6 hQ).mono ?_
  rintro e w7 ⟨rfl, hb2⟩
  rw [HR.out]
  replace hQ := (hQ.on hb2 (Nat.le_refl _)).up hb2.size
  have hB7 := hB6.trans (hb2.mono (by omega))
  have hz7 : w.heap.size < w7.heap.size := by have := hb2.size; omega
  clear hb2 hB6 hz6 c0 c1 c2 c3 c4 c5
  go_wp2_with fail
  refine (check_any (Bp.ahead p others) v5 w7 hQ).mono ?_
  rintro e w8 ⟨rfl, hb2⟩
  rw [hckq]
  unfold faultV
  have hB8 := rec_below (hB7.trans (hb2.mono (by omega)))
  clear hb2 hB7 hQ hckq hck HR
  have hle := HE.out
  generalize Bp.run p r = rr at *
  obtain ⟨rn, rs⟩ := rr
  dsimp only at *
  clear HE
  go_wp2
  go_ret
  exact ⟨by simp, hB8⟩
set_option maxHeartbeats 4000000 in
theorem ahead_not (p others : List Bp.Ins) (hno : (Bp.chk p).1 ≠ 0 ∨ (Bp.chk others).1 ≠ 0 ∨ 150 < p.length ∨ 150 < others.length) (r : Nat → Int) (a a' : Option Addr) (cap cap' : Nat) (w : World) (hv : Holds w w.heap.size (.slice a p.length cap) p) (hv' : Holds w w.heap.size (.slice a' others.length cap') others) :
    Calls Try.prog 3 #[.slice a p.length cap, .slice a' others.length cap', recV r] w fun e w' => e = .returned (.bool true) ∧ Below w.heap.size w w' := by
  have hH : Holds (withRec w r) w.heap.size (.slice a p.length cap) p := hv.on (withRec_below w r) (Nat.le_refl _)
  have hO : Holds (withRec w r) w.heap.size (.slice a' others.length cap') others := hv'.on (withRec_below w r) (Nat.le_refl _)
  have HN : Hid ((Bp.chk p).1 ≠ 0 ∨ (Bp.chk others).1 ≠ 0 ∨ 150 < p.length ∨ 150 < others.length) := hno
  have hfe := fun (w : World) => field_err (Bp.chk p).1 (Bp.chk p).2 w
  have hfe' := fun (w : World) => field_err (Bp.chk others).1 (Bp.chk others).2 w
  clear hv hv' hno
  unfold recV
  go_enter Try.func3, Try.ntmps3
  go_wp2_with fail
  refine (alive_any (withRec w r)).mono ?_
  rintro e w1 ⟨rfl, hb1⟩
  replace hH := hH.on hb1 (by rw [withRec_size]; omega)
  replace hO := hO.on hb1 (by rw [withRec_size]; omega)
  rw [withRec_size] at hb1
  have hB := rec_below hb1
  have hz := hB.size
  clear hb1
  go_wp2_with fail
  refine (check_any p _ w1 (hH.up hz)).mono ?_
  rintro e w2 ⟨rfl, hb2⟩
  unfold faultV
  replace hO := hO.on hb2 hz
  replace hB := hB.trans (hb2.mono hz)
  replace hz := hB.size
  clear hb2 hH
  by_cases h1 : (Bp.chk p).1 = 0
  · have HN2 : Hid ((Bp.chk others).1 ≠ 0 ∨ 150 < p.length ∨ 150 < others.length) := by
      rcases HN.out with h | h
      · exact absurd h1 h
      · exact h
    clear HN hfe
    have hfe := fun (w : World) => field_err 0 (Bp.chk p).2 w
    go_wp2_with fail
    refine (check_any others _ w2 (hO.up hz)).mono ?_
    rintro e w3 ⟨rfl, hb2⟩
    unfold faultV
    replace hB := hB.trans (hb2.mono hz)
    clear hb2 hO hz
    by_cases h2 : (Bp.chk others).1 = 0
    · clear hfe'
      have hfe' := fun (w : World) => field_err 0 (Bp.chk others).2 w
      by_cases h3 : 150 < p.length
      · clear HN2
        go_wp2
        go_ret
        exact ⟨rfl, hB⟩
      · have h4 : 150 < others.length := by have := HN2.out; omega
        clear HN2
        go_wp2
        go_ret
        exact ⟨rfl, hB⟩
    · have h2' : ((Bp.chk others).1 != 0) = true := by simpa using h2
      clear HN2 h2
      go_wp2
      go_ret
      exact ⟨rfl, hB⟩
  · have h1' : ((Bp.chk p).1 != 0) = true := by simpa using h1
    clear HN h1
    go_wp2
    go_ret
    exact ⟨rfl, hB⟩
theorem ahead_any (p others : List Bp.Ins) (r : Nat → Int) (v v' : Value) (w : World) (hv : Holds w w.heap.size v p) (hv' : Holds w w.heap.size v' others) :
    Calls Try.prog 3 #[v, v', recV r] w fun e w' => e = .returned (.bool true) ∧ Below w.heap.size w w' := by
  by_cases hno : (Bp.chk p).1 ≠ 0 ∨ (Bp.chk others).1 ≠ 0 ∨ 150 < p.length ∨ 150 < others.length
  · obtain ⟨a, cap, rfl⟩ := hv.form
    obtain ⟨a', cap', rfl⟩ := hv'.form
    exact ahead_not p others hno r a a' cap cap' w hv hv'
  · have g1 : (Bp.chk p).1 = 0 := by omega
    have g2 : (Bp.chk others).1 = 0 := by omega
    have hp := (Bp.good_iff p).1 g1
    have ho := (Bp.good_iff others).1 g2
    rcases hv with ⟨_, _, rfl, rfl⟩ | ⟨b, o, cap, rfl, hlt, _, hl⟩
    · have := hp.one; simp at this
    rcases hv' with ⟨_, _, rfl, rfl⟩ | ⟨b', o', cap', rfl, hlt', _, hl'⟩
    · have := ho.one; simp at this
    exact ahead_good_any p others hp ho (by omega) (by omega) r b o cap b' o' cap' w hlt hl hlt' hl'
end Go.Proofs.Ytkobjcbcmbecfab
