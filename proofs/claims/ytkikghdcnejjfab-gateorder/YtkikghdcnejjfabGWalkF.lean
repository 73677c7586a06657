/-
  What gate.Compile makes of policies.
-/
import Derived.Test.YtkikghdcnejjfabGWalkE
namespace Go.Proofs.Ytkikghdcnejjfab
open Go.RowKit
theorem own_below {w w' : World} {base B : Nat} {e : TypeId} {size : Nat} {v : Value} {n : Nat} {xs : List Value} (h : w.ownsRow base e size v n xs) (hb : Below B w w') (hB : ∀ k, v.ownBlock = some k → k < B) : w'.ownsRow base e size v n xs := by
  obtain ⟨h1, h2⟩ := h
  refine ⟨h1, ?_⟩
  rcases h2 with h2 | ⟨g, cap, cur, hv, hg, hh, r⟩
  · exact Or.inl h2
  · subst hv
    exact Or.inr ⟨g, cap, cur, rfl, hg, by rw [hb.block g (hB g rfl)]; exact hh, r⟩
theorem lies_own {w : World} {base g n cap : Nat} {p : List Bp.Ins} (h : w.ownsRow base 30 4 (.slice (some ⟨g, 0, none⟩) n cap) p.length (flat p)) (hp : 1 ≤ p.length) : Lies w g 0 p := by
  rcases holds_own h with ⟨a, c, hv, rfl⟩ | ⟨b, o, c, hv, _, _, hl⟩
  · simp at hp
  · simp only [Value.slice.injEq, Option.some.injEq, Addr.mk.injEq] at hv
    obtain ⟨⟨rfl, rfl, -⟩, -, -⟩ := hv
    exact hl
theorem comp_drop (l : List Gp.Pol) (k : Nat) (P : Gp.Pol) (hP : l[k]? = some P) : Gp.body (l.drop k) = (⟨2, 0, ((Gp.verdict P.masks).length : Int), P.call⟩ :: Gp.verdict P.masks) ++ Gp.body (l.drop (k + 1)) := by
  obtain ⟨hk, rfl⟩ := List.getElem?_eq_some_iff.1 hP
  rw [List.drop_eq_getElem_cons hk, Gp.body_cons, Gp.part]
def CRel (w : World) (l : List Gp.Pol) (v i : Value) (wr : World) : Prop :=
  ∃ (k : Nat) (p : List Bp.Ins), k ≤ l.length ∧ i = .int .i64 k ∧ 1 ≤ p.length ∧ p.length ≤ 1 + 9 * k ∧ wr.ownsRow (w.heap.size + 1) 30 4 v p.length (flat p) ∧ Below (w.heap.size + 1) (withFault w) wr ∧ Gp.comp l = p ++ Gp.body (l.drop k)
set_option maxRecDepth 100000 in
set_option maxHeartbeats 4000000 in
theorem compile_some (l : List Gp.Pol) (hf : Gp.Fine l) (b o cap : Nat) (w : World) (hb : b < w.heap.size) (hl : PLies w w.heap.size b o l) (hc1 : l.length ≤ cap) (hc2 : cap ≤ maxLen) :
    Calls Try.prog 15 #[.slice (some ⟨b, o, none⟩) l.length cap] w fun e w' => ∃ x, e = .returned (.tuple #[x, .agg #[.int .i64 0, .int .i64 0]]) ∧ w'.ownsRow (w.heap.size + 1) 30 4 x (Gp.comp l).length (flat (Gp.comp l)) ∧ Below w.heap.size w w' := by
  have HL : Hid (PLies (withFault w) w.heap.size b o l) := hl.on (withFault_below w) hb (Nat.le_refl _)
  have HE : Hid (∀ P ∈ l, Gp.OkP P) := hf.each
  have hfew := hf.few
  have HW : Hid (Gp.wrongP l = (0, 0)) := Gp.wrongP_fine hf
  have HV : Hid (PHolds (withFault w) (withFault w).heap.size (.slice (some ⟨b, o, none⟩) l.length cap) l) := Or.inr ⟨b, o, cap, rfl, by rw [withFault_size]; omega, hc1, hc2, HL.out.up (by rw [withFault_size]; omega)⟩
  clear hl hf
  go_enter Try.func15, Try.ntmps15
  go_wp2_with fail
  refine (gWrong_any l _ (withFault w) HV.out).mono ?_
  rintro e w1 ⟨rfl, hb1⟩
  rw [HW.out]
  unfold faultV
  rw [withFault_size] at hb1
  have hz1 : w.heap.size < w1.heap.size := by have := hb1.size; rw [withFault_size] at this; omega
  clear HV HW
  go_wp2_with fail
  go_loopw [5, 19] (fun v i wr => CRel w l v i wr) (fun _ i _ => l.length - (intOf i).toNat)
  case atStart =>
    refine ⟨0, [⟨1, 0, 0, 0⟩], Nat.zero_le _, rfl, by simp, by simp, ?_, ?_, by simp [Gp.comp]⟩
    · rw [show w1.heap.size + 1 = (w1.alloc (.cells #[.int .i64 0, .int .i64 0] 27)).heap.size by simp]
      exact World.ownsRow_lit _ _ 1 (by simp; omega) (by decide) rfl
    · exact (hb1.alloc (by omega) _).alloc (by first | omega | (simp; omega) | skip) _
  case round =>
    obtain ⟨k, p, hk, rfl, hp1, hp9, hown, hB, hF⟩ := hrel
    have HF : Hid (Gp.comp l = p ++ Gp.body (l.drop k)) := hF
    have hsz : w.heap.size < wr.heap.size := by have := hB.size; rw [withFault_size] at this; omega
    have HB1 : Hid (Below (w.heap.size + 1) (withFault w) w1) := hb1
    clear hF hb1
    by_cases hlt : k < l.length
    · have hx : l[k]? = some l[k] := List.getElem?_eq_getElem hlt
      obtain ⟨c0, mv, c1, hM⟩ := (HL.out.on hB (by omega) (by omega)) k _ hx
      have HD : Hid (Gp.body (l.drop k) = _) := comp_drop l k _ hx
      have hok := HE.out _ (List.getElem_mem hlt)
      have hm3 := hok.few
      clear hx hok
      generalize l[k] = P at *
      obtain ⟨call, ms⟩ := P
      dsimp only at c0 hM HD hm3
      obtain ⟨am, capm, rfl, hmm⟩ := hM.form
      have hM1 := (hM.on ((Below.refl wr.heap.size wr).alloc (Nat.le_refl _) (.cells #[.int .i64 call, .slice am ms.length capm] 41)) (by omega)).up (B' := (wr.alloc (.cells #[.int .i64 call, .slice am ms.length capm] 41)).heap.size) (by simp; omega)
      have HM : Hid _ := hM1
      have hB0 := hB.alloc (by omega) (.cells #[.int .i64 call, .slice am ms.length capm] 41)
      have hown0 := hown.alloc (.cells #[.int .i64 call, .slice am ms.length capm] 41)
      have HOL : Hid (∀ j, _ = some j → _ ≤ j ∧ j < wr.heap.size) := hown.lt
      clear hM hM1 hB hown
      unfold maxLen at hmm
      go_wp2_with fail
      refine (verdict_any ms _ _ HM.out hm3).mono ?_
      rintro e w2 ⟨x, rfl, hox, hb2⟩
      have hvl := Gp.verdict_length ms
      have hzz : (wr.alloc (.cells #[.int .i64 call, .slice am ms.length capm] 41)).heap.size = wr.heap.size + 1 := by simp
      rw [hzz] at hox hb2
      have hz2 := hb2.size
      rw [hzz] at hz2
      have hown2 := own_below hown0 hb2 (fun j hj => by have := (HOL.out j hj).2; omega)
      have hB2 := hB0.trans (hb2.mono (by omega))
      have cC : w2.cell? ⟨wr.heap.size, 0, none⟩ = some (.int .i64 call) := (hb2.cell (p := ⟨wr.heap.size, 0, none⟩) (by simp)).trans (by simp)
      generalize hvd : Gp.verdict ms = vd at *
      obtain ⟨gx, capx, rfl⟩ := own_form hox hvl.1
      have hgx := hox.lt gx rfl
      have hLx := lies_own hox hvl.1
      have hown3 := hown2.alloc (.cells #[.int .i64 2, .int .i64 0, .int .i64 vd.length, .int .i64 call] 30)
      have HL3 := ins_lies w2 ⟨2, 0, vd.length, call⟩
      have hLx3 : Lies _ gx 0 vd := hLx.on ((Below.refl w2.heap.size w2).alloc (Nat.le_refl _) (.cells #[.int .i64 2, .int .i64 0, .int .i64 vd.length, .int .i64 call] 30)) hgx.2
      have hB3 := hB2.alloc (by omega) (.cells #[.int .i64 2, .int .i64 0, .int .i64 vd.length, .int .i64 call] 30)
      clear hown0 hb2 hox hown2 HM hB0 c0 c1 hB2 hLx
      go_wp2_with (at_builtin; refine wpList_inss rfl _ _ rfl (w.heap.size + 1) _ p [⟨2, 0, vd.length, call⟩] rfl hown3 w2.heap.size 0 1 rfl HL3 ?a1 ?a2 ?_)
      case a1 => first | omega | (simp; omega)
      case a2 => first | omega | (simp; omega)
      intro v4 w4 ho4 hg4
      replace ho4 : w4.ownsRow (w.heap.size + 1) 30 4 v4 (p ++ [(⟨2, 0, vd.length, call⟩ : Bp.Ins)]).length (flat (p ++ [(⟨2, 0, vd.length, call⟩ : Bp.Ins)])) := by rw [List.length_append]; exact ho4
      have hB4 : Below (w.heap.size + 1) (withFault w) w4 := hB3.grown hg4 (by simp; omega) (fun j hj => (hown3.lt j hj).1)
      have hL4 : Lies w4 gx 0 vd := by
        intro i x hx
        have := hLx3 i x hx
        have hne : u5.ownBlock ≠ some gx := fun e => by have := (HOL.out gx e).2; omega
        have hcell : ∀ q, w4.cell? ⟨gx, q, none⟩ = _ := fun q => World.cell?_of_block (hg4.block gx (by simp; omega) (fun e => hne (by first | exact e.symm | exact e)))
        rw [hcell, hcell, hcell, hcell]
        exact this
      have hz4 : w2.heap.size + 1 ≤ w4.heap.size := by have := hg4.size; simpa using this
      clear hg4 hown3 HL3 hLx3 hB3 cC
      go_wp2_with (at_builtin; refine wpList_inss rfl _ _ rfl (w.heap.size + 1) v4 (p ++ [⟨2, 0, vd.length, call⟩]) vd rfl ho4 gx 0 capx rfl hL4 ?a3 ?a4 ?_)
      case a3 => simp; omega
      case a4 => omega
      intro v5 w5 ho5 hg5
      have hB5 : Below (w.heap.size + 1) (withFault w) w5 := hB4.grown hg5 (by omega) (fun j hj => (ho4.lt j hj).1)
      have HN : Hid (Gp.comp l = (p ++ (⟨2, 0, vd.length, call⟩ :: vd)) ++ Gp.body (l.drop (k + 1))) := by
        unfold Hid; rw [HF.out, HD.out]; simp
      clear hg5 ho4 hL4 hB4 HF HD
      go_wp2
      exact ⟨⟨k + 1, _, by omega, by go_num, by simp; omega, by simp; omega, by rw [List.length_append, List.length_cons]; exact ho5, hB5, HN.out⟩, by simp [intOf]; omega⟩
    · obtain rfl : k = l.length := by omega
      have HN : Hid (Gp.comp l = p ++ [⟨6, 0, 0, 0⟩]) := by unfold Hid; rw [HF.out, List.drop_length]; rfl
      have hown3 := hown.alloc (.cells #[.int .i64 6, .int .i64 0, .int .i64 0, .int .i64 0] 30)
      have HL3 := ins_lies wr ⟨6, 0, 0, 0⟩
      have hB3 := hB.alloc (by omega) (.cells #[.int .i64 6, .int .i64 0, .int .i64 0, .int .i64 0] 30)
      clear HF hB hown
      go_wp2_with (at_builtin; refine wpList_inss rfl _ _ rfl (w.heap.size + 1) _ p [⟨6, 0, 0, 0⟩] rfl hown3 wr.heap.size 0 1 rfl HL3 ?b1 ?b2 ?_)
      case b1 => first | omega | (simp; omega)
      case b2 => first | omega | (simp; omega)
      intro v4 w4 ho4 hg4
      have hB4 : Below (w.heap.size + 1) (withFault w) w4 := hB3.grown hg4 (by simp; omega) (fun j hj => (hown3.lt j hj).1)
      replace ho4 : w4.ownsRow (w.heap.size + 1) 30 4 v4 (p ++ [(⟨6, 0, 0, 0⟩ : Bp.Ins)]).length (flat (p ++ [(⟨6, 0, 0, 0⟩ : Bp.Ins)])) := by rw [List.length_append]; exact ho4
      rw [← HN.out] at ho4
      clear hg4 hown3 HL3 hB3 HN
      obtain ⟨d0, d1, f0, f1⟩ := fault_cells hB4
      have hlo : ∀ (a : Addr) (u : Value), a.block = w.heap.size → v4.ownBlock ≠ some a.block := fun a u e h => by have := (ho4.lt _ h).1; omega
      have HO : Hid (w4.ownsRow (w.heap.size + 1) 30 4 v4 (Gp.comp l).length (flat (Gp.comp l))) := ho4
      clear ho4
      go_wp2
      refine bodyPost_ret (v := .tuple #[v4, .agg #[.int .i64 0, .int .i64 0]]) (by simp [results, Try.results15, go_sem, d0, d1]) rfl ⟨_, rfl, ?_, fault_below hB4 _ _⟩
      exact ownsRow_setCell_other (a := ⟨w.heap.size, 1, none⟩) (ownsRow_setCell_other (a := ⟨w.heap.size, 0, none⟩) HO.out (hlo _ undef rfl) _) (hlo _ undef rfl) _
set_option maxHeartbeats 1000000 in
theorem compile_nil (a : Option Addr) (cap : Nat) (w : World) :
    Calls Try.prog 15 #[.slice a 0 cap] w fun e w' => ∃ x, e = .returned (.tuple #[x, .agg #[.int .i64 0, .int .i64 0]]) ∧ w'.ownsRow (w.heap.size + 1) 30 4 x (Gp.comp []).length (flat (Gp.comp [])) ∧ Below w.heap.size w w' := by
  go_enter Try.func15, Try.ntmps15
  go_wp2_with fail
  refine (gWrong_nil a cap (withFault w)).mono ?_
  rintro e w1 ⟨rfl, hb1⟩
  rw [withFault_size] at hb1
  have hz1 : w.heap.size < w1.heap.size := by have := hb1.size; rw [withFault_size] at this; omega
  go_wp2_with fail
  refine wp_loop_rounds 1 ?_
  rw [rounds_succ]
  have hown : ((w1.alloc (.cells #[.int .i64 0, .int .i64 0] 27)).alloc (.cells #[.int .i64 1, .int .i64 0, .int .i64 0, .int .i64 0] 30)).ownsRow (w.heap.size + 1) 30 4 (.slice (some ⟨w1.heap.size + 1, 0, none⟩) 1 1) ([⟨1, 0, 0, 0⟩] : List Bp.Ins).length (flat [⟨1, 0, 0, 0⟩]) := by
    rw [show w1.heap.size + 1 = (w1.alloc (.cells #[.int .i64 0, .int .i64 0] 27)).heap.size by simp]
    exact World.ownsRow_lit _ _ 1 (by simp; omega) (by decide) rfl
  have hB0 : Below (w.heap.size + 1) (withFault w) ((w1.alloc (.cells #[.int .i64 0, .int .i64 0] 27)).alloc (.cells #[.int .i64 1, .int .i64 0, .int .i64 0, .int .i64 0] 30)) := (hb1.alloc (by omega) _).alloc (by simp; omega) _
  have hzz : ((w1.alloc (.cells #[.int .i64 0, .int .i64 0] 27)).alloc (.cells #[.int .i64 1, .int .i64 0, .int .i64 0, .int .i64 0] 30)).heap.size = w1.heap.size + 2 := by simp
  generalize ((w1.alloc (.cells #[.int .i64 0, .int .i64 0] 27)).alloc (.cells #[.int .i64 1, .int .i64 0, .int .i64 0, .int .i64 0] 30)) = wr at *
  have hown3 := hown.alloc (.cells #[.int .i64 6, .int .i64 0, .int .i64 0, .int .i64 0] 30)
  have HL3 := ins_lies wr ⟨6, 0, 0, 0⟩
  have hB3 := hB0.alloc (by omega) (.cells #[.int .i64 6, .int .i64 0, .int .i64 0, .int .i64 0] 30)
  have HZZ : Hid _ := hzz
  have hzw : w.heap.size + 1 ≤ wr.heap.size := by omega
  clear hown hB0 hzz
  go_wp2_with (at_builtin; refine wpList_inss rfl _ _ rfl (w.heap.size + 1) (.slice (some ⟨w1.heap.size + 1, 0, none⟩) 1 1) [⟨1, 0, 0, 0⟩] [⟨6, 0, 0, 0⟩] rfl hown3 wr.heap.size 0 1 rfl HL3 ?b1 ?b2 ?_)
  case b2 => first | omega | (simp; omega)
  intro v4 w4 ho4 hg4
  have hB4 : Below (w.heap.size + 1) (withFault w) w4 := hB3.grown hg4 (by simp; omega) (fun j hj => (hown3.lt j hj).1)
  replace ho4 : w4.ownsRow (w.heap.size + 1) 30 4 v4 (Gp.comp []).length (flat (Gp.comp [])) := ho4
  clear hg4 hown3 HL3 hB3
  obtain ⟨d0, d1, f0, f1⟩ := fault_cells hB4
  have hlo : ∀ (a : Addr) (u : Value), a.block = w.heap.size → v4.ownBlock ≠ some a.block := fun a u e h => by have := (ho4.lt _ h).1; omega
  have HO : Hid (w4.ownsRow (w.heap.size + 1) 30 4 v4 (Gp.comp []).length (flat (Gp.comp []))) := ho4
  clear ho4
  go_wp2
  refine bodyPost_ret (v := .tuple #[v4, .agg #[.int .i64 0, .int .i64 0]]) (by simp [results, Try.results15, go_sem, d0, d1]) rfl ⟨_, rfl, ?_, fault_below hB4 _ _⟩
  exact ownsRow_setCell_other (a := ⟨w.heap.size, 1, none⟩) (ownsRow_setCell_other (a := ⟨w.heap.size, 0, none⟩) HO.out (hlo _ undef rfl) _) (hlo _ undef rfl) _
theorem compile_fine (l : List Gp.Pol) (hf : Gp.Fine l) (v : Value) (w : World) (hv : PHolds w w.heap.size v l) :
    Calls Try.prog 15 #[v] w fun e w' => ∃ x, e = .returned (.tuple #[x, .agg #[.int .i64 0, .int .i64 0]]) ∧ w'.ownsRow (w.heap.size + 1) 30 4 x (Gp.comp l).length (flat (Gp.comp l)) ∧ Below w.heap.size w w' := by
  rcases hv with ⟨a, cap, rfl, rfl⟩ | ⟨b, o, cap, rfl, hlt, h1, h2, hl⟩
  · exact compile_nil a cap w
  · exact compile_some l hf b o cap w hlt hl h1 h2
theorem fault_there {w w1 : World} (hB : Below (w.heap.size + 1) (withFault w) w1) (x y : Value) (o : Obj) :
    (((w1.setCell ⟨w.heap.size, 0, none⟩ x).setCell ⟨w.heap.size, 1, none⟩ y).alloc o).cell? ⟨w.heap.size, 0, none⟩ = some x ∧ (((w1.setCell ⟨w.heap.size, 0, none⟩ x).setCell ⟨w.heap.size, 1, none⟩ y).alloc o).cell? ⟨w.heap.size, 1, none⟩ = some y := by
  have hz : w.heap.size < w1.heap.size := by have := hB.size; rw [withFault_size] at this; omega
  obtain ⟨d0, d1, -, -⟩ := fault_cells hB
  have hA : Below w1.heap.size ((w1.setCell ⟨w.heap.size, 0, none⟩ x).setCell ⟨w.heap.size, 1, none⟩ y) (((w1.setCell ⟨w.heap.size, 0, none⟩ x).setCell ⟨w.heap.size, 1, none⟩ y).alloc o) := (Below.refl _ _).alloc (by simp) o
  refine ⟨(hA.cell (p := ⟨w.heap.size, 0, none⟩) hz).trans ?_, (hA.cell (p := ⟨w.heap.size, 1, none⟩) hz).trans ?_⟩
  · rw [World.cell?_setCell_other _ _ _ _ (by simp)]
    exact World.cell?_setCell_same _ _ _ d0
  · exact World.cell?_setCell_same _ _ _ ((World.cell?_setCell_other _ _ _ _ (by simp)).trans d1)
theorem compile_bad (l : List Gp.Pol) (h0 : (Gp.wrongP l).1 ≠ 0) (v : Value) (w : World) (hv : PHolds w w.heap.size v l) :
    Calls Try.prog 15 #[v] w fun e w' => e = .returned (.tuple #[.slice none 0 0, faultV (Gp.wrongP l)]) ∧ Below w.heap.size w w' := by
  have HV : Hid (PHolds (withFault w) (withFault w).heap.size v l) := (hv.on (withFault_below w) (Nat.le_refl _)).up (by rw [withFault_size]; omega)
  generalize hw : Gp.wrongP l = f at *
  obtain ⟨fe, fa⟩ := f
  have HW : Hid (Gp.wrongP l = (fe, fa)) := hw
  dsimp only at h0
  have hb : (fe != 0) = true := by simpa using h0
  clear hv h0 hw
  unfold faultV
  go_enter Try.func15, Try.ntmps15
  go_wp2_with fail
  refine (gWrong_any l _ (withFault w) HV.out).mono ?_
  rintro e w1 ⟨rfl, hb1⟩
  rw [HW.out]
  unfold faultV
  rw [withFault_size] at hb1
  have hz1 : w.heap.size < w1.heap.size := by have := hb1.size; rw [withFault_size] at this; omega
  obtain ⟨d0, d1, f0, f1⟩ := fault_cells hb1
  have e0 := fun o => (fault_there hb1 (.int .i64 fe) (.int .i64 fa) o).1
  have e1 := fun o => (fault_there hb1 (.int .i64 fe) (.int .i64 fa) o).2
  clear HV HW
  go_wp2
  go_region
  all_goals (try go_wp2)
  all_goals refine bodyPost_ret (v := .tuple #[.slice none 0 0, .agg #[.int .i64 fe, .int .i64 fa]]) (by simp [results, Try.results15, go_sem, e0, e1]) rfl ⟨rfl, ?_⟩
  all_goals exact (((fault_below hb1 _ _).alloc (by simp; omega) _).drew)
end Go.Proofs.Ytkikghdcnejjfab
