
/-
  sweep.Own, its first region, walked.
-/
import Derived.Test.YtdciohinlhbliaaJSB
import Derived.Deep.CutRange
import Derived.Deep.CutBlock
import Derived.Test.YtdciohinlhbliaaJSE
import Derived.Laws.EntriesVeiled
import Derived.Test.YtdciohinlhbliaaJSC
namespace Go.Proofs.Ytdciohinlhbliaa
open Go.RowKit
open Wp
set_option maxRecDepth 1000000 in
set_option maxHeartbeats 16000000 in
theorem own1_wp (Q : Exit → Act → World → Prop) (K : Act → World → Prop) (W : World) (gk : Nat) (L : List Sp.Ob) (O : List Sp.Opn) (ts : List (Sl × Sp.Prc)) (vo vp vq : Value) (R : Nat → Prop) (hK : Blk W gk #[vo, vp, vq] 27) (hO : Objs W R vo L) (hp : Row W R 2 vp (O.map opnC)) (hq : Row W R 4 vq (ts.map prcC)) (hR : ∀ b, R b → b < W.heap.size) (hF : ∀ o ∈ L, Fits o) (hL : L.length ≤ 1000) (hOn : O.length ≤ 1000) (hts : ts.length ≤ 1000)
    (x0 x2 x3 x4 x5 x6 x7 x8 x9 x10 x11 x12 x13 x14 x15 x16 x17 x18 x19 x20 x21 x22 x23 x24 x25 x26 x27 x28 x29 x30 x31 x32 x33 : Value)
    (h : ∀ (y6 y7 y8 y9 y10 y11 y12 y13 y14 y15 : Value) (W' : World) (gd g1 h1 : Nat) (rb rc : Sl), OwSt W W' L O ts gd g1 h1 rb rc → K ⟨#[x0, .pointer (some ⟨gk, 0, none⟩), x2, .pointer (some ⟨gd, 0, none⟩), x4, x5, y6, y7, y8, y9, y10, y11, y12, y13, y14, y15, x16, x17, x18, x19, x20, x21, x22, x23, x24, x25, x26, x27, x28, x29, x30, x31, x32, x33], []⟩ W') :
    Code.wp Try.prog ((Try.f13.body.bind (findReg 1)).getD .skip) (Exit.then K Q) ⟨#[x0, .pointer (some ⟨gk, 0, none⟩), x2, x3, x4, x5, x6, x7, x8, x9, x10, x11, x12, x13, x14, x15, x16, x17, x18, x19, x20, x21, x22, x23, x24, x25, x26, x27, x28, x29, x30, x31, x32, x33], []⟩ W := by
  have HH : Hid (∀ (y6 y7 y8 y9 y10 y11 y12 y13 y14 y15 : Value) (W' : World) (gd g1 h1 : Nat) (rb rc : Sl), OwSt W W' L O ts gd g1 h1 rb rc → K ⟨#[x0, .pointer (some ⟨gk, 0, none⟩), x2, .pointer (some ⟨gd, 0, none⟩), x4, x5, y6, y7, y8, y9, y10, y11, y12, y13, y14, y15, x16, x17, x18, x19, x20, x21, x22, x23, x24, x25, x26, x27, x28, x29, x30, x31, x32, x33], []⟩ W') := h
  have hkl := hK.lt
  have HKC : Hid (∀ W1, Gw W W1 → (W1.cell? ⟨gk, 0, none⟩ = some vo ∧ W1.cell? ⟨gk, 1, none⟩ = some vp ∧ W1.cell? ⟨gk, 2, none⟩ = some vq) ∧ gk < W1.heap.size) := fun W1 hg => by
    have hb := hK.on hg.1 hkl
    exact ⟨⟨hb.cell 0, hb.cell 1, hb.cell 2⟩, hb.lt⟩
  have HP0 : Hid (Parts W W.drew []) := Parts.nil (Gw.drew W)
  have HOW : Hid (∀ (W1 : World) (l : List Part), Parts W W1 l → Calls Try.prog 37 #[vo] W1 fun e w' => ∃ g1 : Nat, e = .returned (.slice (some ⟨g1, 0, none⟩) L.length L.length) ∧ Parts W w' (objP L g1 w'.heap.size :: l) ∧ (w'.cell? ⟨gk, 0, none⟩ = some vo ∧ w'.cell? ⟨gk, 1, none⟩ = some vp ∧ w'.cell? ⟨gk, 2, none⟩ = some vq) ∧ gk < w'.heap.size) := fun W1 l hst => by
    refine (own_any L vo R W1 (hO.on (hst.gr.1.less hR)) (fun b hb => by have := hR b hb; have := hst.gr.2.1; omega) hF (by omega)).mono ?_
    rintro e w' ⟨rfl, us, m, h1, h2, h3, h4⟩
    have hst' := hst.cons (Gw.below h4) (objP L W1.heap.size w'.heap.size) rfl rfl (own_part h1 h2 h3)
    exact ⟨W1.heap.size, rfl, hst', HKC.out _ hst'.gr⟩
  have HAB : Hid (∀ (W1 : World) (l : List Part) (ops : Array Oper) (o : Oper) (a : Act) (K' : Act → World → Prop) (Q' : Exit → Act → World → Prop) (E : Prop), o.guard = none → ∀ (s x : Operand), o.op = .call { callee := .builtin .append, args := #[s, x], argTypes := #[24, 24] } → a.eval s = .slice none 0 0 → a.eval x = vp → Parts W W1 l → (∀ (r : Sl) (W2 : World), Parts W W2 (rowP 54 2 r (O.map opnC) W1.heap.size W2.heap.size :: l) → (W2.cell? ⟨gk, 0, none⟩ = some vo ∧ W2.cell? ⟨gk, 1, none⟩ = some vp ∧ W2.cell? ⟨gk, 2, none⟩ = some vq) → gk < W2.heap.size → K' (a.put o.dst (.slice r.a r.n r.c)) W2) → if Region.wanted o (yielded ops a.tmps) = true then Oper.wp Try.prog o a W1 K' Q' else E) := by
    intro W1 l ops o a K' Q' E hgd s x ho hs hx hst hk
    obtain ⟨i0, hi0, hz0, hz1, hz2⟩ := info_parts Try.infoOpen
    refine step_append_w hgd s x _ ho W1.heap.size 54 i0 (.agg #[.int .i64 0, .int .i64 0]) 2 16 Try.underlying24 hi0 hz0 hz1 hz2 rfl (by decide) _ [] hs (Mine.nil W1 W1.heap.size 54 2) _ R (O.map opnC) hx (hp.on (hst.gr.1.less hR)) (even_opn O) (ones_opn O) (by rw [List.length_nil, List.length_map]; omega) (by decide) (Nat.le_refl _) ?_
    intro r W2 hm hg
    rw [List.nil_append] at hm
    have hst' := hst.cons (Gw.grown hg fun k hk => by cases hk) (rowP 54 2 r (O.map opnC) W1.heap.size W2.heap.size) rfl rfl fun w' ho => ⟨hm.on ho fun g hg => hm.lt g hg, fun g hg => (hm.lt g hg).2⟩
    exact hk r W2 hst' (HKC.out _ hst'.gr).1 (HKC.out _ hst'.gr).2
  have HAC : Hid (∀ (W1 : World) (l : List Part) (ops : Array Oper) (o : Oper) (a : Act) (K' : Act → World → Prop) (Q' : Exit → Act → World → Prop) (E : Prop), o.guard = none → ∀ (s x : Operand), o.op = .call { callee := .builtin .append, args := #[s, x], argTypes := #[25, 25] } → a.eval s = .slice none 0 0 → a.eval x = vq → Parts W W1 l → (∀ (r : Sl) (W2 : World), Parts W W2 (rowP 43 4 r (ts.map prcC) W1.heap.size W2.heap.size :: l) → (W2.cell? ⟨gk, 0, none⟩ = some vo ∧ W2.cell? ⟨gk, 1, none⟩ = some vp ∧ W2.cell? ⟨gk, 2, none⟩ = some vq) → gk < W2.heap.size → K' (a.put o.dst (.slice r.a r.n r.c)) W2) → if Region.wanted o (yielded ops a.tmps) = true then Oper.wp Try.prog o a W1 K' Q' else E) := by
    intro W1 l ops o a K' Q' E hgd s x ho hs hx hst hk
    obtain ⟨i0, hi0, hz0, hz1, hz2⟩ := info_parts Try.infoProc
    refine step_append_w hgd s x _ ho W1.heap.size 43 i0 (.agg #[.bool false, .bool false, .int .i64 0, .slice none 0 0]) 4 40 Try.underlying25 hi0 hz0 hz1 hz2 rfl (by decide) _ [] hs (Mine.nil W1 W1.heap.size 43 4) _ R (ts.map prcC) hx (hq.on (hst.gr.1.less hR)) (even_prc ts) (ones_prc ts) (by rw [List.length_nil, List.length_map]; omega) (by decide) (Nat.le_refl _) ?_
    intro r W2 hm hg
    rw [List.nil_append] at hm
    have hst' := hst.cons (Gw.grown hg fun k hk => by cases hk) (rowP 43 4 r (ts.map prcC) W1.heap.size W2.heap.size) rfl rfl fun w' ho => ⟨hm.on ho fun g hg => hm.lt g hg, fun g hg => (hm.lt g hg).2⟩
    exact hk r W2 hst' (HKC.out _ hst'.gr).1 (HKC.out _ hst'.gr).2
  have kc0 := hK.cell 0
  have kc1 := hK.cell 1
  have kc2 := hK.cell 2
  simp at kc0 kc1 kc2
  have hst := HP0.out
  have hsd : Parts W (W.alloc (.cells #[.slice none 0 0, .slice none 0 0, .slice none 0 0] 27)).drew [boxP W.heap.size] := hst.alloc
  have hn1 : ¬ W.heap.size = gk := by omega
  have hn2 : ¬ gk = W.heap.size := by omega
  clear h hK hO hp hq hR hF
  refine wp_mono (Q := Exit.then K (fun _ _ _ => False)) ?_ (fun e a w h => by cases e <;> first | exact h | exact h.elim)
  conv => arg 2; whnf
  go_region_held_law (fun w' => w'.cell? ⟨gk, 0, none⟩ = some vo ∧ w'.cell? ⟨gk, 1, none⟩ = some vp ∧ w'.cell? ⟨gk, 2, none⟩ = some vq) (go_keep) (first
    | ((go_at_call 37; with_reducible (refine Calls.mono (HOW.out _ _ (by first | exact hst | exact hsd | exact hst.alloc)) ?_); clear hst; rintro e W1 ⟨g1, rfl, hst, ⟨hs0, hs1, hs2⟩, hgl⟩; have hn1 : ¬ W1.heap.size = gk := (by omega); have hn2 : ¬ gk = W1.heap.size := (by omega); (first | (obtain ⟨⟨z0, z1, z2⟩, zf, zl⟩ := hst.box (List.Mem.head _)) | (obtain ⟨⟨z0, z1, z2⟩, zf, zl⟩ := hst.box (List.Mem.tail _ (List.Mem.head _))) | (obtain ⟨⟨z0, z1, z2⟩, zf, zl⟩ := hst.box (List.Mem.tail _ (List.Mem.tail _ (List.Mem.head _)))) | (obtain ⟨⟨z0, z1, z2⟩, zf, zl⟩ := hst.box (List.Mem.tail _ (List.Mem.tail _ (List.Mem.tail _ (List.Mem.head _))))) | skip)))
    | ((refine HAB.out _ _ _ _ _ _ _ _ rfl _ _ rfl (by rfl) (by rfl) (by first | exact hst | exact hsd | exact hst.alloc) ?_; clear hst; intro rb W2 hst hs hgl; obtain ⟨hs0, hs1, hs2⟩ := hs; have hn1 : ¬ W2.heap.size = gk := (by omega); have hn2 : ¬ gk = W2.heap.size := (by omega); (first | (obtain ⟨⟨z0, z1, z2⟩, zf, zl⟩ := hst.box (List.Mem.head _)) | (obtain ⟨⟨z0, z1, z2⟩, zf, zl⟩ := hst.box (List.Mem.tail _ (List.Mem.head _))) | (obtain ⟨⟨z0, z1, z2⟩, zf, zl⟩ := hst.box (List.Mem.tail _ (List.Mem.tail _ (List.Mem.head _)))) | (obtain ⟨⟨z0, z1, z2⟩, zf, zl⟩ := hst.box (List.Mem.tail _ (List.Mem.tail _ (List.Mem.tail _ (List.Mem.head _))))) | skip)))
    | ((refine HAC.out _ _ _ _ _ _ _ _ rfl _ _ rfl (by rfl) (by rfl) (by first | exact hst | exact hsd | exact hst.alloc) ?_; clear hst; intro rc W3 hst hs hgl; obtain ⟨hs0, hs1, hs2⟩ := hs; have hn1 : ¬ W3.heap.size = gk := (by omega); have hn2 : ¬ gk = W3.heap.size := (by omega); (first | (obtain ⟨⟨z0, z1, z2⟩, zf, zl⟩ := hst.box (List.Mem.head _)) | (obtain ⟨⟨z0, z1, z2⟩, zf, zl⟩ := hst.box (List.Mem.tail _ (List.Mem.head _))) | (obtain ⟨⟨z0, z1, z2⟩, zf, zl⟩ := hst.box (List.Mem.tail _ (List.Mem.tail _ (List.Mem.head _)))) | (obtain ⟨⟨z0, z1, z2⟩, zf, zl⟩ := hst.box (List.Mem.tail _ (List.Mem.tail _ (List.Mem.tail _ (List.Mem.head _))))) | skip))))
  focus
    obtain ⟨q1, q2, q3⟩ := hst.three
    dsimp only [boxP, objP, rowP] at q1 q2 q3
    refine HH.out _ _ _ _ _ _ _ _ _ _ _ _ g1 _ rb rc (owst_last hst (List.Mem.tail _ (List.Mem.tail _ (List.Mem.head _))) (List.Mem.tail _ (List.Mem.head _)) (List.Mem.head _) ?_ ?_ ?_)
    all_goals omega
  all_goals
    obtain ⟨q1, q2, q3, q4, q5, q6⟩ := hst.four
    dsimp only [boxP, objP, rowP] at q1 q2 q3 q4 q5 q6
    first
      | (refine HH.out _ _ _ _ _ _ _ _ _ _ _ _ g1 _ rb rc (owst_of hst (List.Mem.tail _ (List.Mem.tail _ (List.Mem.tail _ (List.Mem.head _)))) (List.Mem.tail _ (List.Mem.tail _ (List.Mem.head _))) (List.Mem.tail _ (List.Mem.head _)) (List.Mem.head _) ?_ ?_ ?_ ?_ ?_ ?_ _ rfl))
      | (refine HH.out _ _ _ _ _ _ _ _ _ _ _ _ g1 _ rb rc (owst_of hst (List.Mem.tail _ (List.Mem.tail _ (List.Mem.head _))) (List.Mem.tail _ (List.Mem.tail _ (List.Mem.tail _ (List.Mem.head _)))) (List.Mem.tail _ (List.Mem.head _)) (List.Mem.head _) ?_ ?_ ?_ ?_ ?_ ?_ _ rfl))
      | (refine HH.out _ _ _ _ _ _ _ _ _ _ _ _ g1 _ rb rc (owst_of hst (List.Mem.tail _ (List.Mem.head _)) (List.Mem.tail _ (List.Mem.tail _ (List.Mem.tail _ (List.Mem.head _)))) (List.Mem.tail _ (List.Mem.tail _ (List.Mem.head _))) (List.Mem.head _) ?_ ?_ ?_ ?_ ?_ ?_ _ rfl))
    all_goals first | omega | (simp at *; omega)
end Go.Proofs.Ytdciohinlhbliaa


/-
  sweep.Own, walked: a kernel of one's own.
-/
namespace Go.Proofs.Ytdciohinlhbliaa
open Go.RowKit
open Wp
/-- What Own leaves. -/
def OwnW (L : List Sp.Ob) (O : List Sp.Opn) (P : List Sp.Prc) (W : World) (e : Ending) (w' : World) : Prop :=
  ∃ (S : Nat → Prop) (g1 c1 : Nat) (pa : Option Addr) (c2 g3 c3 : Nat) (x : Swp), e = .returned (.agg #[.slice (some ⟨g1, 0, none⟩) x.ts.length c1, .slice pa x.O.length c2, .slice (some ⟨g3, 0, none⟩) x.ps.length c3]) ∧ SwI S W.heap.size g1 c1 pa c2 g3 c3 w' x ∧ (∀ b, S b → W.heap.size ≤ b) ∧ x.ts.map Prod.snd = L ∧ x.O = O ∧ x.ps.map Prod.snd = P ∧ Below W.heap.size W w'
set_option maxRecDepth 1000000 in
set_option maxHeartbeats 8000000 in
theorem own5_wp (Q : Exit → Act → World → Prop) (W : World) (gd b5 g3 c3 n k : Nat) (A B u : Value) (sl : Sl) (p : Sp.Prc) (R : Nat → Prop) (hK : Blk W gd #[A, B, .slice (some ⟨g3, 0, none⟩) n c3] 27) (h5 : Blk W b5 #[.bool p.live, .bool p.fenced, .int .i64 p.code, .slice sl.a sl.n sl.c] 43) (hrow : Row W R 3 (.slice sl.a sl.n sl.c) (p.slots.map sltC)) (hR : ∀ b, R b → b < W.heap.size) (hs : p.slots.length ≤ 1000) (hk : k < n) (_hn : n ≤ 1000) (hg3 : g3 < W.heap.size) (hc : W.cell? ⟨g3, k * 4 + 3, none⟩ = some u) (hf : W.frozen? ⟨g3, k * 4 + 3, none⟩ = false) (hne : g3 ≠ gd ∧ g3 ≠ b5)
    (x0 x1 x2 x6 x7 x8 x9 x10 x11 x12 x13 x14 x15 x16 x17 x18 x19 x20 x21 x22 x23 x24 x25 x26 x27 x28 x29 x30 x31 x32 x33 : Value)
    (h : ∀ (y24 y25 y26 y27 y28 y29 y30 y31 : Value) (W1 : World) (r : Sl), Gw W W1 → Mine W1 W.heap.size 87 3 (.slice r.a r.n r.c) (p.slots.map sltC) → Q .normal ⟨#[x0, x1, x2, .pointer (some ⟨gd, 0, none⟩), .int .i64 (k : Int), .pointer (some ⟨b5, 0, none⟩), x6, x7, x8, x9, x10, x11, x12, x13, x14, x15, x16, x17, x18, x19, x20, x21, x22, x23, y24, y25, y26, y27, y28, y29, y30, y31, x32, x33], []⟩ (W1.setCell ⟨g3, k * 4 + 3, none⟩ (.slice r.a r.n r.c))) :
    Code.wp Try.prog ((Try.f13.body.bind (findReg 5)).getD .skip) Q ⟨#[x0, x1, x2, .pointer (some ⟨gd, 0, none⟩), .int .i64 (k : Int), .pointer (some ⟨b5, 0, none⟩), x6, x7, x8, x9, x10, x11, x12, x13, x14, x15, x16, x17, x18, x19, x20, x21, x22, x23, x24, x25, x26, x27, x28, x29, x30, x31, x32, x33], []⟩ W := by
  have HH : Hid (∀ (y24 y25 y26 y27 y28 y29 y30 y31 : Value) (W1 : World) (r : Sl), Gw W W1 → Mine W1 W.heap.size 87 3 (.slice r.a r.n r.c) (p.slots.map sltC) → Q .normal ⟨#[x0, x1, x2, .pointer (some ⟨gd, 0, none⟩), .int .i64 (k : Int), .pointer (some ⟨b5, 0, none⟩), x6, x7, x8, x9, x10, x11, x12, x13, x14, x15, x16, x17, x18, x19, x20, x21, x22, x23, y24, y25, y26, y27, y28, y29, y30, y31, x32, x33], []⟩ (W1.setCell ⟨g3, k * 4 + 3, none⟩ (.slice r.a r.n r.c))) := h
  have HAP : Hid (∀ (W0 : World) (ops : Array Oper) (o : Oper) (a : Act) (K' : Act → World → Prop) (Q' : Exit → Act → World → Prop) (E : Prop), o.guard = none → ∀ (s x : Operand), o.op = .call { callee := .builtin .append, args := #[s, x], argTypes := #[41, 41] } → a.eval s = .slice none 0 0 → a.eval x = .slice sl.a sl.n sl.c → Gw W W0 → (∀ (r : Sl) (W1 : World), Gw W W1 → Mine W1 W.heap.size 87 3 (.slice r.a r.n r.c) (p.slots.map sltC) → (W1.cell? ⟨gd, 2, none⟩ = some (.slice (some ⟨g3, 0, none⟩) n c3) ∧ W1.cell? ⟨b5, 3, none⟩ = some (.slice sl.a sl.n sl.c)) → W1.cell? ⟨g3, k * 4 + 3, none⟩ = some u → W1.frozen? ⟨g3, k * 4 + 3, none⟩ = false → K' (a.put o.dst (.slice r.a r.n r.c)) W1) → if Region.wanted o (yielded ops a.tmps) = true then Oper.wp Try.prog o a W0 K' Q' else E) := by
    intro W0 ops o a K' Q' E hgd s x ho hs' hx hg hk'
    obtain ⟨i0, hi0, hz0, hz1, hz2⟩ := info_parts Try.infoSlot
    refine step_append_w hgd s x _ ho W.heap.size 87 i0 (.agg #[.bool false, .int .i64 0, .int .i64 0]) 3 24 Try.underlying41 hi0 hz0 hz1 hz2 rfl (by decide) _ [] hs' (Mine.nil W0 W.heap.size 87 3) _ R (p.slots.map sltC) hx (hrow.on (hg.1.less hR)) (even_slt _) (ones_slt _) (by rw [List.length_nil, List.length_map]; omega) (by decide) hg.2.1 ?_
    intro r W1 hm hgr
    rw [List.nil_append] at hm
    have hg1 : Gw W W1 := hg.trans (Gw.grown hgr fun k hk => by cases hk)
    have hK1 := hK.on hg1.1 hK.lt
    have h51 := h5.on hg1.1 h5.lt
    have hb : Below (g3 + 1) W W1 := hg1.2.2 _ (by omega)
    exact hk' r W1 hg1 hm ⟨hK1.cell 2, h51.cell 3⟩ (by rw [hb.cell (p := ⟨g3, k * 4 + 3, none⟩) (by show g3 < g3 + 1; omega)]; exact hc) (by rw [hb.frozen (p := ⟨g3, k * 4 + 3, none⟩) (by show g3 < g3 + 1; omega)]; exact hf)
  have d0 := hK.cell 2
  have d1 := h5.cell 3
  simp at d0 d1
  have HG0 : Hid (Gw W W.drew) := Gw.drew W
  have n1 : ¬ g3 = gd := hne.1
  have n2 : ¬ gd = g3 := fun e => hne.1 e.symm
  have n3 : ¬ g3 = b5 := hne.2
  have n4 : ¬ b5 = g3 := fun e => hne.2 e.symm
  clear h hK h5 hrow hR hs
  refine wp_mono (Q := Exit.then (fun a w => Q .normal a w) (fun _ _ _ => False)) ?_ (fun e a w h => by cases e <;> first | exact h | exact h.elim)
  conv => arg 2; whnf
  go_region_held_law (fun w' => w'.cell? ⟨gd, 2, none⟩ = some (.slice (some ⟨g3, 0, none⟩) n c3) ∧ w'.cell? ⟨b5, 3, none⟩ = some (.slice sl.a sl.n sl.c)) (go_keep) (first
    | ((refine HAP.out _ _ _ _ _ _ _ rfl _ _ rfl (by rfl) (by rfl) HG0.out ?_; intro r W1 hg1 hm1 hs1 hc1 hf1; obtain ⟨hs0, hs2⟩ := hs1)))
  all_goals exact HH.out _ _ _ _ _ _ _ _ W1 r hg1 hm1
/-- Where Own's loop stands: the first k processes have slots of their own. -/
structure OwL (W3 wr : World) (base g3 c3 k : Nat) (ts : List (Sl × Sp.Prc)) (us : List (Sl × Sp.Prc)) : Prop where
  len : us.length = ts.length
  snd : us.map Prod.snd = ts.map Prod.snd
  rest : ∀ i, k ≤ i → us[i]? = ts[i]?
  row : Mine wr base 43 4 (.slice (some ⟨g3, 0, none⟩) ts.length c3) (us.map prcC)
  slots : ∀ (i : Nat) (t : Sl × Sp.Prc), i < k → us[i]? = some t → Row wr (fun b => W3.heap.size ≤ b ∧ b < wr.heap.size) 3 (.slice t.1.a t.1.n t.1.c) (t.2.slots.map sltC)
  on : On (fun b => b < W3.heap.size ∧ b ≠ g3) W3 wr
  size : W3.heap.size ≤ wr.heap.size
  below : ∀ B, B ≤ g3 → Below B W3 wr
theorem OwL.next {W3 wr W4 W1 : World} {base g3 c3 k : Nat} {ts us : List (Sl × Sp.Prc)} (h : OwL W3 wr base g3 c3 k ts us) (hg3 : g3 < W3.heap.size) {sl : Sl} {p : Sp.Prc} (hx : us[k]? = some (sl, p)) (h4 : Gw wr W4) (h1 : Gw W4 W1) {r : Sl} (hm : Mine W1 W4.heap.size 87 3 (.slice r.a r.n r.c) (p.slots.map sltC)) :
    OwL W3 (W1.setCell ⟨g3, k * 4 + 3, none⟩ (.slice r.a r.n r.c)) base g3 c3 (k + 1) ts (us.set k (r, p)) := by
  have hk := (List.getElem?_eq_some_iff.1 hx).1
  have hz := h.size
  have hgr : Gw wr W1 := h4.trans h1
  have hz1 := hgr.2.1
  have hz4 := h4.2.1
  have os := On.set W1 ⟨g3, k * 4 + 3, none⟩ (.slice r.a r.n r.c)
  have oA : On (fun b => b < wr.heap.size ∧ b ≠ g3) wr (W1.setCell ⟨g3, k * 4 + 3, none⟩ (.slice r.a r.n r.c)) := (hgr.1.less fun b hb => hb.1).trans (os.less fun b hb => hb.2)
  have hrow1 : Mine W1 base 43 4 (.slice (some ⟨g3, 0, none⟩) ts.length c3) (us.map prcC) := h.row.on hgr.1 fun g hg => (h.row.lt g hg).2
  have hset := hrow1.set (even_prc us) k 3 (prcC (sl, p)) (.slice r.a r.n r.c) (by rw [List.getElem?_map, hx]; rfl) (by decide)
  refine ⟨by rw [List.length_set]; exact h.len, ?_, fun i hi => by rw [List.getElem?_set_ne (by omega)]; exact h.rest i (by omega), ?_, fun i t hi ht => ?_, h.on.trans (oA.less fun b hb => ⟨by omega, hb.2⟩), by simp; omega, fun B hB => ((h.below B hB).trans (hgr.2.2 B (by omega))).setCell hB _⟩
  · rw [List.map_set]
    have e : (us.map Prod.snd)[k]? = some p := by rw [List.getElem?_map, hx]; rfl
    rw [set_same e]
    exact h.snd
  · have e : (us.map prcC).set k ((prcC (sl, p)).set 3 (.slice r.a r.n r.c)) = (us.set k (r, p)).map prcC := by rw [List.map_set]; rfl
    rw [e] at hset
    exact hset
  · by_cases hik : i = k
    · subst hik
      rw [List.getElem?_set_self hk] at ht
      cases ht
      have hm2 := hm.on os fun g hg => by have := (hm.lt g hg).1; show g ≠ g3; omega
      exact (hm2.row (even_slt _)).more fun b hb => ⟨by omega, hb.2⟩
    · rw [List.getElem?_set_ne (by omega)] at ht
      exact (Row.on (h.slots i t (by omega) ht) (oA.less fun b hb => ⟨hb.2, by omega⟩)).more fun b hb => ⟨hb.1, by simp; omega⟩
set_option maxRecDepth 1000000 in
set_option maxHeartbeats 8000000 in
theorem sown_any (K : Kn) (vo vp vq : Value) (R : Nat → Prop) (w : World) (hv : Objs w R vo K.L) (hp : Row w R 2 vp (K.O.map opnC)) (hq : Procs w R vq K.P) (hR : ∀ b, R b → b < w.heap.size) (hF : ∀ o ∈ K.L, Fits o) (hk : KindOk K.L) (hL : K.L.length ≤ 1000) (hO : K.O.length ≤ 1000) (hP : 1 ≤ K.P.length ∧ K.P.length ≤ 1000) (hS : ∀ p ∈ K.P, p.slots.length ≤ 1000) :
    Calls Try.prog 13 #[.agg #[vo, vp, vq]] w (OwnW K.L K.O K.P w) := by
  obtain ⟨ts, hts, hrow, hsl⟩ := hq
  obtain ⟨qa, qc, rfl, hqm⟩ := Row.form hrow
  rw [List.length_map] at hrow hqm ⊢
  have hn : ts.length = K.P.length := by rw [hts, List.length_map]
  have HB2 : Hid (Gw w ((w.alloc (.cells #[vo, vp, .slice qa ts.length qc] 27)).alloc (.cells #[.slice none 0 0, .slice none 0 0, .slice none 0 0] 27))) := (Gw.new w _).trans (Gw.new _ _)
  have HK2 : Hid (Blk ((w.alloc (.cells #[vo, vp, .slice qa ts.length qc] 27)).alloc (.cells #[.slice none 0 0, .slice none 0 0, .slice none 0 0] 27)) w.heap.size #[vo, vp, .slice qa ts.length qc] 27) := (Blk.new w _ _).alloc _
  have HN2 : Hid (Blk ((w.alloc (.cells #[vo, vp, .slice qa ts.length qc] 27)).alloc (.cells #[.slice none 0 0, .slice none 0 0, .slice none 0 0] 27)) (w.heap.size + 1) #[.slice none 0 0, .slice none 0 0, .slice none 0 0] 27) := blk_new1w w _ _ _
  have HZ2 : Hid (((w.alloc (.cells #[vo, vp, .slice qa ts.length qc] 27)).alloc (.cells #[.slice none 0 0, .slice none 0 0, .slice none 0 0] 27)).heap.size = w.heap.size + 2) := by unfold Hid; simp
  have HV : Hid (Objs w R vo K.L) := hv
  have HP : Hid (Row w R 2 vp (K.O.map opnC)) := hp
  have HQ : Hid (Row w R 4 (.slice qa ts.length qc) (ts.map prcC)) := hrow
  have HSL : Hid (∀ t ∈ ts, Row w R 3 (.slice t.1.a t.1.n t.1.c) (t.2.slots.map sltC)) := hsl
  have HR : Hid (∀ b, R b → b < w.heap.size) := hR
  have HF : Hid (∀ o ∈ K.L, Fits o) := hF
  have HKO : Hid (KindOk K.L) := hk
  have HTS : Hid (K.P = ts.map Prod.snd) := hts
  have HS : Hid (∀ t ∈ ts, t.2.slots.length ≤ 1000) := fun t ht => hS _ (by rw [hts]; exact List.mem_map_of_mem ht)
  have HN : Hid (1 ≤ ts.length) := by unfold Hid; omega
  unfold maxLen at hqm
  have hn1 : ts.length ≤ 1000 := by omega
  clear hv hp hrow hsl hR hF hk hts hS hn hP
  go_enter Try.func13, Try.ntmps13
  go_upto_region 1 with fail
  generalize ((w.alloc (.cells #[vo, vp, .slice qa ts.length qc] 27)).alloc (.cells #[.slice none 0 0, .slice none 0 0, .slice none 0 0] 27)) = w2 at *
  refine own1_wp _ _ w2 w.heap.size K.L K.O ts vo vp (.slice qa ts.length qc) R HK2.out (HV.out.on (HB2.out.1.less HR.out)) (HP.out.on (HB2.out.1.less HR.out)) (HQ.out.on (HB2.out.1.less HR.out)) (fun b hb => by have := HR.out b hb; have := HZ2.out; omega) HF.out hL hO hn1 _ _ _ _ _ _ _ _ _ _ _ _ _ _ _ _ _ _ _ _ _ _ _ _ _ _ _ _ _ _ _ _ _ ?_
  intro y6 y7 y8 y9 y10 y11 y12 y13 y14 y15 w3 gd g1 h1 rb rc hst
  dsimp only
  obtain ⟨ra, rn, rcc⟩ := rc
  obtain ⟨pa, pn, c2⟩ := rb
  obtain ⟨a', c', he, -, hga⟩ := hst.prc.form
  obtain ⟨b', d', he', -, -⟩ := hst.opn.form
  obtain ⟨rfl, rfl, rfl⟩ := Value.slice.inj he
  obtain ⟨rfl, rfl, rfl⟩ := Value.slice.inj he'
  simp only [List.length_map] at hga hst
  obtain ⟨g3, rfl, hg3a, hg3b⟩ := hga HN.out
  obtain ⟨us0, hu1, hu2, hu3⟩ := hst.obj
  have HST : Hid _ := hst
  have hk3 : Blk w3 w.heap.size #[vo, vp, .slice qa ts.length qc] 27 := HK2.out.on hst.on (by have := HZ2.out; omega)
  have HK3 : Hid (Blk w3 w.heap.size #[vo, vp, .slice qa ts.length qc] 27) := hk3
  have HU : Hid (K.L = us0.map Prod.snd ∧ Mine w3 g1 40 9 (.slice (some ⟨g1, 0, none⟩) K.L.length K.L.length) (us0.map objC) ∧ ∀ t ∈ us0, Lists w3 (fun b => g1 < b ∧ b < h1) t) := ⟨hu1, hu2, hu3⟩
  have kc := hk3.cell 2
  have kl := hk3.lt
  have gdl := hst.low.2.2.2.2.1
  have HG3 : Hid (w2.heap.size ≤ g3 ∧ g3 < w3.heap.size ∧ (g3 < g1 ∨ h1 ≤ g3) ∧ g3 ≠ gd ∧ some g3 ≠ (Value.slice pa K.O.length c2).ownBlock) := ⟨hg3a, hg3b, (hst.apC g3 rfl).2⟩
  have HL0 : Hid (OwL w3 w3 w2.heap.size g3 rcc 0 ts ts) := ⟨rfl, rfl, fun _ _ => rfl, hst.prc, fun i t hi => absurd hi (Nat.not_lt_zero i), fun _ _ => rfl, Nat.le_refl _, fun B _ => Below.refl B w3⟩
  simp at kc
  clear he he' hu1 hu2 hu3 hk3 hst hg3a hg3b
  go_wp2_with fail
  go_loopw [19] (fun i wr => ∃ (k : Nat) (us : List (Sl × Sp.Prc)), k ≤ ts.length ∧ i = .int .i64 k ∧ OwL w3 wr w2.heap.size g3 rcc k ts us) (fun i _ => ts.length - (intOf i).toNat)
  case atStart => exact ⟨0, ts, Nat.zero_le _, rfl, HL0.out⟩
  case round =>
    obtain ⟨k, us, hk, rfl, hI⟩ := hrel
    have HI : Hid (OwL w3 wr w2.heap.size g3 rcc k ts us) := hI
    have hg3 := HG3.out
    have hz2 := HZ2.out
    have hon := hI.on
    have hsz := hI.size
    clear hI
    by_cases hlt : k < ts.length
    · obtain ⟨⟨sl, p⟩, hx⟩ : ∃ x, ts[k]? = some x := ⟨_, List.getElem?_eq_getElem hlt⟩
      have hux : us[k]? = some (sl, p) := (HI.out.rest k (Nat.le_refl _)).trans hx
      have hRr : On R w wr := ((HB2.out.1.less HR.out).trans (HST.out.on.less fun b hb => by have := HR.out b hb; omega)).trans (hon.less fun b hb => by have := HR.out b hb; have := HST.out.size; omega)
      obtain ⟨b, of, cc, he, hSb, hcl, hcm, h5⟩ := (Row.on HQ.out hRr).some (by rw [List.length_map]; omega)
      obtain ⟨rfl, -, rfl⟩ := Value.slice.inj he
      have hi := h5 k (prcC (sl, p)) (by rw [List.getElem?_map, hx]; rfl)
      have c0 := hi 0 _ rfl
      have c1 := hi 1 _ rfl
      have c2' := hi 2 _ rfl
      have c3 := hi 3 _ rfl
      rw [Nat.add_zero] at c0
      rw [List.length_map] at hcl
      unfold maxLen at hcm
      have HX : Hid (ts[k]? = some (sl, p)) := hx
      have HUX : Hid (us[k]? = some (sl, p)) := hux
      have HRR : Hid (On R w wr) := hRr
      have HON : Hid (On (fun b => b < w3.heap.size ∧ b ≠ g3) w3 wr) := hon
      clear he h5 hi hx hux hRr hon
      go_upto_region 5 with fail
      have hn5 := Blk.new wr #[.bool p.live, .bool p.fenced, .int .i64 p.code, .slice sl.a sl.n sl.c] 43
      have hg5 := Gw.new wr (.cells #[.bool p.live, .bool p.fenced, .int .i64 p.code, .slice sl.a sl.n sl.c] 43)
      generalize (wr.alloc (.cells #[.bool p.live, .bool p.fenced, .int .i64 p.code, .slice sl.a sl.n sl.c] 43)) = w5 at *
      have hbox5 : Blk w5 gd #[.slice (some ⟨g1, 0, none⟩) K.L.length K.L.length, .slice pa K.O.length c2, .slice (some ⟨g3, 0, none⟩) ts.length rcc] 27 := (HST.out.box.on HON.out ⟨gdl, fun e => hg3.2.2.2.1 e.symm⟩).on hg5.1 (by omega)
      have hrow5 : Row w5 R 3 (.slice sl.a sl.n sl.c) (p.slots.map sltC) := Row.on (Row.on (HSL.out _ (List.mem_of_getElem? HX.out)) HRR.out) (hg5.1.less fun b hb => by have := HR.out b hb; omega)
      have hm5 : Mine w5 w2.heap.size 43 4 (.slice (some ⟨g3, 0, none⟩) ts.length rcc) (us.map prcC) := HI.out.row.on hg5.1 fun g hg => (HI.out.row.lt g hg).2
      obtain ⟨cur, hblk, -, -, -, -, hcur⟩ := hm5.blk
      have hcell : w5.cell? ⟨g3, k * 4 + 3, none⟩ = some (.slice sl.a sl.n sl.c) := by
        rw [hblk.cell]
        exact hcur _ _ (flatten_at (even_prc us) k (prcC (sl, p)) (by rw [List.getElem?_map, HUX.out]; rfl) 3 _ rfl)
      refine own5_wp _ w5 gd wr.heap.size g3 rcc ts.length k _ _ _ sl p R hbox5 hn5 hrow5 (fun b hb => by have := HR.out b hb; have := hg5.2.1; omega) (HS.out _ (List.mem_of_getElem? HX.out)) hlt hn1 hblk.lt hcell (hblk.free _) ⟨hg3.2.2.2.1, by omega⟩ _ _ _ _ _ _ _ _ _ _ _ _ _ _ _ _ _ _ _ _ _ _ _ _ _ _ _ _ _ _ _ ?_
      intro y24 y25 y26 y27 y28 y29 y30 y31 w6 r hg6 hm6
      dsimp only
      have HN6 : Hid _ := HI.out.next hg3.2.1 HUX.out hg5 hg6 hm6
      clear hn5 hg5 hbox5 hrow5 hm5 hblk hcur hcell hg6 hm6 c0 c1 c2' c3
      go_wp2
      go_roundw
      case rel => exact ⟨k + 1, _, by omega, by go_num, HN6.out⟩
      case measure => simp [intOf]; omega
    · obtain rfl : k = ts.length := by omega
      have hN : Blk wr (w.heap.size + 1) #[.slice none 0 0, .slice none 0 0, .slice none 0 0] 27 := (HN2.out.on HST.out.on (by omega)).on hon ⟨by have := HST.out.size; omega, by omega⟩
      have hB := HST.out.box.on hon ⟨gdl, fun e => hg3.2.2.2.1 e.symm⟩
      have e0 := hN.cell
      have ef := hN.free
      have b0 := hB.cell
      have hgl := hN.lt
      have hdl := hB.lt
      have HFIN : Hid (∀ W', W' = ((wr.setCell ⟨w.heap.size + 1, 0, none⟩ (.slice (some ⟨g1, 0, none⟩) K.L.length K.L.length)).setCell ⟨w.heap.size + 1, 1, none⟩ (.slice pa K.O.length c2)).setCell ⟨w.heap.size + 1, 2, none⟩ (.slice (some ⟨g3, 0, none⟩) us.length rcc) → OwnW K.L K.O K.P w (.returned (.agg #[.slice (some ⟨g1, 0, none⟩) K.L.length K.L.length, .slice pa K.O.length c2, .slice (some ⟨g3, 0, none⟩) us.length rcc])) W') := fun W' hW' => by
        have hI := HI.out
        have ob1 : ∀ (g n c x : Nat), (Value.slice (some ⟨x, 0, none⟩) n c).ownBlock = some g → g = x := fun g n c x hg => by simp [Value.ownBlock] at hg; exact hg.symm
        have hlen : us0.length = K.L.length := by rw [HU.out.1, List.length_map]
        have hlu : us.length = ts.length := hI.len
        have hz : W'.heap.size = wr.heap.size := by subst hW'; simp
        have oE : On (fun b => b ≠ w.heap.size + 1) wr W' := by
          subst hW'
          exact ((On.set wr ⟨w.heap.size + 1, 0, none⟩ _).trans (On.set _ ⟨w.heap.size + 1, 1, none⟩ _)).trans (On.set _ ⟨w.heap.size + 1, 2, none⟩ _)
        have o3 : On (fun b => b < w3.heap.size ∧ b ≠ g3 ∧ b ≠ w.heap.size + 1) w3 W' := (hI.on.less fun b hb => ⟨hb.1, hb.2.1⟩).trans (oE.less fun b hb => hb.2.2)
        have hlow := HST.out.low
        have hpb : ∀ b, (Value.slice pa K.O.length c2).ownBlock = some b → w2.heap.size ≤ b ∧ b < w3.heap.size ∧ b ≠ g3 ∧ (b < g1 ∨ h1 ≤ b) := fun b hb => ⟨(HST.out.opn.lt b hb).1, (HST.out.apB b hb).1, fun e => hg3.2.2.2.2 (by rw [hb, e]), (HST.out.apB b hb).2.1⟩
        have hBz : Below w.heap.size w W' := by
          have h1 := HB2.out.2.2 _ (Nat.le_refl _)
          have h2 := HST.out.below w.heap.size (by omega)
          have h3 := hI.below w.heap.size (by omega)
          subst hW'
          exact (((h1.trans (h2.trans h3)).setCell (p := ⟨w.heap.size + 1, 0, none⟩) (by show w.heap.size ≤ w.heap.size + 1; omega) _).setCell (p := ⟨w.heap.size + 1, 1, none⟩) (by show w.heap.size ≤ w.heap.size + 1; omega) _).setCell (p := ⟨w.heap.size + 1, 2, none⟩) (by show w.heap.size ≤ w.heap.size + 1; omega) _
        refine ⟨fun b => (g1 < b ∧ b < h1) ∨ (w3.heap.size ≤ b ∧ b < wr.heap.size), g1, K.L.length, pa, c2, g3, rcc, ⟨us0, K.O, us⟩, by rw [← hlen], ⟨?_, ?_, ?_, fun t ht => ?_, fun t ht => ?_, fun b hb => ?_, ⟨fun e => ?_, fun e => ?_, by omega⟩, by rw [← HU.out.1]; exact HKO.out, ⟨by show us0.length ≤ 1000; omega, hO, by show 1 ≤ us.length; have := HN.out; omega, by show us.length ≤ 1000; omega⟩⟩, fun b hb => by omega, HU.out.1.symm, rfl, by rw [HTS.out]; exact hI.snd, hBz⟩
        · show Mine W' w.heap.size 40 9 (.slice (some ⟨g1, 0, none⟩) us0.length K.L.length) (us0.map objC)
          rw [hlen]
          exact (HU.out.2.1.on o3 fun g hg => by have := ob1 g _ _ _ hg; exact ⟨by omega, by omega, by omega⟩).base fun g hg => by have := ob1 g _ _ _ hg; omega
        · exact (HST.out.opn.on o3 fun g hg => by have := hpb g hg; omega).base fun g hg => by have := hpb g hg; omega
        · show Mine W' w.heap.size 43 4 (.slice (some ⟨g3, 0, none⟩) us.length rcc) (us.map prcC)
          rw [hlu]
          exact (hI.row.on oE fun g hg => by have := ob1 g _ _ _ hg; show g ≠ _; omega).base fun g hg => by have := ob1 g _ _ _ hg; omega
        · exact ((HU.out.2.2 t ht).on (o3.less fun b hb => by omega)).more fun b hb => Or.inl hb
        · obtain ⟨i, hi, rfl⟩ := List.getElem_of_mem ht
          exact (Row.on (hI.slots i _ (by show i < ts.length; have : i < us.length := hi; omega) (List.getElem?_eq_getElem hi)) (oE.less fun b hb => by omega)).more fun b hb => Or.inr hb
        · refine ⟨by omega, by omega, fun e => ?_, by omega⟩
          have := hpb b (by rw [e]; rfl)
          omega
        · have := hpb g1 (by rw [e]; rfl)
          omega
        · have := hpb g3 (by rw [e]; rfl)
          omega
      have hlu := HI.out.len
      rw [hlu] at HFIN
      have HCF : Hid (Blk (((wr.setCell ⟨w.heap.size + 1, 0, none⟩ (.slice (some ⟨g1, 0, none⟩) K.L.length K.L.length)).setCell ⟨w.heap.size + 1, 1, none⟩ (.slice pa K.O.length c2)).setCell ⟨w.heap.size + 1, 2, none⟩ (.slice (some ⟨g3, 0, none⟩) ts.length rcc)) (w.heap.size + 1) #[.slice (some ⟨g1, 0, none⟩) K.L.length K.L.length, .slice pa K.O.length c2, .slice (some ⟨g3, 0, none⟩) ts.length rcc] 27) := ((hN.set 0 _).set 1 _).set 2 _
      clear hN hB hga
      go_wp2
      have hcF := HCF.out.cell
      refine bodyPost_ret (v := .agg #[.slice (some ⟨g1, 0, none⟩) K.L.length K.L.length, .slice pa K.O.length c2, .slice (some ⟨g3, 0, none⟩) ts.length rcc]) (by simp [results, Try.results13, go_sem, hcF]) rfl ?_
      exact HFIN.out _ rfl
end Go.Proofs.Ytdciohinlhbliaa


/-
  sweep.freeOpens, walked again: what lies below is as it was.
-/
namespace Go.Proofs.Ytdciohinlhbliaa
open Go.RowKit
open Wp
end Go.Proofs.Ytdciohinlhbliaa


/-
  Sweep's round, step by step: what lies below is as it was.
-/
namespace Go.Proofs.Ytdciohinlhbliaa
open Go.RowKit
open Wp
end Go.Proofs.Ytdciohinlhbliaa


/-
  sweep.Sweep, walked: its rounds.
-/
namespace Go.Proofs.Ytdciohinlhbliaa
open Go.RowKit
open Wp
theorem SwI.alloc {S : Nat → Prop} {base g1 c1 : Nat} {pa : Option Addr} {c2 g3 c3 : Nat} {w : World} {x : Swp} (h : SwI S base g1 c1 pa c2 g3 c3 w x) (ob : Obj) : SwI S base g1 c1 pa c2 g3 c3 (w.alloc ob) x :=
  ⟨h.ob.on (On.alloc w ob) fun b hb => (h.ob.lt b hb).2, h.op.on (On.alloc w ob) fun b hb => (h.op.lt b hb).2, h.pr.on (On.alloc w ob) fun b hb => (h.pr.lt b hb).2, fun t ht => (h.lists t ht).on ((On.alloc w ob).less fun b hb => (h.low b hb).1), fun t ht => Row.on (h.slots t ht) ((On.alloc w ob).less fun b hb => (h.low b hb).1), fun b hb => ⟨by have := (h.low b hb).1; simp; omega, (h.low b hb).2⟩, h.apart, h.kinds, h.size⟩
theorem mine_cell {w : World} {base k g n c : Nat} {e : TypeId} {css : List (List Value)} (h : Mine w base e k (.slice (some ⟨g, 0, none⟩) n c) css) (hE : Even k css) {i : Nat} {cs : List Value} (hi : css[i]? = some cs) {j : Nat} {u : Value} (hj : cs[j]? = some u) : w.cell? ⟨g, i * k + j, none⟩ = some u := by
  obtain ⟨cur, hb, -, -, -, -, hc⟩ := h.blk
  rw [hb.cell]
  exact hc _ u (flatten_at hE i cs hi j u hj)
end Go.Proofs.Ytdciohinlhbliaa


/-
  What is left depends on what a kernel is, not on where it lies.
-/
namespace Go.Proofs.Ytdciohinlhbliaa
open Go.RowKit
namespace Wp
namespace Swp
end Swp
end Wp
end Go.Proofs.Ytdciohinlhbliaa
