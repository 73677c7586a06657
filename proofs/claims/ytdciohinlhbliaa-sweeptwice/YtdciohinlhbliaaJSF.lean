/-
  sweep.Own, its first region, walked.
-/
import Derived.Test.YtdciohinlhbliaaJSB
import Derived.Deep.CutRange
import Derived.Deep.CutBlock
import Derived.Test.YtdciohinlhbliaaJSE
import Derived.Laws.EntriesVeiled
import Derived.Test.YtdciohinlhbliaaJSC
namespace Go.Proofs.Ytdciohinlhbliaa
open Go.RowKit
open Wp
set_option maxRecDepth 1000000 in
set_option maxHeartbeats 16000000 in
theorem own1_wp (Q : Exit → Act → World → Prop) (K : Act → World → Prop) (W : World) (gk : Nat) (L : List Sp.Ob) (O : List Sp.Opn) (ts : List (Sl × Sp.Prc)) (vo vp vq : Value) (R : Nat → Prop) (hK : Blk W gk #[vo, vp, vq] 27) (hO : Objs W R vo L) (hp : Row W R 2 vp (O.map opnC)) (hq : Row W R 4 vq (ts.map prcC)) (hR : ∀ b, R b → b < W.heap.size) (hF : ∀ o ∈ L, Fits o) (hL : L.length ≤ 1000) (hOn : O.length ≤ 1000) (hts : ts.length ≤ 1000)
    (x0 x2 x3 x4 x5 x6 x7 x8 x9 x10 x11 x12 x13 x14 x15 x16 x17 x18 x19 x20 x21 x22 x23 x24 x25 x26 x27 x28 x29 x30 x31 x32 x33 : Value)
    (h : ∀ (y6 y7 y8 y9 y10 y11 y12 y13 y14 y15 : Value) (W' : World) (gd g1 h1 : Nat) (rb rc : Sl), OwSt W W' L O ts gd g1 h1 rb rc → K ⟨#[x0, .pointer (some ⟨gk, 0, none⟩), x2, .pointer (some ⟨gd, 0, none⟩), x4, x5, y6, y7, y8, y9, y10, y11, y12, y13, y14, y15, x16, x17, x18, x19, x20, x21, x22, x23, x24, x25, x26, x27, x28, x29, x30, x31, x32, x33], []⟩ W') :
    Code.wp Try.prog ((Try.f13.body.bind (findReg 1)).getD .skip) (Exit.then K Q) ⟨#[x0, .pointer (some ⟨gk, 0, none⟩), x2, x3, x4, x5, x6, x7, x8, x9, x10, x11, x12, x13, x14, x15, x16, x17, x18, x19, x20, x21, x22, x23, x24, x25, x26, x27, x28, x29, x30, x31, x32, x33], []⟩ W := by
  have HH : Hid (∀ (y6 y7 y8 y9 y10 y11 y12 y13 y14 y15 : Value) (W' : World) (gd g1 h1 : Nat) (rb rc : Sl), OwSt W W' L O ts gd g1 h1 rb rc → K ⟨#[x0, .pointer (some ⟨gk, 0, none⟩), x2, .pointer (some ⟨gd, 0, none⟩), x4, x5, y6, y7, y8, y9, y10, y11, y12, y13, y14, y15, x16, x17, x18, x19, x20, x21, x22, x23, x24, x25, x26, x27, x28, x29, x30, x31, x32, x33], []⟩ W') := h
  have hkl := hK.lt
  have HKC : Hid (∀ W1, Gw W W1 → (W1.cell? ⟨gk, 0, none⟩ = some vo ∧ W1.cell? ⟨gk, 1, none⟩ = some vp ∧ W1.cell? ⟨gk, 2, none⟩ = some vq) ∧ gk < W1.heap.size) := fun W1 hg => by
    have hb := hK.on hg.1 hkl
    exact ⟨⟨hb.cell 0, hb.cell 1, hb.cell 2⟩, hb.lt⟩
  have HP0 : Hid (Parts W W.drew []) := Parts.nil (Gw.drew W)
  have HOW : Hid (∀ (W1 : World) (l : List Part), Parts W W1 l → Calls Try.prog 37 #[vo] W1 fun e w' => ∃ g1 : Nat, e = .returned (.slice (some ⟨g1, 0, none⟩) L.length L.length) ∧ Parts W w' (objP L g1 w'.heap.size :: l) ∧ (w'.cell? ⟨gk, 0, none⟩ = some vo ∧ w'.cell? ⟨gk, 1, none⟩ = some vp ∧ w'.cell? ⟨gk, 2, none⟩ = some vq) ∧ gk < w'.heap.size) := fun W1 l hst => by
    refine (own_any L vo R W1 (hO.on (hst.gr.1.less hR)) (fun b hb => by have := hR b hb; have := hst.gr.2.1; omega) hF (by omega)).mono ?_
    rintro e w' ⟨rfl, us, m, h1, h2, h3, h4⟩
    have hst' := hst.cons (Gw.below h4) (objP L W1.heap.size w'.heap.size) rfl rfl (own_part h1 h2 h3)
    exact ⟨W1.heap.size, rfl, hst', HKC.out _ hst'.gr⟩
  have HAB : Hid (∀ (W1 : World) (l : List Part) (ops : Array Oper) (o : Oper) (a : Act) (K' : Act → World → Prop) (Q' : Exit → Act → World → Prop) (E : Prop), o.guard = none → ∀ (s x : Operand), o.op = .call { callee := .builtin .append, args := #[s, x], argTypes := #[24, 24] } → a.eval s = .slice none 0 0 → a.eval x = vp → Parts W W1 l → (∀ (r : Sl) (W2 : World), Parts W W2 (rowP 54 2 r (O.map opnC) W1.heap.size W2.heap.size :: l) → (W2.cell? ⟨gk, 0, none⟩ = some vo ∧ W2.cell? ⟨gk, 1, none⟩ = some vp ∧ W2.cell? ⟨gk, 2, none⟩ = some vq) → gk < W2.heap.size → K' (a.put o.dst (.slice r.a r.n r.c)) W2) → if Region.wanted o (yielded ops a.tmps) = true then Oper.wp Try.prog o a W1 K' Q' else E) := by
    intro W1 l ops o a K' Q' E hgd s x ho hs hx hst hk
    obtain ⟨i0, hi0, hz0, hz1, hz2⟩ := info_parts Try.infoOpen
    refine step_append_w hgd s x _ ho W1.heap.size 54 i0 (.agg #[.int .i64 0, .int .i64 0]) 2 16 Try.underlying24 hi0 hz0 hz1 hz2 rfl (by decide) _ [] hs (Mine.nil W1 W1.heap.size 54 2) _ R (O.map opnC) hx (hp.on (hst.gr.1.less hR)) (even_opn O) (ones_opn O) (by rw [List.length_nil, List.length_map]; omega) (by decide) (Nat.le_refl _) ?_
    intro r W2 hm hg
    rw [List.nil_append] at hm
    have hst' := hst.cons (Gw.grown hg fun k hk => by cases hk) (rowP 54 2 r (O.map opnC) W1.heap.size W2.heap.size) rfl rfl fun w' ho => ⟨hm.on ho fun g hg => hm.lt g hg, fun g hg => (hm.lt g hg).2⟩
    exact hk r W2 hst' (HKC.out _ hst'.gr).1 (HKC.out _ hst'.gr).2
  have HAC : Hid (∀ (W1 : World) (l : List Part) (ops : Array Oper) (o : Oper) (a : Act) (K' : Act → World → Prop) (Q' : Exit → Act → World → Prop) (E : Prop), o.guard = none → ∀ (s x : Operand), o.op = .call { callee := .builtin .append, args := #[s, x], argTypes := #[25, 25] } → a.eval s = .slice none 0 0 → a.eval x = vq → Parts W W1 l → (∀ (r : Sl) (W2 : World), Parts W W2 (rowP 43 4 r (ts.map prcC) W1.heap.size W2.heap.size :: l) → (W2.cell? ⟨gk, 0, none⟩ = some vo ∧ W2.cell? ⟨gk, 1, none⟩ = some vp ∧ W2.cell? ⟨gk, 2, none⟩ = some vq) → gk < W2.heap.size → K' (a.put o.dst (.slice r.a r.n r.c)) W2) → if Region.wanted o (yielded ops a.tmps) = true then Oper.wp Try.prog o a W1 K' Q' else E) := by
    intro W1 l ops o a K' Q' E hgd s x ho hs hx hst hk
    obtain ⟨i0, hi0, hz0, hz1, hz2⟩ := info_parts Try.infoProc
    refine step_append_w hgd s x _ ho W1.heap.size 43 i0 (.agg #[.bool false, .bool false, .int .i64 0, .slice none 0 0]) 4 40 Try.underlying25 hi0 hz0 hz1 hz2 rfl (by decide) _ [] hs (Mine.nil W1 W1.heap.size 43 4) _ R (ts.map prcC) hx (hq.on (hst.gr.1.less hR)) (even_prc ts) (ones_prc ts) (by rw [List.length_nil, List.length_map]; omega) (by decide) (Nat.le_refl _) ?_
    intro r W2 hm hg
    rw [List.nil_append] at hm
    have hst' := hst.cons (Gw.grown hg fun k hk => by cases hk) (rowP 43 4 r (ts.map prcC) W1.heap.size W2.heap.size) rfl rfl fun w' ho => ⟨hm.on ho fun g hg => hm.lt g hg, fun g hg => (hm.lt g hg).2⟩
    exact hk r W2 hst' (HKC.out _ hst'.gr).1 (HKC.out _ hst'.gr).2
  have kc0 := hK.cell 0
  have kc1 := hK.cell 1
  have kc2 := hK.cell 2
  simp at kc0 kc1 kc2
  have hst := HP0.out
  have hsd : Parts W (W.alloc (.cells #[.slice none 0 0, .slice none 0 0, .slice none 0 0] 27)).drew [boxP W.heap.size] := hst.alloc
  have hn1 : ¬ W.heap.size = gk := by omega
  have hn2 : ¬ gk = W.heap.size := by omega
  clear h hK hO hp hq hR hF
  refine wp_mono (Q := Exit.then K (fun _ _ _ => False)) ?_ (fun e a w h => by cases e <;> first | exact h | exact h.elim)
  conv => arg 2; whnf
  go_region_held_law (fun w' => w'.cell? ⟨gk, 0, none⟩ = some vo ∧ w'.cell? ⟨gk, 1, none⟩ = some vp ∧ w'.cell? ⟨gk, 2, none⟩ = some vq) (go_keep) (first
    | ((go_at_call 37; with_reducible (refine Calls.mono (HOW.out _ _ (by first | exact hst | exact hsd | exact hst.alloc)) ?_); clear hst; rintro e W1 ⟨g1, rfl, hst, ⟨hs0, hs1, hs2⟩, hgl⟩; have hn1 : ¬ W1.heap.size = gk := (by omega); have hn2 : ¬ gk = W1.heap.size := (by omega); (first | (obtain ⟨⟨z0, z1, z2⟩, zf, zl⟩ := hst.box (List.Mem.head _)) | (obtain ⟨⟨z0, z1, z2⟩, zf, zl⟩ := hst.box (List.Mem.tail _ (List.Mem.head _))) | (obtain ⟨⟨z0, z1, z2⟩, zf, zl⟩ := hst.box (List.Mem.tail _ (List.Mem.tail _ (List.Mem.head _)))) | (obtain ⟨⟨z0, z1, z2⟩, zf, zl⟩ := hst.box (List.Mem.tail _ (List.Mem.tail _ (List.Mem.tail _ (List.Mem.head _))))) | skip)))
    | ((refine HAB.out _ _ _ _ _ _ _ _ rfl _ _ rfl (by rfl) (by rfl) (by first | exact hst | exact hsd | exact hst.alloc) ?_; clear hst; intro rb W2 hst hs hgl; obtain ⟨hs0, hs1, hs2⟩ := hs; have hn1 : ¬ W2.heap.size = gk := (by omega); have hn2 : ¬ gk = W2.heap.size := (by omega); (first | (obtain ⟨⟨z0, z1, z2⟩, zf, zl⟩ := hst.box (List.Mem.head _)) | (obtain ⟨⟨z0, z1, z2⟩, zf, zl⟩ := hst.box (List.Mem.tail _ (List.Mem.head _))) | (obtain ⟨⟨z0, z1, z2⟩, zf, zl⟩ := hst.box (List.Mem.tail _ (List.Mem.tail _ (List.Mem.head _)))) | (obtain ⟨⟨z0, z1, z2⟩, zf, zl⟩ := hst.box (List.Mem.tail _ (List.Mem.tail _ (List.Mem.tail _ (List.Mem.head _))))) | skip)))
    | ((refine HAC.out _ _ _ _ _ _ _ _ rfl _ _ rfl (by rfl) (by rfl) (by first | exact hst | exact hsd | exact hst.alloc) ?_; clear hst; intro rc W3 hst hs hgl; obtain ⟨hs0, hs1, hs2⟩ := hs; have hn1 : ¬ W3.heap.size = gk := (by omega); have hn2 : ¬ gk = W3.heap.size := (by omega); (first | (obtain ⟨⟨z0, z1, z2⟩, zf, zl⟩ := hst.box (List.Mem.head _)) | (obtain ⟨⟨z0, z1, z2⟩, zf, zl⟩ := hst.box (List.Mem.tail _ (List.Mem.head _))) | (obtain ⟨⟨z0, z1, z2⟩, zf, zl⟩ := hst.box (List.Mem.tail _ (List.Mem.tail _ (List.Mem.head _)))) | (obtain ⟨⟨z0, z1, z2⟩, zf, zl⟩ := hst.box (List.Mem.tail _ (List.Mem.tail _ (List.Mem.tail _ (List.Mem.head _))))) | skip))))
  focus
    obtain ⟨q1, q2, q3⟩ := hst.three
    dsimp only [boxP, objP, rowP] at q1 q2 q3
    refine HH.out _ _ _ _ _ _ _ _ _ _ _ _ g1 _ rb rc (owst_last hst (List.Mem.tail _ (List.Mem.tail _ (List.Mem.head _))) (List.Mem.tail _ (List.Mem.head _)) (List.Mem.head _) ?_ ?_ ?_)
    all_goals omega
  all_goals
    obtain ⟨q1, q2, q3, q4, q5, q6⟩ := hst.four
    dsimp only [boxP, objP, rowP] at q1 q2 q3 q4 q5 q6
    first
      | (refine HH.out _ _ _ _ _ _ _ _ _ _ _ _ g1 _ rb rc (owst_of hst (List.Mem.tail _ (List.Mem.tail _ (List.Mem.tail _ (List.Mem.head _)))) (List.Mem.tail _ (List.Mem.tail _ (List.Mem.head _))) (List.Mem.tail _ (List.Mem.head _)) (List.Mem.head _) ?_ ?_ ?_ ?_ ?_ ?_ _ rfl))
      | (refine HH.out _ _ _ _ _ _ _ _ _ _ _ _ g1 _ rb rc (owst_of hst (List.Mem.tail _ (List.Mem.tail _ (List.Mem.head _))) (List.Mem.tail _ (List.Mem.tail _ (List.Mem.tail _ (List.Mem.head _)))) (List.Mem.tail _ (List.Mem.head _)) (List.Mem.head _) ?_ ?_ ?_ ?_ ?_ ?_ _ rfl))
      | (refine HH.out _ _ _ _ _ _ _ _ _ _ _ _ g1 _ rb rc (owst_of hst (List.Mem.tail _ (List.Mem.head _)) (List.Mem.tail _ (List.Mem.tail _ (List.Mem.tail _ (List.Mem.head _)))) (List.Mem.tail _ (List.Mem.tail _ (List.Mem.head _))) (List.Mem.head _) ?_ ?_ ?_ ?_ ?_ ?_ _ rfl))
    all_goals first | omega | (simp at *; omega)
end Go.Proofs.Ytdciohinlhbliaa


/-
  sweep.Own, walked: a kernel of one's own.
-/
namespace Go.Proofs.Ytdciohinlhbliaa
open Go.RowKit
open Wp
/-- What Own leaves. -/
def OwnW (L : List Sp.Ob) (O : List Sp.Opn) (P : List Sp.Prc) (W : World) (e : Ending) (w' : World) : Prop :=
  ∃ (S : Nat → Prop) (g1 c1 : Nat) (pa : Option Addr) (c2 g3 c3 : Nat) (x : Swp), e = .returned (.agg #[.slice (some ⟨g1, 0, none⟩) x.ts.length c1, .slice pa x.O.length c2, .slice (some ⟨g3, 0, none⟩) x.ps.length c3]) ∧ SwI S W.heap.size g1 c1 pa c2 g3 c3 w' x ∧ (∀ b, S b → W.heap.size ≤ b) ∧ x.ts.map Prod.snd = L ∧ x.O = O ∧ x.ps.map Prod.snd = P ∧ Below W.heap.size W w'
set_option maxRecDepth 1000000 in
set_option maxHeartbeats 8000000 in
theorem own5_wp (Q : Exit → Act → World → Prop) (W : World) (gd b5 g3 c3 n k : Nat) (A B u : Value) (sl : Sl) (p : Sp.Prc) (R : Nat → Prop) (hK : Blk W gd #[A, B, .slice (some ⟨g3, 0, none⟩) n c3] 27) (h5 : Blk W b5 #[.bool p.live, .bool p.fenced, .int .i64 p.code, .slice sl.a sl.n sl.c] 43) (hrow : Row W R 3 (.slice sl.a sl.n sl.c) (p.slots.map sltC)) (hR : ∀ b, R b → b < W.heap.size) (hs : p.slots.length ≤ 1000) (hk : k < n) (_hn : n ≤ 1000) (hg3 : g3 < W.heap.size) (hc : W.cell? ⟨g3, k * 4 + 3, none⟩ = some u) (hf : W.frozen? ⟨g3, k * 4 + 3, none⟩ = false) (hne : g3 ≠ gd ∧ g3 ≠ b5)
    (x0 x1 x2 x6 x7 x8 x9 x10 x11 x12 x13 x14 x15 x16 x17 x18 x19 x20 x21 x22 x23 x24 x25 x26 x27 x28 x29 x30 x31 x32 x33 : Value)
    (h : ∀ (y24 y25 y26 y27 y28 y29 y30 y31 : Value) (W1 : World) (r : Sl), Gw W W1 → Mine W1 W.heap.size 87 3 (.slice r.a r.n r.c) (p.slots.map sltC) → Q .normal ⟨#[x0, x1, x2, .pointer (some ⟨gd, 0, none⟩), .int .i64 (k : Int), .pointer (some ⟨b5, 0, none⟩), x6, x7, x8, x9, x10, x11, x12, x13, x14, x15, x16, x17, x18, x19, x20, x21, x22, x23, y24, y25, y26, y27, y28, y29, y30, y31, x32, x33], []⟩ (W1.setCell ⟨g3, k * 4 + 3, none⟩ (.slice r.a r.n r.c))) :
    Code.wp Try.prog ((Try.f13.body.bind (findReg 5)).getD .skip) Q ⟨#[x0, x1, x2, .pointer (some ⟨gd, 0, none⟩), .int .i64 (k : Int), .pointer (some ⟨b5, 0, none⟩), x6, x7, x8, x9, x10, x11, x12, x13, x14, x15, x16, x17, x18, x19, x20, x21, x22, x23, x24, x25, x26, x27, x28, x29, x30, x31, x32, x33], []⟩ W := by
  have HH : Hid (∀ (y24 y25 y26 y27 y28 y29 y30 y31 : Value) (W1 : World) (r : Sl), Gw W W1 → Mine W1 W.heap.size 87 3 (.slice r.a r.n r.c) (p.slots.map sltC) → Q .normal ⟨#[x0, x1, x2, .pointer (some ⟨gd, 0, none⟩), .int .i64 (k : Int), .pointer (some ⟨b5, 0, none⟩), x6, x7, x8, x9, x10, x11, x12, x13, x14, x15, x16, x17, x18, x19, x20, x21, x22, x23, y24, y25, y26, y27, y28, y29, y30, y31, x32, x33], []⟩ (W1.setCell ⟨g3, k * 4 + 3, none⟩ (.slice r.a r.n r.c))) := h
  have HAP : Hid (∀ (W0 : World) (ops : Array Oper) (o : Oper) (a : Act) (K' : Act → World → Prop) (Q' : Exit → Act → World → Prop) (E : Prop), o.guard = none → ∀ (s x : Operand), o.op = .call { callee := .builtin .append, args := #[s, x], argTypes := #[41, 41] } → a.eval s = .slice none 0 0 → a.eval x = .slice sl.a sl.n sl.c → Gw W W0 → (∀ (r : Sl) (W1 : World), Gw W W1 → Mine W1 W.heap.size 87 3 (.slice r.a r.n r.c) (p.slots.map sltC) → (W1.cell? ⟨gd, 2, none⟩ = some (.slice (some ⟨g3, 0, none⟩) n c3) ∧ W1.cell? ⟨b5, 3, none⟩ = some (.slice sl.a sl.n sl.c)) → W1.cell? ⟨g3, k * 4 + 3, none⟩ = some u → W1.frozen? ⟨g3, k * 4 + 3, none⟩ = false → K' (a.put o.dst (.slice r.a r.n r.c)) W1) → if Region.wanted o (yielded ops a.tmps) = true then Oper.wp Try.prog o a W0 K' Q' else E) := by
    intro W0 ops o a K' Q' E hgd s x ho hs' hx hg hk'
    obtain ⟨i0, hi0, hz0, hz1, hz2⟩ := info_parts Try.infoSlot
    refine step_append_w hgd s x _ ho W.heap.size 87 i0 (.agg #[.bool false, .int .i64 0, .int .i64 0]) 3 24 Try.underlying41 hi0 hz0 hz1 hz2 rfl (by decide) _ [] hs' (Mine.nil W0 W.heap.size 87 3) _ R (p.slots.map sltC) hx (hrow.on (hg.1.less hR)) (even_slt _) (ones_slt _) (by rw [List.length_nil, List.length_map]; omega) (by decide) hg.2.1 ?_
    intro r W1 hm hgr
    rw [List.nil_append] at hm
    have hg1 : Gw W W1 := hg.trans (Gw.grown hgr fun k hk => by cases hk)
    have hK1 := hK.on hg1.1 hK.lt
    have h51 := h5.on hg1.1 h5.lt
    have hb : Below (g3 + 1) W W1 := hg1.2.2 _ (by omega)
    exact hk' r W1 hg1 hm ⟨hK1.cell 2, h51.cell 3⟩ (by rw [hb.cell (p := ⟨g3, k * 4 + 3, none⟩) (by show g3 < g3 + 1; omega)]; exact hc) (by rw [hb.frozen (p := ⟨g3, k * 4 + 3, none⟩) (by show g3 < g3 + 1; omega)]; exact hf)
  have d0 := hK.cell 2
  have d1 := h5.cell 3
  simp at d0 d1
  have HG0 : Hid (Gw W W.drew) := Gw.drew W
  have n1 : ¬ g3 = gd := hne.1
  have n2 : ¬ gd = g3 := fun e => hne.1 e.symm
  have n3 : ¬ g3 = b5 := hne.2
  have n4 : ¬ b5 = g3 := fun e => hne.2 e.symm
  clear h hK h5 hrow hR hs
  refine wp_mono (Q := Exit.then (fun a w => Q .normal a w) (fun _ _ _ => False)) ?_ (fun e a w h => by cases e <;> first | exact h | exact h.elim)
  conv => arg 2; whnf
  go_region_held_law (fun w' => w'.cell? ⟨gd, 2, none⟩ = some (.slice (some ⟨g3, 0, none⟩) n c3) ∧ w'.cell? ⟨b5, 3, none⟩ = some (.slice sl.a sl.n sl.c)) (go_keep) (first
    | ((refine HAP.out _ _ _ _ _ _ _ rfl _ _ rfl (by rfl) (by rfl) HG0.out ?_; intro r W1 hg1 hm1 hs1 hc1 hf1; obtain ⟨hs0, hs2⟩ := hs1)))
  all_goals exact HH.out _ _ _ _ _ _ _ _ W1 r hg1 hm1
/-- Where Own's loop stands: the first k processes have slots of their own. -/
structure OwL (W3 wr : World) (base g3 c3 k : Nat) (ts : List (Sl × Sp.Prc)) (us : List (Sl × Sp.Prc)) : Prop where
  len : us.length = ts.length
  snd : us.map Prod.snd = ts.map Prod.snd
  rest : ∀ i, k ≤ i → us[i]? = ts[i]?
  row : Mine wr base 43 4 (.slice (some ⟨g3, 0, none⟩) ts.length c3) (us.map prcC)
  slots : ∀ (i : Nat) (t : Sl × Sp.Prc), i < k → us[i]? = some t → Row wr (fun b => W3.heap.size ≤ b ∧ b < wr.heap.size) 3 (.slice t.1.a t.1.n t.1.c) (t.2.slots.map sltC)
  on : On (fun b => b < W3.heap.size ∧ b ≠ g3) W3 wr
  size : W3.heap.size ≤ wr.heap.size
  below : ∀ B, B ≤ g3 → Below B W3 wr
theorem OwL.next {W3 wr W4 W1 : World} {base g3 c3 k : Nat} {ts us : List (Sl × Sp.Prc)} (h : OwL W3 wr base g3 c3 k ts us) (hg3 : g3 < W3.heap.size) {sl : Sl} {p : Sp.Prc} (hx : us[k]? = some (sl, p)) (h4 : Gw wr W4) (h1 : Gw W4 W1) {r : Sl} (hm : Mine W1 W4.heap.size 87 3 (.slice r.a r.n r.c) (p.slots.map sltC)) :
    OwL W3 (W1.setCell ⟨g3, k * 4 + 3, none⟩ (.slice r.a r.n r.c)) base g3 c3 (k + 1) ts (us.set k (r, p)) := by
  have hk := (List.getElem?_eq_some_iff.1 hx).1
  have hz := h.size
  have hgr : Gw wr W1 := h4.trans h1
  have hz1 := hgr.2.1
  have hz4 := h4.2.1
  have os := On.set W1 ⟨g3, k * 4 + 3, none⟩ (.slice r.a r.n r.c)
  have oA : On (fun b => b < wr.heap.size ∧ b ≠ g3) wr (W1.setCell ⟨g3, k * 4 + 3, none⟩ (.slice r.a r.n r.c)) := (hgr.1.less fun b hb => hb.1).trans (os.less fun b hb => hb.2)
  have hrow1 : Mine W1 base 43 4 (.slice (some ⟨g3, 0, none⟩) ts.length c3) (us.map prcC) := h.row.on hgr.1 fun g hg => (h.row.lt g hg).2
  have hset := hrow1.set (even_prc us) k 3 (prcC (sl, p)) (.slice r.a r.n r.c) (by rw [List.getElem?_map, hx]; rfl) (by decide)
  refine ⟨by rw [List.length_set]; exact h.len, ?_, fun i hi => by rw [List.getElem?_set_ne (by omega)]; exact h.rest i (by omega), ?_, fun i t hi ht => ?_, h.on.trans (oA.less fun b hb => ⟨by omega, hb.2⟩), by simp; omega, fun B hB => ((h.below B hB).trans (hgr.2.2 B (by omega))).setCell hB _⟩
  · rw [List.map_set]
    have e : (us.map Prod.snd)[k]? = some p := by rw [List.getElem?_map, hx]; rfl
    rw [set_same e]
    exact h.snd
  · have e : (us.map prcC).set k ((prcC (sl, p)).set 3 (.slice r.a r.n r.c)) = (us.set k (r, p)).map prcC := by rw [List.map_set]; rfl
    rw [e] at hset
    exact hset
  · by_cases hik : i = k
    · subst hik
      rw [List.getElem?_set_self hk] at ht
      cases ht
      have hm2 := hm.on os fun g hg => by have := (hm.lt g hg).1; show g ≠ g3; omega
      exact (hm2.row (even_slt _)).more fun b hb => ⟨by omega, hb.2⟩
    · rw [List.getElem?_set_ne (by omega)] at ht
      exact (Row.on (h.slots i t (by omega) ht) (oA.less fun b hb => ⟨hb.2, by omega⟩)).more fun b hb => ⟨hb.1, by simp; omega⟩
set_option maxRecDepth 1000000 in
set_option maxHeartbeats 8000000 in
theorem sown_any (K : Kn) (vo vp vq : Value) (R : Nat → Prop) (w : World) (hv : Objs w R vo K.L) (hp : Row w R 2 vp (K.O.map opnC)) (hq : Procs w R vq K.P) (hR : ∀ b, R b → b < w.heap.size) (hF : ∀ o ∈ K.L, Fits o) (hk : KindOk K.L) (hL : K.L.length ≤ 1000) (hO : K.O.length ≤ 1000) (hP : 1 ≤ K.P.length ∧ K.P.length ≤ 1000) (hS : ∀ p ∈ K.P, p.slots.length ≤ 1000) :
    Calls Try.prog 13 #[.agg #[vo, vp, vq]] w (OwnW K.L K.O K.P w) := by
  obtain ⟨ts, hts, hrow, hsl⟩ := hq
  obtain ⟨qa, qc, rfl, hqm⟩ := Row.form hrow
  rw [List.length_map] at hrow hqm ⊢
  have hn : ts.length = K.P.length := by rw [hts, List.length_map]
  have HB2 : Hid (Gw w ((w.alloc (.cells #[vo, vp, .slice qa ts.length qc] 27)).alloc (.cells #[.slice none 0 0, .slice none 0 0, .slice none 0 0] 27))) := (Gw.new w _).trans (Gw.new _ _)
  have HK2 : Hid (Blk ((w.alloc (.cells #[vo, vp, .slice qa ts.length qc] 27)).alloc (.cells #[.slice none 0 0, .slice none 0 0, .slice none 0 0] 27)) w.heap.size #[vo, vp, .slice qa ts.length qc] 27) := (Blk.new w _ _).alloc _
  have HN2 : Hid (Blk ((w.alloc (.cells #[vo, vp, .slice qa ts.length qc] 27)).alloc (.cells #[.slice none 0 0, .slice none 0 0, .slice none 0 0] 27)) (w.heap.size + 1) #[.slice none 0 0, .slice none 0 0, .slice none 0 0] 27) := blk_new1w w _ _ _
  have HZ2 : Hid (((w.alloc (.cells #[vo, vp, .slice qa ts.length qc] 27)).alloc (.cells #[.slice none 0 0, .slice none 0 0, .slice none 0 0] 27)).heap.size = w.heap.size + 2) := by unfold Hid; simp
  have HV : Hid (Objs w R vo K.L) := hv
  have HP : Hid (Row w R 2 vp (K.O.map opnC)) := hp
  have HQ : Hid (Row w R 4 (.slice qa ts.length qc) (ts.map prcC)) := hrow
  have HSL : Hid (∀ t ∈ ts, Row w R 3 (.slice t.1.a t.1.n t.1.c) (t.2.slots.map sltC)) := hsl
  have HR : Hid (∀ b, R b → b < w.heap.size) := hR
  have HF : Hid (∀ o ∈ K.L, Fits o) := hF
  have HKO : Hid (KindOk K.L) := hk
  have HTS : Hid (K.P = ts.map Prod.snd) := hts
  have HS : Hid (∀ t ∈ ts, t.2.slots.length ≤ 1000) := fun t ht => hS _ (by rw [hts]; exact List.mem_map_of_mem ht)
  have HN : Hid (1 ≤ ts.length) := by unfold Hid; omega
  unfold maxLen at hqm
  have hn1 : ts.length ≤ 1000 := by omega
  clear hv hp hrow hsl hR hF hk hts hS hn hP
  go_enter Try.func13, Try.ntmps13
  go_upto_region 1 with fail
  generalize ((w.alloc (.cells #[vo, vp, .slice qa ts.length qc] 27)).alloc (.cells #[.slice none 0 0, .slice none 0 0, .slice none 0 0] 27)) = w2 at *
  refine own1_wp _ _ w2 w.heap.size K.L K.O ts vo vp (.slice qa ts.length qc) R HK2.out (HV.out.on (HB2.out.1.less HR.out)) (HP.out.on (HB2.out.1.less HR.out)) (HQ.out.on (HB2.out.1.less HR.out)) (fun b hb => by have := HR.out b hb; have := HZ2.out; omega) HF.out hL hO hn1 _ _ _ _ _ _ _ _ _ _ _ _ _ _ _ _ _ _ _ _ _ _ _ _ _ _ _ _ _ _ _ _ _ ?_
  intro y6 y7 y8 y9 y10 y11 y12 y13 y14 y15 w3 gd g1 h1 rb rc hst
  dsimp only
  obtain ⟨ra, rn, rcc⟩ := rc
  obtain ⟨pa, pn, c2⟩ := rb
  obtain ⟨a', c', he, -, hga⟩ := hst.prc.form
  obtain ⟨b', d', he', -, -⟩ := hst.opn.form
  obtain ⟨rfl, rfl, rfl⟩ := Value.slice.inj he
  obtain ⟨rfl, rfl, rfl⟩ := Value.slice.inj he'
  simp only [List.length_map] at hga hst
  obtain ⟨g3, rfl, hg3a, hg3b⟩ := hga HN.out
  obtain ⟨us0, hu1, hu2, hu3⟩ := hst.obj
  have HST : Hid _ := hst
  have hk3 : Blk w3 w.heap.size #[vo, vp, .slice qa ts.length qc] 27 := HK2.out.on hst.on (by have := HZ2.out; omega)
  have HK3 : Hid (Blk w3 w.heap.size #[vo, vp, .slice qa ts.length qc] 27) := hk3
  have HU : Hid (K.L = us0.map Prod.snd ∧ Mine w3 g1 40 9 (.slice (some ⟨g1, 0, none⟩) K.L.length K.L.length) (us0.map objC) ∧ ∀ t ∈ us0, Lists w3 (fun b => g1 < b ∧ b < h1) t) := ⟨hu1, hu2, hu3⟩
  have kc := hk3.cell 2
  have kl := hk3.lt
  have gdl := hst.low.2.2.2.2.1
  have HG3 : Hid (w2.heap.size ≤ g3 ∧ g3 < w3.heap.size ∧ (g3 < g1 ∨ h1 ≤ g3) ∧ g3 ≠ gd ∧ some g3 ≠ (Value.slice pa K.O.length c2).ownBlock) := ⟨hg3a, hg3b, (hst.apC g3 rfl).2⟩
  have HL0 : Hid (OwL w3 w3 w2.heap.size g3 rcc 0 ts ts) := ⟨rfl, rfl, fun _ _ => rfl, hst.prc, fun i t hi => absurd hi (Nat.not_lt_zero i), fun _ _ => rfl, Nat.le_refl _, fun B _ => Below.refl B w3⟩
  simp at kc
  clear he he' hu1 hu2 hu3 hk3 hst hg3a hg3b
  go_wp2_with fail
  go_loopw [19] (fun i wr => ∃ (k : Nat) (us : List (Sl × Sp.Prc)), k ≤ ts.length ∧ i = .int .i64 k ∧ OwL w3 wr w2.heap.size g3 rcc k ts us) (fun i _ => ts.length - (intOf i).toNat)
  case atStart => exact ⟨0, ts, Nat.zero_le _, rfl, HL0.out⟩
  case round =>
    obtain ⟨k, us, hk, rfl, hI⟩ := hrel
    have HI : Hid (OwL w3 wr w2.heap.size g3 rcc k ts us) := hI
    have hg3 := HG3.out
    have hz2 := HZ2.out
    have hon := hI.on
    have hsz := hI.size
    clear hI
    by_cases hlt : k < ts.length
    · obtain ⟨⟨sl, p⟩, hx⟩ : ∃ x, ts[k]? = some x := ⟨_, List.getElem?_eq_getElem hlt⟩
      have hux : us[k]? = some (sl, p) := (HI.out.rest k (Nat.le_refl _)).trans hx
      have hRr : On R w wr := ((HB2.out.1.less HR.out).trans (HST.out.on.less fun b hb => by have := HR.out b hb; omega)).trans (hon.less fun b hb => by have := HR.out b hb; have := HST.out.size; omega)
      obtain ⟨b, of, cc, he, hSb, hcl, hcm, h5⟩ := (Row.on HQ.out hRr).some (by rw [List.length_map]; omega)
      obtain ⟨rfl, -, rfl⟩ := Value.slice.inj he
      have hi := h5 k (prcC (sl, p)) (by rw [List.getElem?_map, hx]; rfl)
      have c0 := hi 0 _ rfl
      have c1 := hi 1 _ rfl
      have c2' := hi 2 _ rfl
      have c3 := hi 3 _ rfl
      rw [Nat.add_zero] at c0
      rw [List.length_map] at hcl
      unfold maxLen at hcm
      have HX : Hid (ts[k]? = some (sl, p)) := hx
      have HUX : Hid (us[k]? = some (sl, p)) := hux
      have HRR : Hid (On R w wr) := hRr
      have HON : Hid (On (fun b => b < w3.heap.size ∧ b ≠ g3) w3 wr) := hon
      clear he h5 hi hx hux hRr hon
      go_upto_region 5 with fail
      have hn5 := Blk.new wr #[.bool p.live, .bool p.fenced, .int .i64 p.code, .slice sl.a sl.n sl.c] 43
      have hg5 := Gw.new wr (.cells #[.bool p.live, .bool p.fenced, .int .i64 p.code, .slice sl.a sl.n sl.c] 43)
      generalize (wr.alloc (.cells #[.bool p.live, .bool p.fenced, .int .i64 p.code, .slice sl.a sl.n sl.c] 43)) = w5 at *
      have hbox5 : Blk w5 gd #[.slice (some ⟨g1, 0, none⟩) K.L.length K.L.length, .slice pa K.O.length c2, .slice (some ⟨g3, 0, none⟩) ts.length rcc] 27 := (HST.out.box.on HON.out ⟨gdl, fun e => hg3.2.2.2.1 e.symm⟩).on hg5.1 (by omega)
      have hrow5 : Row w5 R 3 (.slice sl.a sl.n sl.c) (p.slots.map sltC) := Row.on (Row.on (HSL.out _ (List.mem_of_getElem? HX.out)) HRR.out) (hg5.1.less fun b hb => by have := HR.out b hb; omega)
      have hm5 : Mine w5 w2.heap.size 43 4 (.slice (some ⟨g3, 0, none⟩) ts.length rcc) (us.map prcC) := HI.out.row.on hg5.1 fun g hg => (HI.out.row.lt g hg).2
      obtain ⟨cur, hblk, -, -, -, -, hcur⟩ := hm5.blk
      have hcell : w5.cell? ⟨g3, k * 4 + 3, none⟩ = some (.slice sl.a sl.n sl.c) := by
        rw [hblk.cell]
        exact hcur _ _ (flatten_at (even_prc us) k (prcC (sl, p)) (by rw [List.getElem?_map, HUX.out]; rfl) 3 _ rfl)
      refine own5_wp _ w5 gd wr.heap.size g3 rcc ts.length k _ _ _ sl p R hbox5 hn5 hrow5 (fun b hb => by have := HR.out b hb; have := hg5.2.1; omega) (HS.out _ (List.mem_of_getElem? HX.out)) hlt hn1 hblk.lt hcell (hblk.free _) ⟨hg3.2.2.2.1, by omega⟩ _ _ _ _ _ _ _ _ _ _ _ _ _ _ _ _ _ _ _ _ _ _ _ _ _ _ _ _ _ _ _ ?_
      intro y24 y25 y26 y27 y28 y29 y30 y31 w6 r hg6 hm6
      dsimp only
      have HN6 : Hid _ := HI.out.next hg3.2.1 HUX.out hg5 hg6 hm6
      clear hn5 hg5 hbox5 hrow5 hm5 hblk hcur hcell hg6 hm6 c0 c1 c2' c3
      go_wp2
      go_roundw
      case rel => exact ⟨k + 1, _, by omega, by go_num, HN6.out⟩
      case measure => simp [intOf]; omega
    · obtain rfl : k = ts.length := by omega
      have hN : Blk wr (w.heap.size + 1) #[.slice none 0 0, .slice none 0 0, .slice none 0 0] 27 := (HN2.out.on HST.out.on (by omega)).on hon ⟨by have := HST.out.size; omega, by omega⟩
      have hB := HST.out.box.on hon ⟨gdl, fun e => hg3.2.2.2.1 e.symm⟩
      have e0 := hN.cell
      have ef := hN.free
      have b0 := hB.cell
      have hgl := hN.lt
      have hdl := hB.lt
      have HFIN : Hid (∀ W', W' = ((wr.setCell ⟨w.heap.size + 1, 0, none⟩ (.slice (some ⟨g1, 0, none⟩) K.L.length K.L.length)).setCell ⟨w.heap.size + 1, 1, none⟩ (.slice pa K.O.length c2)).setCell ⟨w.heap.size + 1, 2, none⟩ (.slice (some ⟨g3, 0, none⟩) us.length rcc) → OwnW K.L K.O K.P w (.returned (.agg #[.slice (some ⟨g1, 0, none⟩) K.L.length K.L.length, .slice pa K.O.length c2, .slice (some ⟨g3, 0, none⟩) us.length rcc])) W') := fun W' hW' => by
        have hI := HI.out
        have ob1 : ∀ (g n c x : Nat), (Value.slice (some ⟨x, 0, none⟩) n c).ownBlock = some g → g = x := fun g n c x hg => by simp [Value.ownBlock] at hg; exact hg.symm
        have hlen : us0.length = K.L.length := by rw [HU.out.1, List.length_map]
        have hlu : us.length = ts.length := hI.len
        have hz : W'.heap.size = wr.heap.size := by subst hW'; simp
        have oE : On (fun b => b ≠ w.heap.size + 1) wr W' := by
          subst hW'
          exact ((On.set wr ⟨w.heap.size + 1, 0, none⟩ _).trans (On.set _ ⟨w.heap.size + 1, 1, none⟩ _)).trans (On.set _ ⟨w.heap.size + 1, 2, none⟩ _)
        have o3 : On (fun b => b < w3.heap.size ∧ b ≠ g3 ∧ b ≠ w.heap.size + 1) w3 W' := (hI.on.less fun b hb => ⟨hb.1, hb.2.1⟩).trans (oE.less fun b hb => hb.2.2)
        have hlow := HST.out.low
        have hpb : ∀ b, (Value.slice pa K.O.length c2).ownBlock = some b → w2.heap.size ≤ b ∧ b < w3.heap.size ∧ b ≠ g3 ∧ (b < g1 ∨ h1 ≤ b) := fun b hb => ⟨(HST.out.opn.lt b hb).1, (HST.out.apB b hb).1, fun e => hg3.2.2.2.2 (by rw [hb, e]), (HST.out.apB b hb).2.1⟩
        have hBz : Below w.heap.size w W' := by
          have h1 := HB2.out.2.2 _ (Nat.le_refl _)
          have h2 := HST.out.below w.heap.size (by omega)
          have h3 := hI.below w.heap.size (by omega)
          subst hW'
          exact (((h1.trans (h2.trans h3)).setCell (p := ⟨w.heap.size + 1, 0, none⟩) (by show w.heap.size ≤ w.heap.size + 1; omega) _).setCell (p := ⟨w.heap.size + 1, 1, none⟩) (by show w.heap.size ≤ w.heap.size + 1; omega) _).setCell (p := ⟨w.heap.size + 1, 2, none⟩) (by show w.heap.size ≤ w.heap.size + 1; omega) _
        refine ⟨fun b => (g1 < b ∧ b < h1) ∨ (w3.heap.size ≤ b ∧ b < wr.heap.size), g1, K.L.length, pa, c2, g3, rcc, ⟨us0, K.O, us⟩, by rw [← hlen], ⟨?_, ?_, ?_, fun t ht => ?_, fun t ht => ?_, fun b hb => ?_, ⟨fun e => ?_, fun e => ?_, by omega⟩, by rw [← HU.out.1]; exact HKO.out, ⟨by show us0.length ≤ 1000; omega, hO, by show 1 ≤ us.length; have := HN.out; omega, by show us.length ≤ 1000; omega⟩⟩, fun b hb => by omega, HU.out.1.symm, rfl, by rw [HTS.out]; exact hI.snd, hBz⟩
        · show Mine W' w.heap.size 40 9 (.slice (some ⟨g1, 0, none⟩) us0.length K.L.length) (us0.map objC)
          rw [hlen]
          exact (HU.out.2.1.on o3 fun g hg => by have := ob1 g _ _ _ hg; exact ⟨by omega, by omega, by omega⟩).base fun g hg => by have := ob1 g _ _ _ hg; omega
        · exact (HST.out.opn.on o3 fun g hg => by have := hpb g hg; omega).base fun g hg => by have := hpb g hg; omega
        · show Mine W' w.heap.size 43 4 (.slice (some ⟨g3, 0, none⟩) us.length rcc) (us.map prcC)
          rw [hlu]
          exact (hI.row.on oE fun g hg => by have := ob1 g _ _ _ hg; show g ≠ _; omega).base fun g hg => by have := ob1 g _ _ _ hg; omega
        · exact ((HU.out.2.2 t ht).on (o3.less fun b hb => by omega)).more fun b hb => Or.inl hb
        · obtain ⟨i, hi, rfl⟩ := List.getElem_of_mem ht
          exact (Row.on (hI.slots i _ (by show i < ts.length; have : i < us.length := hi; omega) (List.getElem?_eq_getElem hi)) (oE.less fun b hb => by omega)).more fun b hb => Or.inr hb
        · refine ⟨by omega, by omega, fun e => ?_, by omega⟩
          have := hpb b (by rw [e]; rfl)
          omega
        · have := hpb g1 (by rw [e]; rfl)
          omega
        · have := hpb g3 (by rw [e]; rfl)
          omega
      have hlu := HI.out.len
      rw [hlu] at HFIN
      have HCF : Hid (Blk (((wr.setCell ⟨w.heap.size + 1, 0, none⟩ (.slice (some ⟨g1, 0, none⟩) K.L.length K.L.length)).setCell ⟨w.heap.size + 1, 1, none⟩ (.slice pa K.O.length c2)).setCell ⟨w.heap.size + 1, 2, none⟩ (.slice (some ⟨g3, 0, none⟩) ts.length rcc)) (w.heap.size + 1) #[.slice (some ⟨g1, 0, none⟩) K.L.length K.L.length, .slice pa K.O.length c2, .slice (some ⟨g3, 0, none⟩) ts.length rcc] 27) := ((hN.set 0 _).set 1 _).set 2 _
      clear hN hB hga
      go_wp2
      have hcF := HCF.out.cell
      refine bodyPost_ret (v := .agg #[.slice (some ⟨g1, 0, none⟩) K.L.length K.L.length, .slice pa K.O.length c2, .slice (some ⟨g3, 0, none⟩) ts.length rcc]) (by simp [results, Try.results13, go_sem, hcF]) rfl ?_
      exact HFIN.out _ rfl
end Go.Proofs.Ytdciohinlhbliaa


/-
  sweep.freeOpens, walked again: what lies below is as it was.
-/
namespace Go.Proofs.Ytdciohinlhbliaa
open Go.RowKit
open Wp
set_option maxRecDepth 100000 in
set_option maxHeartbeats 2000000 in
theorem freeOpens_below (L : List Sp.Ob) (O : List Sp.Opn) (P : List Sp.Prc) (vo vq : Value) (pa : Option Addr) (S : Nat → Prop) (c base : Nat) (w : World) (hM : Mine w base 54 2 (.slice pa O.length c) (O.map opnC)) (hv : Objs w S vo L) (hq : Procs w S vq P) (hS : ∀ b, S b → b < w.heap.size ∧ pa ≠ some ⟨b, 0, none⟩) (hL : O.length ≤ 1000) (hk : KindOk L) :
    Calls Try.prog 39 #[.agg #[vo, .slice pa O.length c, vq]] w fun e w' => e = .returned (.tuple #[]) ∧ Mine w' base 54 2 (.slice pa O.length c) ((O.mapIdx (op (hadB L P O.length))).map opnC) ∧ On (fun b => b < w.heap.size ∧ pa ≠ some ⟨b, 0, none⟩) w w' ∧ w.heap.size ≤ w'.heap.size ∧ ∀ B, B ≤ base → B ≤ w.heap.size → Below B w w' := by
  obtain ⟨oa, oc, rfl, hom⟩ := hv.form
  have HV : Hid (Objs w S (.slice oa L.length oc) L) := hv
  have HQ : Hid (Procs w S vq P) := hq
  have HMO : Hid (Mine w base 54 2 (.slice pa O.length c) (O.map opnC)) := hM
  have HS : Hid (∀ b, S b → b < w.heap.size ∧ pa ≠ some ⟨b, 0, none⟩) := hS
  have HK : Hid (KindOk L) := hk
  unfold maxLen at hom
  have HM : Hid (∀ w', Calls Try.prog 61 #[.int .i64 (O.length : Int)] w' _) := fun w' => marks_any O.length (by omega) w'
  have hmk := fun (fn : Fn) (first cap : Array Value) (w : World) => (rfl : (Instr.makeFunc fn first cap).run Try.prog w = .ok (.func fn first cap) w)
  have HK0 : Hid (Blk (w.alloc (.cells #[.slice oa L.length oc, .slice pa O.length c, vq] 27)) w.heap.size #[.slice oa L.length oc, .slice pa O.length c, vq] 27) := Blk.new _ _ _
  have HB0 : Hid (Below w.heap.size w (w.alloc (.cells #[.slice oa L.length oc, .slice pa O.length c, vq] 27))) := (Below.refl _ _).alloc (Nat.le_refl _) _
  have eg : Enters Try.prog 69 := by unfold Enters; intro args w; rfl
  have HEG : Hid (Enters Try.prog 69) := eg
  unfold Enters at eg
  clear hv hq hM hS hk
  go_enter Try.func39, Try.ntmps39
  go_wp2_with fail
  generalize (w.alloc (.cells #[.slice oa L.length oc, .slice pa O.length c, vq] 27)) = w1 at *
  refine Calls.mono (HM.out w1) ?_
  rintro e w2 ⟨gb, gr, gm, rfl, hm2, hgb, hgr, hgm, hb2⟩
  have hk1 := HK0.out.lt
  have HK2 : Hid (Blk w2 w.heap.size #[.slice oa L.length oc, .slice pa O.length c, vq] 27) := HK0.out.below hb2 hk1
  have HB2 : Hid (Below w.heap.size w w2) := HB0.out.trans (hb2.mono HB0.out.size)
  have hgrl := (hm2.row.lt gr rfl).2
  have HFO : Hid (FO (w2.alloc (.cells #[markF gb gm] 95)) gb gr gm w2.heap.size O.length (w2.alloc (.cells #[markF gb gm] 95)) (List.replicate O.length false)) := by
    refine ⟨hm2.on (On.alloc _ _) hm2.box.lt hgrl hm2.var.lt, Blk.new _ _ _, fun _ _ => rfl, Nat.le_refl _, fun B _ => Below.refl B _, by simp; omega, by simp, by omega⟩
  have HB3 : Hid (Below w.heap.size w (w2.alloc (.cells #[markF gb gm] 95))) := HB2.out.alloc HB2.out.size _
  have HK3 : Hid (Blk (w2.alloc (.cells #[markF gb gm] 95)) w.heap.size #[.slice oa L.length oc, .slice pa O.length c, vq] 27) := HK2.out.alloc _
  have k2 := HK2.out.cell
  have kf := HK2.out.free
  have kl := HK2.out.lt
  have hwr : w.heap.size < gr := by omega
  unfold markF at *
  clear hm2 hb2 HM HK0 HB0
  go_wp2_with fail
  generalize (w2.alloc (.cells #[.func (.func 81) #[] #[.pointer (some ⟨gb, 0, none⟩), .pointer (some ⟨gm, 0, none⟩)]] 95)) = w3 at *
  have HZ3 : Hid (w.heap.size ≤ w3.heap.size) := HB3.out.size
  have HS3 : Hid (∀ b, S b → b < w3.heap.size ∧ b ≠ gr) := fun b hb => by have := (HS.out b hb).1; have := HZ3.out; omega
  have HWS : Hid (On S w w3) := (On.of HB3.out).less fun b hb => (HS.out b hb).1
  refine Calls.mono (HFO.out.held P vq S (procs_on HQ.out HWS.out) HS3.out HEG.out) ?_
  rintro e w4 ⟨rfl, hfo⟩
  have HFO4 : Hid (FO w3 gb gr gm w2.heap.size O.length w4 ((heldL P).foldl hadS (List.replicate O.length false))) := hfo
  have HKL3 : Hid (w.heap.size < w3.heap.size) := HK3.out.lt
  have hK4 : Blk w4 w.heap.size #[.slice oa L.length oc, .slice pa O.length c, vq] 27 := HK3.out.on hfo.on ⟨HKL3.out, by omega⟩
  have k4 := hK4.cell 0
  have kf4 := hK4.free
  simp at k4
  clear hfo hK4 k2 kf kl
  go_wp2_with fail
  have HKF : Hid (∀ wr ms, FO w3 gb gr gm w2.heap.size O.length wr ms → Blk wr w.heap.size #[.slice oa L.length oc, .slice pa O.length c, vq] 27) := fun wr ms h => HK3.out.on h.on ⟨HKL3.out, by omega⟩
  have HOF : Hid (∀ wr ms, FO w3 gb gr gm w2.heap.size O.length wr ms → Objs wr S (.slice oa L.length oc) L) := fun wr ms h => (HV.out.on HWS.out).on (h.on.less fun b hb => HS3.out b hb)
  clear k4 kf4
  go_loopw [23] (fun s23 wr => ∃ k : Nat, k ≤ L.length ∧ s23 = .int .i64 k ∧ FO w3 gb gr gm w2.heap.size O.length wr ((L.take k).foldl hadO ((heldL P).foldl hadS (List.replicate O.length false)))) (fun s23 _ => L.length - (intOf s23).toNat)
  case atStart => exact ⟨0, Nat.zero_le _, rfl, HFO4.out⟩
  case round =>
    clear HFO4
    obtain ⟨k, hk, rfl, hfr⟩ := hrel
    by_cases hlt : k < L.length
    · obtain ⟨x, hx⟩ : ∃ x, L[k]? = some x := ⟨_, List.getElem?_eq_getElem hlt⟩
      have htk : (L.take (k + 1)).foldl hadO ((heldL P).foldl hadS (List.replicate O.length false)) = hadO ((L.take k).foldl hadO ((heldL P).foldl hadS (List.replicate O.length false))) x := by
        rw [List.take_add_one, hx, List.foldl_append]; rfl
      obtain ⟨b, o, c', s, he, hSb, hc, hcm, hli, c0, c1, c2, c3, c4, c5, c6, c7, c8⟩ := (HOF.out wr _ hfr).open hx
      obtain ⟨rfl, -, rfl⟩ := Value.slice.inj he
      unfold maxLen at hcm
      have HC : Hid (∀ ob, Calls Try.prog 67 #[.agg #[.int .i64 x.kind, .slice s.d.a s.d.n s.d.c, .slice s.e.a s.e.n s.e.c, .string x.target, .int .i64 x.peer, .slice s.q.a s.q.n s.q.c, .int .i64 x.proc, .int .i64 x.links, .int .i64 x.up], .func (.func 69) #[] #[.pointer (some ⟨w2.heap.size, 0, none⟩)]] (wr.alloc ob) fun e w' => e = .returned (.tuple #[]) ∧ FO w3 gb gr gm w2.heap.size O.length w' ((L.take (k + 1)).foldl hadO ((heldL P).foldl hadS (List.replicate O.length false)))) := fun ob => by
        rw [htk]
        exact (hfr.alloc ob).wait x s S (hli.on ((On.alloc wr ob).less fun b hb => by have := (HS3.out b hb).1; have := hfr.size; omega)) (HK.out x (List.mem_of_getElem? hx)).2 HS3.out HEG.out
      have kr := (HKF.out wr _ hfr).cell 0
      have kfr := (HKF.out wr _ hfr).free
      simp at kr
      clear hfr htk hx hli he
      go_wp2_with fail
      refine Calls.mono (HC.out _) ?_
      rintro e w5 ⟨rfl, hf5⟩
      have HF5 : Hid _ := hf5
      clear hf5 c0 c1 c2 c3 c4 c5 c6 c7 c8 kr kfr
      go_wp2
      go_roundw
      case rel => exact ⟨k + 1, by omega, by go_num, HF5.out⟩
      case measure => simp [intOf]; omega
    · obtain rfl : k = L.length := by omega
      rename World => wz
      rw [List.take_length] at hfr
      have hfr' : FO w3 gb gr gm w2.heap.size O.length wz (hadB L P O.length) := hfr
      have HFR : Hid (FO w3 gb gr gm w2.heap.size O.length wz (hadB L P O.length)) := hfr'
      have hkr := HKF.out wz _ hfr
      have k1 := hkr.cell 1
      have kf1 := hkr.free
      simp at k1
      have HON : Hid (On (fun b => b < w.heap.size) w wz) := (On.of HB3.out).trans (hfr.on.less fun b hb => by have := HZ3.out; omega)
      have HZR : Hid (w.heap.size ≤ wz.heap.size) := Nat.le_trans HZ3.out hfr.size
      have HBZ : Hid (∀ B, B ≤ w.heap.size → Below B w wz) := fun B hB => (HB3.out.mono hB).trans (hfr.below B (by omega))
      clear hfr hfr' hkr
      go_wp2
      have hml := hadB_len L P O.length
      obtain ⟨ms, hms⟩ : ∃ ms, hadB L P O.length = ms := ⟨_, rfl⟩
      rw [hms] at HFR hml
      have HMSE : Hid (hadB L P O.length = ms) := hms
      clear hms
      have HMS : Hid (ms.length = O.length) := hml
      have HMW : Hid (Mine wz base 54 2 (.slice pa O.length c) ((rowTo (op ms) O 0).map opnC)) := by unfold Hid; rw [rowTo_zero]; exact HMO.out.on HON.out fun b hb => (HMO.out.lt b hb).2
      clear hml k1 kf1
      go_loopw [34] (fun s34 wr => ∃ k : Nat, k ≤ O.length ∧ s34 = .int .i64 k ∧ Mine wr base 54 2 (.slice pa O.length c) ((rowTo (op ms) O k).map opnC) ∧ On (fun b => pa ≠ some ⟨b, 0, none⟩) wz wr ∧ wr.heap.size = wz.heap.size ∧ (∀ B, B ≤ base → B ≤ w.heap.size → Below B w wr)) (fun s34 _ => O.length - (intOf s34).toNat)
      case atStart => exact ⟨0, Nat.zero_le _, rfl, HMW.out, fun _ _ => rfl, rfl, fun B _ hB => HBZ.out B hB⟩
      case round =>
        obtain ⟨k, hk, rfl, hmq, hoq, hsq, hbq⟩ := hrel
        have HBQ : Hid (∀ B, B ≤ base → B ≤ w.heap.size → Below B w wr) := hbq
        by_cases hlt : k < O.length
        · obtain ⟨g, rfl⟩ := hmq.at (by omega)
          have hgw : g < w.heap.size := (HMO.out.lt g rfl).2
          have HMQ : Hid (Mine wr base 54 2 (.slice (some ⟨g, 0, none⟩) O.length c) ((rowTo (op ms) O k).map opnC)) := hmq
          have HOQ : Hid (On (fun b => some (⟨g, 0, none⟩ : Addr) ≠ some ⟨b, 0, none⟩) wz wr) := hoq
          have HSQ : Hid (wr.heap.size = wz.heap.size) := hsq
          have hog : On (fun b => b ≠ g) wz wr := hoq.less fun b hb e => hb (by cases e; rfl)
          have hkq : Blk wr w.heap.size #[.slice oa L.length oc, .slice (some ⟨g, 0, none⟩) O.length c, vq] 27 := (HKF.out wz _ HFR.out).on hog (by show w.heap.size ≠ g; omega)
          have q1 := hkq.cell 1
          have qf := hkq.free
          simp at q1
          obtain ⟨x, hx⟩ : ∃ x, ms[k]? = some x := ⟨_, List.getElem?_eq_getElem (by have := HMS.out; omega)⟩
          obtain ⟨o, ho⟩ : ∃ t, O[k]? = some t := ⟨_, List.getElem?_eq_getElem hlt⟩
          have hmr := HFR.out.marks.row.on hog fun b hb => by simp [Value.ownBlock] at hb; subst hb; show gr ≠ g; omega
          obtain ⟨cm, hbm, -, -, -, -, hcm2⟩ := hmr.blk
          have m0 : wr.cell? ⟨gr, k, none⟩ = some (.bool x) := by
            rw [hbm.cell k]
            refine hcm2 k _ ?_
            have := flatten_at (even_b ms) k (bC x) (by rw [List.getElem?_map, hx]; rfl) 0 (.bool x) rfl
            simpa using this
          have mf := hbm.free
          have hgd : ms.getD k false = x := by rw [List.getD_eq_getElem?_getD, hx]; rfl
          obtain ⟨cur, hblk, -, hcc, hccm, -, hcur⟩ := hmq.blk
          unfold maxLen at hccm
          have hget : ((rowTo (op ms) O k).map opnC)[k]? = some (opnC o) := by rw [List.getElem?_map, rowTo_at ho]; rfl
          have hcell : ∀ j u, (opnC o)[j]? = some u → wr.cell? ⟨g, k * 2 + j, none⟩ = some u := fun j u hj => by
            rw [hblk.cell]
            exact hcur _ u (flatten_at (even_opn _) k _ hget j u hj)
          have y0 := hcell 0 _ rfl
          have y1 := hcell 1 _ rfl
          have yf := hblk.free
          rw [Nat.add_zero] at y0
          have HN : Hid (rowTo (op ms) O (k + 1) = (rowTo (op ms) O k).set k (op ms k o)) := rowTo_next ho
          have HLT : Hid (k < (rowTo (op ms) O k).length) := by unfold Hid; rw [rowTo_len]; exact hlt
          have HSM : Hid ((rowTo (op ms) O k).set k o = rowTo (op ms) O k) := set_same (rowTo_at ho)
          have hkN : (k : Int) < (O.length : Int) := by omega
          clear hmq hoq hsq hbq hog hkq hmr hbm hcm2 hblk hcur hget hcell hx ho
          cases x with
          | true =>
            have HF : Hid (op ms k o = o) := by unfold Hid op; rw [if_neg (by rw [hgd]; decide)]
            clear hgd
            go_wp2
            exact ⟨⟨k + 1, by omega, by go_num, by rw [HN.out, HF.out, HSM.out]; exact HMQ.out, HOQ.out, HSQ.out, HBQ.out⟩, by simp [intOf]; omega⟩
          | false =>
            have HF : Hid (op ms k o = opnZ) := by unfold Hid op; rw [if_pos hgd]
            clear hgd
            go_wp2
            generalize hW : ((wr.setCell ⟨g, k * 2, none⟩ (.int .i64 (-1))).setCell ⟨g, k * 2 + 1, none⟩ (.int .i64 0)) = W2
            obtain ⟨h2, hon2, hsz2⟩ := HMQ.out.two (even_opn _) k (by rw [List.length_map]; exact HLT.out) _ _ W2 hW.symm
            exact ⟨⟨k + 1, by omega, by go_num, by rw [HN.out, HF.out, List.map_set]; exact h2, HOQ.out.trans (hon2.less fun b hb e => hb (by rw [e])), hsz2.trans HSQ.out, fun B h1 h2' => by have hg := (HMQ.out.lt g rfl).1; rw [← hW]; exact ((HBQ.out B h1 h2').setCell (p := ⟨g, k * 2, none⟩) (by show B ≤ g; omega) _).setCell (p := ⟨g, k * 2 + 1, none⟩) (by show B ≤ g; omega) _⟩, by simp [intOf]; omega⟩
        · obtain rfl : k = O.length := by omega
          have HE : Hid (On (fun b => b < w.heap.size ∧ pa ≠ some ⟨b, 0, none⟩) w wr) := (HON.out.less fun b hb => hb.1).trans (hoq.less fun b hb => hb.2)
          have HZ : Hid (w.heap.size ≤ wr.heap.size) := by have := HZR.out; unfold Hid; omega
          have HMF : Hid _ := hmq
          clear hmq hoq hsq hbq
          go_wp2
          go_end0
          exact ⟨rfl, by rw [HMSE.out, ← rowTo_end (op ms) O (Nat.le_refl _)]; exact HMF.out, HE.out, HZ.out, HBQ.out⟩
end Go.Proofs.Ytdciohinlhbliaa


/-
  Sweep's round, step by step: what lies below is as it was.
-/
namespace Go.Proofs.Ytdciohinlhbliaa
open Go.RowKit
open Wp
/-- The first step: objects. -/
theorem SwI.step1b {S : Nat → Prop} {base g1 c1 : Nat} {pa : Option Addr} {c2 g3 c3 : Nat} {w : World} {x : Swp} (h : SwI S base g1 c1 pa c2 g3 c3 w x) :
    Calls Try.prog 38 #[.agg #[.slice (some ⟨g1, 0, none⟩) x.ts.length c1, .slice pa x.O.length c2, .slice (some ⟨g3, 0, none⟩) x.ps.length c3]] w fun e w' => e = .returned (.tuple #[]) ∧ SwI S base g1 c1 pa c2 g3 c3 w' ⟨x.ts1, x.O, x.ps⟩ ∧ On (fun b => b < w.heap.size ∧ b ≠ g1 ∧ pa ≠ some ⟨b, 0, none⟩ ∧ b ≠ g3) w w' ∧ w.heap.size ≤ w'.heap.size ∧ ∀ B, B ≤ base → B ≤ w.heap.size → Below B w w' := by
  refine (freeObjs_any x.ts x.O (x.ps.map Prod.snd) (.slice pa x.O.length c2) (.slice (some ⟨g3, 0, none⟩) x.ps.length c3) (fun b => b < w.heap.size ∧ b ≠ g1) g1 c1 base w h.ob (fun t ht => (h.lists t ht).more fun b hb => ⟨(h.low b hb).1, (h.low b hb).2.1⟩) ((h.op.rowOwn (even_opn _)).more fun b hb => ⟨(h.op.lt b hb).2, fun e => ?_⟩) (procs_more h.prcs fun b hb => ⟨hb.1, hb.2.2⟩) (fun b hb => hb) h.size.1 h.kinds).mono ?_
  · subst e
    exact h.apart.1 (h.op.blockAt hb)
  · rintro e w' ⟨rfl, h1, h2, h3, h4⟩
    have hl : x.ts1.length = x.ts.length := by unfold Swp.ts1; simp
    refine ⟨rfl, ⟨by show Mine _ _ _ _ (.slice _ x.ts1.length _) _; rw [hl]; exact h1, h.op.on h2 fun b hb => ⟨(h.op.lt b hb).2, ?_⟩, h.pr.on h2 fun b hb => by cases hb; exact ⟨(h.pr.lt g3 rfl).2, fun e => h.apart.2.2 e.symm⟩, fun t ht => ?_, fun t ht => Row.on (h.slots t ht) (h2.less fun b hb => ⟨(h.low b hb).1, (h.low b hb).2.1⟩), fun b hb => ⟨by have := (h.low b hb).1; omega, (h.low b hb).2⟩, h.apart, (Swp.rnd_kinds h.kinds : KindOk (x.rnd.ts.map Prod.snd)), by show x.ts1.length ≤ 1000 ∧ _; rw [hl]; exact h.size⟩, h2.less fun b hb => ⟨hb.1, hb.2.1⟩, h3, fun B q1 _ => h4 B (by have := (h.ob.lt g1 rfl).1; omega)⟩
    · exact fun e => h.apart.1 (by rw [← e]; exact h.op.blockAt hb)
    · obtain ⟨i, hi, rfl⟩ := List.mem_mapIdx.1 (show t ∈ x.ts.mapIdx (fo (reachB x.kn) x.ts.length) from ht)
      have h0 := (h.lists x.ts[i] (List.getElem_mem hi)).on (h2.less fun b hb => ⟨(h.low b hb).1, (h.low b hb).2.1⟩)
      unfold fo
      split
      · exact ⟨Row.nil _ _ _ _ _, Row.nil _ _ _ _ _, ⟨[], rfl, Row.nil _ _ _ _ _, fun t ht => by cases ht⟩⟩
      · split
        · exact h0
        · exact h0
/-- The second step: open files. -/
theorem SwI.step2b {S : Nat → Prop} {base g1 c1 : Nat} {pa : Option Addr} {c2 g3 c3 : Nat} {w : World} {x : Swp} (h : SwI S base g1 c1 pa c2 g3 c3 w x) :
    Calls Try.prog 39 #[.agg #[.slice (some ⟨g1, 0, none⟩) x.ts.length c1, .slice pa x.O.length c2, .slice (some ⟨g3, 0, none⟩) x.ps.length c3]] w fun e w' => e = .returned (.tuple #[]) ∧ SwI S base g1 c1 pa c2 g3 c3 w' ⟨x.ts, x.O.mapIdx (Wp.op (hadB (x.ts.map Prod.snd) (x.ps.map Prod.snd) x.O.length)), x.ps⟩ ∧ On (fun b => b < w.heap.size ∧ b ≠ g1 ∧ pa ≠ some ⟨b, 0, none⟩ ∧ b ≠ g3) w w' ∧ w.heap.size ≤ w'.heap.size ∧ ∀ B, B ≤ base → B ≤ w.heap.size → Below B w w' := by
  refine (freeOpens_below (x.ts.map Prod.snd) x.O (x.ps.map Prod.snd) (.slice (some ⟨g1, 0, none⟩) x.ts.length c1) (.slice (some ⟨g3, 0, none⟩) x.ps.length c3) pa (fun b => b < w.heap.size ∧ pa ≠ some ⟨b, 0, none⟩) c2 base w h.op (h.objs.more fun b hb => ⟨hb.1, hb.2.1⟩) (procs_more h.prcs fun b hb => ⟨hb.1, hb.2.1⟩) (fun b hb => hb) h.size.2.1 h.kinds).mono ?_
  rintro e w' ⟨rfl, h1, h2, h3, h4⟩
  exact ⟨rfl, ⟨h.ob.on h2 fun b hb => by cases hb; exact ⟨(h.ob.lt g1 rfl).2, h.apart.1⟩, by show Mine _ _ _ _ (.slice _ (List.mapIdx _ _).length _) _; rw [List.length_mapIdx]; exact h1, h.pr.on h2 fun b hb => by cases hb; exact ⟨(h.pr.lt g3 rfl).2, h.apart.2.1⟩, fun t ht => (h.lists t ht).on (h2.less fun b hb => ⟨(h.low b hb).1, (h.low b hb).2.2.1⟩), fun t ht => Row.on (h.slots t ht) (h2.less fun b hb => ⟨(h.low b hb).1, (h.low b hb).2.2.1⟩), fun b hb => ⟨by have := (h.low b hb).1; omega, (h.low b hb).2⟩, h.apart, h.kinds, by show _ ∧ (List.mapIdx _ _).length ≤ 1000 ∧ _; rw [List.length_mapIdx]; exact h.size⟩, h2.less fun b hb => ⟨hb.1, hb.2.2.1⟩, h3, h4⟩
/-- The third step: processes. -/
theorem SwI.step3b {S : Nat → Prop} {base g1 c1 : Nat} {pa : Option Addr} {c2 g3 c3 : Nat} {w : World} {x : Swp} (h : SwI S base g1 c1 pa c2 g3 c3 w x) :
    Calls Try.prog 40 #[.agg #[.slice (some ⟨g1, 0, none⟩) x.ts.length c1, .slice pa x.O.length c2, .slice (some ⟨g3, 0, none⟩) x.ps.length c3]] w fun e w' => e = .returned (.bool (anyTo (epB (knownB (x.ts.map Prod.snd) x.ps.length)) x.ps x.ps.length)) ∧ SwI S base g1 c1 pa c2 g3 c3 w' ⟨x.ts, x.O, x.ps.mapIdx (ep (knownB (x.ts.map Prod.snd) x.ps.length))⟩ ∧ On (fun b => b < w.heap.size ∧ b ≠ g1 ∧ pa ≠ some ⟨b, 0, none⟩ ∧ b ≠ g3) w w' ∧ w.heap.size ≤ w'.heap.size ∧ ∀ B, B ≤ base → B ≤ w.heap.size → Below B w w' := by
  refine (endProcs_any (x.ts.map Prod.snd) x.ps (.slice (some ⟨g1, 0, none⟩) x.ts.length c1) (.slice pa x.O.length c2) (fun b => b < w.heap.size ∧ b ≠ g3) g3 c3 base w h.pr (h.objs.more fun b hb => ⟨hb.1, hb.2.2⟩) (fun b hb => hb) h.size.2.2.2 h.size.2.2.1).mono ?_
  rintro e w' ⟨rfl, h1, h2, h3, h4⟩
  refine ⟨rfl, ⟨h.ob.on h2 fun b hb => by cases hb; exact ⟨(h.ob.lt g1 rfl).2, h.apart.2.2⟩, h.op.on h2 fun b hb => ⟨(h.op.lt b hb).2, ?_⟩, by show Mine _ _ _ _ (.slice _ (List.mapIdx _ _).length _) _; rw [List.length_mapIdx]; exact h1, fun t ht => (h.lists t ht).on (h2.less fun b hb => ⟨(h.low b hb).1, (h.low b hb).2.2.2⟩), fun t ht => ?_, fun b hb => ⟨by have := (h.low b hb).1; omega, (h.low b hb).2⟩, h.apart, h.kinds, by show _ ∧ _ ∧ 1 ≤ (List.mapIdx _ _).length ∧ (List.mapIdx _ _).length ≤ 1000; rw [List.length_mapIdx]; exact h.size⟩, h2.less fun b hb => ⟨hb.1, hb.2.2.2⟩, h3, fun B q1 _ => h4 B (by have := (h.pr.lt g3 rfl).1; omega)⟩
  · exact fun e => h.apart.2.1 (by rw [← e]; exact h.op.blockAt hb)
  · obtain ⟨i, hi, rfl⟩ := List.mem_mapIdx.1 ht
    have h0 := Row.on (h.slots x.ps[i] (List.getElem_mem hi)) (h2.less fun b hb => ⟨(h.low b hb).1, (h.low b hb).2.2.2⟩)
    unfold ep
    split
    · exact Row.nil _ _ _ _ _
    · exact h0
end Go.Proofs.Ytdciohinlhbliaa


/-
  sweep.Sweep, walked: its rounds.
-/
namespace Go.Proofs.Ytdciohinlhbliaa
open Go.RowKit
open Wp
theorem SwI.alloc {S : Nat → Prop} {base g1 c1 : Nat} {pa : Option Addr} {c2 g3 c3 : Nat} {w : World} {x : Swp} (h : SwI S base g1 c1 pa c2 g3 c3 w x) (ob : Obj) : SwI S base g1 c1 pa c2 g3 c3 (w.alloc ob) x :=
  ⟨h.ob.on (On.alloc w ob) fun b hb => (h.ob.lt b hb).2, h.op.on (On.alloc w ob) fun b hb => (h.op.lt b hb).2, h.pr.on (On.alloc w ob) fun b hb => (h.pr.lt b hb).2, fun t ht => (h.lists t ht).on ((On.alloc w ob).less fun b hb => (h.low b hb).1), fun t ht => Row.on (h.slots t ht) ((On.alloc w ob).less fun b hb => (h.low b hb).1), fun b hb => ⟨by have := (h.low b hb).1; simp; omega, (h.low b hb).2⟩, h.apart, h.kinds, h.size⟩
set_option maxRecDepth 100000 in
set_option maxHeartbeats 2000000 in
theorem trimmedOpen_none (fn : Nat) (caps : Array Value) (w : World) :
    Calls Try.prog 44 #[.slice none 0 0, .int .i64 0, .func (.func fn) #[] caps] w fun e w' => e = .returned (.slice none 0 0) ∧ w' = w := by
  go_enter Try.func44, Try.ntmps44
  go_wp2
  go_loopw [7] (fun s7 wr => s7 = .int .i64 0 ∧ wr = w) (fun s7 _ => (intOf s7).toNat)
  case atStart => exact ⟨rfl, rfl⟩
  case round =>
    obtain ⟨rfl, hw⟩ := hrel
    rw [hw]
    clear hw
    go_wp2
    go_ret
    exact ⟨rfl, rfl⟩
theorem mine_cell {w : World} {base k g n c : Nat} {e : TypeId} {css : List (List Value)} (h : Mine w base e k (.slice (some ⟨g, 0, none⟩) n c) css) (hE : Even k css) {i : Nat} {cs : List Value} (hi : css[i]? = some cs) {j : Nat} {u : Value} (hj : cs[j]? = some u) : w.cell? ⟨g, i * k + j, none⟩ = some u := by
  obtain ⟨cur, hb, -, -, -, -, hc⟩ := h.blk
  rw [hb.cell]
  exact hc _ u (flatten_at hE i cs hi j u hj)
set_option maxRecDepth 100000 in
set_option maxHeartbeats 16000000 in
theorem sweep_any (L : List Sp.Ob) (O : List Sp.Opn) (P : List Sp.Prc) (vo vp vq : Value) (w : World)
    (hO : ∀ W, Below w.heap.size w W → Calls Try.prog 13 #[.agg #[vo, vp, vq]] W (OwnW L O P W)) :
    Calls Try.prog 14 #[.agg #[vo, vp, vq]] w fun e w' => ∃ x : Swp, x.ts.map Prod.snd = L ∧ x.O = O ∧ x.ps.map Prod.snd = P ∧ SweepW x w e w' := by
  have HO : Hid _ := hO
  have HB1 : Hid (Below w.heap.size w ((w.alloc (.cells #[vo, vp, vq] 27)).alloc (.cells #[.slice none 0 0, .slice none 0 0, .slice none 0 0] 27))) := ((Below.refl _ _).alloc (Nat.le_refl _) _).alloc (by simp) _
  have HK1 : Hid (Blk ((w.alloc (.cells #[vo, vp, vq] 27)).alloc (.cells #[.slice none 0 0, .slice none 0 0, .slice none 0 0] 27)) (w.heap.size + 1) #[.slice none 0 0, .slice none 0 0, .slice none 0 0] 27) := blk_new1w w _ _ _
  have hz2 : ((w.alloc (.cells #[vo, vp, vq] 27)).alloc (.cells #[.slice none 0 0, .slice none 0 0, .slice none 0 0] 27)).heap.size = w.heap.size + 2 := by simp
  have hg1 : Gw w ((w.alloc (.cells #[vo, vp, vq] 27)).alloc (.cells #[.slice none 0 0, .slice none 0 0, .slice none 0 0] 27)) := (Gw.new w _).trans (Gw.new _ _)
  clear hO
  go_enter Try.func14, Try.ntmps14
  go_wp2_with fail
  refine Calls.mono (HO.out _ HB1.out) ?_
  rintro e w2 ⟨S, g1, c1, pa, c2, g3, c3, x, rfl, hsw, hSl, hL, hOe, hP, hb2⟩
  rw [hz2] at hsw hSl
  have HGA : Hid (Gw w w2) := hg1.trans (Gw.below hb2)
  have HK2 : Hid (Blk w2 (w.heap.size + 1) #[.slice none 0 0, .slice none 0 0, .slice none 0 0] 27) := HK1.out.below hb2 (by simp)
  have k0 := HK2.out.cell 0
  have k1 := HK2.out.cell 1
  have k2 := HK2.out.cell 2
  have kf := HK2.out.free
  simp at k0 k1 k2
  have HSW : Hid (SwI S (w.heap.size + 2) g1 c1 pa c2 g3 c3 w2 x) := hsw
  have HZW : Hid (w.heap.size + 2 ≤ w2.heap.size) := by have := hb2.size; unfold Hid; omega
  have HNB : Hid (Blk w2 (w.heap.size + 1) #[.slice none 0 0, .slice none 0 0, .slice none 0 0] 27) := HK2.out
  have HSL : Hid _ := hSl
  have HBB : Hid _ := hb2
  have HE : Hid (x.ts.map Prod.snd = L ∧ x.O = O ∧ x.ps.map Prod.snd = P) := ⟨hL, hOe, hP⟩
  clear hsw hSl hb2 hL hOe hP
  go_wp2_with fail
  have HKB : Hid (Blk (w2.alloc (.cells #[.slice (some ⟨g1, 0, none⟩) x.ts.length c1, .slice pa x.O.length c2, .slice (some ⟨g3, 0, none⟩) x.ps.length c3] 27)) w2.heap.size #[.slice (some ⟨g1, 0, none⟩) x.ts.length c1, .slice pa x.O.length c2, .slice (some ⟨g3, 0, none⟩) x.ps.length c3] 27) := Blk.new _ _ _
  have HSW3 : Hid (SwI S _ g1 c1 pa c2 g3 c3 (w2.alloc (.cells #[.slice (some ⟨g1, 0, none⟩) x.ts.length c1, .slice pa x.O.length c2, .slice (some ⟨g3, 0, none⟩) x.ps.length c3] 27)) x) := HSW.out.alloc _
  have HG : Hid (g1 < w2.heap.size ∧ g3 < w2.heap.size ∧ pa ≠ some ⟨w2.heap.size, 0, none⟩) := ⟨(HSW.out.ob.lt g1 rfl).2, (HSW.out.pr.lt g3 rfl).2, fun e => by have := (HSW.out.op.lt w2.heap.size (by rw [e]; rfl)).2; omega⟩
  have HZ30 : Hid (w2.heap.size ≤ (w2.alloc (.cells #[.slice (some ⟨g1, 0, none⟩) x.ts.length c1, .slice pa x.O.length c2, .slice (some ⟨g3, 0, none⟩) x.ps.length c3] 27)).heap.size) := by unfold Hid; simp
  have HG3A : Hid (Gw w2 (w2.alloc (.cells #[.slice (some ⟨g1, 0, none⟩) x.ts.length c1, .slice pa x.O.length c2, .slice (some ⟨g3, 0, none⟩) x.ps.length c3] 27))) := Gw.new w2 _
  clear k0 k1 k2 kf
  generalize (w2.alloc (.cells #[.slice (some ⟨g1, 0, none⟩) x.ts.length c1, .slice pa x.O.length c2, .slice (some ⟨g3, 0, none⟩) x.ps.length c3] 27)) = w3 at *
  go_loopg [4] (x.live + 2) (fun gk s4 wr => ∃ (b : Bool) (y : Swp), s4 = .bool b ∧ (On (fun b => b < w2.heap.size ∧ b ≠ g1 ∧ pa ≠ some ⟨b, 0, none⟩ ∧ b ≠ g3) w3 wr ∧ w3.heap.size ≤ wr.heap.size ∧ ∀ B, B ≤ w.heap.size → Below B w3 wr) ∧ SwI S _ g1 c1 pa c2 g3 c3 wr y ∧ Blk wr w2.heap.size #[.slice (some ⟨g1, 0, none⟩) x.ts.length c1, .slice pa x.O.length c2, .slice (some ⟨g3, 0, none⟩) x.ps.length c3] 27 ∧ (y.ts.length = x.ts.length ∧ y.O.length = x.O.length ∧ y.ps.length = x.ps.length) ∧ (b = true → y.all = x.all ∧ y.live + 2 ≤ gk) ∧ (b = false → y = x.all))
  case atStart => exact ⟨true, x, rfl, ⟨fun _ _ => rfl, Nat.le_refl _, fun B _ => Below.refl B _⟩, HSW3.out, HKB.out, ⟨rfl, rfl, rfl⟩, fun _ => ⟨rfl, Nat.le_refl _⟩, fun e => by cases e⟩
  case round =>
    obtain ⟨b, y, rfl, hbar, hy, hkb, hlen, hb1, hb0⟩ := hrel
    have HBAR : Hid (On (fun b => b < w2.heap.size ∧ b ≠ g1 ∧ pa ≠ some ⟨b, 0, none⟩ ∧ b ≠ g3) w3 wr ∧ w3.heap.size ≤ wr.heap.size ∧ ∀ B, B ≤ w.heap.size → Below B w3 wr) := hbar
    have HZ3 : Hid (w2.heap.size ≤ w3.heap.size) := HZ30.out
    cases b with
    | true =>
      obtain ⟨hy1, hy2⟩ := hb1 rfl
      have hlt := hkb.lt
      obtain ⟨l1, l2, l3⟩ := hlen
      have HON : Hid (∀ W W' : World, Blk W w2.heap.size #[.slice (some ⟨g1, 0, none⟩) x.ts.length c1, .slice pa x.O.length c2, .slice (some ⟨g3, 0, none⟩) x.ps.length c3] 27 → On (fun b => b < W.heap.size ∧ b ≠ g1 ∧ pa ≠ some ⟨b, 0, none⟩ ∧ b ≠ g3) W W' → Blk W' w2.heap.size #[.slice (some ⟨g1, 0, none⟩) x.ts.length c1, .slice pa x.O.length c2, .slice (some ⟨g3, 0, none⟩) x.ps.length c3] 27) := fun W W' hk ho => hk.on ho ⟨hk.lt, by have := HG.out; omega, HG.out.2.2, by have := HG.out; omega⟩
      have h1 := hy.step1b
      rw [l1, l2, l3] at h1
      have H1 : Hid _ := h1
      have HKB1 : Hid _ := hkb
      have HY : Hid (y.all = x.all ∧ y.live + 2 ≤ gk) := ⟨hy1, hy2⟩
      have HLN : Hid (y.ts.length = x.ts.length ∧ y.O.length = x.O.length ∧ y.ps.length = x.ps.length) := ⟨l1, l2, l3⟩
      have kb := hkb.cell
      have kbf := hkb.free
      clear hb1 hb0 hy hkb h1 l1 l2 l3 hy1 hy2
      go_wp2_with fail
      refine Calls.mono H1.out ?_
      rintro e w4 ⟨rfl, hy4, ho4, hz4, hbe4⟩
      have HS4 : Hid (On (fun b => b < wr.heap.size ∧ b ≠ g1 ∧ pa ≠ some ⟨b, 0, none⟩ ∧ b ≠ g3) wr w4 ∧ wr.heap.size ≤ w4.heap.size ∧ ∀ B, B ≤ w.heap.size + 2 → B ≤ wr.heap.size → Below B wr w4) := ⟨ho4, hz4, hbe4⟩
      clear hz4 hbe4
      have hk4 := HON.out _ _ HKB1.out ho4
      have hts : y.ts1.length = x.ts.length := by rw [← HLN.out.1]; unfold Swp.ts1; simp
      have h2 := hy4.step2b
      simp only [hts, HLN.out.2.1, HLN.out.2.2] at h2
      have H2 : Hid _ := h2
      have HKB4 : Hid _ := hk4
      have kb4 := hk4.cell
      have kbf4 := hk4.free
      have hlt4 := hk4.lt
      have HTS : Hid (y.ts1.length = x.ts.length) := hts
      clear hy4 ho4 hk4 h2 hts kb kbf H1 HKB1
      go_wp2_with fail
      refine Calls.mono H2.out ?_
      rintro e w5 ⟨rfl, hy5, ho5, hz5, hbe5⟩
      have HS5 : Hid (On (fun b => b < w4.heap.size ∧ b ≠ g1 ∧ pa ≠ some ⟨b, 0, none⟩ ∧ b ≠ g3) w4 w5 ∧ w4.heap.size ≤ w5.heap.size ∧ ∀ B, B ≤ w.heap.size + 2 → B ≤ w4.heap.size → Below B w4 w5) := ⟨ho5, hz5, hbe5⟩
      clear hz5 hbe5
      have hk5 := HON.out _ _ HKB4.out ho5
      have h3 := hy5.step3b
      have hO1 : (y.O.mapIdx (Wp.op (hadB (y.ts1.map Prod.snd) (y.ps.map Prod.snd) x.O.length))).length = x.O.length := by rw [List.length_mapIdx]; exact HLN.out.2.1
      simp only [HTS.out, HLN.out.2.2, hO1] at h3
      have H3 : Hid _ := h3
      have HKB5 : Hid _ := hk5
      have kb5 := hk5.cell
      have kbf5 := hk5.free
      have hlt5 := hk5.lt
      clear hy5 ho5 hk5 h3 kb4 kbf4 H2 HKB4 hO1
      go_wp2_with fail
      refine Calls.mono H3.out ?_
      rintro e w6 ⟨rfl, hy6, ho6, hz6, hbe6⟩
      have HS6 : Hid (On (fun b => b < w5.heap.size ∧ b ≠ g1 ∧ pa ≠ some ⟨b, 0, none⟩ ∧ b ≠ g3) w5 w6 ∧ w5.heap.size ≤ w6.heap.size ∧ ∀ B, B ≤ w.heap.size + 2 → B ≤ w5.heap.size → Below B w5 w6) := ⟨ho6, hz6, hbe6⟩
      clear hz6 hbe6
      have hk6 := HON.out _ _ HKB5.out ho6
      have hr : SwI S (w.heap.size + 2) g1 c1 pa c2 g3 c3 w6 y.rnd := by
        have h := hy6
        have e1 : y.rnd = ⟨y.ts1, y.O.mapIdx (Wp.op (hadB (y.ts1.map Prod.snd) (y.ps.map Prod.snd) x.O.length)), y.ps.mapIdx (ep (knownB (y.ts1.map Prod.snd) x.ps.length))⟩ := by
          unfold Swp.rnd Swp.O1 Swp.kn1
          rw [HLN.out.2.1, HLN.out.2.2]
        rw [e1]
        exact h
      have hmo : anyTo (epB (knownB (y.ts1.map Prod.snd) x.ps.length)) y.ps x.ps.length = y.more := by
        unfold Swp.more Swp.kn1
        rw [HLN.out.2.2]
      rw [hmo]
      have HR6 : Hid _ := hr
      have HK6 : Hid _ := hk6
      clear hy6 ho6 hk6 kb5 kbf5 H3 HKB5 hmo hr
      have HMORE : Hid (y.more = true → y.rnd.all = x.all ∧ y.rnd.live + 2 ≤ gk - 1) := fun e => ⟨by rw [← Swp.all_more e]; exact HY.out.1, by have := Swp.rnd_live e; have := HY.out.2; omega⟩
      have HEND : Hid (y.more = false → y.rnd = x.all) := fun e => by rw [← Swp.all_end e]; exact HY.out.1
      have HLR : Hid (y.rnd.ts.length = x.ts.length ∧ y.rnd.O.length = x.O.length ∧ y.rnd.ps.length = x.ps.length) := ⟨y.rnd_lens.1.trans HLN.out.1, y.rnd_lens.2.1.trans HLN.out.2.1, y.rnd_lens.2.2.trans HLN.out.2.2⟩
      generalize y.more = ym at *
      go_wp2
      go_roundg (gk - 1)
      case measure => have := HY.out.2; omega
      case rel =>
        refine ⟨ym, y.rnd, rfl, ?_, HR6.out, HK6.out, HLR.out, HMORE.out, HEND.out⟩
        have q0 := HBAR.out
        have q4 := HS4.out
        have q5 := HS5.out
        have q6 := HS6.out
        have z3 := HZ3.out
        have zw := HZW.out
        exact ⟨((q0.1.trans (q4.1.less fun b hb => ⟨by omega, hb.2⟩)).trans (q5.1.less fun b hb => ⟨by omega, hb.2⟩)).trans (q6.1.less fun b hb => ⟨by omega, hb.2⟩), by omega, fun B hB => (((q0.2.2 B hB).trans (q4.2.2 B (by omega) (by omega))).trans (q5.2.2 B (by omega) (by omega))).trans (q6.2.2 B (by omega) (by omega))⟩
    | false =>
      have HYX : Hid (y = x.all) := hb0 rfl
      obtain ⟨l1, l2, l3⟩ := hlen
      have hf := forgetProcs_any (y.ts.map Prod.snd) y.ps (.slice (some ⟨g1, 0, none⟩) y.ts.length c1) (.slice pa y.O.length c2) (fun b => b < wr.heap.size ∧ b ≠ g3) g3 c3 _ wr hy.pr (hy.objs.more fun b hb => ⟨hb.1, hb.2.2⟩) (fun b hb => hb) hy.size.2.2.2 hy.size.2.2.1
      simp only [l1, l2, l3] at hf
      have HF : Hid _ := hf
      have HSY : Hid _ := hy
      have HKBY : Hid (Blk wr w2.heap.size #[.slice (some ⟨g1, 0, none⟩) x.ts.length c1, .slice pa x.O.length c2, .slice (some ⟨g3, 0, none⟩) x.ps.length c3] 27) := hkb
      have kbc := hkb.cell
      have kbl := hkb.lt
      have HLY : Hid (y.ts.length = x.ts.length ∧ y.O.length = x.O.length ∧ y.ps.length = x.ps.length) := ⟨l1, l2, l3⟩
      have hob := hy.ob
      have hop := hy.op
      have hpr := hy.pr
      rw [l1] at hob
      rw [l2] at hop
      rw [l3] at hpr
      have HOB : Hid (Mine wr (w.heap.size + 2) 40 9 (.slice (some ⟨g1, 0, none⟩) x.ts.length c1) (y.ts.map objC)) := hob
      have HOPM : Hid (Mine wr (w.heap.size + 2) 54 2 (.slice pa x.O.length c2) (y.O.map opnC)) := hop
      obtain ⟨-, -, -, hc1, hm1, -, -⟩ := hob.blk
      obtain ⟨-, -, -, hc3, hm3, -, -⟩ := hpr.blk
      unfold maxLen at hm1 hm3
      have hg := HG.out
      have hg1l := (hob.lt g1 rfl)
      have hg3l := (hpr.lt g3 rfl)
      have hmk := fun (fn : Fn) (first cap : Array Value) (w : World) => (rfl : (Instr.makeFunc fn first cap).run Try.prog w = .ok (.func fn first cap) w)
      have hsz := hy.size
      have hap := hy.apart
      clear hf hy hkb hb1 hb0 l1 l2 l3 hob hop hpr
      go_wp2_with fail
      refine Calls.mono HF.out ?_
      rintro e w4 ⟨gk', gr, gm, rfl, q1, q2, q3, hbk, hbm, hmr, hmp, ho4, hz4, hb4⟩
      have HO4 : Hid (On (fun b => b < wr.heap.size ∧ b ≠ g3) wr w4 ∧ wr.heap.size ≤ w4.heap.size ∧ ∀ B, B ≤ g3 → Below B wr w4) := ⟨ho4, hz4, hb4⟩
      have hk4 := HKBY.out.on ho4 ⟨kbl, by omega⟩
      have HK4 : Hid (Blk w4 w2.heap.size #[.slice (some ⟨g1, 0, none⟩) x.ts.length c1, .slice pa x.O.length c2, .slice (some ⟨g3, 0, none⟩) x.ps.length c3] 27) := hk4
      have hob4 : Mine w4 (w.heap.size + 2) 40 9 (.slice (some ⟨g1, 0, none⟩) x.ts.length c1) (y.ts.map objC) := HOB.out.on ho4 fun g hg' => by have := HOB.out.lt g hg'; cases hg'; exact ⟨this.2, hap.2.2⟩
      have hop4 : Mine w4 (w.heap.size + 2) 54 2 (.slice pa x.O.length c2) (y.O.map opnC) := HOPM.out.on ho4 fun g hg' => ⟨(HOPM.out.lt g hg').2, fun e => hap.2.1 (by rw [← e]; exact HOPM.out.blockAt hg')⟩
      have HBK : Hid (Blk w4 gk' #[.slice (some ⟨g1, 0, none⟩) x.ts.length c1, .slice pa x.O.length c2, .slice (some ⟨g3, 0, none⟩) x.ps.length c3] 27) := hbk
      have HBM : Hid (Blk w4 gm #[.slice (some ⟨gr, 0, none⟩) x.ps.length x.ps.length] 90) := hbm
      have HMR : Hid (Mine w4 gr 4 1 (.slice (some ⟨gr, 0, none⟩) x.ps.length x.ps.length) ((knownB (y.ts.map Prod.snd) x.ps.length).map bC)) := hmr
      have HMP : Hid (Mine w4 (w.heap.size + 2) 43 4 (.slice (some ⟨g3, 0, none⟩) x.ps.length c3) ((y.ps.mapIdx (fp (knownB (y.ts.map Prod.snd) x.ps.length))).map prcC)) := hmp
      have HOB4 : Hid _ := hob4
      have HOP4 : Hid _ := hop4
      have HKE : Hid (knownB (y.ts.map Prod.snd) x.ps.length = y.knE) := by unfold Hid Swp.knE; rw [HLY.out.2.2]
      have HT1 : Hid (Calls Try.prog 42 #[.slice (some ⟨g1, 0, none⟩) x.ts.length c1, .int .i64 ((1 : Nat) : Int), .func (.func 43) #[] #[.pointer (some ⟨w2.heap.size, 0, none⟩)]] w4 fun e w' => e = .returned (.slice (some ⟨g1, 0, none⟩) (trimN (obG y.ts) 1 x.ts.length) c1) ∧ w' = w4) := by
        refine trimmedObject_any (obG y.ts) 1 _ _ g1 x.ts.length c1 (by have := hsz.1; have := HLY.out.1; omega) (Nat.le_refl _) (by omega) hm1 w4 (by unfold Enters; intro args w; rfl) fun k _ hk => ?_
        obtain ⟨t, ht⟩ : ∃ t, y.ts[k]? = some t := ⟨_, List.getElem?_eq_getElem (by have := HLY.out.1; omega)⟩
        have hc := mine_cell HOB4.out (even_obj _) (i := k) (cs := objC t) (by rw [List.getElem?_map, ht]; rfl) (j := 0) rfl
        rw [Nat.add_zero] at hc
        have h := goneOb_any k g1 x.ts.length c1 w2.heap.size _ _ t.2.kind w4 HK4.out hk hc
        have e : obG y.ts k = (t.2.kind == 0) := by unfold obG; rw [ht]
        rw [e]
        exact h
      have k4c := hk4.cell
      have k4f := hk4.free
      have k4l := hk4.lt
      clear hbk hbm hmr hmp ho4 hz4 hb4 hk4 hob4 hop4 kbc HF
      go_wp2_with fail
      refine Calls.mono HT1.out ?_
      rintro e w4' ⟨rfl, hw4⟩
      rw [hw4]
      clear hw4
      obtain ⟨A, hA⟩ : ∃ A, trimN (obG y.ts) 1 x.ts.length = A := ⟨_, rfl⟩
      obtain ⟨B, hB⟩ : ∃ B, trimN (opG y.O) 0 x.O.length = B := ⟨_, rfl⟩
      obtain ⟨D, hD⟩ : ∃ D, trimN (prG y.knE y.ps) 1 x.ps.length = D := ⟨_, rfl⟩
      rw [hA]
      have HA : Hid (y.cut.ts = y.ts.take A ∧ y.cut.O = y.O.take B ∧ y.cut.ps = (y.ps.mapIdx (fp y.knE)).take D ∧ A ≤ y.ts.length ∧ B ≤ y.O.length ∧ D ≤ y.ps.length) := by
        have e := HLY.out
        rw [← e.1] at hA
        rw [← e.2.1] at hB
        rw [← e.2.2] at hD
        refine ⟨by rw [← hA]; rfl, by rw [← hB]; rfl, by rw [← hD]; rfl, ?_, ?_, ?_⟩
        · rw [← hA]; exact trimN_le _ _ _
        · rw [← hB]; exact trimN_le _ _ _
        · rw [← hD]; exact trimN_le _ _ _
      have HT2 : Hid (Calls Try.prog 44 #[.slice pa x.O.length c2, .int .i64 ((0 : Nat) : Int), .func (.func 45) #[] #[.pointer (some ⟨w2.heap.size, 0, none⟩)]] (w4.setCell ⟨w2.heap.size, 0, none⟩ (.slice (some ⟨g1, 0, none⟩) A c1)) fun e w' => e = .returned (.slice pa B c2) ∧ w' = (w4.setCell ⟨w2.heap.size, 0, none⟩ (.slice (some ⟨g1, 0, none⟩) A c1))) := by
        have hk5 := HK4.out.set 0 (.slice (some ⟨g1, 0, none⟩) A c1)
        have hop5 : Mine (w4.setCell ⟨w2.heap.size, 0, none⟩ (.slice (some ⟨g1, 0, none⟩) A c1)) (w.heap.size + 2) 54 2 (.slice pa x.O.length c2) (y.O.map opnC) := Mine.on HOP4.out (On.set w4 ⟨w2.heap.size, 0, none⟩ _) fun g hg' => by
          show g ≠ w2.heap.size
          intro e
          exact hg.2.2 (by rw [← e]; exact Mine.blockAt HOP4.out hg')
        have hfin : Calls Try.prog 44 #[.slice pa x.O.length c2, .int .i64 ((0 : Nat) : Int), .func (.func 45) #[] #[.pointer (some ⟨w2.heap.size, 0, none⟩)]] (w4.setCell ⟨w2.heap.size, 0, none⟩ (.slice (some ⟨g1, 0, none⟩) A c1)) fun e w' => e = .returned (.slice pa (trimN (opG y.O) 0 x.O.length) c2) ∧ w' = (w4.setCell ⟨w2.heap.size, 0, none⟩ (.slice (some ⟨g1, 0, none⟩) A c1)) := by
          rcases hop5.2 with ⟨h1, -⟩ | ⟨g, cap, cur, hv, -⟩
          · obtain ⟨rfl, h0, rfl⟩ := Value.slice.inj h1
            rw [h0]
            exact trimmedOpen_none _ _ _
          · obtain ⟨rfl, -, -⟩ := Value.slice.inj hv
            obtain ⟨-, -, -, hcc, hcm, -, -⟩ := hop5.blk
            unfold maxLen at hcm
            refine trimmedOpen_any (opG y.O) 0 _ _ g x.O.length c2 (by have := hsz.2.1; have := HLY.out.2.1; omega) (Nat.zero_le _) (by omega) hcm _ (by unfold Enters; intro args w; rfl) fun k _ hk => ?_
            obtain ⟨t, ht⟩ : ∃ t, y.O[k]? = some t := ⟨_, List.getElem?_eq_getElem (by have := HLY.out.2.1; omega)⟩
            have hc := mine_cell hop5 (even_opn _) (i := k) (cs := opnC t) (by rw [List.getElem?_map, ht]; rfl) (j := 0) rfl
            rw [Nat.add_zero] at hc
            have h := goneOp_any k g x.O.length c2 w2.heap.size _ _ t.obj _ hk5 hk hc
            have e : opG y.O k = (t.obj == -1) := by unfold opG; rw [ht]
            rw [e]
            exact h
        rw [hB] at hfin
        exact hfin
      have HT3 : Hid (Calls Try.prog 46 #[.slice (some ⟨g3, 0, none⟩) x.ps.length c3, .int .i64 ((1 : Nat) : Int), .func (.func 71) #[] #[.pointer (some ⟨gk', 0, none⟩), .pointer (some ⟨gm, 0, none⟩)]] ((w4.setCell ⟨w2.heap.size, 0, none⟩ (.slice (some ⟨g1, 0, none⟩) A c1)).setCell ⟨w2.heap.size, 1, none⟩ (.slice pa B c2)) fun e w' => e = .returned (.slice (some ⟨g3, 0, none⟩) D c3) ∧ w' = ((w4.setCell ⟨w2.heap.size, 0, none⟩ (.slice (some ⟨g1, 0, none⟩) A c1)).setCell ⟨w2.heap.size, 1, none⟩ (.slice pa B c2))) := by
        have o6 : On (fun b => b ≠ w2.heap.size) w4 ((w4.setCell ⟨w2.heap.size, 0, none⟩ (.slice (some ⟨g1, 0, none⟩) A c1)).setCell ⟨w2.heap.size, 1, none⟩ (.slice pa B c2)) := (On.set w4 ⟨w2.heap.size, 0, none⟩ _).trans (On.set _ ⟨w2.heap.size, 1, none⟩ _)
        have hfin : Calls Try.prog 46 #[.slice (some ⟨g3, 0, none⟩) x.ps.length c3, .int .i64 ((1 : Nat) : Int), .func (.func 71) #[] #[.pointer (some ⟨gk', 0, none⟩), .pointer (some ⟨gm, 0, none⟩)]] ((w4.setCell ⟨w2.heap.size, 0, none⟩ (.slice (some ⟨g1, 0, none⟩) A c1)).setCell ⟨w2.heap.size, 1, none⟩ (.slice pa B c2)) fun e w' => e = .returned (.slice (some ⟨g3, 0, none⟩) (trimN (prG y.knE y.ps) 1 x.ps.length) c3) ∧ w' = ((w4.setCell ⟨w2.heap.size, 0, none⟩ (.slice (some ⟨g1, 0, none⟩) A c1)).setCell ⟨w2.heap.size, 1, none⟩ (.slice pa B c2)) := by
          refine trimmedProc_any (prG y.knE y.ps) 1 _ _ g3 x.ps.length c3 (by have := hsz.2.2.2; have := HLY.out.2.2; omega) (Nat.le_refl _) (by omega) hm3 _ (by unfold Enters; intro args w; rfl) fun k _ hk => ?_
          obtain ⟨t, ht⟩ : ∃ t, y.ps[k]? = some t := ⟨_, List.getElem?_eq_getElem (by have := HLY.out.2.2; omega)⟩
          have hmp6 : Mine ((w4.setCell ⟨w2.heap.size, 0, none⟩ (.slice (some ⟨g1, 0, none⟩) A c1)).setCell ⟨w2.heap.size, 1, none⟩ (.slice pa B c2)) (w.heap.size + 2) 43 4 (.slice (some ⟨g3, 0, none⟩) x.ps.length c3) ((y.ps.mapIdx (fp (knownB (y.ts.map Prod.snd) x.ps.length))).map prcC) := Mine.on HMP.out o6 fun g hg' => by cases hg'; show g3 ≠ w2.heap.size; omega
          have hmr6 : Mine ((w4.setCell ⟨w2.heap.size, 0, none⟩ (.slice (some ⟨g1, 0, none⟩) A c1)).setCell ⟨w2.heap.size, 1, none⟩ (.slice pa B c2)) gr 4 1 (.slice (some ⟨gr, 0, none⟩) x.ps.length x.ps.length) ((knownB (y.ts.map Prod.snd) x.ps.length).map bC) := Mine.on HMR.out o6 fun g hg' => by cases hg'; show gr ≠ w2.heap.size; omega
          have hat : (y.ps.mapIdx (fp (knownB (y.ts.map Prod.snd) x.ps.length)))[k]? = some (fp (knownB (y.ts.map Prod.snd) x.ps.length) k t) := by rw [List.getElem?_mapIdx, ht]; rfl
          have hc := mine_cell hmp6 (even_prc _) (i := k) (cs := prcC (fp (knownB (y.ts.map Prod.snd) x.ps.length) k t)) (by rw [List.getElem?_map, hat]; rfl) (j := 0) rfl
          rw [Nat.add_zero] at hc
          have hlv : (fp (knownB (y.ts.map Prod.snd) x.ps.length) k t).2.live = t.2.live := by
            unfold fp fpB
            split
            · rename_i h
              have : t.2.live = false := by
                cases hl : t.2.live with
                | false => rfl
                | true => rw [hl] at h; simp at h
              rw [this]; rfl
            · rfl
          rw [hlv] at hc
          obtain ⟨cur, hb6, -⟩ := hmp6.blk
          have hkl : k < (knownB (y.ts.map Prod.snd) x.ps.length).length := by
            obtain ⟨-, -, hh, -⟩ := HMR.out.blk
            rw [List.length_map] at hh
            omega
          have h := forgot_any (knownB (y.ts.map Prod.snd) x.ps.length) x.ps.length k g3 c3 gr gr _ _ gk' gm t.2.live _ _ (HBK.out.on o6 (by show gk' ≠ w2.heap.size; omega)) (HBM.out.on o6 (by show gm ≠ w2.heap.size; omega)) hmr6 hk (by have := hsz.2.2.2; have := HLY.out.2.2; omega) hm3 (List.getElem?_eq_getElem hkl) hc (hb6.free _)
          have e : prG y.knE y.ps k = (!t.2.live && !(knownB (y.ts.map Prod.snd) x.ps.length)[k]) := by
            unfold prG
            rw [ht, ← HKE.out, List.getD_eq_getElem?_getD, List.getElem?_eq_getElem hkl]
            rfl
          rw [e]
          exact h
        rw [hD] at hfin
        exact hfin
      clear hA hB hD
      go_wp2_with fail
      refine Calls.mono HT2.out ?_
      rintro e w5' ⟨rfl, hw5⟩
      rw [hw5]
      clear hw5
      go_wp2_with fail
      refine Calls.mono HT3.out ?_
      rintro e w6' ⟨rfl, hw6⟩
      rw [hw6]
      clear hw6
      have HN4 : Hid (Blk w4 (w.heap.size + 1) #[.slice none 0 0, .slice none 0 0, .slice none 0 0] 27) := by
        have zw := HZW.out
        have z3 := HZ3.out
        have zb := HBAR.out.2.1
        have hpn : pa ≠ some ⟨w.heap.size + 1, 0, none⟩ := fun e => by have := (Mine.lt HOP4.out (w.heap.size + 1) (by rw [e]; rfl)).1; omega
        exact Blk.on (Blk.on (Blk.on HNB.out HG3A.out.1 (by omega)) HBAR.out.1 ⟨by omega, by omega, hpn, by omega⟩) HO4.out.1 ⟨by omega, by omega⟩
      have hn7 : Blk (((w4.setCell ⟨w2.heap.size, 0, none⟩ (.slice (some ⟨g1, 0, none⟩) A c1)).setCell ⟨w2.heap.size, 1, none⟩ (.slice pa B c2)).setCell ⟨w2.heap.size, 2, none⟩ (.slice (some ⟨g3, 0, none⟩) D c3)) (w.heap.size + 1) #[.slice none 0 0, .slice none 0 0, .slice none 0 0] 27 := Blk.on HN4.out (((On.set w4 ⟨w2.heap.size, 0, none⟩ _).trans (On.set _ ⟨w2.heap.size, 1, none⟩ _)).trans (On.set _ ⟨w2.heap.size, 2, none⟩ _)) (by show w.heap.size + 1 ≠ w2.heap.size; have := HZW.out; omega)
      have n4c := Blk.cell HN4.out
      have n4f := Blk.free HN4.out
      have n4l := Blk.lt HN4.out
      have hne1 : ¬ w2.heap.size = w.heap.size + 1 := by have := HZW.out; omega
      have hne2 : ¬ w.heap.size + 1 = w2.heap.size := by omega
      have HB8 : Hid (Blk ((((((w4.setCell ⟨w2.heap.size, 0, none⟩ (.slice (some ⟨g1, 0, none⟩) A c1)).setCell ⟨w2.heap.size, 1, none⟩ (.slice pa B c2)).setCell ⟨w2.heap.size, 2, none⟩ (.slice (some ⟨g3, 0, none⟩) D c3)).setCell ⟨w.heap.size + 1, 0, none⟩ (.slice (some ⟨g1, 0, none⟩) A c1)).setCell ⟨w.heap.size + 1, 1, none⟩ (.slice pa B c2)).setCell ⟨w.heap.size + 1, 2, none⟩ (.slice (some ⟨g3, 0, none⟩) D c3)) (w.heap.size + 1) #[.slice (some ⟨g1, 0, none⟩) A c1, .slice pa B c2, .slice (some ⟨g3, 0, none⟩) D c3] 27) := ((hn7.set 0 _).set 1 _).set 2 _
      have HFIN : Hid (∀ W', W' = ((((((w4.setCell ⟨w2.heap.size, 0, none⟩ (.slice (some ⟨g1, 0, none⟩) A c1)).setCell ⟨w2.heap.size, 1, none⟩ (.slice pa B c2)).setCell ⟨w2.heap.size, 2, none⟩ (.slice (some ⟨g3, 0, none⟩) D c3)).setCell ⟨w.heap.size + 1, 0, none⟩ (.slice (some ⟨g1, 0, none⟩) A c1)).setCell ⟨w.heap.size + 1, 1, none⟩ (.slice pa B c2)).setCell ⟨w.heap.size + 1, 2, none⟩ (.slice (some ⟨g3, 0, none⟩) D c3)) → SweepW x w (.returned (.agg #[.slice (some ⟨g1, 0, none⟩) A c1, .slice pa B c2, .slice (some ⟨g3, 0, none⟩) D c3])) W') := fun W' hW' => by
        have ob1 : ∀ (g n c x : Nat), (Value.slice (some ⟨x, 0, none⟩) n c).ownBlock = some g → g = x := fun g n c x hg => by simp [Value.ownBlock] at hg; exact hg.symm
        have zw := HZW.out
        have z3 := HZ3.out
        have zb := HBAR.out.2.1
        have z4 := HO4.out.2.1
        have o8 : On (fun b => b ≠ w2.heap.size ∧ b ≠ w.heap.size + 1) w4 W' := by
          subst hW'
          exact (((((On.set w4 ⟨w2.heap.size, 0, none⟩ _).trans (On.set _ ⟨w2.heap.size, 1, none⟩ _)).trans (On.set _ ⟨w2.heap.size, 2, none⟩ _)).less fun b hb => hb.1).trans ((((On.set _ ⟨w.heap.size + 1, 0, none⟩ _).trans (On.set _ ⟨w.heap.size + 1, 1, none⟩ _)).trans (On.set _ ⟨w.heap.size + 1, 2, none⟩ _)).less fun b hb => hb.2))
        have z8 : W'.heap.size = w4.heap.size := by subst hW'; simp
        have b8 : Below w.heap.size w4 W' := by
          subst hW'
          exact ((((((Below.refl w.heap.size w4).setCell (p := ⟨w2.heap.size, 0, none⟩) (by show w.heap.size ≤ w2.heap.size; omega) _).setCell (p := ⟨w2.heap.size, 1, none⟩) (by show w.heap.size ≤ w2.heap.size; omega) _).setCell (p := ⟨w2.heap.size, 2, none⟩) (by show w.heap.size ≤ w2.heap.size; omega) _).setCell (p := ⟨w.heap.size + 1, 0, none⟩) (by show w.heap.size ≤ w.heap.size + 1; omega) _).setCell (p := ⟨w.heap.size + 1, 1, none⟩) (by show w.heap.size ≤ w.heap.size + 1; omega) _).setCell (p := ⟨w.heap.size + 1, 2, none⟩) (by show w.heap.size ≤ w.heap.size + 1; omega) _
        have hpb : ∀ g, (Value.slice pa x.O.length c2).ownBlock = some g → w.heap.size + 2 ≤ g ∧ g < w4.heap.size ∧ g ≠ w2.heap.size := fun g hg' => ⟨(Mine.lt HOP4.out g hg').1, (Mine.lt HOP4.out g hg').2, fun e => hg.2.2 (by rw [← e]; exact Mine.blockAt HOP4.out hg')⟩
        have mo : Mine W' (w.heap.size + 2) 40 9 (.slice (some ⟨g1, 0, none⟩) x.ts.length c1) (y.ts.map objC) := Mine.on HOB4.out o8 fun g hg' => by have := ob1 g _ _ _ hg'; exact ⟨by omega, by omega⟩
        have mp : Mine W' (w.heap.size + 2) 54 2 (.slice pa x.O.length c2) (y.O.map opnC) := Mine.on HOP4.out o8 fun g hg' => by have := hpb g hg'; exact ⟨this.2.2, by omega⟩
        have mq : Mine W' (w.heap.size + 2) 43 4 (.slice (some ⟨g3, 0, none⟩) x.ps.length c3) ((y.ps.mapIdx (fp y.knE)).map prcC) := by
          have h := HMP.out
          rw [HKE.out] at h
          exact h.on o8 fun g hg' => by have := ob1 g _ _ _ hg'; exact ⟨by omega, by omega⟩
        have hS : ∀ b, S b → b < w2.heap.size ∧ w.heap.size + 2 ≤ b ∧ b ≠ g3 := fun b hb => ⟨(HSW.out.low b hb).1, HSL.out b hb, (HSW.out.low b hb).2.2.2⟩
        have oS : On S wr W' := (HO4.out.1.less fun b hb => by have := hS b hb; exact ⟨by omega, this.2.2⟩).trans (o8.less fun b hb => by have := hS b hb; exact ⟨by omega, by omega⟩)
        have hSW : ∀ b, S b → b < W'.heap.size := fun b hb => by have := hS b hb; omega
        obtain ⟨a1, a2, a3, lA, lB, lD⟩ := HA.out
        have tA : (y.ts.take A).length = A := by rw [List.length_take]; omega
        have tB : (y.O.take B).length = B := by rw [List.length_take]; omega
        have tD : ((y.ps.mapIdx (fp y.knE)).take D).length = D := by rw [List.length_take, List.length_mapIdx]; omega
        unfold SweepW
        rw [show x.fin = y.cut by rw [HYX.out]; rfl, a1, a2, a3]
        refine ⟨some ⟨g1, 0, none⟩, pa, some ⟨g3, 0, none⟩, c1, c2, c3, by rw [tA, tB, tD], ?_, ?_, ?_, fun t ht => ?_, fun t ht => ?_, ?_⟩
        · rw [tA, List.map_take]
          exact Row.take ((mo.row (even_obj _)).more fun b hb => hb.2) (by rw [List.length_map]; exact lA)
        · rw [tB, List.map_take]
          exact Row.take ((mp.row (even_opn _)).more fun b hb => hb.2) (by rw [List.length_map]; exact lB)
        · rw [tD, List.map_take]
          exact Row.take ((mq.row (even_prc _)).more fun b hb => hb.2) (by rw [List.length_map, List.length_mapIdx]; exact lD)
        · exact ((SwI.lists HSY.out t (List.mem_of_mem_take ht)).on oS).more hSW
        · obtain ⟨i, hi, rfl⟩ := List.mem_mapIdx.1 (List.mem_of_mem_take ht)
          unfold fp
          split
          · exact Row.nil _ _ _ _ _
          · exact (Row.on (SwI.slots HSY.out y.ps[i] (List.getElem_mem hi)) oS).more hSW
        · have hgA := HGA.out
          have hgB := HG3A.out
          refine ⟨((((hgA.1.trans (hgB.1.less fun b hb => by omega)).trans (HBAR.out.1.less fun b hb => ⟨by omega, by omega, fun e => by have := (hpb b (by rw [e]; rfl)).1; omega, by omega⟩)).trans (HO4.out.1.less fun b hb => ⟨by omega, by omega⟩)).trans (o8.less fun b hb => ⟨by omega, by omega⟩)), by omega, fun B' hB' => ?_⟩
          exact ((((hgA.2.2 B' hB').trans (hgB.2.2 B' (by omega))).trans (HBAR.out.2.2 B' hB')).trans (HO4.out.2.2 B' (by omega))).trans (b8.mono hB')
      clear hn7
      go_wp2
      have hcF := Blk.cell HB8.out
      refine bodyPost_ret (v := .agg #[.slice (some ⟨g1, 0, none⟩) A c1, .slice pa B c2, .slice (some ⟨g3, 0, none⟩) D c3]) (by simp [results, Try.results14, go_sem, hcF]) rfl ?_
      exact ⟨x, HE.out.1, HE.out.2.1, HE.out.2.2, HFIN.out _ rfl⟩
end Go.Proofs.Ytdciohinlhbliaa


/-
  What is left depends on what a kernel is, not on where it lies.
-/
namespace Go.Proofs.Ytdciohinlhbliaa
open Go.RowKit
namespace Wp
theorem snd_mapIdx {α β : Type} (c : α) (f : Nat → α × β → α × β) (h : ∀ i t, (f i t).2 = (f i (c, t.2)).2) (l : List (α × β)) : (l.mapIdx f).map Prod.snd = (l.map Prod.snd).mapIdx fun i o => (f i (c, o)).2 := by
  refine List.ext_getElem? fun i => ?_
  rw [List.getElem?_map, List.getElem?_mapIdx, List.getElem?_mapIdx, List.getElem?_map]
  cases l[i]? with
  | none => rfl
  | some t => simp only [Option.map_some]; rw [h]
theorem fo_snd (m : List Bool) (n i : Nat) (t : Sls × Sp.Ob) : (fo m n i t).2 = (fo m n i (sl0, t.2)).2 := by
  unfold fo
  split
  · rfl
  · dsimp only
    split <;> rfl
theorem ep_snd (m : List Bool) (i : Nat) (t : Sl × Sp.Prc) : (ep m i t).2 = (ep m i (⟨none, 0, 0⟩, t.2)).2 := by
  unfold ep epB
  dsimp only
  split <;> rfl
theorem fp_snd (m : List Bool) (i : Nat) (t : Sl × Sp.Prc) : (fp m i t).2 = (fp m i (⟨none, 0, 0⟩, t.2)).2 := by
  unfold fp fpB
  dsimp only
  split <;> rfl
theorem anyTo_snd {α β : Type} (p : Nat → α × β → Bool) (c : α) (h : ∀ i t, p i t = p i (c, t.2)) {l l' : List (α × β)} (e : l.map Prod.snd = l'.map Prod.snd) : ∀ k, k ≤ l.length → anyTo p l k = anyTo p l' k
  | 0, _ => rfl
  | k + 1, hk => by
    have hlen : l.length = l'.length := by have := congrArg List.length e; rw [List.length_map, List.length_map] at this; exact this
    obtain ⟨t, ht⟩ : ∃ t, l[k]? = some t := ⟨_, List.getElem?_eq_getElem (by omega)⟩
    obtain ⟨t', ht'⟩ : ∃ t, l'[k]? = some t := ⟨_, List.getElem?_eq_getElem (by omega)⟩
    have e2 : t.2 = t'.2 := by
      have := congrArg (fun x => x[k]?) e
      simp only [List.getElem?_map, ht, ht', Option.map_some, Option.some.injEq] at this
      exact this
    rw [anyTo_next ht, anyTo_next ht', anyTo_snd p c h e k (by omega), h k t, h k t', e2]
namespace Swp
theorem kn_parts {x x' : Swp} (h : x.kn = x'.kn) : x.ts.map Prod.snd = x'.ts.map Prod.snd ∧ x.O = x'.O ∧ x.ps.map Prod.snd = x'.ps.map Prod.snd := by
  unfold kn at h
  injection h with h1 h2 h3
  exact ⟨h1, h2, h3⟩
theorem kn_lens {x x' : Swp} (h : x.kn = x'.kn) : x.ts.length = x'.ts.length ∧ x.O.length = x'.O.length ∧ x.ps.length = x'.ps.length := by
  obtain ⟨h1, h2, h3⟩ := kn_parts h
  have e1 := congrArg List.length h1
  have e3 := congrArg List.length h3
  simp only [List.length_map] at e1 e3
  exact ⟨e1, by rw [h2], e3⟩
theorem ts1_kn {x x' : Swp} (h : x.kn = x'.kn) : x.ts1.map Prod.snd = x'.ts1.map Prod.snd := by
  obtain ⟨h1, -, -⟩ := kn_parts h
  obtain ⟨l1, -, -⟩ := kn_lens h
  unfold ts1
  rw [snd_mapIdx sl0 _ (fun i t => fo_snd _ _ i t), snd_mapIdx sl0 _ (fun i t => fo_snd _ _ i t), h1, l1, h]
theorem kn1_kn {x x' : Swp} (h : x.kn = x'.kn) : x.kn1 = x'.kn1 := by
  unfold kn1
  rw [ts1_kn h, (kn_lens h).2.2]
theorem rnd_kn {x x' : Swp} (h : x.kn = x'.kn) : x.rnd.kn = x'.rnd.kn := by
  obtain ⟨h1, h2, h3⟩ := kn_parts h
  obtain ⟨l1, l2, l3⟩ := kn_lens h
  have e1 := ts1_kn h
  have e2 : x.O1 = x'.O1 := by unfold O1; rw [e1, h3, h2]
  have e3 : (x.ps.mapIdx (ep x.kn1)).map Prod.snd = (x'.ps.mapIdx (ep x'.kn1)).map Prod.snd := by
    rw [snd_mapIdx ⟨none, 0, 0⟩ _ (fun i t => ep_snd _ i t), snd_mapIdx ⟨none, 0, 0⟩ _ (fun i t => ep_snd _ i t), h3, kn1_kn h]
  show Kn.mk (x.ts1.map Prod.snd) x.O1 ((x.ps.mapIdx (ep x.kn1)).map Prod.snd) = Kn.mk (x'.ts1.map Prod.snd) x'.O1 ((x'.ps.mapIdx (ep x'.kn1)).map Prod.snd)
  rw [e1, e2, e3]
theorem more_kn {x x' : Swp} (h : x.kn = x'.kn) : x.more = x'.more := by
  unfold more
  rw [anyTo_snd (epB x.kn1) ⟨none, 0, 0⟩ (fun i t => rfl) (kn_parts h).2.2 x.ps.length (Nat.le_refl _), kn1_kn h, (kn_lens h).2.2]
theorem live_kn {x x' : Swp} (h : x.kn = x'.kn) : x.live = x'.live := by
  have e : ∀ y : Swp, y.live = (y.ps.map Prod.snd).countP fun p => p.live := fun y => by
    unfold live
    rw [List.countP_map]
    rfl
  rw [e, e, (kn_parts h).2.2]
theorem allN_kn : ∀ (n : Nat) {x x' : Swp}, x.kn = x'.kn → (allN n x).kn = (allN n x').kn
  | 0, _, _, h => rnd_kn h
  | n + 1, x, x', h => by
    unfold allN
    rw [more_kn h]
    split
    · exact allN_kn n (rnd_kn h)
    · exact rnd_kn h
theorem all_kn {x x' : Swp} (h : x.kn = x'.kn) : x.all.kn = x'.all.kn := by
  unfold all
  rw [live_kn h]
  exact allN_kn _ h
theorem trim_congr {G G' : Nat → Bool} {s : Nat} : ∀ {n : Nat}, (∀ k, k < n → G k = G' k) → trimN G s n = trimN G' s n
  | 0, _ => rfl
  | n + 1, h => by
    unfold trimN
    rw [trim_congr fun k hk => h k (by omega), h n (by omega)]
theorem cut_kn {x x' : Swp} (h : x.kn = x'.kn) : x.cut.kn = x'.cut.kn := by
  obtain ⟨h1, h2, h3⟩ := kn_parts h
  obtain ⟨l1, l2, l3⟩ := kn_lens h
  have eE : x.knE = x'.knE := by unfold knE; rw [h1, l3]
  have e1 : trimN (obG x.ts) 1 x.ts.length = trimN (obG x'.ts) 1 x'.ts.length := by
    rw [l1]
    refine trim_congr fun k _ => ?_
    have := congrArg (fun l => l[k]?) h1
    simp only [List.getElem?_map] at this
    unfold obG
    cases a : x.ts[k]? <;> cases b : x'.ts[k]? <;> rw [a, b] at this <;> simp_all
  have e3 : trimN (prG x.knE x.ps) 1 x.ps.length = trimN (prG x'.knE x'.ps) 1 x'.ps.length := by
    rw [l3, eE]
    refine trim_congr fun k _ => ?_
    have := congrArg (fun l => l[k]?) h3
    simp only [List.getElem?_map] at this
    unfold prG
    cases a : x.ps[k]? <;> cases b : x'.ps[k]? <;> rw [a, b] at this <;> simp_all
  show Kn.mk (List.map Prod.snd (x.ts.take _)) (x.O.take _) (List.map Prod.snd (List.take _ _)) = Kn.mk (List.map Prod.snd (x'.ts.take _)) (x'.O.take _) (List.map Prod.snd (List.take _ _))
  rw [List.map_take, List.map_take, List.map_take, List.map_take, e1, e3, h1, h2, snd_mapIdx ⟨none, 0, 0⟩ _ (fun i t => fp_snd _ i t), snd_mapIdx ⟨none, 0, 0⟩ _ (fun i t => fp_snd _ i t), h3, eE]
/-- What is left of equal kernels is equal. -/
theorem fin_kn {x x' : Swp} (h : x.kn = x'.kn) : x.fin.kn = x'.fin.kn := cut_kn (all_kn h)
end Swp
end Wp
end Go.Proofs.Ytdciohinlhbliaa