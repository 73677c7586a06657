/-
  rgref5.Send, piece by piece: the message behind the others.
-/
import Derived.Test.YthoacakdmnijcaaCPair
import Derived.Test.YthoacakdmnijcaaCApp
import Derived.Test.YthoacakdmnijcaaBW2
namespace Go.Proofs.Ythoacakdmnijcaa
open Go.RowKit
section
variable {P : Program}
theorem step_append_any {ops : Array Oper} {o : Oper} {a : Act} {w : World} {K : Act → World → Prop} {Q : Exit → Act → World → Prop} {E : Prop} (hgd : o.guard = none) (s x : Operand) (t : TypeId)
    (ho : o.op = .call { callee := .builtin .append, args := #[s, x], argTypes := #[t, t] }) (base : Nat) (e : TypeId) (i : TypeInfo) (z : Value) (k bytes : Nat) (ht : P.underlying t = some (.slice e)) (hi : P.info? e = some i) (hz : i.zero = some z)
    (hsize : i.size = k) (hby : i.bytes = bytes) (hzs : z.cells.size = k) (hk : 0 < k) (v : Value) (css : List (List Value)) (hs : a.eval s = v) (hown : Mine w base e k v css)
    (xv : Value) (S : Nat → Prop) (dss : List (List Value)) (hxv : a.eval x = xv) (hx : Row w S k xv dss) (hE : Even k dss) (h1 : Ones dss) (hbytes : (css.length + dss.length) * bytes ≤ 140737488355328) (hb1 : 1 ≤ bytes) (hbase : base ≤ w.heap.size)
    (h : ∀ r : Sl, ∀ w', Mine w' base e k (.slice r.a r.n r.c) (css ++ dss) → w.grownBy w' v.ownBlock → K (a.put o.dst (.slice r.a r.n r.c)) w') :
    if Region.wanted o (yielded ops a.tmps) = true then Oper.wp P o a w K Q else E := by
  have hw : Region.wanted o (yielded ops a.tmps) = true := by simp [Region.wanted, hgd]
  rw [if_pos hw]
  obtain ⟨v', w', hr, h2, h3⟩ := run_append_row (P := P) w base t o.type e i z k bytes ht hi hz hsize hby hzs hk v css hown xv S dss hx hE h1 hbytes hb1 hbase
  obtain ⟨r, rfl⟩ := h2.sl
  unfold Oper.wp execOp
  simp only [ho, resolve, invoke, builtin, Sem.run_bind, Sem.run_pure, Result.andThen_ok, List.map_toArray, List.map_cons, List.map_nil, hs, hxv, hr]
  exact h r w' h2 h3
end
theorem blk_new1 (W : World) (a : Obj) (cs : Array Value) (t : TypeId) : Blk ((W.alloc a).alloc (.cells cs t)) (W.heap.size + 1) cs t := by
  have h := Blk.new (W.alloc a) cs t
  have e : (W.alloc a).heap.size = W.heap.size + 1 := by simp
  rw [e] at h
  exact h
/-- What was there is there; more may be. -/
def Gr (W W1 : World) : Prop := On (fun b => b < W.heap.size) W W1 ∧ W.heap.size ≤ W1.heap.size ∧ ∀ B, B ≤ W.heap.size → Below B W W1
theorem Gr.drew (W : World) : Gr W W.drew := ⟨fun _ _ => rfl, Nat.le_refl _, fun B _ => (Below.refl B W).drew⟩
theorem Gr.alloc {W W1 : World} (h : Gr W W1) (o : Obj) : Gr W (W1.alloc o) := ⟨h.1.trans ((On.alloc W1 o).less fun b hb => Nat.lt_of_lt_of_le hb h.2.1), by have := h.2.1; simp; omega, fun B hB => (h.2.2 B hB).alloc (by have := h.2.1; omega) _⟩
theorem Gr.grown {W W1 W2 : World} (h : Gr W W1) {own : Option Nat} (hg : W1.grownBy W2 own) (hk : ∀ k, own = some k → W.heap.size ≤ k) : Gr W W2 := by
  have hz : W1.heap.size ≤ W2.heap.size := (Below.grown (Below.refl 0 W1) hg (Nat.zero_le _) (fun _ _ => Nat.zero_le _)).size
  refine ⟨h.1.trans fun b hb => hg.block b (Nat.lt_of_lt_of_le hb h.2.1) (fun e => by have := hk b e.symm; omega), Nat.le_trans h.2.1 hz, fun B hB => (h.2.2 B hB).grown hg (by have := h.2.1; omega) (fun k hk' => by have := hk k hk'; omega)⟩
theorem Mine.more {w : World} {base k : Nat} {e : TypeId} {v : Value} {css : List (List Value)} (h : Mine w base e k v css) (o : Obj) : Mine (w.alloc o) base e k v css := h.on (On.alloc w o) fun g hg => (h.lt g hg).2
theorem Mine.none0 {W W1 : World} {g : Nat} {t : TypeId} (h : Blk W1 g #[] t) (hg : W.heap.size ≤ g) (k : Nat) : Mine W1 W.heap.size t k (.slice (some ⟨g, 0, none⟩) 0 0) [] :=
  ⟨by simp, Or.inr ⟨g, 0, #[], rfl, hg, h, Nat.le_refl _, Nat.zero_le _, by simp, by simp⟩⟩
set_option maxRecDepth 1000000 in
set_option maxHeartbeats 16000000 in
theorem rsend11_wp (Q : Exit → Act → World → Prop) (K : Act → World → Prop) (W : World) (gp gb : Nat) (S : Nat → Prop) (us : List (Sl × Sp.Msg)) (qv : Value) (t : Sl × Sp.Msg) (o0 o1 o2 o3 o4 o6 o7 o8 : Value) (hu : us.length ≤ 1000) (hq : Row W S 4 qv (us.map msgC)) (hS : ∀ b, S b → b < W.heap.size)
    (hp : Blk W gp #[.slice t.1.a t.1.n t.1.c, .bool t.2.has, .int .i64 t.2.op, .int .i64 t.2.rt] 49) (hb : Blk W gb #[o0, o1, o2, o3, o4, qv, o6, o7, o8] 40)
    (x0 x1 x2 x3 x4 x6 x7 x8 x10 x11 x12 x13 x14 x15 x16 x17 x18 x19 x20 x21 x22 x23 x24 x25 x26 x27 x28 x29 x30 x31 x32 x33 x34 x35 x36 x37 x38 x39 x40 x41 x42 x43 x44 x45 x46 x47 x48 x49 : Value)
    (h : ∀ (y38 y39 y40 y41 y42 y43 y44 y45 : Value) (r : Sl) (W' : World), Blk W' gb #[o0, o1, o2, o3, o4, .slice r.a r.n r.c, o6, o7, o8] 40 → Row W' (fun b => W.heap.size ≤ b ∧ b < W'.heap.size) 4 (.slice r.a r.n r.c) ((us ++ [t]).map msgC) → On (fun b => b < W.heap.size ∧ b ≠ gb) W W' → W.heap.size ≤ W'.heap.size → (∀ B, B ≤ gb → Below B W W') → K ⟨#[x0, x1, x2, x3, x4, .pointer (some ⟨gp, 0, none⟩), x6, x7, x8, .pointer (some ⟨gb, 0, none⟩), x10, x11, x12, x13, x14, x15, x16, x17, x18, x19, x20, x21, x22, x23, x24, x25, x26, x27, x28, x29, x30, x31, x32, x33, x34, x35, x36, x37, y38, y39, y40, y41, y42, y43, y44, y45, x46, x47, x48, x49], []⟩ W') :
    Code.wp Try.prog ((Try.f23.body.bind (findReg 11)).getD .skip) (Exit.then K Q) ⟨#[x0, x1, x2, x3, x4, .pointer (some ⟨gp, 0, none⟩), x6, x7, x8, .pointer (some ⟨gb, 0, none⟩), x10, x11, x12, x13, x14, x15, x16, x17, x18, x19, x20, x21, x22, x23, x24, x25, x26, x27, x28, x29, x30, x31, x32, x33, x34, x35, x36, x37, x38, x39, x40, x41, x42, x43, x44, x45, x46, x47, x48, x49], []⟩ W := by
  obtain ⟨⟨ma, mn, mc⟩, md, mh, mo, mr⟩ := t
  dsimp only at hp
  have HH : Hid (∀ (y38 y39 y40 y41 y42 y43 y44 y45 : Value) (r : Sl) (W' : World), Blk W' gb #[o0, o1, o2, o3, o4, .slice r.a r.n r.c, o6, o7, o8] 40 → Row W' (fun b => W.heap.size ≤ b ∧ b < W'.heap.size) 4 (.slice r.a r.n r.c) ((us ++ [((⟨ma, mn, mc⟩ : Sl), (⟨md, mh, mo, mr⟩ : Sp.Msg))]).map msgC) → On (fun b => b < W.heap.size ∧ b ≠ gb) W W' → W.heap.size ≤ W'.heap.size → (∀ B, B ≤ gb → Below B W W') → K ⟨#[x0, x1, x2, x3, x4, .pointer (some ⟨gp, 0, none⟩), x6, x7, x8, .pointer (some ⟨gb, 0, none⟩), x10, x11, x12, x13, x14, x15, x16, x17, x18, x19, x20, x21, x22, x23, x24, x25, x26, x27, x28, x29, x30, x31, x32, x33, x34, x35, x36, x37, y38, y39, y40, y41, y42, y43, y44, y45, x46, x47, x48, x49], []⟩ W') := h
  have hgp := hp.lt
  have hgb := hb.lt
  have HA1 : Hid (∀ (W1 : World) (g0 : Nat) (ops : Array Oper) (o : Oper) (a : Act) (K' : Act → World → Prop) (Q' : Exit → Act → World → Prop) (E : Prop), o.guard = none → ∀ (s x : Operand), o.op = .call { callee := .builtin .append, args := #[s, x], argTypes := #[38, 38] } → a.eval s = .slice (some ⟨g0, 0, none⟩) 0 0 → a.eval x = qv → Blk W1 g0 #[] 49 → W.heap.size ≤ g0 → Gr W W1 → (∀ (r : Sl) (W2 : World), Mine W2 W.heap.size 49 4 (.slice r.a r.n r.c) (us.map msgC) → On (fun b => b < W1.heap.size ∧ b ≠ g0) W1 W2 → W1.heap.size ≤ W2.heap.size → Gr W W2 → (∀ j, W2.cell? ⟨gp, j, none⟩ = (#[.slice ma mn mc, .bool mh, .int .i64 mo, .int .i64 mr] : Array Value)[j]?) → gp < W2.heap.size → K' (a.put o.dst (.slice r.a r.n r.c)) W2) → if Region.wanted o (yielded ops a.tmps) = true then Oper.wp Try.prog o a W1 K' Q' else E) := by
    intro W1 g0 ops o a K' Q' E hgd s x ho hs hx hb0 hg0 hG hk
    obtain ⟨i0, hi0, hz0, hz1, hz2⟩ := info_parts Try.infoMsg
    refine step_append_any hgd s x _ ho W.heap.size 49 i0 (.agg #[.slice none 0 0, .bool false, .int .i64 0, .int .i64 0]) 4 48 Try.underlying38 hi0 hz0 hz1 hz2 rfl (by decide) _ [] hs (Mine.none0 hb0 hg0 4) _ S (us.map msgC) hx (hq.on (hG.1.less hS)) (even_msg us) (ones_msg us) (by rw [List.length_nil, List.length_map]; omega) (by decide) hG.2.1 ?_
    intro r W2 hm hg
    rw [List.nil_append] at hm
    have hG2 : Gr W W2 := hG.grown hg fun k hk => by simp [Value.ownBlock] at hk; omega
    exact hk r W2 hm (fun b hb => hg.block b hb.1 fun e => hb.2 (by simp [Value.ownBlock] at e; exact e)) (by have := (Below.grown (Below.refl 0 W1) hg (Nat.zero_le _) (fun _ _ => Nat.zero_le _)).size; exact this) hG2 (hp.on hG2.1 hgp).cell (Nat.lt_of_lt_of_le hgp hG2.2.1)
  have HA2 : Hid (∀ (W3 : World) (gm : Nat) (r : Sl) (ops : Array Oper) (o : Oper) (a : Act) (K' : Act → World → Prop) (Q' : Exit → Act → World → Prop) (E : Prop), o.guard = none → ∀ (s x : Operand), o.op = .call { callee := .builtin .append, args := #[s, x], argTypes := #[38, 38] } → a.eval s = .slice r.a r.n r.c → a.eval x = .slice (some ⟨gm, 0, none⟩) 1 1 → Mine W3 W.heap.size 49 4 (.slice r.a r.n r.c) (us.map msgC) → Blk W3 gm #[.slice ma mn mc, .bool mh, .int .i64 mo, .int .i64 mr] 49 → Gr W W3 → (∀ (r' : Sl) (W4 : World), W4.cell? ⟨gb, 5, none⟩ = some qv → W4.frozen? ⟨gb, 5, none⟩ = false → (Blk (W4.setCell ⟨gb, 5, none⟩ (.slice r'.a r'.n r'.c)) gb #[o0, o1, o2, o3, o4, .slice r'.a r'.n r'.c, o6, o7, o8] 40 ∧ Row (W4.setCell ⟨gb, 5, none⟩ (.slice r'.a r'.n r'.c)) (fun b => W.heap.size ≤ b ∧ b < (W4.setCell ⟨gb, 5, none⟩ (.slice r'.a r'.n r'.c)).heap.size) 4 (.slice r'.a r'.n r'.c) ((us ++ [((⟨ma, mn, mc⟩ : Sl), (⟨md, mh, mo, mr⟩ : Sp.Msg))]).map msgC) ∧ On (fun b => b < W.heap.size ∧ b ≠ gb) W (W4.setCell ⟨gb, 5, none⟩ (.slice r'.a r'.n r'.c)) ∧ W.heap.size ≤ (W4.setCell ⟨gb, 5, none⟩ (.slice r'.a r'.n r'.c)).heap.size ∧ ∀ B, B ≤ gb → Below B W (W4.setCell ⟨gb, 5, none⟩ (.slice r'.a r'.n r'.c))) → K' (a.put o.dst (.slice r'.a r'.n r'.c)) W4) → if Region.wanted o (yielded ops a.tmps) = true then Oper.wp Try.prog o a W3 K' Q' else E) := by
    intro W3 gm r ops o a K' Q' E hgd s x ho hs hx hm hbm hG hk
    obtain ⟨i0, hi0, hz0, hz1, hz2⟩ := info_parts Try.infoMsg
    refine step_append_own1 hgd s x _ ho W.heap.size 49 49 i0 (.agg #[.slice none 0 0, .bool false, .int .i64 0, .int .i64 0]) 4 48 Try.underlying38 hi0 hz0 hz1 hz2 rfl (by decide) _ (us.map msgC) hs hm (even_msg us) gm hx (msgC (⟨ma, mn, mc⟩, ⟨md, mh, mo, mr⟩)) hbm rfl (fun u hu => ones_msg [(⟨ma, mn, mc⟩, ⟨md, mh, mo, mr⟩)] _ (List.mem_singleton.2 rfl) u hu) (by rw [List.length_map]; omega) (by decide) hG.2.1 ?_
    intro r' W4 hm4 hg4 _
    have hG4 : Gr W W4 := hG.grown hg4 fun k hk => (hm.lt k hk).1
    have hb4 := hb.on hG4.1 hgb
    have on5 := On.set W4 ⟨gb, 5, none⟩ (.slice r'.a r'.n r'.c)
    refine hk r' W4 (hb4.cell 5) (hb4.free 5) ⟨hb4.set 5 _, ?_, (hG4.1.less fun b hb => hb.1).trans (on5.less fun b hb => hb.2), by have := hG4.2.1; simp; exact this, fun B hB => (hG4.2.2 B (by omega)).setCell (by exact hB) _⟩
    have h5 := hm4.on on5 fun g hg => by have := (hm4.lt g hg).1; show g ≠ gb; omega
    have e : us.map msgC ++ [msgC (⟨ma, mn, mc⟩, ⟨md, mh, mo, mr⟩)] = (us ++ [((⟨ma, mn, mc⟩ : Sl), (⟨md, mh, mo, mr⟩ : Sp.Msg))]).map msgC := by rw [List.map_append]; rfl
    rw [e] at h5
    exact h5.row (even_msg _)
  have b5 := hb.cell 5
  have pc := hp.cell
  have hnb : ¬ gb = W.heap.size := by omega
  have hnp : ¬ gp = W.heap.size := by omega
  have hnb1 : ¬ gb = W.heap.size + 1 := by omega
  have hnp1 : ¬ gp = W.heap.size + 1 := by omega
  clear h hq hp hb
  refine wp_mono (Q := Exit.then K (fun _ _ _ => False)) ?_ (fun e a w h => by cases e <;> first | exact h | exact h.elim)
  conv => arg 2; whnf
  go_region_law (first
    | ((refine HA1.out _ _ _ _ _ _ _ _ rfl _ _ rfl (by rfl) (by rfl) (by first | exact Blk.new _ _ _ | exact (Blk.new _ _ _).alloc _ | exact blk_new1 _ _ _ _) (by first | exact Nat.le_refl _ | simp) (by first | exact (Gr.drew _).alloc _ | exact ((Gr.drew _).alloc _).alloc _) ?_; intro r2 W2 hm2 hon2 hz2 hg2 hc2 hl2))
    | ((refine HA2.out _ _ r2 _ _ _ _ _ _ rfl _ _ rfl (by rfl) (by rfl) (by first | exact hm2 | exact hm2.more _) (by first | exact Blk.new _ _ _ | exact blk_new1 _ _ _ _ | exact (Blk.new _ _ _).on hon2 ⟨by simp, by simp⟩ | exact (blk_new1 _ _ _ _).on hon2 ⟨by simp, by simp⟩ | exact ((Blk.new _ _ _).alloc _).on hon2 ⟨by simp; omega, by simp⟩) (by first | exact hg2 | exact hg2.alloc _) ?_; intro r4 W4 hq1 hq2 hq3)))
  all_goals exact HH.out _ _ _ _ _ _ _ _ r4 _ hq3.1 hq3.2.1 hq3.2.2.1 hq3.2.2.2.1 hq3.2.2.2.2
end Go.Proofs.Ythoacakdmnijcaa
