
/-
  store.ownObject: a copy of an object.
-/
import Derived.Test.YtdciohinlhbliaaSOwn
namespace Go.Proofs.Ytdciohinlhbliaa
open Go.RowKit
/-- Messages of one's own, with their bytes beside them. -/
def QOwn (w : World) (lo hi : Nat) (v : Value) (l : List Sp.Msg) : Prop :=
  ∃ ts : List (Sl × Sp.Msg), l = ts.map Prod.snd ∧ Mine w lo 83 4 v (ts.map msgC) ∧ (∀ g, v.ownBlock = some g → g < hi) ∧ ∀ t ∈ ts, Bytes w (fun b => lo ≤ b ∧ b < hi ∧ some b ≠ v.ownBlock) (.slice t.1.a t.1.n t.1.c) t.2.data
theorem QOwn.on {w w' : World} {lo hi : Nat} {v : Value} {l : List Sp.Msg} (h : QOwn w lo hi v l) (ho : On (fun b => lo ≤ b ∧ b < hi) w w') : QOwn w' lo hi v l := by
  obtain ⟨ts, h1, h2, h3, h4⟩ := h
  exact ⟨ts, h1, h2.on ho fun g hg => ⟨(h2.lt g hg).1, h3 g hg⟩, h3, fun t ht => Row.on (h4 t ht) (ho.less fun b hb => ⟨hb.1, hb.2.1⟩)⟩
theorem QOwn.wide {w : World} {lo hi hi' : Nat} {v : Value} {l : List Sp.Msg} (h : QOwn w lo hi v l) (hh : hi ≤ hi') : QOwn w lo hi' v l := by
  obtain ⟨ts, h1, h2, h3, h4⟩ := h
  exact ⟨ts, h1, h2, fun g hg => Nat.lt_of_lt_of_le (h3 g hg) hh, fun t ht => Row.more (h4 t ht) fun b hb => ⟨hb.1, Nat.lt_of_lt_of_le hb.2.1 hh, hb.2.2⟩⟩
theorem QOwn.queue {w : World} {lo hi : Nat} {v : Value} {l : List Sp.Msg} (h : QOwn w lo hi v l) : Queue w (fun b => lo ≤ b ∧ b < hi) v l := by
  obtain ⟨ts, h1, h2, h3, h4⟩ := h
  refine ⟨ts, h1, ?_, fun t ht => Row.more (h4 t ht) fun b hb => ⟨hb.1, hb.2.1⟩⟩
  rcases h2.row (even_msg _) with h | ⟨b, o, c, e, hb, hrest⟩
  · exact Or.inl h
  · exact Or.inr ⟨b, o, c, e, ⟨hb.1, h3 b (by rw [e]; rfl)⟩, hrest⟩
/-- An object's lists, one's own: bytes, entries, messages, one behind the other. -/
def OwnL (w : World) (lo hi : Nat) (t : Sls × Sp.Ob) : Prop :=
  ∃ m1 m2, lo ≤ m1 ∧ m1 ≤ m2 ∧ m2 ≤ hi ∧ hi ≤ w.heap.size ∧ Bytes w (fun b => lo ≤ b ∧ b < m1) (.slice t.1.d.a t.1.d.n t.1.d.c) t.2.data ∧ Mine w m1 89 2 (.slice t.1.e.a t.1.e.n t.1.e.c) (t.2.ents.map entC) ∧ (∀ g, (Value.slice t.1.e.a t.1.e.n t.1.e.c).ownBlock = some g → g < m2) ∧ QOwn w m2 hi (.slice t.1.q.a t.1.q.n t.1.q.c) t.2.queue
theorem OwnL.on {w w' : World} {lo hi : Nat} {t : Sls × Sp.Ob} (h : OwnL w lo hi t) (ho : On (fun b => lo ≤ b ∧ b < hi) w w') (hs : w.heap.size ≤ w'.heap.size) : OwnL w' lo hi t := by
  obtain ⟨m1, m2, h1, h2, h3, h4, h5, h6, h7, h8⟩ := h
  refine ⟨m1, m2, h1, h2, h3, by omega, h5.on (ho.less fun b hb => ⟨hb.1, by omega⟩), h6.on ho fun g hg => ⟨by have := (h6.lt g hg).1; omega, by have := h7 g hg; omega⟩, h7, h8.on (ho.less fun b hb => ⟨by omega, hb.2⟩)⟩
theorem OwnL.lists {w : World} {lo hi : Nat} {t : Sls × Sp.Ob} (h : OwnL w lo hi t) : Lists w (fun b => lo ≤ b ∧ b < hi) t := by
  obtain ⟨m1, m2, h1, h2, h3, h4, h5, h6, h7, h8⟩ := h
  refine ⟨h5.more fun b hb => ⟨hb.1, by omega⟩, ?_, h8.queue.more fun b hb => ⟨by omega, hb.2⟩⟩
  have hr := h6.row (even_ent _)
  rcases hr with h | ⟨b, o, c, e, hb, hrest⟩
  · exact Or.inl h
  · refine Or.inr ⟨b, o, c, e, ⟨by omega, ?_⟩, hrest⟩
    have := h7 b (by rw [e]; rfl)
    omega
/-- The messages' loop: k of them have bytes of their own. -/
def QInv (w w5 : World) (m2 : Nat) (sq : Sl) (ts : List (Sl × Sp.Msg)) (k : Nat) (wr : World) : Prop :=
  ∃ ts' : List (Sl × Sp.Msg), Below w.heap.size w wr ∧ On (fun b => b < w5.heap.size ∧ some b ≠ (Value.slice sq.a sq.n sq.c).ownBlock) w5 wr ∧ w5.heap.size ≤ wr.heap.size ∧ Mine wr m2 83 4 (.slice sq.a sq.n sq.c) (ts'.map msgC) ∧ ts'.map Prod.snd = ts.map Prod.snd ∧
    (∀ (j : Nat) t, ts'[j]? = some t → (j < k → Bytes wr (fun b => w5.heap.size ≤ b ∧ b < wr.heap.size) (.slice t.1.a t.1.n t.1.c) t.2.data) ∧ (k ≤ j → ts[j]? = some t))
theorem ownBytes_there (l : List UInt8) (v : Value) (S : Nat → Prop) (W : World) (hv : Bytes W S v l) (hl : l.length ≤ 140737488355328) (b1 g j : Nat) (q u : Value) (h1 : W.cell? ⟨b1, 5, none⟩ = some q) (h2 : W.cell? ⟨g, j, none⟩ = some u) (h3 : W.frozen? ⟨g, j, none⟩ = false) (h4 : b1 < W.heap.size) (h5 : g < W.heap.size) :
    Calls Try.prog 82 #[v] W fun e w' => ∃ s : Sl, e = .returned (.slice s.a s.n s.c) ∧ Mine w' W.heap.size 5 1 (.slice s.a s.n s.c) (l.map byteC) ∧ Below W.heap.size W w' ∧ w'.cell? ⟨b1, 5, none⟩ = some q ∧ w'.cell? ⟨g, j, none⟩ = some u ∧ w'.frozen? ⟨g, j, none⟩ = false :=
  (ownBytes_any l v S W hv hl).mono fun _ _ ⟨s, e, hm, hb⟩ => ⟨s, e, hm, hb, (hb.cell (p := ⟨b1, 5, none⟩) h4).trans h1, (hb.cell (p := ⟨g, j, none⟩) h5).trans h2, (hb.frozen (p := ⟨g, j, none⟩) h5).trans h3⟩
theorem QInv.step {w w6 wr W w7 : World} {m2 g kk sqc : Nat} {ts ts' : List (Sl × Sp.Msg)} {s s7 : Sl} {m : Sp.Msg} (hB : Below w.heap.size w W) (hwm : w.heap.size ≤ g)
    (hOn : On (fun b => b < w6.heap.size ∧ some b ≠ (Value.slice (some ⟨g, 0, none⟩) ts.length sqc).ownBlock) w6 wr) (hz : w6.heap.size ≤ wr.heap.size) (hON : On (fun b => b < wr.heap.size) wr W) (hZ : W.heap.size = wr.heap.size + 1)
    (hM : Mine W m2 83 4 (.slice (some ⟨g, 0, none⟩) ts.length sqc) (ts'.map msgC)) (hsnd : ts'.map Prod.snd = ts.map Prod.snd)
    (hel : ∀ (j : Nat) t, ts'[j]? = some t → (j < kk → Bytes wr (fun b => w6.heap.size ≤ b ∧ b < wr.heap.size) (.slice t.1.a t.1.n t.1.c) t.2.data) ∧ (kk ≤ j → ts[j]? = some t))
    (hx : ts'[kk]? = some (s, m)) (hb7 : Below W.heap.size W w7) (hm7 : Mine w7 W.heap.size 5 1 (.slice s7.a s7.n s7.c) (m.data.map byteC)) (hgw : g < w6.heap.size) :
    QInv w w6 m2 ⟨some ⟨g, 0, none⟩, ts.length, sqc⟩ ts (kk + 1) (w7.setCell ⟨g, kk * 4, none⟩ (.slice s7.a s7.n s7.c)) := by
  have hsz : (w7.setCell ⟨g, kk * 4, none⟩ (.slice s7.a s7.n s7.c)).heap.size = w7.heap.size := by simp
  have hw7 := hb7.size
  have onF : On (fun b => b < wr.heap.size ∧ b ≠ g) wr (w7.setCell ⟨g, kk * 4, none⟩ (.slice s7.a s7.n s7.c)) := ((hON.less fun b hb => hb.1).trans ((On.of hb7).less fun b hb => by omega)).trans ((On.set w7 ⟨g, kk * 4, none⟩ _).less fun b hb => hb.2)
  refine ⟨ts'.set kk (s7, m), (hB.trans (hb7.mono hB.size)).setCell hwm _, ?_, by omega, ?_, ?_, ?_⟩
  · refine hOn.trans (onF.less fun b hb => ⟨by omega, fun e => hb.2 (by rw [e]; rfl)⟩)
  · have h1 := hM.on (On.of hb7) (fun g hg => (hM.lt g hg).2)
    have h2 := h1.set (even_msg ts') kk 0 (msgC (s, m)) (.slice s7.a s7.n s7.c) (by rw [List.getElem?_map, hx]; rfl) (by decide)
    rw [List.map_set]
    exact h2
  · rw [List.map_set, ← hsnd]
    apply List.ext_getElem?
    intro j
    rw [List.getElem?_set]
    split
    · rename_i e
      subst e
      split
      · rw [List.getElem?_map, hx]; rfl
      · rename_i hh
        rw [List.length_map] at hh
        exact absurd (List.getElem?_eq_some_iff.1 hx).1 hh
    · rfl
  · intro j t ht
    rw [List.getElem?_set] at ht
    split at ht
    · rename_i e
      subst e
      split at ht
      · cases ht
        refine ⟨fun _ => ?_, fun h => by omega⟩
        have hr := (hm7.row (even_byte m.data)).on ((On.set w7 ⟨g, kk * 4, none⟩ (.slice s7.a s7.n s7.c)).less fun b hb => by show b ≠ g; omega)
        exact hr.more fun b hb => ⟨by omega, by omega⟩
      · cases ht
    · rename_i hne
      obtain ⟨h1, h2⟩ := hel j t ht
      refine ⟨fun hj => ?_, fun hj => h2 (by omega)⟩
      have := Row.on (h1 (by omega)) (onF.less fun b hb => ⟨hb.2, by omega⟩)
      exact this.more fun b hb => ⟨hb.1, by omega⟩
theorem Blk.nine {w : World} {b : Nat} {t : TypeId} {x0 x1 x2 x3 x4 x5 x6 x7 x8 : Value} (h : Blk w b #[x0, x1, x2, x3, x4, x5, x6, x7, x8] t) (c0 c1 c2 c3 c4 c5 c6 c7 c8 : Value) (W : World)
    (hW : W = (((((((((w.setCell ⟨b, 0, none⟩ c0).setCell ⟨b, 1, none⟩ c1).setCell ⟨b, 2, none⟩ c2).setCell ⟨b, 3, none⟩ c3).setCell ⟨b, 4, none⟩ c4).setCell ⟨b, 5, none⟩ c5).setCell ⟨b, 6, none⟩ c6).setCell ⟨b, 7, none⟩ c7).setCell ⟨b, 8, none⟩ c8)) :
    Blk W b #[c0, c1, c2, c3, c4, c5, c6, c7, c8] t ∧ On (fun k => k ≠ b) w W ∧ W.heap.size = w.heap.size := by
  subst hW
  have h0 : Blk _ b #[c0, x1, x2, x3, x4, x5, x6, x7, x8] t := (h).set 0 c0
  have h1 : Blk _ b #[c0, c1, x2, x3, x4, x5, x6, x7, x8] t := (h0).set 1 c1
  have h2 : Blk _ b #[c0, c1, c2, x3, x4, x5, x6, x7, x8] t := (h1).set 2 c2
  have h3 : Blk _ b #[c0, c1, c2, c3, x4, x5, x6, x7, x8] t := (h2).set 3 c3
  have h4 : Blk _ b #[c0, c1, c2, c3, c4, x5, x6, x7, x8] t := (h3).set 4 c4
  have h5 : Blk _ b #[c0, c1, c2, c3, c4, c5, x6, x7, x8] t := (h4).set 5 c5
  have h6 : Blk _ b #[c0, c1, c2, c3, c4, c5, c6, x7, x8] t := (h5).set 6 c6
  have h7 : Blk _ b #[c0, c1, c2, c3, c4, c5, c6, c7, x8] t := (h6).set 7 c7
  have h8 : Blk _ b #[c0, c1, c2, c3, c4, c5, c6, c7, c8] t := (h7).set 8 c8
  refine ⟨h8, ?_, by simp⟩
  exact (((((((((On.set w ⟨b, 0, none⟩ c0).trans (On.set _ ⟨b, 1, none⟩ c1)).trans (On.set _ ⟨b, 2, none⟩ c2)).trans (On.set _ ⟨b, 3, none⟩ c3)).trans (On.set _ ⟨b, 4, none⟩ c4)).trans (On.set _ ⟨b, 5, none⟩ c5)).trans (On.set _ ⟨b, 6, none⟩ c6)).trans (On.set _ ⟨b, 7, none⟩ c7)).trans (On.set _ ⟨b, 8, none⟩ c8))
theorem Below.drewOf {W w7 : World} (h : Below W.drew.heap.size W.drew w7) : Below W.heap.size W w7 := ⟨h.os, h.tape, h.output, h.size, h.block⟩
theorem Below.through {w W W' : World} {B : Nat} (h : Below B w W) (hon : On (fun b => b < B) W W') (hs : W.heap.size ≤ W'.heap.size) (h1 : W'.os = W.os) (h2 : W'.tape = W.tape) (h3 : W'.output = W.output) : Below B w W' := h.trans ⟨h1, h2, h3, hs, fun k hk => hon k hk⟩
end Go.Proofs.Ytdciohinlhbliaa
