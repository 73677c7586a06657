
/-
  store.Enter, walked.
-/
import Derived.Test.YtdciohinlhbliaaSAppend
namespace Go.Proofs.Ytdciohinlhbliaa
open Go.RowKit
/-- One object's entries turned: all lists lie there still. -/
theorem turned_lists {w W : World} {lo g d : Nat} {ts : List (Sls × Sp.Ob)} {m : Nat → Nat} {sd : Sls} {od : Sp.Ob} {se : Sl} {es : List Sp.Ent} (hA : OwnAll w lo ts m) (hd : ts[d]? = some (sd, od)) (hg : g < lo)
    (hon : On (fun b => b < w.heap.size ∧ b ≠ g ∧ some b ≠ (Value.slice sd.e.a sd.e.n sd.e.c).ownBlock) w W) (hs : w.heap.size ≤ W.heap.size) (hr : Ents W (fun b => lo ≤ b ∧ b < W.heap.size) (.slice se.a se.n se.c) es) :
    ∀ t ∈ ts.set d (⟨sd.d, se, sd.q⟩, { od with ents := es }), Lists W (fun b => lo ≤ b ∧ b < W.heap.size) t := by
  intro t ht
  obtain ⟨i, hi, rfl⟩ := List.getElem_of_mem ht
  have hi' : i < ts.length := by simpa using hi
  have hdl : d < ts.length := (List.getElem?_eq_some_iff.1 hd).1
  have hmn := hA.2.2.1
  have hm0 := hA.lo d
  obtain ⟨m1, m2, h1, h2, h3, h4, h5, h6, h7, h8⟩ := hA.2.2.2 d _ hd
  have hmd := hA.le (show d + 1 ≤ ts.length from hdl)
  have hblk : ∀ b, some b = (Value.slice sd.e.a sd.e.n sd.e.c).ownBlock → m1 ≤ b ∧ b < m2 := fun b hb => ⟨(h6.lt b hb.symm).1, h7 b hb.symm⟩
  by_cases hid : i = d
  · subst hid
    rw [List.getElem_set_self]
    refine ⟨?_, hr, ?_⟩
    · exact Row.more (Row.on h5 (hon.less fun b hb => ⟨by omega, by omega, fun e => by have := hblk b e; omega⟩)) fun b hb => ⟨by omega, by omega⟩
    · exact Queue.more (Queue.on h8.queue (hon.less fun b hb => ⟨by omega, by omega, fun e => by have := hblk b e; omega⟩)) fun b hb => ⟨by omega, by omega⟩
  · rw [List.getElem_set_ne (by omega)]
    have hl := (hA.2.2.2 i _ (List.getElem?_eq_getElem hi')).lists
    have hi1 := hA.le (show i + 1 ≤ ts.length from hi')
    have hi0 := hA.lo i
    have hii := hA.2.1 i
    refine (hl.on (hon.less fun b hb => ⟨by omega, by omega, fun e => ?_⟩)).more fun b hb => ⟨by omega, by omega⟩
    have := hblk b e
    rcases Nat.lt_or_ge i d with hlt | hge
    · have := hA.le (show i + 1 ≤ d from hlt)
      omega
    · have := hA.le (show d + 1 ≤ i by omega)
      omega
namespace Sp
def withEnts (L : List Ob) (d : Nat) (es : List Ent) : List Ob := match L[d]? with
  | none => L
  | some o => L.set d { o with ents := es }
def relinked (L : List Ob) (j : Nat) (more up : Int) : List Ob := match L[j]? with
  | none => L
  | some o => L.set j (linked o more up)
end Sp
theorem noEnter_zero {L : List Sp.Ob} {dir : Int} {name : ByteArray} {obj : Int} (h : Sp.noEnter L dir name obj = 0) : ∃ (d j : Nat) (od oj : Sp.Ob), dir = d ∧ obj = j ∧ L[d]? = some od ∧ L[j]? = some oj ∧ od.kind = 2 ∧ oj.kind ≠ 0 ∧ 1 ≤ od.links ∧ Pt.isName name.data.toList = true ∧ Sp.place od.ents name = -1 ∧ od.ents.length < 8 := by
  unfold Sp.noEnter at h
  split at h
  · simp at h
  · rename_i h1
    split at h
    · rename_i h2; exact absurd h h2
    · rename_i h2
      obtain ⟨d, od, rfl, hd, hk, ho⟩ := noDir_zero (by simpa using h2)
      rw [ho] at h
      dsimp only at h
      split at h
      · simp at h
      · rename_i h3
        split at h
        · simp at h
        · rename_i h4
          split at h
          · simp at h
          · rename_i h5
            split at h
            · simp at h
            · rename_i h6
              cases hob : Sp.objAt L obj with
              | none => rw [hob] at h1; simp at h1
              | some oj =>
                obtain ⟨j, rfl, hj, hkj⟩ := objAt_some hob
                refine ⟨d, j, od, oj, rfl, rfl, hd, hj, hk, hkj, by omega, by simpa using h4, ?_, by omega⟩
                rcases place_cases name od.ents with ⟨p, -⟩ | ⟨k, x, p, -⟩
                · exact p
                · rw [p] at h5; omega
theorem ent_row {w : World} {g : Nat} {e : Sp.Ent} (h : Blk w g #[.string e.name, .int .i64 e.obj] 89) : Row w (fun b => b = g) 2 (.slice (some ⟨g, 0, none⟩) 1 1) [entC e] := by
  refine Or.inr ⟨g, 0, 1, rfl, rfl, Nat.le_refl _, by decide, fun i cs hi j u hj => ?_⟩
  match i, hi with
  | 0, hi =>
    simp at hi
    subst hi
    rw [h.cell]
    simp only [Nat.zero_mul, Nat.zero_add]
    simpa [entC] using hj
  | i + 1, hi => simp at hi
end Go.Proofs.Ytdciohinlhbliaa
