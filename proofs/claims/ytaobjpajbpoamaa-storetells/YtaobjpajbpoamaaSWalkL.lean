/-
  store.New, store.relink, walked.
-/
import Derived.Test.YtaobjpajbpoamaaSWalkK
import Derived.Test.YtaobjpajbpoamaaPWalkA
namespace Go.Proofs.Ytaobjpajbpoamaa
open Go.RowKit
namespace Sp
def noEnter (L : List Ob) (dir : Int) (name : ByteArray) (obj : Int) : Int :=
  if (objAt L obj).isSome = false then 6 else if noDir L dir ≠ 0 then noDir L dir else match objAt L dir with
    | none => 6
    | some d => if d.links < 1 then 6 else if Pt.isName name.data.toList = false then 7 else if 0 ≤ place d.ents name then 7 else if 8 ≤ d.ents.length then 15 else 0
def linked (o : Ob) (more up : Int) : Ob := { o with links := o.links + more, up := if o.kind = 2 then up else o.up }
end Sp
theorem new_any (w : World) : Calls Try.prog 11 #[] w fun e w' => e = .returned (.slice (some ⟨w.heap.size, 0, none⟩) 1 1) ∧ Objs w' (fun b => w.heap.size ≤ b ∧ b < w'.heap.size) (.slice (some ⟨w.heap.size, 0, none⟩) 1 1) [⟨2, [], [], ⟨#[]⟩, -1, [], -1, 1, 0⟩] ∧ Below w.heap.size w w' := by
  go_enter Try.func11, Try.ntmps11
  go_wp2
  go_ret
  refine ⟨rfl, ⟨[(⟨nilSl, nilSl, nilSl⟩, ⟨2, [], [], ⟨#[]⟩, -1, [], -1, 1, 0⟩)], rfl, ?_, ?_⟩, (Below.refl _ _).alloc (Nat.le_refl _) _⟩
  · refine Or.inr ⟨w.heap.size, 0, 1, rfl, ⟨Nat.le_refl _, by simp⟩, Nat.le_refl _, by decide, fun i cs hi j u hj => ?_⟩
    match i, hi with
    | 0, hi =>
      simp at hi
      subst hi
      rw [(Blk.new w _ _).cell]
      simp only [Nat.zero_mul, Nat.zero_add]
      simpa [objC, nilSl] using hj
    | i + 1, hi => simp at hi
  · intro t ht
    simp at ht
    subst ht
    exact ⟨Row.nil _ _ _ _ _, Row.nil _ _ _ _ _, [], rfl, Row.nil _ _ _ _ _, fun t ht => by simp at ht⟩
theorem Mine.objs {w : World} {base g n c : Nat} {S : Nat → Prop} {ts : List (Sls × Sp.Ob)} (h : Mine w base 35 9 (.slice (some ⟨g, 0, none⟩) n c) (ts.map objC)) (hS : ∀ b, base ≤ b ∧ b < w.heap.size → S b) (hl : ∀ t ∈ ts, Lists w S t) : Objs w S (.slice (some ⟨g, 0, none⟩) n c) (ts.map Prod.snd) :=
  ⟨ts, rfl, (h.row (even_obj ts)).more hS, hl⟩
set_option maxHeartbeats 1000000 in
theorem relink_any (ts : List (Sls × Sp.Ob)) (g n c base : Nat) (S : Nat → Prop) (j : Nat) (s : Sls) (o : Sp.Ob) (more up : Int) (w : World) (hM : Mine w base 35 9 (.slice (some ⟨g, 0, none⟩) n c) (ts.map objC)) (hO : Objs w S (.slice (some ⟨g, 0, none⟩) n c) (ts.map Prod.snd)) (hj : ts[j]? = some (s, o)) (hk : o.kind ≠ 0) (hl : -4611686018427387904 ≤ o.links ∧ o.links ≤ 4611686018427387904) (hm : -1 ≤ more ∧ more ≤ 1) :
    Calls Try.prog 54 #[.slice (some ⟨g, 0, none⟩) n c, .int .i64 j, .int .i64 more, .int .i64 up] w fun e w' => e = .returned (.tuple #[]) ∧ Mine w' base 35 9 (.slice (some ⟨g, 0, none⟩) n c) ((ts.set j (s, Sp.linked o more up)).map objC) ∧ On (fun b => b ≠ g) w w' ∧ w'.heap.size = w.heap.size ∧ ∀ B, B ≤ g → Below B w w' := by
  have hlt : j < ts.length := (List.getElem?_eq_some_iff.1 hj).1
  obtain ⟨cur, hblk, hn, hnc, hcm, hcs, hcur⟩ := hM.blk
  rw [List.length_map] at hn
  have hx : (ts.map Prod.snd)[j]? = some o := by rw [List.getElem?_map, hj]; rfl
  have HI : Hid (Calls Try.prog 72 #[.slice (some ⟨g, 0, none⟩) n c, .int .i64 j] w fun e w' => e = .returned (.bool true) ∧ w' = w) := by
    have := isObject_any (ts.map Prod.snd) j _ S w hO
    rw [objAt_of hx hk] at this
    exact this
  have hcell : ∀ i u, (objC (s, o))[i]? = some u → w.cell? ⟨g, j * 9 + i, none⟩ = some u := fun i u hi => by
    rw [hblk.cell]
    exact hcur _ u (flatten_at (even_obj ts) j _ (by rw [List.getElem?_map, hj]; rfl) i u hi)
  have c0 := hcell 0 _ rfl
  have c7 := hcell 7 _ rfl
  have c8 := hcell 8 _ rfl
  have cf := hblk.free
  rw [Nat.add_zero] at c0
  dsimp only at c0 c7 c8
  have hget : (ts.map objC)[j]? = some (objC (s, o)) := by rw [List.getElem?_map, hj]; rfl
  have HM : Hid (Mine w base 35 9 (.slice (some ⟨g, 0, none⟩) n c) (ts.map objC)) := hM
  have HG : Hid _ := hget
  unfold maxLen at hcm
  obtain ⟨hl1, hl2⟩ := hl
  obtain ⟨hm1, hm2⟩ := hm
  have hjn : j < n := by omega
  clear hcell hblk hcur hcs hM hO hx hget hn hk
  by_cases h2 : o.kind = 2
  · have HE : Hid (Mine ((w.setCell ⟨g, j * 9 + 7, none⟩ (.int .i64 (o.links + more))).setCell ⟨g, j * 9 + 8, none⟩ (.int .i64 up)) base 35 9 (.slice (some ⟨g, 0, none⟩) n c) ((ts.set j (s, Sp.linked o more up)).map objC)) := by
      have h1 := HM.out.set (even_obj ts) j 7 _ (.int .i64 (o.links + more)) HG.out (by decide)
      have hev : Even 9 ((ts.map objC).set j ((objC (s, o)).set 7 (.int .i64 (o.links + more)))) := fun cs hcs => by
        rcases List.mem_or_eq_of_mem_set hcs with h | h
        · exact even_obj ts cs h
        · rw [h]; rfl
      have h2' := h1.set hev j 8 _ (.int .i64 up) (List.getElem?_set_self (by rw [List.length_map]; exact hlt)) (by decide)
      rw [List.set_set] at h2'
      have e : ((objC (s, o)).set 7 (.int .i64 (o.links + more))).set 8 (.int .i64 up) = objC (s, Sp.linked o more up) := by
        unfold Sp.linked objC
        rw [if_pos h2]
        rfl
      rw [e] at h2'
      rw [List.map_set]
      exact h2'
    rw [h2] at c0
    have HJ : Hid _ := hj
    clear HM HG hj
    go_enter Try.func54, Try.ntmps54
    go_wp2_with fail
    refine Calls.mono HI.out ?_
    rintro e w2 ⟨rfl, hw⟩
    rw [hw]
    clear hw
    go_wp2
    go_end0
    exact ⟨rfl, HE.out, (On.set w ⟨g, j * 9 + 7, none⟩ _).trans (On.set _ ⟨g, j * 9 + 8, none⟩ _), by simp, fun B hB => ((Below.refl B w).setCell hB _).setCell hB _⟩
  · have HE : Hid (Mine (w.setCell ⟨g, j * 9 + 7, none⟩ (.int .i64 (o.links + more))) base 35 9 (.slice (some ⟨g, 0, none⟩) n c) ((ts.set j (s, Sp.linked o more up)).map objC)) := by
      have h1 := HM.out.set (even_obj ts) j 7 _ (.int .i64 (o.links + more)) HG.out (by decide)
      have e : (objC (s, o)).set 7 (.int .i64 (o.links + more)) = objC (s, Sp.linked o more up) := by
        unfold Sp.linked objC
        rw [if_neg h2]
        rfl
      rw [e] at h1
      rw [List.map_set]
      exact h1
    have h2' : (o.kind == 2) = false := by simpa using h2
    have HJ : Hid _ := hj
    clear HM HG hj h2
    go_enter Try.func54, Try.ntmps54
    go_wp2_with fail
    refine Calls.mono HI.out ?_
    rintro e w2 ⟨rfl, hw⟩
    rw [hw]
    clear hw
    go_wp2
    go_end0
    exact ⟨rfl, HE.out, On.set w ⟨g, j * 9 + 7, none⟩ _, by simp, fun B hB => (Below.refl B w).setCell hB _⟩
end Go.Proofs.Ytaobjpajbpoamaa
