/-
  store.Enter, walked.
-/
import Derived.Test.YtaobjpajbpoamaaSAppend
namespace Go.Proofs.Ytaobjpajbpoamaa
open Go.RowKit
/-- One object's entries turned: all lists lie there still. -/
theorem turned_lists {w W : World} {lo g d : Nat} {ts : List (Sls × Sp.Ob)} {m : Nat → Nat} {sd : Sls} {od : Sp.Ob} {se : Sl} {es : List Sp.Ent} (hA : OwnAll w lo ts m) (hd : ts[d]? = some (sd, od)) (hg : g < lo)
    (hon : On (fun b => b < w.heap.size ∧ b ≠ g ∧ some b ≠ (Value.slice sd.e.a sd.e.n sd.e.c).ownBlock) w W) (hs : w.heap.size ≤ W.heap.size) (hr : Ents W (fun b => lo ≤ b ∧ b < W.heap.size) (.slice se.a se.n se.c) es) :
    ∀ t ∈ ts.set d (⟨sd.d, se, sd.q⟩, { od with ents := es }), Lists W (fun b => lo ≤ b ∧ b < W.heap.size) t := by
  intro t ht
  obtain ⟨i, hi, rfl⟩ := List.getElem_of_mem ht
  have hi' : i < ts.length := by simpa using hi
  have hdl : d < ts.length := (List.getElem?_eq_some_iff.1 hd).1
  have hmn := hA.2.2.1
  have hm0 := hA.lo d
  obtain ⟨m1, m2, h1, h2, h3, h4, h5, h6, h7, h8⟩ := hA.2.2.2 d _ hd
  have hmd := hA.le (show d + 1 ≤ ts.length from hdl)
  have hblk : ∀ b, some b = (Value.slice sd.e.a sd.e.n sd.e.c).ownBlock → m1 ≤ b ∧ b < m2 := fun b hb => ⟨(h6.lt b hb.symm).1, h7 b hb.symm⟩
  by_cases hid : i = d
  · subst hid
    rw [List.getElem_set_self]
    refine ⟨?_, hr, ?_⟩
    · exact Row.more (Row.on h5 (hon.less fun b hb => ⟨by omega, by omega, fun e => by have := hblk b e; omega⟩)) fun b hb => ⟨by omega, by omega⟩
    · exact Queue.more (Queue.on h8 (hon.less fun b hb => ⟨by omega, by omega, fun e => by have := hblk b e; omega⟩)) fun b hb => ⟨by omega, by omega⟩
  · rw [List.getElem_set_ne (by omega)]
    have hl := (hA.2.2.2 i _ (List.getElem?_eq_getElem hi')).lists
    have hi1 := hA.le (show i + 1 ≤ ts.length from hi')
    have hi0 := hA.lo i
    have hii := hA.2.1 i
    refine (hl.on (hon.less fun b hb => ⟨by omega, by omega, fun e => ?_⟩)).more fun b hb => ⟨by omega, by omega⟩
    have := hblk b e
    rcases Nat.lt_or_ge i d with hlt | hge
    · have := hA.le (show i + 1 ≤ d from hlt)
      omega
    · have := hA.le (show d + 1 ≤ i by omega)
      omega
namespace Sp
def withEnts (L : List Ob) (d : Nat) (es : List Ent) : List Ob := match L[d]? with
  | none => L
  | some o => L.set d { o with ents := es }
def relinked (L : List Ob) (j : Nat) (more up : Int) : List Ob := match L[j]? with
  | none => L
  | some o => L.set j (linked o more up)
end Sp
theorem noEnter_zero {L : List Sp.Ob} {dir : Int} {name : ByteArray} {obj : Int} (h : Sp.noEnter L dir name obj = 0) : ∃ (d j : Nat) (od oj : Sp.Ob), dir = d ∧ obj = j ∧ L[d]? = some od ∧ L[j]? = some oj ∧ od.kind = 2 ∧ oj.kind ≠ 0 ∧ 1 ≤ od.links ∧ Pt.isName name.data.toList = true ∧ Sp.place od.ents name = -1 ∧ od.ents.length < 8 := by
  unfold Sp.noEnter at h
  split at h
  · simp at h
  · rename_i h1
    split at h
    · rename_i h2; exact absurd h h2
    · rename_i h2
      obtain ⟨d, od, rfl, hd, hk, ho⟩ := noDir_zero (by simpa using h2)
      rw [ho] at h
      dsimp only at h
      split at h
      · simp at h
      · rename_i h3
        split at h
        · simp at h
        · rename_i h4
          split at h
          · simp at h
          · rename_i h5
            split at h
            · simp at h
            · rename_i h6
              cases hob : Sp.objAt L obj with
              | none => rw [hob] at h1; simp at h1
              | some oj =>
                obtain ⟨j, rfl, hj, hkj⟩ := objAt_some hob
                refine ⟨d, j, od, oj, rfl, rfl, hd, hj, hk, hkj, by omega, by simpa using h4, ?_, by omega⟩
                rcases place_cases name od.ents with ⟨p, -⟩ | ⟨k, x, p, -⟩
                · exact p
                · rw [p] at h5; omega
theorem ent_row {w : World} {g : Nat} {e : Sp.Ent} (h : Blk w g #[.string e.name, .int .i64 e.obj] 51) : Row w (fun b => b = g) 2 (.slice (some ⟨g, 0, none⟩) 1 1) [entC e] := by
  refine Or.inr ⟨g, 0, 1, rfl, rfl, Nat.le_refl _, by decide, fun i cs hi j u hj => ?_⟩
  match i, hi with
  | 0, hi =>
    simp at hi
    subst hi
    rw [h.cell]
    simp only [Nat.zero_mul, Nat.zero_add]
    simpa [entC] using hj
  | i + 1, hi => simp at hi
set_option maxHeartbeats 4000000 in
theorem enter_ok [Inhabited Sp.Ent] (L : List Sp.Ob) (d j : Nat) (name : ByteArray) (od oj : Sp.Ob) (v : Value) (S : Nat → Prop) (w : World) (hv : Objs w S v L) (hS : ∀ b, S b → b < w.heap.size) (hs : name.size ≤ maxLen) (hf : ∀ o ∈ L, Fits o) (hn : L.length ≤ 1000000) (hlk : ∀ o ∈ L, -4611686018427387904 ≤ o.links ∧ o.links ≤ 4611686018427387904) (h0 : Sp.noEnter L d name j = 0) (hd : L[d]? = some od) (hj : L[j]? = some oj) (hkj : oj.kind ≠ 0) (h8 : od.ents.length < 8) :
    Calls Try.prog 16 #[v, .int .i64 d, .string name, .int .i64 j] w fun e w' => ∃ v', e = .returned (.tuple #[v', .int .i64 0]) ∧ Objs w' (fun b => w.heap.size ≤ b ∧ b < w'.heap.size) v' (Sp.relinked (Sp.withEnts L d (sorted (od.ents ++ [⟨name, j⟩]))) j 1 d) ∧ Below w.heap.size w w' := by
  have HE : Hid (Calls Try.prog 50 #[v, .int .i64 d, .string name, .int .i64 j] w fun e w' => e = .returned (.int .i64 0) ∧ Below w.heap.size w w') := by
    have := noEnter_any L d name j v S w hv hS hs
    rw [h0] at this
    exact this
  have HO : Hid (∀ W, Below w.heap.size w W → Calls Try.prog 10 #[v] W fun e w' => e = .returned (.slice (some ⟨W.heap.size, 0, none⟩) L.length L.length) ∧ ∃ (ts : List (Sls × Sp.Ob)) (m : Nat → Nat), L = ts.map Prod.snd ∧ Mine w' W.heap.size 35 9 (.slice (some ⟨W.heap.size, 0, none⟩) L.length L.length) (ts.map objC) ∧ OwnAll w' (W.heap.size + 1) ts m ∧ Below W.heap.size W w') := fun W hW => own_any L v S W (hv.on ((On.of hW).less hS)) (fun b hb => Nat.lt_of_lt_of_le (hS b hb) hW.size) hf hn
  obtain ⟨a, c, rfl, -⟩ := hv.form
  have HD : Hid (L[d]? = some od) := hd
  have HJ : Hid (L[j]? = some oj) := hj
  have HLK : Hid (∀ o ∈ L, -4611686018427387904 ≤ o.links ∧ o.links ≤ 4611686018427387904) := hlk
  have hdl : d < L.length := (List.getElem?_eq_some_iff.1 hd).1
  have hjl : j < L.length := (List.getElem?_eq_some_iff.1 hj).1
  have HNN : Hid (L.length ≤ 1000000) := hn
  have hnz : (L.length : Int) ≤ 1000000 := by omega
  have HKJ : Hid (oj.kind ≠ 0) := hkj
  have H8 : Hid (od.ents.length < 8) := h8
  generalize hes : sorted (od.ents ++ [⟨name, j⟩]) = es'
  have HES : Hid (sorted (od.ents ++ [⟨name, j⟩]) = es') := hes
  generalize hLF : Sp.relinked (Sp.withEnts L d es') j 1 d = LF
  have HLF : Hid (Sp.relinked (Sp.withEnts L d es') j 1 d = LF) := hLF
  clear hv hS hs hf h0 hd hj hlk hkj h8 hes hLF hn
  go_enter Try.func16, Try.ntmps16
  go_wp2_with fail
  refine Calls.mono HE.out ?_
  rintro e w2 ⟨rfl, hb2⟩
  have HB2 : Hid (Below w.heap.size w w2) := hb2
  clear hb2 HE
  go_wp2_with fail
  refine Calls.mono (HO.out _ HB2.out) ?_
  rintro e w3 ⟨rfl, ts, m, hL, hM, hA, hb3⟩
  have HB3 : Hid (Below w.heap.size w w3) := HB2.out.trans (hb3.mono HB2.out.size)
  have hz23 : w2.heap.size < w3.heap.size := (hM.lt _ rfl).2
  have hz02 : w.heap.size ≤ w2.heap.size := HB2.out.size
  have HL : Hid (L = ts.map Prod.snd) := hL
  have HM : Hid (Mine w3 w2.heap.size 35 9 (.slice (some ⟨w2.heap.size, 0, none⟩) L.length L.length) (ts.map objC)) := hM
  have HA : Hid (OwnAll w3 (w2.heap.size + 1) ts m) := hA
  have htl : ts.length = L.length := by rw [hL, List.length_map]
  have HTL : Hid (ts.length = L.length) := htl
  obtain ⟨sd, htd⟩ : ∃ sd, ts[d]? = some (sd, od) := by
    have h := HD.out
    rw [hL, List.getElem?_map] at h
    cases ht : ts[d]? with
    | none => rw [ht] at h; cases h
    | some t => rw [ht] at h; simp at h; exact ⟨t.1, by rw [← h]⟩
  obtain ⟨⟨da, dn, dc⟩, ⟨ea, en, ec⟩, ⟨qa, qn, qc⟩⟩ := sd
  have HTD : Hid (ts[d]? = some (⟨⟨da, dn, dc⟩, ⟨ea, en, ec⟩, ⟨qa, qn, qc⟩⟩, od)) := htd
  obtain ⟨cur, hblk, -, -, -, -, hcur⟩ := hM.blk
  have c2 : w3.cell? ⟨w2.heap.size, d * 9 + 2, none⟩ = some (.slice ea en ec) := by
    rw [hblk.cell]
    exact hcur _ _ (flatten_at (even_obj ts) d _ (by rw [List.getElem?_map, htd]; rfl) 2 _ rfl)
  have cf := hblk.free
  obtain ⟨m1, m2, o1, o2, o3, o4, -, hme, o7, -⟩ := hA.2.2.2 d _ htd
  have hlo := hA.lo d
  have hme3 : w2.heap.size + 1 ≤ m1 := by omega
  have HME : Hid (Mine w3 m1 51 2 (.slice ea en ec) (od.ents.map entC)) := hme
  have hm1 : m1 ≤ w3.heap.size := by omega
  clear hL hM hA htl htd hblk hcur hb3 HO o1 o2 o3 o4 hme o7 hlo
  go_wp2_with (with_reducible refine stop_at (.call { callee := .builtin .append, args := #[.tmp 28, .tmp 32], argTypes := #[32, 32] }) rfl ?_)
  unfold Hold
  have HBN := Blk.new w3 #[.string name, .int .i64 (j : Int)] 51
  have hon4 := On.alloc w3 (.cells #[.string name, .int .i64 (j : Int)] 51)
  have HB4 : Hid (Below w.heap.size w (w3.alloc (.cells #[.string name, .int .i64 (j : Int)] 51))) := HB3.out.alloc (by omega) _
  have hz34 : w3.heap.size < (w3.alloc (.cells #[.string name, .int .i64 (j : Int)] 51)).heap.size := by simp
  generalize w3.alloc (.cells #[.string name, .int .i64 (j : Int)] 51) = w4 at *
  have HME4 : Hid (Mine w4 m1 51 2 (.slice ea en ec) (od.ents.map entC)) := HME.out.on hon4 fun g hg => (HME.out.lt g hg).2
  have HR : Hid (Row w4 (fun b => b = w3.heap.size) 2 (.slice (some ⟨w3.heap.size, 0, none⟩) 1 1) [entC ⟨name, j⟩]) := ent_row (e := ⟨name, j⟩) HBN
  have HON4 : Hid (On (fun b => b < w3.heap.size) w3 w4) := hon4
  obtain ⟨i0, hi, hz0, hz1, hz2⟩ := info_parts Try.infoEnt
  clear hon4 HBN
  refine wpList_append_row2 rfl _ _ _ rfl m1 51 i0 (.agg #[.string ⟨#[]⟩, .int .i64 0]) 2 24 Try.underlying32 hi hz0 hz1 hz2 rfl (by decide) (.slice ea en ec) (od.ents.map entC) rfl HME4.out _ _ _ _ _ [entC ⟨name, j⟩] rfl HR.out (even_ent [⟨name, j⟩]) (ones_ent [⟨name, j⟩]) (even_ent _) ?_ (by decide) ?_ ?_
  · have := H8.out
    rw [List.length_map]
    simp only [List.length_cons, List.length_nil]
    omega
  · omega
  intro v' w5 ho hg hwh
  clear hi hz0 hz1 hz2
  have ho' : Mine w5 m1 51 2 v' ((od.ents ++ [(⟨name, j⟩ : Sp.Ent)]).map entC) := by rw [List.map_append]; exact ho
  obtain ⟨va, vc, hvf, -, hvg⟩ := ho'.form
  obtain ⟨gE, rfl, hgE1, hgE2⟩ := hvg (by simp)
  rw [List.length_map, List.length_append, List.length_singleton] at hvf
  subst hvf
  have HWH : Hid (some gE = (Value.slice ea en ec).ownBlock ∨ gE = w4.heap.size) := by
    rcases hwh with h | h
    · exact Or.inl h
    · exact Or.inr (by simpa [Value.ownBlock] using h)
  have hon5 : On (fun b => b < w4.heap.size ∧ some b ≠ (Value.slice ea en ec).ownBlock) w4 w5 := fun b hb => hg.block b hb.1 hb.2
  have hnd : some w2.heap.size ≠ (Value.slice ea en ec).ownBlock := fun e => by have := (HME.out.lt _ e.symm).1; omega
  have HB5 : Hid (Below w.heap.size w w5) := HB4.out.grown hg (by omega) (fun k hk => by have := (HME.out.lt k hk).1; omega)
  have hz45 : w4.heap.size ≤ w5.heap.size := (Below.grown (Below.refl w.heap.size w4) hg (by omega) (fun k hk => by have := (HME.out.lt k hk).1; omega)).size
  have HON5 : Hid (On (fun b => b < w3.heap.size ∧ some b ≠ (Value.slice ea en ec).ownBlock) w3 w5) := (HON4.out.less fun b hb => hb.1).trans (hon5.less fun b hb => ⟨by omega, hb.2⟩)
  have HM5 : Hid (Mine w5 w2.heap.size 35 9 (.slice (some ⟨w2.heap.size, 0, none⟩) L.length L.length) (ts.map objC)) := HM.out.on HON5.out fun g hg => by
    simp [Value.ownBlock] at hg
    subst hg
    exact ⟨hz23, hnd⟩
  have HO5 : Hid (Mine w5 m1 51 2 (.slice (some ⟨gE, 0, none⟩) (od.ents.length + 1) vc) ((od.ents ++ [(⟨name, j⟩ : Sp.Ent)]).map entC)) := ho'
  obtain ⟨cur5, hblk5, -, -, -, -, hcur5⟩ := HM5.out.blk
  have c25 : w5.cell? ⟨w2.heap.size, d * 9 + 2, none⟩ = some (.slice ea en ec) := by
    rw [hblk5.cell]
    exact hcur5 _ _ (flatten_at (even_obj ts) d _ (by rw [List.getElem?_map, HTD.out]; rfl) 2 _ rfl)
  have cf5 := hblk5.free
  clear ho ho' hg hwh hvg hon5 hblk5 hcur5 c2 cf HR HON4 HME4 HB4 HM
  go_wp2_with fail
  have hsz6 : (w5.setCell ⟨w2.heap.size, d * 9 + 2, none⟩ (.slice (some ⟨gE, 0, none⟩) (od.ents.length + 1) vc)).heap.size = w5.heap.size := by simp
  have on6 := On.set w5 ⟨w2.heap.size, d * 9 + 2, none⟩ (.slice (some ⟨gE, 0, none⟩) (od.ents.length + 1) vc)
  have HM6 : Hid (Mine (w5.setCell ⟨w2.heap.size, d * 9 + 2, none⟩ (.slice (some ⟨gE, 0, none⟩) (od.ents.length + 1) vc)) w2.heap.size 35 9 (.slice (some ⟨w2.heap.size, 0, none⟩) L.length L.length) ((ts.set d (⟨⟨da, dn, dc⟩, ⟨some ⟨gE, 0, none⟩, od.ents.length + 1, vc⟩, ⟨qa, qn, qc⟩⟩, { od with ents := es' })).map objC)) := by
    have h1 := HM5.out.set (even_obj ts) d 2 _ (.slice (some ⟨gE, 0, none⟩) (od.ents.length + 1) vc) (by rw [List.getElem?_map, HTD.out]; rfl) (by decide)
    rw [List.map_set]
    exact h1
  have HO6 : Hid (Mine (w5.setCell ⟨w2.heap.size, d * 9 + 2, none⟩ (.slice (some ⟨gE, 0, none⟩) (od.ents.length + 1) vc)) m1 51 2 (.slice (some ⟨gE, 0, none⟩) (od.ents.length + 1) vc) ((od.ents ++ [(⟨name, j⟩ : Sp.Ent)]).map entC)) := HO5.out.on on6 fun g hg => by
    simp [Value.ownBlock] at hg
    subst hg
    show gE ≠ w2.heap.size
    omega
  have HB6 : Hid (Below w.heap.size w (w5.setCell ⟨w2.heap.size, d * 9 + 2, none⟩ (.slice (some ⟨gE, 0, none⟩) (od.ents.length + 1) vc))) := HB5.out.setCell hz02 _
  have HON6 : Hid (On (fun b => b < w3.heap.size ∧ b ≠ w2.heap.size ∧ some b ≠ (Value.slice ea en ec).ownBlock) w3 (w5.setCell ⟨w2.heap.size, d * 9 + 2, none⟩ (.slice (some ⟨gE, 0, none⟩) (od.ents.length + 1) vc))) := (HON5.out.less fun b hb => ⟨hb.1, hb.2.2⟩).trans (on6.less fun b hb => hb.2.1)
  have hz6 : w5.heap.size ≤ (w5.setCell ⟨w2.heap.size, d * 9 + 2, none⟩ (.slice (some ⟨gE, 0, none⟩) (od.ents.length + 1) vc)).heap.size := by omega
  clear on6 hsz6 HM5 HO5 HB5 HON5 c25 cf5
  generalize w5.setCell ⟨w2.heap.size, d * 9 + 2, none⟩ (.slice (some ⟨gE, 0, none⟩) (od.ents.length + 1) vc) = w6 at *
  refine Calls.mono (stable_any _ m1 gE _ vc w6 HO6.out (by have := H8.out; simp; omega)) ?_
  rintro e w7 ⟨rfl, hs7, on7, hz7, hb7⟩
  rw [HES.out] at hs7
  have HM7 : Hid (Mine w7 w2.heap.size 35 9 (.slice (some ⟨w2.heap.size, 0, none⟩) L.length L.length) ((ts.set d (⟨⟨da, dn, dc⟩, ⟨some ⟨gE, 0, none⟩, od.ents.length + 1, vc⟩, ⟨qa, qn, qc⟩⟩, { od with ents := es' })).map objC)) := HM6.out.on on7 fun g hg => by
    simp [Value.ownBlock] at hg
    subst hg
    exact ⟨by omega, by omega⟩
  have HON7 : Hid (On (fun b => b < w3.heap.size ∧ b ≠ w2.heap.size ∧ some b ≠ (Value.slice ea en ec).ownBlock) w3 w7) := HON6.out.trans (on7.less fun b hb => ⟨by omega, fun e => by
    rcases HWH.out with h | h
    · exact hb.2.2 (by rw [e]; exact h)
    · omega⟩)
  have HB7 : Hid (Below w.heap.size w w7) := HB6.out.trans (hb7 _ (by omega))
  have HL7 : Hid (∀ t ∈ ts.set d (⟨⟨da, dn, dc⟩, ⟨some ⟨gE, 0, none⟩, od.ents.length + 1, vc⟩, ⟨qa, qn, qc⟩⟩, { od with ents := es' }), Lists w7 (fun b => w2.heap.size + 1 ≤ b ∧ b < w7.heap.size) t) := turned_lists HA.out HTD.out (by omega) HON7.out (by omega) ((hs7.row (even_ent es')).more fun b hb => ⟨by omega, hb.2⟩)
  clear hs7 on7 hb7 HM6 HO6 HB6 HON6
  have hL1 : Sp.withEnts L d es' = (ts.set d (⟨⟨da, dn, dc⟩, ⟨some ⟨gE, 0, none⟩, od.ents.length + 1, vc⟩, ⟨qa, qn, qc⟩⟩, { od with ents := es' })).map Prod.snd := by
    unfold Sp.withEnts
    rw [HD.out]
    dsimp only
    rw [HL.out, List.map_set]
  obtain ⟨s1, o1, ht1, hk1, hlk1⟩ : ∃ s1 o1, (ts.set d (⟨⟨da, dn, dc⟩, ⟨some ⟨gE, 0, none⟩, od.ents.length + 1, vc⟩, ⟨qa, qn, qc⟩⟩, { od with ents := es' }))[j]? = some (s1, o1) ∧ o1.kind ≠ 0 ∧ (-4611686018427387904 ≤ o1.links ∧ o1.links ≤ 4611686018427387904) := by
    have htl := HTL.out
    by_cases hjd : j = d
    · subst hjd
      have hoo : oj = od := by have := HD.out; rw [HJ.out] at this; exact Option.some.inj this
      refine ⟨_, _, by rw [List.getElem?_set_self (by omega)], ?_, ?_⟩
      · rw [← hoo]; exact HKJ.out
      · exact HLK.out od (List.mem_of_getElem? HD.out)
    · rw [List.getElem?_set_ne (by omega)]
      have h := HJ.out
      rw [HL.out, List.getElem?_map] at h
      cases ht : ts[j]? with
      | none => rw [ht] at h; cases h
      | some t =>
        rw [ht] at h
        simp at h
        exact ⟨t.1, t.2, rfl, by rw [h]; exact HKJ.out, by rw [h]; exact HLK.out oj (List.mem_of_getElem? HJ.out)⟩
  generalize ts.set d (⟨⟨da, dn, dc⟩, ⟨some ⟨gE, 0, none⟩, od.ents.length + 1, vc⟩, ⟨qa, qn, qc⟩⟩, { od with ents := es' }) = ts1 at *
  have HR1 : Hid (LF = (ts1.set j (s1, Sp.linked o1 1 d)).map Prod.snd) := by
    unfold Hid
    rw [← HLF.out, hL1]
    unfold Sp.relinked
    rw [List.getElem?_map, ht1, List.map_set]
    rfl
  have HT1 : Hid (ts1[j]? = some (s1, o1)) := ht1
  have HK1 : Hid (o1.kind ≠ 0 ∧ (-4611686018427387904 ≤ o1.links ∧ o1.links ≤ 4611686018427387904)) := ⟨hk1, hlk1⟩
  clear hL1 ht1 hk1 hlk1 HLF
  go_wp2_with fail
  refine Calls.mono (relink_any ts1 w2.heap.size L.length L.length w2.heap.size (fun b => w2.heap.size ≤ b ∧ b < w7.heap.size) j s1 o1 1 d w7 HM7.out (HM7.out.objs (fun b hb => hb) fun t ht => (HL7.out t ht).more fun b hb => ⟨by omega, hb.2⟩) HT1.out HK1.out.1 HK1.out.2 ⟨by omega, by omega⟩) ?_
  rintro e w8 ⟨rfl, hm8, on8, hz8, hb8⟩
  have HOF : Hid (Objs w8 (fun b => w.heap.size ≤ b ∧ b < w8.heap.size) (.slice (some ⟨w2.heap.size, 0, none⟩) L.length L.length) LF) := by
    unfold Hid
    rw [HR1.out]
    refine hm8.objs (fun b hb => ⟨by omega, hb.2⟩) fun t ht => ?_
    have key : ∀ t ∈ ts1, Lists w8 (fun b => w.heap.size ≤ b ∧ b < w8.heap.size) t := fun t ht => ((HL7.out t ht).on (on8.less fun b hb => by omega)).more fun b hb => ⟨by omega, by omega⟩
    rcases List.mem_or_eq_of_mem_set ht with h | h
    · exact key t h
    · subst h
      exact key (s1, o1) (List.mem_of_getElem? HT1.out)
  have HBF : Hid (Below w.heap.size w w8) := HB7.out.trans (hb8 _ hz02)
  clear hm8 on8 hb8 HM7 HL7
  go_wp2
  go_ret2
  exact ⟨_, rfl, HOF.out, HBF.out⟩
end Go.Proofs.Ytaobjpajbpoamaa
