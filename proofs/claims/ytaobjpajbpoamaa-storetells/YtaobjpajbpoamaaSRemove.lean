/-
  store.Remove, walked.
-/
import Derived.Test.YtaobjpajbpoamaaSDelete
namespace Go.Proofs.Ytaobjpajbpoamaa
open Go.RowKit
theorem noDir_of {L : List Sp.Ob} {j : Nat} {o : Sp.Ob} (hj : L[j]? = some o) (hk : o.kind ≠ 0) : Sp.noDir L j = if o.kind = 2 then 0 else 11 := by
  unfold Sp.noDir
  rw [objAt_of hj hk]
set_option maxHeartbeats 4000000 in
theorem remove_ok (L : List Sp.Ob) (d i j : Nat) (name : ByteArray) (od oj : Sp.Ob) (v : Value) (S : Nat → Prop) (w : World) (hv : Objs w S v L) (hS : ∀ b, S b → b < w.heap.size) (hf : ∀ o ∈ L, Fits o) (hn : L.length ≤ 1000000) (hlk : ∀ o ∈ L, -4611686018427387904 ≤ o.links ∧ o.links ≤ 4611686018427387904) (hd : L[d]? = some od) (hkd : od.kind = 2) (hp : Sp.place od.ents name = (i : Int)) (hx : ∃ nm, od.ents[i]? = some ⟨nm, j⟩) (hj : L[j]? = some oj) (hkj : oj.kind ≠ 0) (he : oj.kind = 2 → oj.ents = []) :
    Calls Try.prog 18 #[v, .int .i64 d, .string name] w fun e w' => ∃ v', e = .returned (.tuple #[v', .int .i64 j, .int .i64 0]) ∧ Objs w' (fun b => w.heap.size ≤ b ∧ b < w'.heap.size) v' (Sp.relinked (Sp.withEnts L d (od.ents.take i ++ od.ents.drop (i + 1))) j (-1) j) ∧ Below w.heap.size w w' := by
  have HND : Hid (Calls Try.prog 45 #[v, .int .i64 d] w fun e w' => e = .returned (.int .i64 0) ∧ w' = w) := by
    have := noDir_any L d v S w hv
    rw [noDir_of hd (by omega), if_pos hkd] at this
    exact this
  have HNJ : Hid (∀ W, Below w.heap.size w W → Calls Try.prog 45 #[v, .int .i64 j] W fun e w' => e = .returned (.int .i64 (if oj.kind = 2 then 0 else 11)) ∧ w' = W) := fun W hW => by
    have := noDir_any L j v S W (hv.on ((On.of hW).less hS))
    rw [noDir_of hj hkj] at this
    exact this
  have HO : Hid (∀ W, Below w.heap.size w W → Calls Try.prog 10 #[v] W fun e w' => e = .returned (.slice (some ⟨W.heap.size, 0, none⟩) L.length L.length) ∧ ∃ (ts : List (Sls × Sp.Ob)) (m : Nat → Nat), L = ts.map Prod.snd ∧ Mine w' W.heap.size 35 9 (.slice (some ⟨W.heap.size, 0, none⟩) L.length L.length) (ts.map objC) ∧ OwnAll w' (W.heap.size + 1) ts m ∧ Below W.heap.size W w') := fun W hW => own_any L v S W (hv.on ((On.of hW).less hS)) (fun b hb => Nat.lt_of_lt_of_le (hS b hb) hW.size) hf hn
  obtain ⟨nm, hx⟩ := hx
  have hil : i < od.ents.length := (List.getElem?_eq_some_iff.1 hx).1
  obtain ⟨b, of, c, s, rfl, hb, hc, hm, hl, -, -, c2, -⟩ := hv.open hd
  have HPL : Hid (Calls Try.prog 46 #[.slice s.e.a s.e.n s.e.c, .string name] w fun e w' => e = .returned (.int .i64 (i : Int)) ∧ Below w.heap.size w w') := by
    have := place_any od.ents name _ S w hl.2.1 hS
    rw [hp] at this
    exact this
  have hlE : Ents w S (.slice s.e.a s.e.n s.e.c) od.ents := hl.2.1
  obtain ⟨eb, eo, ec, hse, hSe, h3, h4, h5⟩ := Row.some hlE (by rw [List.length_map]; omega)
  clear hlE
  obtain ⟨-, x1⟩ := ent_cells h5 hx
  dsimp only at x1
  rw [List.length_map] at hse h3
  rw [hse] at c2 HPL
  obtain ⟨bj, oj0, cj, sj, hvj, hbj, -, -, hlj, -, -, j2, -⟩ := hv.open hj
  obtain ⟨q1, -, -⟩ := Value.slice.inj hvj
  obtain ⟨rfl, rfl, -⟩ := Addr.mk.inj (Option.some.inj q1)
  have hjn := Row.eqNil hlj.2.1
  rw [List.length_map] at hjn
  obtain ⟨⟨_, _, _⟩, ⟨ja, jn, jc⟩, ⟨_, _, _⟩⟩ := sj
  dsimp only at hjn j2
  subst hjn
  have HD : Hid (L[d]? = some od) := hd
  have HJ : Hid (L[j]? = some oj) := hj
  have HLK : Hid (∀ o ∈ L, -4611686018427387904 ≤ o.links ∧ o.links ≤ 4611686018427387904) := hlk
  have hdl : d < L.length := (List.getElem?_eq_some_iff.1 hd).1
  have hjl : j < L.length := (List.getElem?_eq_some_iff.1 hj).1
  have hnz : (L.length : Int) ≤ 1000000 := by omega
  have HKJ : Hid (oj.kind ≠ 0) := hkj
  have HEE : Hid (oj.kind = 2 → oj.ents = []) := he
  have hbw := hS b hb
  have hebw := hS eb hSe
  unfold maxLen at hm h4
  generalize hes : od.ents.take i ++ od.ents.drop (i + 1) = es'
  have HES : Hid (od.ents.take i ++ od.ents.drop (i + 1) = es') := hes
  generalize hLF : Sp.relinked (Sp.withEnts L d es') j (-1) j = LF
  have HLF : Hid (Sp.relinked (Sp.withEnts L d es') j (-1) j = LF) := hLF
  clear hv hS hf hd hj hlk hkj hes hLF hn hkd hp hx hl hse h5 hlj hvj q1 he
  go_enter Try.func18, Try.ntmps18
  go_wp2_with fail
  refine Calls.mono HND.out ?_
  rintro e w1 ⟨rfl, hw⟩
  rw [hw]
  clear hw HND
  go_wp2_with fail
  refine Calls.mono HPL.out ?_
  rintro e w2 ⟨rfl, hb2⟩
  have HB2 : Hid (Below w.heap.size w w2) := hb2
  obtain ⟨hcc, -⟩ := bcell hb2
  clear hb2 HPL
  go_wp2_with fail
  refine Calls.mono (HNJ.out _ HB2.out) ?_
  rintro e w1 ⟨rfl, hw⟩
  rw [hw]
  clear hw HNJ
  by_cases hk2 : oj.kind = 2
  focus
    rw [if_pos hk2]
    have hne := HEE.out hk2
    rw [hne, List.length_nil] at j2
    clear hne hk2
    go_wp2_with fail
  rotate_left
  focus
    rw [if_neg hk2]
    clear hk2
    go_wp2_with fail
  all_goals
    refine Calls.mono (HO.out _ HB2.out) ?_
    rintro e w3 ⟨rfl, ts, m, hL, hM, hA, hb3⟩
    have HB3 : Hid (Below w.heap.size w w3) := HB2.out.trans (hb3.mono HB2.out.size)
    have hz23 : w2.heap.size < w3.heap.size := (hM.lt _ rfl).2
    have hz02 : w.heap.size ≤ w2.heap.size := HB2.out.size
    have HL : Hid (L = ts.map Prod.snd) := hL
    have HM : Hid (Mine w3 w2.heap.size 35 9 (.slice (some ⟨w2.heap.size, 0, none⟩) L.length L.length) (ts.map objC)) := hM
    have HA : Hid (OwnAll w3 (w2.heap.size + 1) ts m) := hA
    have htl : ts.length = L.length := by rw [hL, List.length_map]
    have HTL : Hid (ts.length = L.length) := htl
    obtain ⟨sd, htd⟩ : ∃ sd, ts[d]? = some (sd, od) := by
      have h := HD.out
      rw [hL, List.getElem?_map] at h
      cases ht : ts[d]? with
      | none => rw [ht] at h; cases h
      | some t => rw [ht] at h; simp at h; exact ⟨t.1, by rw [← h]⟩
    obtain ⟨⟨da, dn, dc⟩, ⟨ea, en, ec'⟩, ⟨qa, qn, qc⟩⟩ := sd
    obtain ⟨cur, hblk, -, -, -, -, hcur⟩ := hM.blk
    have c23 : w3.cell? ⟨w2.heap.size, d * 9 + 2, none⟩ = some (.slice ea en ec') := by
      rw [hblk.cell]
      exact hcur _ _ (flatten_at (even_obj ts) d _ (by rw [List.getElem?_map, htd]; rfl) 2 _ rfl)
    have cf := hblk.free
    obtain ⟨m1, m2, o1, o2, o3, o4, -, hme, o7, -⟩ := hA.2.2.2 d _ htd
    have hlo := hA.lo d
    have hme3 : w2.heap.size + 1 ≤ m1 := by omega
    have hme' : Mine w3 m1 51 2 (.slice ea en ec') (od.ents.map entC) := hme
    obtain ⟨_, _, hvf, -, hvg⟩ := hme'.form
    obtain ⟨gE, hgE, hgE1, hgE2⟩ := hvg (by rw [List.length_map]; omega)
    rw [List.length_map] at hvf
    obtain ⟨r1, rfl, r3⟩ := Value.slice.inj hvf
    rw [← r1] at hgE
    subst hgE
    have HME : Hid (Mine w3 m1 51 2 (.slice (some ⟨gE, 0, none⟩) od.ents.length ec') (od.ents.map entC)) := hme'
    have HTD : Hid (ts[d]? = some (⟨⟨da, dn, dc⟩, ⟨some ⟨gE, 0, none⟩, od.ents.length, ec'⟩, ⟨qa, qn, qc⟩⟩, od)) := htd
    have hm1 : m1 ≤ w3.heap.size := by omega
    clear hL hM hA htl htd hblk hcur hb3 o1 o2 o3 o4 hme hme' o7 hlo hvf hvg r1 r3
    go_wp2_with fail
    refine Calls.mono (delete_any od.ents i m1 gE od.ents.length ec' w3 HME.out hil) ?_
    rintro e w5 ⟨rfl, hm5, on5, hz5, hb5⟩
    rw [HES.out] at hm5
    have HO5 : Hid (Mine w5 m1 51 2 (.slice (some ⟨gE, 0, none⟩) (od.ents.length - 1) ec') (es'.map entC)) := hm5
    have HON5 : Hid (On (fun b => b ≠ gE) w3 w5) := on5
    have HB5 : Hid (Below w.heap.size w w5) := HB3.out.trans (hb5 _ (by omega))
    have HM5 : Hid (Mine w5 w2.heap.size 35 9 (.slice (some ⟨w2.heap.size, 0, none⟩) L.length L.length) (ts.map objC)) := HM.out.on on5 fun g hg => by
      simp [Value.ownBlock] at hg
      subst hg
      show w2.heap.size ≠ gE
      omega
    obtain ⟨cur5, hblk5, -, -, -, -, hcur5⟩ := HM5.out.blk
    have c25 : w5.cell? ⟨w2.heap.size, d * 9 + 2, none⟩ = some (.slice (some ⟨gE, 0, none⟩) od.ents.length ec') := by
      rw [hblk5.cell]
      exact hcur5 _ _ (flatten_at (even_obj ts) d _ (by rw [List.getElem?_map, HTD.out]; rfl) 2 _ rfl)
    have cf5 := hblk5.free
    clear hm5 on5 hb5 hblk5 hcur5 c23 cf HM HME
    go_wp2_with fail
    have on6 := On.set w5 ⟨w2.heap.size, d * 9 + 2, none⟩ (.slice (some ⟨gE, 0, none⟩) (od.ents.length - 1) ec')
    have HM6 : Hid (Mine (w5.setCell ⟨w2.heap.size, d * 9 + 2, none⟩ (.slice (some ⟨gE, 0, none⟩) (od.ents.length - 1) ec')) w2.heap.size 35 9 (.slice (some ⟨w2.heap.size, 0, none⟩) L.length L.length) ((ts.set d (⟨⟨da, dn, dc⟩, ⟨some ⟨gE, 0, none⟩, od.ents.length - 1, ec'⟩, ⟨qa, qn, qc⟩⟩, { od with ents := es' })).map objC)) := by
      have h1 := HM5.out.set (even_obj ts) d 2 _ (.slice (some ⟨gE, 0, none⟩) (od.ents.length - 1) ec') (by rw [List.getElem?_map, HTD.out]; rfl) (by decide)
      rw [List.map_set]
      exact h1
    have HO6 : Hid (Mine (w5.setCell ⟨w2.heap.size, d * 9 + 2, none⟩ (.slice (some ⟨gE, 0, none⟩) (od.ents.length - 1) ec')) m1 51 2 (.slice (some ⟨gE, 0, none⟩) (od.ents.length - 1) ec') (es'.map entC)) := HO5.out.on on6 fun g hg => by
      simp [Value.ownBlock] at hg
      subst hg
      show gE ≠ w2.heap.size
      omega
    have HB6 : Hid (Below w.heap.size w (w5.setCell ⟨w2.heap.size, d * 9 + 2, none⟩ (.slice (some ⟨gE, 0, none⟩) (od.ents.length - 1) ec'))) := HB5.out.setCell hz02 _
    have HON6 : Hid (On (fun b => b < w3.heap.size ∧ b ≠ w2.heap.size ∧ some b ≠ (Value.slice (some ⟨gE, 0, none⟩) od.ents.length ec').ownBlock) w3 (w5.setCell ⟨w2.heap.size, d * 9 + 2, none⟩ (.slice (some ⟨gE, 0, none⟩) (od.ents.length - 1) ec'))) := (HON5.out.less fun b hb => fun e => hb.2.2 (by rw [e]; rfl)).trans (on6.less fun b hb => hb.2.1)
    have hz6 : (w5.setCell ⟨w2.heap.size, d * 9 + 2, none⟩ (.slice (some ⟨gE, 0, none⟩) (od.ents.length - 1) ec')).heap.size = w5.heap.size := by simp
    have hz36 : w3.heap.size ≤ (w5.setCell ⟨w2.heap.size, d * 9 + 2, none⟩ (.slice (some ⟨gE, 0, none⟩) (od.ents.length - 1) ec')).heap.size := by omega
    clear on6 HM5 HO5 HB5 HON5 c25 cf5 hz6 hz5
    generalize (w5.setCell ⟨w2.heap.size, d * 9 + 2, none⟩ (.slice (some ⟨gE, 0, none⟩) (od.ents.length - 1) ec')) = w6 at *
    have HL6 : Hid (∀ t ∈ ts.set d (⟨⟨da, dn, dc⟩, ⟨some ⟨gE, 0, none⟩, od.ents.length - 1, ec'⟩, ⟨qa, qn, qc⟩⟩, { od with ents := es' }), Lists w6 (fun b => w2.heap.size + 1 ≤ b ∧ b < w6.heap.size) t) := turned_lists HA.out HTD.out (by omega) HON6.out (by omega) ((HO6.out.row (even_ent es')).more fun b hb => ⟨by omega, hb.2⟩)
    have hL1 : Sp.withEnts L d es' = (ts.set d (⟨⟨da, dn, dc⟩, ⟨some ⟨gE, 0, none⟩, od.ents.length - 1, ec'⟩, ⟨qa, qn, qc⟩⟩, { od with ents := es' })).map Prod.snd := by
      unfold Sp.withEnts
      rw [HD.out]
      dsimp only
      rw [HL.out, List.map_set]
    obtain ⟨s1, o1, ht1, hk1, hlk1⟩ : ∃ s1 o1, (ts.set d (⟨⟨da, dn, dc⟩, ⟨some ⟨gE, 0, none⟩, od.ents.length - 1, ec'⟩, ⟨qa, qn, qc⟩⟩, { od with ents := es' }))[j]? = some (s1, o1) ∧ o1.kind ≠ 0 ∧ (-4611686018427387904 ≤ o1.links ∧ o1.links ≤ 4611686018427387904) := by
      have htl := HTL.out
      by_cases hjd : j = d
      · subst hjd
        have hoo : oj = od := by have := HD.out; rw [HJ.out] at this; exact Option.some.inj this
        refine ⟨_, _, by rw [List.getElem?_set_self (by omega)], ?_, ?_⟩
        · rw [← hoo]; exact HKJ.out
        · exact HLK.out od (List.mem_of_getElem? HD.out)
      · rw [List.getElem?_set_ne (by omega)]
        have h := HJ.out
        rw [HL.out, List.getElem?_map] at h
        cases ht : ts[j]? with
        | none => rw [ht] at h; cases h
        | some t =>
          rw [ht] at h
          simp at h
          exact ⟨t.1, t.2, rfl, by rw [h]; exact HKJ.out, by rw [h]; exact HLK.out oj (List.mem_of_getElem? HJ.out)⟩
    generalize ts.set d (⟨⟨da, dn, dc⟩, ⟨some ⟨gE, 0, none⟩, od.ents.length - 1, ec'⟩, ⟨qa, qn, qc⟩⟩, { od with ents := es' }) = ts1 at *
    have HR1 : Hid (LF = (ts1.set j (s1, Sp.linked o1 (-1) j)).map Prod.snd) := by
      unfold Hid
      rw [← HLF.out, hL1]
      unfold Sp.relinked
      rw [List.getElem?_map, ht1, List.map_set]
      rfl
    have HT1 : Hid (ts1[j]? = some (s1, o1)) := ht1
    have HK1 : Hid (o1.kind ≠ 0 ∧ (-4611686018427387904 ≤ o1.links ∧ o1.links ≤ 4611686018427387904)) := ⟨hk1, hlk1⟩
    clear hL1 ht1 hk1 hlk1 HO6 HON6
    refine Calls.mono (relink_any ts1 w2.heap.size L.length L.length w2.heap.size (fun b => w2.heap.size ≤ b ∧ b < w6.heap.size) j s1 o1 (-1) j w6 HM6.out (HM6.out.objs (fun b hb => hb) fun t ht => (HL6.out t ht).more fun b hb => ⟨by omega, hb.2⟩) HT1.out HK1.out.1 HK1.out.2 ⟨by omega, by omega⟩) ?_
    rintro e w8 ⟨rfl, hm8, on8, hz8, hb8⟩
    have HOF : Hid (Objs w8 (fun b => w.heap.size ≤ b ∧ b < w8.heap.size) (.slice (some ⟨w2.heap.size, 0, none⟩) L.length L.length) LF) := by
      unfold Hid
      rw [HR1.out]
      refine hm8.objs (fun b hb => ⟨by omega, hb.2⟩) fun t ht => ?_
      have key : ∀ t ∈ ts1, Lists w8 (fun b => w.heap.size ≤ b ∧ b < w8.heap.size) t := fun t ht => ((HL6.out t ht).on (on8.less fun b hb => by omega)).more fun b hb => ⟨by omega, by omega⟩
      rcases List.mem_or_eq_of_mem_set ht with h | h
      · exact key t h
      · subst h
        exact key (s1, o1) (List.mem_of_getElem? HT1.out)
    have HBF : Hid (Below w.heap.size w w8) := HB6.out.trans (hb8 _ hz02)
    clear hm8 on8 hb8 HM6 HL6
    go_wp2
    go_ret3
    exact ⟨_, rfl, HOF.out, HBF.out⟩
end Go.Proofs.Ytaobjpajbpoamaa
