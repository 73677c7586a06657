
/-
  store.ownObject: a copy of an object, walked.
-/
import Derived.Test.YtdciohinlhbliaaSWalkB
namespace Go.Proofs.Ytdciohinlhbliaa
open Go.RowKit
set_option maxHeartbeats 4000000 in
theorem ownObject_any (s : Sls) (o : Sp.Ob) (S : Nat → Prop) (w : World) (hv : Lists w S (s, o)) (hS : ∀ b, S b → b < w.heap.size) (hf : Fits o) :
    Calls Try.prog 68 #[.agg (objC (s, o)).toArray] w fun e w' => ∃ s' : Sls, e = .returned (.agg (objC (s', o)).toArray) ∧ OwnL w' w.heap.size w'.heap.size (s', o) ∧ Below w.heap.size w w' := by
  obtain ⟨f1, f2, f3, f4⟩ := hf
  obtain ⟨k, d, es, tg, pe, q, pr, li, up⟩ := o
  dsimp only at f1 f2 f3 f4
  have HF4 : Hid (∀ (m : Sp.Msg), m ∈ q → m.data.length ≤ 140737488355328) := f4
  obtain ⟨hd, he, ts, hq, hqr, hqb⟩ := hv
  dsimp only at hq hd he hqr hqb
  have HQ : Hid (q = ts.map Prod.snd) := hq
  have HQB : Hid (∀ t ∈ ts, Bytes w S (.slice t.1.a t.1.n t.1.c) t.2.data) := hqb
  have hql : ts.length ≤ 1000000 := by rw [hq, List.length_map] at f3; exact f3
  have HS : Hid (∀ b, S b → b < w.heap.size) := hS
  obtain ⟨⟨da, dn, dc⟩, ⟨ea, en, ec⟩, ⟨qa, qn, qc⟩⟩ := s
  dsimp only at hd he hqr
  have HD : Hid (Bytes w S (.slice da dn dc) d) := hd
  have HE : Hid (Ents w S (.slice ea en ec) es) := he
  have HR : Hid (Row w S 4 (.slice qa qn qc) (ts.map msgC)) := hqr
  unfold objC
  dsimp only
  clear hd he hqr hqb hS hq f3 f4
  go_enter Try.func68, Try.ntmps68
  go_wp2_with fail
  have hB2 : Below w.heap.size w _ := ((Below.refl w.heap.size w).alloc (Nat.le_refl _) (.cells #[.int .i64 k, .slice da dn dc, .slice ea en ec, .string tg, .int .i64 pe, .slice qa qn qc, .int .i64 pr, .int .i64 li, .int .i64 up] 40)).alloc (by simp) (.cells #[.int .i64 0, .slice none 0 0, .slice none 0 0, .string ⟨#[]⟩, .int .i64 0, .slice none 0 0, .int .i64 0, .int .i64 0, .int .i64 0] 40)
  have box2 := (Blk.new w #[.int .i64 k, .slice da dn dc, .slice ea en ec, .string tg, .int .i64 pe, .slice qa qn qc, .int .i64 pr, .int .i64 li, .int .i64 up] 40).alloc (.cells #[.int .i64 0, .slice none 0 0, .slice none 0 0, .string ⟨#[]⟩, .int .i64 0, .slice none 0 0, .int .i64 0, .int .i64 0, .int .i64 0] 40)
  have res2 := Blk.new (w.alloc (.cells #[.int .i64 k, .slice da dn dc, .slice ea en ec, .string tg, .int .i64 pe, .slice qa qn qc, .int .i64 pr, .int .i64 li, .int .i64 up] 40)) #[.int .i64 0, .slice none 0 0, .slice none 0 0, .string ⟨#[]⟩, .int .i64 0, .slice none 0 0, .int .i64 0, .int .i64 0, .int .i64 0] 40
  have z2 : (w.alloc (.cells #[.int .i64 k, .slice da dn dc, .slice ea en ec, .string tg, .int .i64 pe, .slice qa qn qc, .int .i64 pr, .int .i64 li, .int .i64 up] 40)).heap.size = w.heap.size + 1 := by simp
  rw [z2] at res2
  clear z2
  refine (ownBytes_any d _ S _ (Row.on HD.out ((On.of hB2).less HS.out)) f1).mono ?_
  rintro e w3 ⟨sd, rfl, hmd, hb3⟩
  have hB3 := hB2.trans (hb3.mono hB2.size)
  have box3 := box2.below hb3 box2.lt
  have res3 := res2.below hb3 res2.lt
  have hmd3 := hmd.row (even_byte d)
  have z3 : w.heap.size + 2 ≤ w3.heap.size := by have := hb3.size; simp at this; omega
  have HMD : Hid (Bytes w3 (fun b => w.heap.size + 2 ≤ b ∧ b < w3.heap.size) (.slice sd.a sd.n sd.c) d) := hmd3.more fun b hb => ⟨by have := hb.1; simp at this; omega, hb.2⟩
  have HBO : Hid _ := box3
  have HRE : Hid _ := res3
  have HB3 : Hid _ := hB3
  have c3 := box3.cell
  have e3 := box3.free
  clear hmd hmd3 hb3 box2 res2 hB2 box3 res3 hB3
  go_wp2_with fail
  have on4 : On (fun b => b < w3.heap.size ∧ b ≠ w.heap.size) w3 (w3.setCell ⟨w.heap.size, 1, none⟩ (.slice sd.a sd.n sd.c)) := (On.set w3 ⟨w.heap.size, 1, none⟩ _).less fun b hb => hb.2
  have hB4 : Below w.heap.size w (w3.setCell ⟨w.heap.size, 1, none⟩ (.slice sd.a sd.n sd.c)) := HB3.out.setCell (Nat.le_refl _) _
  refine (ownEnts_any es _ S _ (Row.on HE.out ((On.of hB4).less HS.out)) f2).mono ?_
  rintro e w4 ⟨se, rfl, hme, hb4⟩
  have zs4 : (w3.setCell ⟨w.heap.size, 1, none⟩ (.slice sd.a sd.n sd.c)).heap.size = w3.heap.size := by simp
  have box4 : Blk w4 w.heap.size #[.int .i64 k, .slice sd.a sd.n sd.c, .slice ea en ec, .string tg, .int .i64 pe, .slice qa qn qc, .int .i64 pr, .int .i64 li, .int .i64 up] 40 := (Blk.set HBO.out 1 _).below hb4 (by rw [zs4]; omega)
  have res4 : Blk w4 (w.heap.size + 1) #[.int .i64 0, .slice none 0 0, .slice none 0 0, .string ⟨#[]⟩, .int .i64 0, .slice none 0 0, .int .i64 0, .int .i64 0, .int .i64 0] 40 := (Blk.other HRE.out (a := ⟨w.heap.size, 1, none⟩) (by show w.heap.size + 1 ≠ w.heap.size; omega) _).below hb4 (by rw [zs4]; omega)
  have z4 : w3.heap.size ≤ w4.heap.size := by have := hb4.size; rw [zs4] at this; exact this
  have hon4 : On (fun b => b < w3.heap.size ∧ b ≠ w.heap.size) w3 w4 := on4.trans ((On.of hb4).less fun b hb => by rw [zs4]; exact hb.1)
  have HM4 : Hid (Bytes w4 (fun b => w.heap.size + 2 ≤ b ∧ b < w3.heap.size) (.slice sd.a sd.n sd.c) d) := Row.on HMD.out (hon4.less fun b hb => ⟨hb.2, by omega⟩)
  rw [zs4] at hme
  have HME : Hid (Mine w4 w3.heap.size 89 2 (.slice se.a se.n se.c) (es.map entC)) := hme
  have HB4 : Hid (Below w.heap.size w w4) := hB4.trans (hb4.mono hB4.size)
  have HBO4 : Hid _ := box4
  have HRE4 : Hid _ := res4
  have c4 := box4.cell
  have e4 := box4.free
  clear hme hb4 hB4 on4 hon4 zs4 box4 res4 c3 e3 HBO HRE HB3 HMD HD HE
  go_wp2_with fail
  have on5 : On (fun b => b < w4.heap.size ∧ b ≠ w.heap.size) w4 (w4.setCell ⟨w.heap.size, 2, none⟩ (.slice se.a se.n se.c)) := (On.set w4 ⟨w.heap.size, 2, none⟩ _).less fun b hb => hb.2
  have hB5 : Below w.heap.size w (w4.setCell ⟨w.heap.size, 2, none⟩ (.slice se.a se.n se.c)) := HB4.out.setCell (Nat.le_refl _) _
  refine (ownMsgs_any ts _ S _ (Row.on HR.out ((On.of hB5).less HS.out)) hql).mono ?_
  rintro e w5 ⟨sq, rfl, hmq, hb5⟩
  have zs5 : (w4.setCell ⟨w.heap.size, 2, none⟩ (.slice se.a se.n se.c)).heap.size = w4.heap.size := by simp
  have box5 : Blk w5 w.heap.size #[.int .i64 k, .slice sd.a sd.n sd.c, .slice se.a se.n se.c, .string tg, .int .i64 pe, .slice qa qn qc, .int .i64 pr, .int .i64 li, .int .i64 up] 40 := (Blk.set HBO4.out 2 _).below hb5 (by rw [zs5]; omega)
  have res5 : Blk w5 (w.heap.size + 1) #[.int .i64 0, .slice none 0 0, .slice none 0 0, .string ⟨#[]⟩, .int .i64 0, .slice none 0 0, .int .i64 0, .int .i64 0, .int .i64 0] 40 := (Blk.other HRE4.out (a := ⟨w.heap.size, 2, none⟩) (by show w.heap.size + 1 ≠ w.heap.size; omega) _).below hb5 (by rw [zs5]; omega)
  have z5 : w4.heap.size ≤ w5.heap.size := by have := hb5.size; rw [zs5] at this; exact this
  have hon5 : On (fun b => b < w4.heap.size ∧ b ≠ w.heap.size) w4 w5 := on5.trans ((On.of hb5).less fun b hb => by rw [zs5]; exact hb.1)
  have HM5 : Hid (Bytes w5 (fun b => w.heap.size + 2 ≤ b ∧ b < w3.heap.size) (.slice sd.a sd.n sd.c) d) := Row.on HM4.out (hon5.less fun b hb => ⟨by omega, by omega⟩)
  have HME5 : Hid (Mine w5 w3.heap.size 89 2 (.slice se.a se.n se.c) (es.map entC)) := HME.out.on hon5 fun g hg => by have := HME.out.lt g hg; omega
  have HEL : Hid (∀ g, (Value.slice se.a se.n se.c).ownBlock = some g → g < w4.heap.size) := fun g hg => (HME.out.lt g hg).2
  rw [zs5] at hmq
  have HMQ : Hid (Mine w5 w4.heap.size 83 4 (.slice sq.a sq.n sq.c) (ts.map msgC)) := hmq
  have HB5 : Hid (Below w.heap.size w w5) := hB5.trans (hb5.mono hB5.size)
  have HBO5 : Hid _ := box5
  have HRE5 : Hid _ := res5
  have c5 := box5.cell
  have e5 := box5.free
  obtain ⟨sqa, sqn, sqc⟩ := sq
  obtain ⟨_, _, hsl, _⟩ := hmq.form
  have hsn : sqn = ts.length := by simpa using (Value.slice.inj hsl).2.1
  subst hsn
  clear hmq hb5 hB5 on5 hon5 zs5 box5 res5 c4 e4 HBO4 HRE4 HB4 HM4 HME HR hsl
  go_wp2_with fail
  have zs6 : (w5.setCell ⟨w.heap.size, 5, none⟩ (.slice sqa ts.length sqc)).heap.size = w5.heap.size := by simp
  have box6 : Blk (w5.setCell ⟨w.heap.size, 5, none⟩ (.slice sqa ts.length sqc)) w.heap.size #[.int .i64 k, .slice sd.a sd.n sd.c, .slice se.a se.n se.c, .string tg, .int .i64 pe, .slice sqa ts.length sqc, .int .i64 pr, .int .i64 li, .int .i64 up] 40 := Blk.set HBO5.out 5 _
  have res6 : Blk (w5.setCell ⟨w.heap.size, 5, none⟩ (.slice sqa ts.length sqc)) (w.heap.size + 1) #[.int .i64 0, .slice none 0 0, .slice none 0 0, .string ⟨#[]⟩, .int .i64 0, .slice none 0 0, .int .i64 0, .int .i64 0, .int .i64 0] 40 := Blk.other HRE5.out (a := ⟨w.heap.size, 5, none⟩) (by show w.heap.size + 1 ≠ w.heap.size; omega) _
  have on6 : On (fun b => b ≠ w.heap.size) w5 (w5.setCell ⟨w.heap.size, 5, none⟩ (.slice sqa ts.length sqc)) := On.set w5 ⟨w.heap.size, 5, none⟩ _
  have HM6 : Hid (Bytes (w5.setCell ⟨w.heap.size, 5, none⟩ (.slice sqa ts.length sqc)) (fun b => w.heap.size + 2 ≤ b ∧ b < w3.heap.size) (.slice sd.a sd.n sd.c) d) := Row.on HM5.out (on6.less fun b hb => by omega)
  have HME6 : Hid (Mine (w5.setCell ⟨w.heap.size, 5, none⟩ (.slice sqa ts.length sqc)) w3.heap.size 89 2 (.slice se.a se.n se.c) (es.map entC)) := HME5.out.on on6 fun g hg => by have := HME5.out.lt g hg; omega
  have HMQ6 : Hid (Mine (w5.setCell ⟨w.heap.size, 5, none⟩ (.slice sqa ts.length sqc)) w4.heap.size 83 4 (.slice sqa ts.length sqc) (ts.map msgC)) := HMQ.out.on on6 fun g hg => by have := HMQ.out.lt g hg; omega
  have HB6 : Hid (Below w.heap.size w (w5.setCell ⟨w.heap.size, 5, none⟩ (.slice sqa ts.length sqc))) := HB5.out.setCell (Nat.le_refl _) _
  clear on6 HM5 HME5 HMQ HB5 HBO5 HRE5 c5 e5
  generalize w5.setCell ⟨w.heap.size, 5, none⟩ (.slice sqa ts.length sqc) = w6 at *
  rw [← zs6] at z5
  clear zs6
  have HBO6 : Hid _ := box6
  have HRE6 : Hid _ := res6
  clear box6 res6
  go_loopw [20] (fun i wr => ∃ kk : Nat, kk ≤ ts.length ∧ i = .int .i64 kk ∧ QInv w w6 w4.heap.size ⟨sqa, ts.length, sqc⟩ ts kk wr) (fun i _ => ts.length - (intOf i).toNat)
  case atStart => exact ⟨0, Nat.zero_le _, rfl, ts, HB6.out, fun b hb => rfl, Nat.le_refl _, HMQ6.out, rfl, fun j t ht => ⟨fun h => by omega, fun _ => ht⟩⟩
  case round =>
    obtain ⟨kk, hk, rfl, ts', hB, hOn, hz, hMine, hsnd, hel⟩ := hrel
    have HOn : Hid (On (fun b => b < w6.heap.size ∧ some b ≠ (Value.slice sqa ts.length sqc).ownBlock) w6 wr) := hOn
    have HMine : Hid (Mine wr w4.heap.size 83 4 (.slice sqa ts.length sqc) (ts'.map msgC)) := hMine
    have HSnd : Hid (ts'.map Prod.snd = ts.map Prod.snd) := hsnd
    have HEL2 : Hid _ := hel
    have HBr : Hid _ := hB
    have hnb : some w.heap.size ≠ (Value.slice sqa ts.length sqc).ownBlock := fun e => by have := HMine.out.lt _ e.symm; omega
    have hnr : some (w.heap.size + 1) ≠ (Value.slice sqa ts.length sqc).ownBlock := fun e => by have := HMine.out.lt _ e.symm; omega
    have boxr := Blk.on HBO6.out hOn ⟨by have := (Blk.lt HBO6.out); omega, hnb⟩
    have resr := Blk.on HRE6.out hOn ⟨by have := (Blk.lt HRE6.out); omega, hnr⟩
    have hlen' : ts'.length = ts.length := by have := congrArg List.length hsnd; simpa using this
    clear hOn hMine hsnd hel hB hnb hnr
    by_cases hlt : kk < ts.length
    · have hx : ts'[kk]? = some (ts'[kk]'(by omega)) := List.getElem?_eq_getElem _
      generalize ts'[kk]'(by omega) = t at hx
      obtain ⟨⟨ta, tn, tc⟩, ⟨md, mh, mo, mr⟩⟩ := t
      have HX : Hid (ts'[kk]? = some (⟨ta, tn, tc⟩, ⟨md, mh, mo, mr⟩)) := hx
      have htx := (HEL2.out kk _ hx).2 (Nat.le_refl _)
      have hmem := List.mem_of_getElem? htx
      have HBy : Hid (Bytes wr S (.slice ta tn tc) md) := Row.on (HQB.out _ hmem) ((On.of HBr.out).less HS.out)
      have hmdl : md.length ≤ 140737488355328 := HF4.out ⟨md, mh, mo, mr⟩ (by rw [HQ.out]; exact List.mem_map_of_mem hmem)
      obtain ⟨_, _, hsl, _, hg0⟩ := HMine.out.form
      have hsa := (Value.slice.inj hsl).1
      obtain ⟨g, hg, hg1, hg2⟩ := hg0 (by rw [List.length_map]; omega)
      rw [← hsa] at hg
      subst hg
      obtain ⟨cur, hblk, -, hcc, hcm, hcs, hcur⟩ := HMine.out.blk
      have hcell : ∀ j u, (msgC (⟨ta, tn, tc⟩, ⟨md, mh, mo, mr⟩))[j]? = some u → wr.cell? ⟨g, kk * 4 + j, none⟩ = some u := fun j u hj => by
        rw [hblk.cell]
        exact hcur _ u (flatten_at (even_msg ts') kk _ (by rw [List.getElem?_map, HX.out]; rfl) j u hj)
      have k0 := hcell 0 _ rfl
      have k1 := hcell 1 _ rfl
      have k2 := hcell 2 _ rfl
      have k3 := hcell 3 _ rfl
      dsimp only at k0 k1 k2 k3
      have kf := hblk.free
      have HBLK : Hid _ := hblk
      clear hcell hcur hblk hsl hsa hmem htx hx
      have cbx := boxr.cell
      have HBOX : Hid _ := boxr
      have HRES : Hid _ := resr
      have hz1 := boxr.lt
      have hz2 := resr.lt
      clear boxr resr
      simp only [Nat.add_zero] at k0
      unfold maxLen at hcm
      go_wp2_with fail
      have HBy' : Hid (Bytes (wr.alloc (.cells #[.slice ta tn tc, .bool mh, .int .i64 mo, .int .i64 mr] 83)) S (.slice ta tn tc) md) := Row.on HBy.out ((On.alloc wr _).less fun b hb => by have := HS.out b hb; omega)
      have d5 : (wr.alloc (.cells #[.slice ta tn tc, .bool mh, .int .i64 mo, .int .i64 mr] 83)).cell? ⟨w.heap.size, 5, none⟩ = some (.slice (some ⟨g, 0, none⟩) ts.length sqc) := (Blk.alloc HBOX.out _).cell 5
      have dg : (wr.alloc (.cells #[.slice ta tn tc, .bool mh, .int .i64 mo, .int .i64 mr] 83)).cell? ⟨g, kk * 4, none⟩ = some (.slice ta tn tc) := ((Blk.alloc HBLK.out _).cell _).trans (((Blk.cell HBLK.out _).symm).trans k0)
      have df : (wr.alloc (.cells #[.slice ta tn tc, .bool mh, .int .i64 mo, .int .i64 mr] 83)).frozen? ⟨g, kk * 4, none⟩ = false := (Blk.alloc HBLK.out _).free _
      have dm : (wr.alloc (.cells #[.slice ta tn tc, .bool mh, .int .i64 mo, .int .i64 mr] 83)).cell? ⟨wr.heap.size, 0, none⟩ = some (.slice ta tn tc) := (Blk.new wr _ _).cell 0
      have onA := On.alloc wr (.cells #[.slice ta tn tc, .bool mh, .int .i64 mo, .int .i64 mr] 83)
      have HONA : Hid _ := onA
      have hzA : (wr.alloc (.cells #[.slice ta tn tc, .bool mh, .int .i64 mo, .int .i64 mr] 83)).heap.size = wr.heap.size + 1 := by simp
      have HZA : Hid _ := hzA
      have hzW : wr.heap.size < (wr.alloc (.cells #[.slice ta tn tc, .bool mh, .int .i64 mo, .int .i64 mr] 83)).heap.size := by omega
      have HBA : Hid (Below w.heap.size w (wr.alloc (.cells #[.slice ta tn tc, .bool mh, .int .i64 mo, .int .i64 mr] 83))) := HBr.out.alloc (by omega) _
      have HMA : Hid (Mine (wr.alloc (.cells #[.slice ta tn tc, .bool mh, .int .i64 mo, .int .i64 mr] 83)) w4.heap.size 83 4 (.slice (some ⟨g, 0, none⟩) ts.length sqc) (ts'.map msgC)) := HMine.out.on onA fun g hg => (HMine.out.lt g hg).2
      clear hzA onA k0 k1 k2 k3 kf cbx
      generalize wr.alloc (.cells #[.slice ta tn tc, .bool mh, .int .i64 mo, .int .i64 mr] 83) = W at *
      go_region_with (go_at_call 82; refine (ownBytes_there md _ S _ (by exact HBy'.out) hmdl w.heap.size g (kk * 4) _ _ (by exact d5) (by exact dg) (by exact df) (by exact Nat.lt_trans hz1 hzW) (by exact Nat.lt_trans hg2 hzW)).mono ?_; rintro e w7 ⟨s7, rfl, hm7, hb7, c71, c72, c73⟩)
      all_goals (try go_wp2)
      all_goals exact ⟨⟨kk + 1, by omega, by go_num, QInv.step HBA.out (by omega) HOn.out hz HONA.out HZA.out HMA.out HSnd.out HEL2.out HX.out ⟨hb7.os, hb7.tape, hb7.output, hb7.size, hb7.block⟩ hm7 (by have := (HMQ6.out.lt g rfl).2; omega)⟩, by simp [intOf]; omega⟩
    · obtain rfl : kk = ts.length := by omega
      have HQF : Hid (QOwn wr w4.heap.size wr.heap.size (.slice sqa ts.length sqc) q) := by
        refine ⟨ts', by rw [HQ.out, HSnd.out], HMine.out, fun g hg => (HMine.out.lt g hg).2, fun t ht => ?_⟩
        obtain ⟨j, hj, rfl⟩ := List.getElem_of_mem ht
        exact Row.more ((HEL2.out j _ (List.getElem?_eq_getElem hj)).1 (by omega)) fun b hb => ⟨by omega, hb.2, fun e => by have := (HMQ6.out.lt b e.symm).2; omega⟩
      have HMF : Hid (Bytes wr (fun b => w.heap.size + 2 ≤ b ∧ b < w3.heap.size) (.slice sd.a sd.n sd.c) d) := Row.on HM6.out (HOn.out.less fun b hb => ⟨by omega, fun e => by have := (HMine.out.lt _ e.symm).1; omega⟩)
      have HEF : Hid (Mine wr w3.heap.size 89 2 (.slice se.a se.n se.c) (es.map entC)) := HME6.out.on HOn.out fun g hg => ⟨(HME6.out.lt g hg).2, fun e => by have := (HMine.out.lt _ e.symm).1; have := HEL.out g hg; omega⟩
      have cb := boxr.cell
      have cr := resr.cell
      have cf := resr.free
      have HRES : Hid _ := resr
      have hzz := HBr.out.size
      clear boxr resr HMine HM6 HME6 HMQ6 HOn
      go_wp2
      generalize hW : (((((((((wr.setCell ⟨w.heap.size + 1, 0, none⟩ (.int .i64 k)).setCell ⟨w.heap.size + 1, 1, none⟩ (.slice sd.a sd.n sd.c)).setCell ⟨w.heap.size + 1, 2, none⟩ (.slice se.a se.n se.c)).setCell ⟨w.heap.size + 1, 3, none⟩ (.string tg)).setCell ⟨w.heap.size + 1, 4, none⟩ (.int .i64 pe)).setCell ⟨w.heap.size + 1, 5, none⟩ (.slice sqa ts.length sqc)).setCell ⟨w.heap.size + 1, 6, none⟩ (.int .i64 pr)).setCell ⟨w.heap.size + 1, 7, none⟩ (.int .i64 li)).setCell ⟨w.heap.size + 1, 8, none⟩ (.int .i64 up)) = W
      obtain ⟨hb, hon, hsz⟩ := Blk.nine HRES.out _ _ _ _ _ _ _ _ _ W hW.symm
      have hcW := hb.cell
      have hBW : Below w.heap.size w W := by
        rw [← hW]
        exact ((((((((HBr.out.setCell (by show w.heap.size ≤ w.heap.size + 1; omega) _).setCell (by show w.heap.size ≤ w.heap.size + 1; omega) _).setCell (by show w.heap.size ≤ w.heap.size + 1; omega) _).setCell (by show w.heap.size ≤ w.heap.size + 1; omega) _).setCell (by show w.heap.size ≤ w.heap.size + 1; omega) _).setCell (by show w.heap.size ≤ w.heap.size + 1; omega) _).setCell (by show w.heap.size ≤ w.heap.size + 1; omega) _).setCell (by show w.heap.size ≤ w.heap.size + 1; omega) _).setCell (by show w.heap.size ≤ w.heap.size + 1; omega) _
      refine bodyPost_ret (v := .agg #[.int .i64 k, .slice sd.a sd.n sd.c, .slice se.a se.n se.c, .string tg, .int .i64 pe, .slice sqa ts.length sqc, .int .i64 pr, .int .i64 li, .int .i64 up]) (by simp [results, Try.results68, go_sem, hcW]) rfl ⟨⟨sd, se, ⟨sqa, ts.length, sqc⟩⟩, rfl, ?_, hBW⟩
      refine ⟨w3.heap.size, w4.heap.size, by omega, by omega, by omega, Nat.le_refl _, ?_, ?_, HEL.out, ?_⟩
      · exact Row.more (Row.on HMF.out (hon.less fun b hb => by omega)) fun b hb => ⟨by omega, hb.2⟩
      · exact HEF.out.on hon fun g hg => by have := HEF.out.lt g hg; omega
      · exact QOwn.wide (QOwn.on HQF.out (hon.less fun b hb => by omega)) (by omega)
end Go.Proofs.Ytdciohinlhbliaa
