/-
  table.Put, walked.
-/
import Derived.Test.YtaobjpajbpoamaaTPutA
import Derived.Deep.RegionHeld3
namespace Go.Proofs.Ytaobjpajbpoamaa
open Go.RowKit
set_option maxRecDepth 100000 in
set_option maxHeartbeats 4000000 in
theorem tput_app (l : List Tb.Slt) (op rt : Int) (v : Value) (S : Nat → Prop) (w : World) (hv : Tab w S v l) (hS : ∀ b, S b → b < w.heap.size) (hU : l.length * 24 ≤ 140737488355328) (hr : Tb.right rt = true) (h0 : ¬ op < 0) (hf : Tb.freeFrom l 0 = none) (hl : ¬ 10 ≤ l.length) :
    Calls Try.prog 29 #[v, .agg #[.int .i64 op, .int .i64 rt]] w fun e w' => ∃ v', e = .returned (.tuple #[v', .int .i64 (l.length : Int), .int .i64 0]) ∧ TabNew w w' v' (l ++ [⟨true, op, rt⟩]) := by
  obtain ⟨a, c, rfl, hm⟩ := hv.form
  have HR : Hid (∀ W, Calls Try.prog 60 #[.int .i64 rt] W fun e w' => e = .returned (.bool true) ∧ w' = W) := fun W => by have := rightsRight rt W; rw [hr] at this; exact this
  have HT : Hid (Tab w S (.slice a l.length c) l) := hv
  have HS : Hid (∀ b, S b → b < w.heap.size) := hS
  have HU : Hid (l.length * 24 ≤ 140737488355328) := hU
  have HF : Hid (Tb.freeFrom l 0 = none) := hf
  clear hv hS hU hm hr hf
  go_enter Try.func29, Try.ntmps29
  go_wp2_with fail
  refine (HR.out _).mono ?_
  rintro e w1 ⟨rfl, rfl⟩
  clear HR
  go_wp2_with fail
  have HB0 : Hid (Below w.heap.size w (w.alloc (.cells #[.int .i64 op, .int .i64 rt] 58))) := (Below.refl _ _).alloc (Nat.le_refl _) _
  have HK0 : Hid (Blk (w.alloc (.cells #[.int .i64 op, .int .i64 rt] 58)) w.heap.size #[.int .i64 op, .int .i64 rt] 58) := Blk.new w _ _
  have hz0 : (w.alloc (.cells #[.int .i64 op, .int .i64 rt] 58)).heap.size = w.heap.size + 1 := by simp
  have HZ0 : Hid _ := hz0
  clear hz0
  generalize w.alloc (.cells #[.int .i64 op, .int .i64 rt] 58) = w0 at *
  refine (tidx_any l (.slice a l.length c) S w0 (HT.out.below HB0.out HS.out) (fun b hb => by have := HS.out b hb; have := HZ0.out; omega)).mono ?_
  rintro e w1 ⟨rfl, hb1⟩
  rw [idx_none HF.out]
  have HB1 : Hid (Below w.heap.size w w1) := HB0.out.trans (hb1.mono (by have := HZ0.out; omega))
  have HK1 : Hid (Blk w1 w.heap.size #[.int .i64 op, .int .i64 rt] 58) := HK0.out.below hb1 (by have := HZ0.out; omega)
  have c0 : w1.cell? ⟨w.heap.size, 0, none⟩ = some (.int .i64 op) := HK1.out.cell 0
  have c1 : w1.cell? ⟨w.heap.size, 1, none⟩ = some (.int .i64 rt) := HK1.out.cell 1
  have hlt1 := HK1.out.lt
  clear HB0 HK0 HZ0 hb1
  have hl' : ¬ (10 : Int) ≤ (l.length : Int) := by omega
  have hne : ¬ w1.heap.size = w.heap.size := by omega
  have hne' : ¬ w.heap.size = w1.heap.size := by omega
  have HPd : Hid (PutW w op rt w1.drew) := ⟨HB1.out.drew, HK1.out⟩
  have HPa : Hid (∀ W o, PutW w op rt W → PutW w op rt (W.alloc o)) := fun W o h => ⟨h.1.alloc h.1.size _, h.2.alloc _⟩
  have HC : Hid (∀ W, PutW w op rt W → Calls Try.prog 63 #[.slice a l.length c] W fun e w' => ∃ v', e = .returned v' ∧ Mine w' W.heap.size 60 3 v' (l.map tC) ∧ Below W.heap.size W w' ∧ PutW w op rt w' ∧ (w'.cell? ⟨w.heap.size, 0, none⟩ = some (.int .i64 op) ∧ w'.cell? ⟨w.heap.size, 1, none⟩ = some (.int .i64 rt)) ∧ w.heap.size < w'.heap.size ∧ Hid (∀ g cs t, Blk W g cs t → Blk w' g cs t)) := fun W hW => by
    refine (tclone_any l (.slice a l.length c) S W (HT.out.below hW.1 HS.out) (fun b hb => by have := HS.out b hb; have := hW.1.size; omega) HU.out).mono ?_
    rintro e w' ⟨v', rfl, h1, h2⟩
    have hk : Blk w' w.heap.size #[.int .i64 op, .int .i64 rt] 58 := hW.2.below h2 hW.2.lt
    exact ⟨v', rfl, h1, h2, ⟨hW.1.trans (h2.mono hW.1.size), hk⟩, ⟨hk.cell 0, hk.cell 1⟩, hk.lt, fun g cs t h => h.below h2 h.lt⟩
  go_wp2_with fail
  go_region_held3 (fun w' => w'.cell? ⟨w.heap.size, 0, none⟩ = some (.int .i64 op) ∧ w'.cell? ⟨w.heap.size, 1, none⟩ = some (.int .i64 rt)) (go_keep) (first | (refine Calls.mono (HC.out _ (by first | exact HPd.out | exact HPa.out _ _ HPd.out)) ?_; rintro e w2 ⟨v2, rfl, hm2, hb2, hp2, ⟨hs2, hs3⟩, hl2, hbb⟩; try (have hg : Blk w2 w1.heap.size #[.bool false, .int .i64 0, .int .i64 0] 60 := hbb.out _ _ _ (Blk.new w1.drew _ _); have hgl := hg.lt; have hgc0 := hg.cell 0; have hgc1 := hg.cell 1; have hgc2 := hg.cell 2; have hgf0 := hg.free 0; have hgf1 := hg.free 1; have hgf2 := hg.free 2); go_wp2_with fail))
  · clear hs2 hs3 hl2 hbb HC HPa HPd c0 c1 HK1 HB1 HT HS HU
    have HB3 : Hid (Below w.heap.size w (w2.alloc (.cells #[.bool true, .int .i64 op, .int .i64 rt] 60))) := hp2.1.alloc hp2.1.size _
    have HK3 : Hid (Blk (w2.alloc (.cells #[.bool true, .int .i64 op, .int .i64 rt] 60)) w2.heap.size #[.bool true, .int .i64 op, .int .i64 rt] 60) := Blk.new w2 _ _
    have HM3 : Hid (Mine (w2.alloc (.cells #[.bool true, .int .i64 op, .int .i64 rt] 60)) w.heap.size 60 3 v2 (l.map tC)) := (hm2.on (On.alloc _ _) fun g hg => (hm2.lt g hg).2).base fun g hg => by have := (hm2.lt g hg).1; have e : w1.drew.heap.size = w1.heap.size := rfl; omega
    have HN3 : Hid (∀ g, v2.ownBlock = some g → g ≠ w2.heap.size) := fun g hg => by have := (hm2.lt g hg).2; omega
    have hG : w.heap.size < w2.heap.size := hp2.2.lt
    clear hm2 hb2 hp2
    generalize w2.alloc (.cells #[.bool true, .int .i64 op, .int .i64 rt] 60) = W3 at *
    generalize w2.heap.size = G at *
    have hGl := HK3.out.lt
    have d0 : W3.cell? ⟨G, 0, none⟩ = some (.bool true) := HK3.out.cell 0
    have d1 : W3.cell? ⟨G, 1, none⟩ = some (.int .i64 op) := HK3.out.cell 1
    have d2 : W3.cell? ⟨G, 2, none⟩ = some (.int .i64 rt) := HK3.out.cell 2
    go_wp2_with (with_reducible refine stop_t (.call { callee := .builtin .append, args := #[.tmp 34, .tmp 36], argTypes := #[56, 56] }) rfl ?_)
    unfold HoldT
    have HR3 : Hid (Row (W3.alloc (.cells #[.bool true, .int .i64 op, .int .i64 rt] 60)) (fun b => b = W3.heap.size) 3 (.slice (some ⟨W3.heap.size, 0, none⟩) 1 1) ([(⟨true, op, rt⟩ : Tb.Slt)].map tC)) := t_one (Blk.new W3 (tC ⟨true, op, rt⟩).toArray 60)
    have HM4 : Hid (Mine (W3.alloc (.cells #[.bool true, .int .i64 op, .int .i64 rt] 60)) w.heap.size 60 3 v2 (l.map tC)) := HM3.out.on (On.alloc _ _) fun g hg => (HM3.out.lt g hg).2
    have HB4 : Hid (Below w.heap.size w (W3.alloc (.cells #[.bool true, .int .i64 op, .int .i64 rt] 60))) := HB3.out.alloc HB3.out.size _
    clear HM3 HB3 HK3 HN3 d0 d1 d2
    generalize W3.alloc (.cells #[.bool true, .int .i64 op, .int .i64 rt] 60) = W4 at *
    obtain ⟨i0, hi, hz0, hz1, hz2⟩ := info_parts Tb.infoSlot
    refine wpList_append_row rfl _ _ _ rfl w.heap.size 60 i0 (.agg #[.bool false, .int .i64 0, .int .i64 0]) 3 24 Try.underlying56 hi hz0 hz1 hz2 rfl (by decide) _ (l.map tC) rfl HM4.out _ _ _ rfl HR3.out (even_t _) (ones_t _) ?_ (by decide) HB4.out.size ?_
    · rw [List.length_map, List.length_map, List.length_cons, List.length_nil]; omega
    intro v5 W5 ho5 hg5
    clear hi hz0 hz1 hz2
    rw [← List.map_append] at ho5
    have HB5 : Hid (Below w.heap.size w W5) := HB4.out.grown hg5 HB4.out.size (fun j hj => (HM4.out.lt j hj).1)
    have HM5 : Hid (Tab W5 (fun b => w.heap.size ≤ b ∧ b < W5.heap.size) v5 (l ++ [⟨true, op, rt⟩])) := t_row ho5
    clear ho5 hg5 HM4 HR3
    go_wp2
    go_ret3
    exact ⟨_, rfl, HM5.out, HB5.out⟩
  · clear hs2 hs3 hl2 hbb HC HPa HPd c0 c1 HK1 HB1 HT HS HU hgc0 hgc1 hgc2 hgf0 hgf1 hgf2
    have ho : On (fun b => b ≠ w1.heap.size) w2 (((w2.setCell ⟨w1.heap.size, 0, none⟩ (.bool true)).setCell ⟨w1.heap.size, 1, none⟩ (.int .i64 op)).setCell ⟨w1.heap.size, 2, none⟩ (.int .i64 rt)) := On.three w2 w1.heap.size 0 1 2 _ _ _
    have hlo : ∀ g, v2.ownBlock = some g → w1.heap.size + 1 ≤ g := fun g hg => by
      have h := (hm2.lt g hg).1
      simp at h
      omega
    have HB3 : Hid (Below w.heap.size w (((w2.setCell ⟨w1.heap.size, 0, none⟩ (.bool true)).setCell ⟨w1.heap.size, 1, none⟩ (.int .i64 op)).setCell ⟨w1.heap.size, 2, none⟩ (.int .i64 rt))) := ((hp2.1.setCell (by show w.heap.size ≤ w1.heap.size; omega) _).setCell (by show w.heap.size ≤ w1.heap.size; omega) _).setCell (by show w.heap.size ≤ w1.heap.size; omega) _
    have HK3 : Hid (Blk (((w2.setCell ⟨w1.heap.size, 0, none⟩ (.bool true)).setCell ⟨w1.heap.size, 1, none⟩ (.int .i64 op)).setCell ⟨w1.heap.size, 2, none⟩ (.int .i64 rt)) w1.heap.size #[.bool true, .int .i64 op, .int .i64 rt] 60) := ((hg.set 0 _).set 1 _).set 2 _
    have HM3 : Hid (Mine (((w2.setCell ⟨w1.heap.size, 0, none⟩ (.bool true)).setCell ⟨w1.heap.size, 1, none⟩ (.int .i64 op)).setCell ⟨w1.heap.size, 2, none⟩ (.int .i64 rt)) w.heap.size 60 3 v2 (l.map tC)) := (hm2.on ho fun g hg => by have := hlo g hg; omega).base fun g hg => by have := hlo g hg; omega
    have HN3 : Hid (∀ g, v2.ownBlock = some g → g ≠ w1.heap.size) := fun g hg => by have := hlo g hg; omega
    have hG : w.heap.size < w1.heap.size := hlt1
    clear hm2 hb2 hp2 hg hgl ho hlo
    generalize ((w2.setCell ⟨w1.heap.size, 0, none⟩ (.bool true)).setCell ⟨w1.heap.size, 1, none⟩ (.int .i64 op)).setCell ⟨w1.heap.size, 2, none⟩ (.int .i64 rt) = W3 at *
    clear hne hne' hlt1
    generalize w1.heap.size = G at *
    have hGl := HK3.out.lt
    have d0 : W3.cell? ⟨G, 0, none⟩ = some (.bool true) := HK3.out.cell 0
    have d1 : W3.cell? ⟨G, 1, none⟩ = some (.int .i64 op) := HK3.out.cell 1
    have d2 : W3.cell? ⟨G, 2, none⟩ = some (.int .i64 rt) := HK3.out.cell 2
    go_wp2_with (with_reducible refine stop_t (.call { callee := .builtin .append, args := #[.tmp 34, .tmp 36], argTypes := #[56, 56] }) rfl ?_)
    unfold HoldT
    have HR3 : Hid (Row (W3.alloc (.cells #[.bool true, .int .i64 op, .int .i64 rt] 60)) (fun b => b = W3.heap.size) 3 (.slice (some ⟨W3.heap.size, 0, none⟩) 1 1) ([(⟨true, op, rt⟩ : Tb.Slt)].map tC)) := t_one (Blk.new W3 (tC ⟨true, op, rt⟩).toArray 60)
    have HM4 : Hid (Mine (W3.alloc (.cells #[.bool true, .int .i64 op, .int .i64 rt] 60)) w.heap.size 60 3 v2 (l.map tC)) := HM3.out.on (On.alloc _ _) fun g hg => (HM3.out.lt g hg).2
    have HB4 : Hid (Below w.heap.size w (W3.alloc (.cells #[.bool true, .int .i64 op, .int .i64 rt] 60))) := HB3.out.alloc HB3.out.size _
    clear HM3 HB3 HK3 HN3 d0 d1 d2
    generalize W3.alloc (.cells #[.bool true, .int .i64 op, .int .i64 rt] 60) = W4 at *
    obtain ⟨i0, hi, hz0, hz1, hz2⟩ := info_parts Tb.infoSlot
    refine wpList_append_row rfl _ _ _ rfl w.heap.size 60 i0 (.agg #[.bool false, .int .i64 0, .int .i64 0]) 3 24 Try.underlying56 hi hz0 hz1 hz2 rfl (by decide) _ (l.map tC) rfl HM4.out _ _ _ rfl HR3.out (even_t _) (ones_t _) ?_ (by decide) HB4.out.size ?_
    · rw [List.length_map, List.length_map, List.length_cons, List.length_nil]; omega
    intro v5 W5 ho5 hg5
    clear hi hz0 hz1 hz2
    rw [← List.map_append] at ho5
    have HB5 : Hid (Below w.heap.size w W5) := HB4.out.grown hg5 HB4.out.size (fun j hj => (HM4.out.lt j hj).1)
    have HM5 : Hid (Tab W5 (fun b => w.heap.size ≤ b ∧ b < W5.heap.size) v5 (l ++ [⟨true, op, rt⟩])) := t_row ho5
    clear ho5 hg5 HM4 HR3
    go_wp2
    go_ret3
    exact ⟨_, rfl, HM5.out, HB5.out⟩
end Go.Proofs.Ytaobjpajbpoamaa
