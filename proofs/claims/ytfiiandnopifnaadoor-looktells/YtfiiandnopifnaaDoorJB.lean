import Derived.Test.YtfiiandnopifnaaDoorJA
import Derived.Test.YtfiiandnopifnaaDoorRName
import Derived.BigRegion
import Derived.Test.YtfiiandnopifnaaDoorRFind
import Derived.Test.YtfiiandnopifnaaDoorRWith
import Derived.Test.YtfiiandnopifnaaDoorSWalkJ
/-
  look's walk: step.
-/
namespace Go.Proofs.YtfiiandnopifnaaDoor
open Go.RowKit
/-- What is left behind the first. -/
theorem row_tail {w : World} {S : Nat → Prop} {lb lo lc : Nat} {x : ByteArray} {rest : List ByteArray} (h : Row w S 1 (.slice (some ⟨lb, lo, none⟩) (rest.length + 1) lc) ((x :: rest).map tS)) : Row w S 1 (.slice (if lc = 1 then some ⟨lb, lo, none⟩ else some ⟨lb, lo + 1, none⟩) rest.length (lc - 1)) (rest.map tS) := by
  obtain ⟨b', o', c', h1, h2, h3, h4, h5⟩ := h.some (by simp)
  obtain ⟨e1, -, rfl⟩ := Value.slice.inj h1
  cases e1
  rw [List.length_map, List.length_cons] at h3
  cases rest with
  | nil => exact Row.nil _ _ _ _ _
  | cons y t =>
    rw [if_neg (by simp at h3; omega)]
    refine Or.inr ⟨lb, lo + 1, lc - 1, by simp, h2, by simp at h3 ⊢; omega, by omega, fun i cs hi j u hj => ?_⟩
    have := h5 (i + 1) cs (by rw [List.map_cons, List.getElem?_cons_succ]; exact hi) j u hj
    rw [show lo + 1 + i * 1 + j = lo + (i + 1) * 1 + j by omega]
    exact this
set_option maxRecDepth 100000 in
set_option maxHeartbeats 8000000 in
theorem step_nodir (L : List Sp.Ob) (g : Nat) (vl : Value) (base at_ hops : Int) (fence follow : Bool) (lb lo lc : Nat) (part : ByteArray) (rest : List ByteArray) (S T : Nat → Prop) (W : World) (hg : Blk W g (wkC vl base fence follow at_ (.slice (some ⟨lb, lo, none⟩) (rest.length + 1) lc) hops) 80) (hv : Objs W S vl L) (hS : ∀ b, S b → b < W.heap.size ∧ b ≠ g) (hl : Row W T 1 (.slice (some ⟨lb, lo, none⟩) (rest.length + 1) lc) ((part :: rest).map tS)) (hT : ∀ b, T b → b < W.heap.size ∧ b ≠ g) (hk : Lk.isK L at_ 2 = false) :
    Calls Tryd.prog 28 #[.pointer (some ⟨g, 0, none⟩)] W fun e w' => e = .returned (.tuple #[fdV 0 0 ⟨#[]⟩, .bool false, .int .i64 11]) ∧ Below W.heap.size W w' := by
  have HD : Hid (∀ W', Below W.heap.size W W' → Calls Tryd.prog 31 #[vl, .int .i64 at_] W' fun e w' => e = .returned (.bool false) ∧ w' = W') := fun W' hW => by
    have := isDir_any L at_ vl S W' (hv.on ((On.of hW).less fun b hb => (hS b hb).1))
    rw [hk] at this
    exact this
  have hgl := hg.lt
  have HG : Hid (Blk W g (wkC vl base fence follow at_ (.slice (some ⟨lb, lo, none⟩) (rest.length + 1) lc) hops) 80) := hg
  have HV : Hid (Objs W S vl L) := hv
  have HS : Hid (∀ b, S b → b < W.heap.size ∧ b ≠ g) := hS
  have HLf : Hid (Row W T 1 (.slice (some ⟨lb, lo, none⟩) (rest.length + 1) lc) ((part :: rest).map tS)) := hl
  have HTf : Hid (∀ b, T b → b < W.heap.size ∧ b ≠ g) := hT
  obtain ⟨a, c, rfl, -⟩ := hv.form
  have g0 : W.cell? ⟨g, 0, none⟩ = some (.slice a L.length c) := hg.cell 0
  have g4 : W.cell? ⟨g, 4, none⟩ = some (.int .i64 at_) := hg.cell 4
  have HB0 : Hid (Below W.heap.size W (W.alloc (.cells #[.int .i64 0, .int .i64 0, .string ⟨#[]⟩] 30))) := (Below.refl _ _).alloc (Nat.le_refl _) _
  have hK0 : Blk (W.alloc (.cells #[.int .i64 0, .int .i64 0, .string ⟨#[]⟩] 30)) W.heap.size #[.int .i64 0, .int .i64 0, .string ⟨#[]⟩] 30 := Blk.new W _ _
  have HK0 : Hid (Blk (W.alloc (.cells #[.int .i64 0, .int .i64 0, .string ⟨#[]⟩] 30)) W.heap.size #[.int .i64 0, .int .i64 0, .string ⟨#[]⟩] 30) := hK0
  have c0 : (W.alloc (.cells #[.int .i64 0, .int .i64 0, .string ⟨#[]⟩] 30)).cell? ⟨g, 0, none⟩ = some (.slice a L.length c) := by rw [(On.alloc W _).cell hgl]; exact g0
  have c4 : (W.alloc (.cells #[.int .i64 0, .int .i64 0, .string ⟨#[]⟩] 30)).cell? ⟨g, 4, none⟩ = some (.int .i64 at_) := by rw [(On.alloc W _).cell hgl]; exact g4
  have r0 := hK0.cell 0
  have r1 := hK0.cell 1
  have r2 := hK0.cell 2
  have q0 := hK0.free 0
  have q1 := hK0.free 1
  have q2 := hK0.free 2
  have hlt0 := hK0.lt
  clear hg hv hS hl hT g0 g4 hk hK0 HG HV HS HLf HTf
  unfold fdV
  go_enter Tryd.func28, Tryd.ntmps28
  go_wp2_with fail
  generalize (W.alloc (.cells #[.int .i64 0, .int .i64 0, .string ⟨#[]⟩] 30)) = w0 at *
  go_region_held3 (fun w' => w'.cell? ⟨g, 0, none⟩ = some (.slice a L.length c) ∧ w'.cell? ⟨g, 4, none⟩ = some (.int .i64 at_)) (go_keep) (first | (refine Calls.mono (HD.out _ HB0.out.drew) ?_; rintro e w2 ⟨rfl, rfl⟩; go_wp2_with fail))
  go_wp2
  generalize hW : (((w0.setCell ⟨W.heap.size, 0, none⟩ (.int .i64 0)).setCell ⟨W.heap.size, 1, none⟩ (.int .i64 0)).setCell ⟨W.heap.size, 2, none⟩ (.string ⟨#[]⟩)).drew = W9
  have hb9 : Blk W9 W.heap.size #[.int .i64 0, .int .i64 0, .string ⟨#[]⟩] 30 := by
    rw [← hW]
    exact ((HK0.out.set 0 _).set 1 _).set 2 _
  have hc9 := hb9.cell
  have hB9 : Below W.heap.size W W9 := by
    rw [← hW]
    exact (((HB0.out.setCell (Nat.le_refl _) _).setCell (Nat.le_refl _) _).setCell (Nat.le_refl _) _).drew
  exact bodyPost_ret (v := .tuple #[.agg #[.int .i64 0, .int .i64 0, .string ⟨#[]⟩], .bool false, .int .i64 11]) (by simp [results, Tryd.results28, go_sem, hc9]) rfl ⟨rfl, hB9⟩
set_option maxRecDepth 100000 in
set_option maxHeartbeats 8000000 in
theorem step_up (L : List Sp.Ob) (g m : Nat) (x : Sp.Ob) (vl : Value) (base hops : Int) (fence follow : Bool) (lb lo lc : Nat) (part : ByteArray) (rest : List ByteArray) (S T : Nat → Prop) (W : World) (hg : Blk W g (wkC vl base fence follow (m : Int) (.slice (some ⟨lb, lo, none⟩) (rest.length + 1) lc) hops) 80) (hv : Objs W S vl L) (hS : ∀ b, S b → b < W.heap.size ∧ b ≠ g) (hl : Row W T 1 (.slice (some ⟨lb, lo, none⟩) (rest.length + 1) lc) ((part :: rest).map tS)) (hT : ∀ b, T b → b < W.heap.size ∧ b ≠ g) (hx : L[m]? = some x) (hk : x.kind = 2) (hp : (part.toList == [46, 46]) = true) :
    Calls Tryd.prog 28 #[.pointer (some ⟨g, 0, none⟩)] W fun e w' => e = .returned (.tuple #[fdV 0 0 ⟨#[]⟩, .bool false, .int .i64 (riseE base fence (m : Int))]) ∧ Only g W w' ∧ ∃ v5, Blk w' g (wkC vl base fence follow (riseA base fence (m : Int) x.up) v5 hops) 80 ∧ Row w' T 1 v5 (rest.map tS) := by
  have hK : Lk.isK L (m : Int) 2 = true := by rw [Lk.isK_nat hx, hk]; rfl
  have HD : Hid (∀ W', Below W.heap.size W W' → Calls Tryd.prog 31 #[vl, .int .i64 (m : Int)] W' fun e w' => e = .returned (.bool true) ∧ w' = W') := fun W' hW => by
    have := isDir_any L (m : Int) vl S W' (hv.on ((On.of hW).less fun b hb => (hS b hb).1))
    rw [hK] at this
    exact this
  have hgl := hg.lt
  have HG : Hid (Blk W g (wkC vl base fence follow (m : Int) (.slice (some ⟨lb, lo, none⟩) (rest.length + 1) lc) hops) 80) := hg
  have HV : Hid (Objs W S vl L) := hv
  have HS : Hid (∀ b, S b → b < W.heap.size ∧ b ≠ g) := hS
  have HLf : Hid (Row W T 1 (.slice (some ⟨lb, lo, none⟩) (rest.length + 1) lc) ((part :: rest).map tS)) := hl
  have HTf : Hid (∀ b, T b → b < W.heap.size ∧ b ≠ g) := hT
  have HX : Hid (L[m]? = some x) := hx
  obtain ⟨a, c, rfl, -⟩ := hv.form
  obtain ⟨b', o', c', he, hTb, hc3, hc4, h5⟩ := hl.some (by simp)
  obtain ⟨e1, -, rfl⟩ := Value.slice.inj he
  cases e1
  rw [List.length_map, List.length_cons] at hc3
  have l0 := h5 0 (tS part) rfl 0 _ rfl
  rw [Nat.zero_mul, Nat.add_zero] at l0
  have hlbl := (hT lb hTb).1
  have hlbg := (hT lb hTb).2
  have hlbg' : ¬ g = lb := fun h => hlbg h.symm
  unfold maxLen at hc4
  have g0 : W.cell? ⟨g, 0, none⟩ = some (.slice a L.length c) := hg.cell 0
  have g4 : W.cell? ⟨g, 4, none⟩ = some (.int .i64 (m : Int)) := hg.cell 4
  have g5 : W.cell? ⟨g, 5, none⟩ = some (.slice (some ⟨lb, lo, none⟩) (rest.length + 1) lc) := hg.cell 5
  have f5 : W.frozen? ⟨g, 5, none⟩ = false := hg.free 5
  have hcz : (1 : Int) ≤ (lc : Int) := by omega
  obtain ⟨A5, hA5⟩ : ∃ A5 : Addr, (if lc = 1 then some (⟨lb, lo, none⟩ : Addr) else some ⟨lb, lo + 1, none⟩) = some A5 := by split <;> exact ⟨_, rfl⟩
  have HTL : Hid (Row W T 1 (.slice (some A5) rest.length (lc - 1)) (rest.map tS)) := by
    have := row_tail hl
    rw [hA5] at this
    exact this
  have HB0 : Hid (Below W.heap.size W (W.alloc (.cells #[.int .i64 0, .int .i64 0, .string ⟨#[]⟩] 30))) := (Below.refl _ _).alloc (Nat.le_refl _) _
  have HK0 : Hid (Blk (W.alloc (.cells #[.int .i64 0, .int .i64 0, .string ⟨#[]⟩] 30)) W.heap.size #[.int .i64 0, .int .i64 0, .string ⟨#[]⟩] 30) := Blk.new W _ _
  have HG0 : Hid (Blk (W.alloc (.cells #[.int .i64 0, .int .i64 0, .string ⟨#[]⟩] 30)) g (wkC (.slice a L.length c) base fence follow (m : Int) (.slice (some ⟨lb, lo, none⟩) (rest.length + 1) lc) hops) 80) := hg.alloc _
  have c0 : (W.alloc (.cells #[.int .i64 0, .int .i64 0, .string ⟨#[]⟩] 30)).cell? ⟨g, 0, none⟩ = some (.slice a L.length c) := by rw [(On.alloc W _).cell hgl]; exact g0
  have c4 : (W.alloc (.cells #[.int .i64 0, .int .i64 0, .string ⟨#[]⟩] 30)).cell? ⟨g, 4, none⟩ = some (.int .i64 (m : Int)) := by rw [(On.alloc W _).cell hgl]; exact g4
  have c5 : (W.alloc (.cells #[.int .i64 0, .int .i64 0, .string ⟨#[]⟩] 30)).cell? ⟨g, 5, none⟩ = some (.slice (some ⟨lb, lo, none⟩) (rest.length + 1) lc) := by rw [(On.alloc W _).cell hgl]; exact g5
  have d0 : (W.alloc (.cells #[.int .i64 0, .int .i64 0, .string ⟨#[]⟩] 30)).cell? ⟨lb, lo, none⟩ = some (.string part) := by rw [(On.alloc W _).cell hlbl]; exact l0
  have u5 : (W.alloc (.cells #[.int .i64 0, .int .i64 0, .string ⟨#[]⟩] 30)).frozen? ⟨g, 5, none⟩ = false := HG0.out.free 5
  clear hg hv hS hl hT g0 g4 g5 f5 l0 h5 he hTb hK hx hk
  go_enter Tryd.func28, Tryd.ntmps28
  go_wp2_with fail
  generalize (W.alloc (.cells #[.int .i64 0, .int .i64 0, .string ⟨#[]⟩] 30)) = w0 at *
  go_region_held3 (fun w' => w'.cell? ⟨g, 0, none⟩ = some (.slice a L.length c) ∧ w'.cell? ⟨g, 4, none⟩ = some (.int .i64 (m : Int))) (go_keep) (first | (refine Calls.mono (HD.out _ HB0.out.drew) ?_; rintro e w2 ⟨rfl, rfl⟩; go_wp2_with fail))
  go_wp2_with fail
  go_region_held3 (fun w' => w'.cell? ⟨g, 5, none⟩ = some (.slice (some ⟨lb, lo, none⟩) (rest.length + 1) lc) ∧ w'.cell? ⟨lb, lo, none⟩ = some (.string part)) (go_keep) (fail)
  go_wp2_with fail
  clear hA5
  have hlt0 := HK0.out.lt
  have HG3 : Hid (Blk (w0.setCell ⟨g, 5, none⟩ (.slice (some A5) rest.length (lc - 1))).drew.drew g (wkC (.slice a L.length c) base fence follow (m : Int) (.slice (some A5) rest.length (lc - 1)) hops) 80) := HG0.out.set 5 _
  have HO3 : Hid (Only g W (w0.setCell ⟨g, 5, none⟩ (.slice (some A5) rest.length (lc - 1))).drew.drew) := ((Only.below hgl HB0.out).set 5 _).drew.drew
  have hK3 : Blk (w0.setCell ⟨g, 5, none⟩ (.slice (some A5) rest.length (lc - 1))).drew.drew W.heap.size #[.int .i64 0, .int .i64 0, .string ⟨#[]⟩] 30 := HK0.out.other (a := ⟨g, 5, none⟩) (by show W.heap.size ≠ g; omega) _
  have HK3 : Hid (Blk (w0.setCell ⟨g, 5, none⟩ (.slice (some A5) rest.length (lc - 1))).drew.drew W.heap.size #[.int .i64 0, .int .i64 0, .string ⟨#[]⟩] 30) := hK3
  clear c0 c4 c5 d0 u5 HG0 HB0 HK0 hK3
  generalize (w0.setCell ⟨g, 5, none⟩ (.slice (some A5) rest.length (lc - 1))).drew.drew = w3 at *
  refine Calls.mono (rise_any L g m x (.slice a L.length c) _ base hops fence follow S w3 HG3.out (HV.out.on (HO3.out.1.less HS.out)) (fun b hb => ⟨by have := (HS.out b hb).1; have := HO3.out.2.1; omega, (HS.out b hb).2⟩) HX.out) ?_
  rintro e w4 ⟨rfl, hB4, hO4⟩
  have hgl3 := HG3.out.lt
  have hK4 : Blk w4 W.heap.size #[.int .i64 0, .int .i64 0, .string ⟨#[]⟩] 30 := HK3.out.on hO4.1 ⟨HK3.out.lt, by omega⟩
  have HK4 : Hid (Blk w4 W.heap.size #[.int .i64 0, .int .i64 0, .string ⟨#[]⟩] 30) := hK4
  have HB4 : Hid (Blk w4 g (wkC (.slice a L.length c) base fence follow (riseA base fence (m : Int) x.up) (.slice (some A5) rest.length (lc - 1)) hops) 80) := hB4
  have HO4 : Hid (Only g W w4) := HO3.out.trans hO4
  have r0 := hK4.cell 0
  have r1 := hK4.cell 1
  have r2 := hK4.cell 2
  have q0 := hK4.free 0
  have q1 := hK4.free 1
  have q2 := hK4.free 2
  have hlt4 := hK4.lt
  clear hB4 hO4 hK4 HG3 HO3 HK3
  go_wp2
  generalize hW : ((w4.setCell ⟨W.heap.size, 0, none⟩ (.int .i64 0)).setCell ⟨W.heap.size, 1, none⟩ (.int .i64 0)).setCell ⟨W.heap.size, 2, none⟩ (.string ⟨#[]⟩) = W9
  have hb9 : Blk W9 W.heap.size #[.int .i64 0, .int .i64 0, .string ⟨#[]⟩] 30 := by
    rw [← hW]
    exact ((HK4.out.set 0 _).set 1 _).set 2 _
  have hc9 := hb9.cell
  have ho9 : On (fun b => b ≠ W.heap.size) w4 W9 := by
    rw [← hW]
    exact ((On.set w4 ⟨W.heap.size, 0, none⟩ _).trans (On.set _ ⟨W.heap.size, 1, none⟩ _)).trans (On.set _ ⟨W.heap.size, 2, none⟩ _)
  have hs9 : W9.heap.size = w4.heap.size := by rw [← hW]; simp
  have hO9 : Only g W W9 := by
    refine ⟨HO4.out.1.trans (ho9.less fun b hb => by omega), by have := HO4.out.2.1; omega, fun B hB => ?_⟩
    rw [← hW]
    exact (((HO4.out.2.2 B hB).setCell (by show B ≤ W.heap.size; omega) _).setCell (by show B ≤ W.heap.size; omega) _).setCell (by show B ≤ W.heap.size; omega) _
  exact bodyPost_ret (v := .tuple #[.agg #[.int .i64 0, .int .i64 0, .string ⟨#[]⟩], .bool false, .int .i64 (riseE base fence (m : Int))]) (by simp [results, Tryd.results28, go_sem, hc9]) rfl ⟨rfl, hO9, _, HB4.out.on ho9 (by show g ≠ W.heap.size; omega), Row.on HTL.out ((HO4.out.1.less HTf.out).trans (ho9.less fun b hb => by have := (HTf.out b hb).1; omega))⟩
end Go.Proofs.YtfiiandnopifnaaDoor
/-
  look's walk: step, behind the part that was found.
-/
namespace Go.Proofs.YtfiiandnopifnaaDoor
open Go.RowKit
namespace Lk
theorem one_link {L : List Sp.Ob} {base pos : Int} {fence follow : Bool} {part : ByteArray} {rest : List ByteArray} {hops : Nat} (h1 : isK L pos 2 = true) (h2 : isUp part = false) (h3 : isK L (Sp.find L pos part) 3 = true) (h4 : follow = true ∨ rest ≠ []) : one L base fence follow pos part rest hops = ⟨nilF, false, throughE (trg L (Sp.find L pos part)) fence hops, ⟨turnA (trg L (Sp.find L pos part)) pos, partsB (trg L (Sp.find L pos part)) ++ rest, hops + 1⟩⟩ := by
  unfold one
  rw [if_neg (by rw [h1]; decide), if_neg (by rw [h2]; decide), if_pos ⟨h3, h4⟩]
theorem one_last {L : List Sp.Ob} {base pos : Int} {fence follow : Bool} {part : ByteArray} {hops : Nat} (h1 : isK L pos 2 = true) (h2 : isUp part = false) (h3 : isK L (Sp.find L pos part) 3 = false ∨ follow = false) : one L base fence follow pos part [] hops = ⟨⟨Sp.find L pos part, pos, part⟩, true, 0, ⟨pos, [], hops⟩⟩ := by
  unfold one
  rw [if_neg (by rw [h1]; decide), if_neg (by rw [h2]; decide), if_neg (by rcases h3 with h | h <;> simp [h]), if_pos rfl]
theorem one_none {L : List Sp.Ob} {base pos : Int} {fence follow : Bool} {part : ByteArray} {rest : List ByteArray} {hops : Nat} (h1 : isK L pos 2 = true) (h2 : isUp part = false) (h3 : isK L (Sp.find L pos part) 3 = false) (h4 : rest ≠ []) (h5 : Sp.find L pos part < 0) : one L base fence follow pos part rest hops = ⟨nilF, false, 6, ⟨pos, rest, hops⟩⟩ := by
  unfold one
  rw [if_neg (by rw [h1]; decide), if_neg (by rw [h2]; decide), if_neg (by simp [h3]), if_neg h4, if_pos h5]
theorem one_go {L : List Sp.Ob} {base pos : Int} {fence follow : Bool} {part : ByteArray} {rest : List ByteArray} {hops : Nat} (h1 : isK L pos 2 = true) (h2 : isUp part = false) (h3 : isK L (Sp.find L pos part) 3 = false) (h4 : rest ≠ []) (h5 : ¬ Sp.find L pos part < 0) : one L base fence follow pos part rest hops = ⟨nilF, false, 0, ⟨Sp.find L pos part, rest, hops⟩⟩ := by
  unfold one
  rw [if_neg (by rw [h1]; decide), if_neg (by rw [h2]; decide), if_neg (by simp [h3]), if_neg h4, if_neg h5]
end Lk
/-- What is found is laid into its cells, and handed back. -/
theorem fd_cells {w W9 : World} {b : Nat} {x y z : Value} {t : TypeId} (h : Blk w b #[x, y, z] t) (o d : Int) (nm : ByteArray) (hW : ((w.setCell ⟨b, 0, none⟩ (.int .i64 o)).setCell ⟨b, 1, none⟩ (.int .i64 d)).setCell ⟨b, 2, none⟩ (.string nm) = W9) : Blk W9 b #[.int .i64 o, .int .i64 d, .string nm] t ∧ On (fun c => c ≠ b) w W9 ∧ W9.heap.size = w.heap.size ∧ ∀ B, B ≤ b → Below B w W9 := by
  subst hW
  refine ⟨((h.set 0 _).set 1 _).set 2 _, ((On.set w ⟨b, 0, none⟩ _).trans (On.set _ ⟨b, 1, none⟩ _)).trans (On.set _ ⟨b, 2, none⟩ _), by simp, fun B hB => ?_⟩
  exact ((((Below.refl B w).setCell (p := ⟨b, 0, none⟩) hB _).setCell (p := ⟨b, 1, none⟩) hB _).setCell (p := ⟨b, 2, none⟩) hB _)
theorem Only.with {g b : Nat} {W w w' : World} (h : Only g W w) (hb : W.heap.size ≤ b) (ho : On (fun c => c ≠ b) w w') (hs : w'.heap.size = w.heap.size) (hB : ∀ B, B ≤ b → Below B w w') (hg : g < W.heap.size) : Only g W w' :=
  ⟨h.1.trans (ho.less fun c hc => by omega), by have := h.2.1; omega, fun B h2 => (h.2.2 B h2).trans (hB B (by omega))⟩
set_option maxRecDepth 100000 in
set_option maxHeartbeats 8000000 in
theorem step_find (L : List Sp.Ob) (g m : Nat) (x : Sp.Ob) (mm : Int) (vl : Value) (base : Int) (hops : Nat) (fence follow : Bool) (lb lo lc : Nat) (part : ByteArray) (rest : List ByteArray) (S T : Nat → Prop) (W : World) (hg : Blk W g (wkC vl base fence follow (m : Int) (.slice (some ⟨lb, lo, none⟩) (rest.length + 1) lc) hops) 80) (hv : Objs W S vl L) (hS : ∀ b, S b → b < W.heap.size ∧ b ≠ g) (hl : Row W T 1 (.slice (some ⟨lb, lo, none⟩) (rest.length + 1) lc) ((part :: rest).map tS)) (hT : ∀ b, T b → b < W.heap.size ∧ b ≠ g) (hx : L[m]? = some x) (hk : x.kind = 2) (hp : (part.toList == [46, 46]) = false) (h00 : W.cell? ⟨0, 0, none⟩ = some (.int .i64 mm)) (hg0 : g ≠ 0) (hn : rest.length ≤ 999) (hh : hops ≤ 6) (hsm : ∀ o ∈ L, o.target.size ≤ maxLen) (fd : Lk.Fd) (done : Bool) (err : Int) (st : Lk.St) (hres : Lk.one L base fence follow (m : Int) part rest hops = ⟨fd, done, err, st⟩) :
    Calls Tryd.prog 28 #[.pointer (some ⟨g, 0, none⟩)] W fun e w' => e = .returned (.tuple #[fdV fd.obj fd.dir fd.name, .bool done, .int .i64 err]) ∧ Only g W w' ∧ (done = false → err = 0 → ∃ v', Blk w' g (wkC vl base fence follow st.pos v' st.hops) 80 ∧ Row w' (fun b => b < w'.heap.size ∧ b ≠ g) 1 v' (st.left.map tS)) := by
  have HRES : Hid (Lk.one L base fence follow (m : Int) part rest hops = ⟨fd, done, err, st⟩) := hres
  have HUP : Hid (Lk.isUp part = false) := hp
  have HKK : Hid (Lk.isK L (m : Int) 2 = true) := by unfold Hid; rw [Lk.isK_nat hx, hk]; rfl
  have HSM : Hid (∀ o ∈ L, o.target.size ≤ maxLen) := hsm
  have H00 : Hid (∀ w', Only g W w' → w'.cell? ⟨0, 0, none⟩ = some (.int .i64 mm)) := fun w' h => by
    rw [h.1.cell (b := 0) ⟨by have := hg.lt; omega, fun e => hg0 e.symm⟩]; exact h00
  clear hres hsm h00
  have hK : Lk.isK L (m : Int) 2 = true := by rw [Lk.isK_nat hx, hk]; rfl
  have HD : Hid (∀ W', Below W.heap.size W W' → Calls Tryd.prog 31 #[vl, .int .i64 (m : Int)] W' fun e w' => e = .returned (.bool true) ∧ w' = W') := fun W' hW => by
    have := isDir_any L (m : Int) vl S W' (hv.on ((On.of hW).less fun b hb => (hS b hb).1))
    rw [hK] at this
    exact this
  have hgl := hg.lt
  have HG : Hid (Blk W g (wkC vl base fence follow (m : Int) (.slice (some ⟨lb, lo, none⟩) (rest.length + 1) lc) hops) 80) := hg
  have HV : Hid (Objs W S vl L) := hv
  have HS : Hid (∀ b, S b → b < W.heap.size ∧ b ≠ g) := hS
  have HLf : Hid (Row W T 1 (.slice (some ⟨lb, lo, none⟩) (rest.length + 1) lc) ((part :: rest).map tS)) := hl
  have HTf : Hid (∀ b, T b → b < W.heap.size ∧ b ≠ g) := hT
  have HX : Hid (L[m]? = some x) := hx
  obtain ⟨a, c, rfl, -⟩ := hv.form
  obtain ⟨b', o', c', he, hTb, hc3, hc4, h5⟩ := hl.some (by simp)
  obtain ⟨e1, -, rfl⟩ := Value.slice.inj he
  cases e1
  rw [List.length_map, List.length_cons] at hc3
  have l0 := h5 0 (tS part) rfl 0 _ rfl
  rw [Nat.zero_mul, Nat.add_zero] at l0
  have hlbl := (hT lb hTb).1
  have hlbg := (hT lb hTb).2
  have hlbg' : ¬ g = lb := fun h => hlbg h.symm
  unfold maxLen at hc4
  have g0 : W.cell? ⟨g, 0, none⟩ = some (.slice a L.length c) := hg.cell 0
  have g4 : W.cell? ⟨g, 4, none⟩ = some (.int .i64 (m : Int)) := hg.cell 4
  have g5 : W.cell? ⟨g, 5, none⟩ = some (.slice (some ⟨lb, lo, none⟩) (rest.length + 1) lc) := hg.cell 5
  have f5 : W.frozen? ⟨g, 5, none⟩ = false := hg.free 5
  have hcz : (1 : Int) ≤ (lc : Int) := by omega
  obtain ⟨A5, hA5⟩ : ∃ A5 : Addr, (if lc = 1 then some (⟨lb, lo, none⟩ : Addr) else some ⟨lb, lo + 1, none⟩) = some A5 := by split <;> exact ⟨_, rfl⟩
  have HTL : Hid (Row W T 1 (.slice (some A5) rest.length (lc - 1)) (rest.map tS)) := by
    have := row_tail hl
    rw [hA5] at this
    exact this
  have HB0 : Hid (Below W.heap.size W (W.alloc (.cells #[.int .i64 0, .int .i64 0, .string ⟨#[]⟩] 30))) := (Below.refl _ _).alloc (Nat.le_refl _) _
  have HK0 : Hid (Blk (W.alloc (.cells #[.int .i64 0, .int .i64 0, .string ⟨#[]⟩] 30)) W.heap.size #[.int .i64 0, .int .i64 0, .string ⟨#[]⟩] 30) := Blk.new W _ _
  have HG0 : Hid (Blk (W.alloc (.cells #[.int .i64 0, .int .i64 0, .string ⟨#[]⟩] 30)) g (wkC (.slice a L.length c) base fence follow (m : Int) (.slice (some ⟨lb, lo, none⟩) (rest.length + 1) lc) hops) 80) := hg.alloc _
  have c0 : (W.alloc (.cells #[.int .i64 0, .int .i64 0, .string ⟨#[]⟩] 30)).cell? ⟨g, 0, none⟩ = some (.slice a L.length c) := by rw [(On.alloc W _).cell hgl]; exact g0
  have c4 : (W.alloc (.cells #[.int .i64 0, .int .i64 0, .string ⟨#[]⟩] 30)).cell? ⟨g, 4, none⟩ = some (.int .i64 (m : Int)) := by rw [(On.alloc W _).cell hgl]; exact g4
  have c5 : (W.alloc (.cells #[.int .i64 0, .int .i64 0, .string ⟨#[]⟩] 30)).cell? ⟨g, 5, none⟩ = some (.slice (some ⟨lb, lo, none⟩) (rest.length + 1) lc) := by rw [(On.alloc W _).cell hgl]; exact g5
  have d0 : (W.alloc (.cells #[.int .i64 0, .int .i64 0, .string ⟨#[]⟩] 30)).cell? ⟨lb, lo, none⟩ = some (.string part) := by rw [(On.alloc W _).cell hlbl]; exact l0
  have u5 : (W.alloc (.cells #[.int .i64 0, .int .i64 0, .string ⟨#[]⟩] 30)).frozen? ⟨g, 5, none⟩ = false := HG0.out.free 5
  clear hg hv hS hl hT g0 g4 g5 f5 l0 h5 he hTb hK hx hk
  go_enter Tryd.func28, Tryd.ntmps28
  go_wp2_with fail
  generalize (W.alloc (.cells #[.int .i64 0, .int .i64 0, .string ⟨#[]⟩] 30)) = w0 at *
  go_region_held3 (fun w' => w'.cell? ⟨g, 0, none⟩ = some (.slice a L.length c) ∧ w'.cell? ⟨g, 4, none⟩ = some (.int .i64 (m : Int))) (go_keep) (first | (refine Calls.mono (HD.out _ HB0.out.drew) ?_; rintro e w2 ⟨rfl, rfl⟩; go_wp2_with fail))
  go_wp2_with fail
  go_region_held3 (fun w' => w'.cell? ⟨g, 5, none⟩ = some (.slice (some ⟨lb, lo, none⟩) (rest.length + 1) lc) ∧ w'.cell? ⟨lb, lo, none⟩ = some (.string part)) (go_keep) (fail)
  go_wp2_with fail
  clear hA5
  have hlt0 := HK0.out.lt
  have HG3 : Hid (Blk (w0.setCell ⟨g, 5, none⟩ (.slice (some A5) rest.length (lc - 1))).drew.drew g (wkC (.slice a L.length c) base fence follow (m : Int) (.slice (some A5) rest.length (lc - 1)) hops) 80) := HG0.out.set 5 _
  have HO3 : Hid (Only g W (w0.setCell ⟨g, 5, none⟩ (.slice (some A5) rest.length (lc - 1))).drew.drew) := ((Only.below hgl HB0.out).set 5 _).drew.drew
  have hK3 : Blk (w0.setCell ⟨g, 5, none⟩ (.slice (some A5) rest.length (lc - 1))).drew.drew W.heap.size #[.int .i64 0, .int .i64 0, .string ⟨#[]⟩] 30 := HK0.out.other (a := ⟨g, 5, none⟩) (by show W.heap.size ≠ g; omega) _
  have HK3 : Hid (Blk (w0.setCell ⟨g, 5, none⟩ (.slice (some A5) rest.length (lc - 1))).drew.drew W.heap.size #[.int .i64 0, .int .i64 0, .string ⟨#[]⟩] 30) := hK3
  clear c0 c4 c5 d0 u5 HG0 HB0 HK0 hK3
  generalize (w0.setCell ⟨g, 5, none⟩ (.slice (some A5) rest.length (lc - 1))).drew.drew = w3 at *
  have hB3 := HG3.out
  have m0 : w3.cell? ⟨g, 0, none⟩ = some (.slice a L.length c) := hB3.cell 0
  have m3 : w3.cell? ⟨g, 3, none⟩ = some (.bool follow) := hB3.cell 3
  have m4 : w3.cell? ⟨g, 4, none⟩ = some (.int .i64 (m : Int)) := hB3.cell 4
  have hgl3 := hB3.lt
  have HV3 : Hid (Objs w3 S (.slice a L.length c) L) := HV.out.on (HO3.out.1.less HS.out)
  have HS3 : Hid (∀ b, S b → b < w3.heap.size) := fun b hb => by have := (HS.out b hb).1; have := HO3.out.2.1; omega
  have HF : Hid (∀ W', Below w3.heap.size w3 W' → Calls Tryd.prog 35 #[.slice a L.length c, .int .i64 (m : Int), .string part] W' fun e w' => e = .returned (.int .i64 (Sp.find L (m : Int) part)) ∧ Below w3.heap.size w3 w' ∧ (w'.cell? ⟨g, 0, none⟩ = some (.slice a L.length c) ∧ w'.cell? ⟨g, 4, none⟩ = some (.int .i64 (m : Int)))) := fun W' hW' => by
    have h3 : Objs W' S (.slice a L.length c) L := HV3.out.on ((On.of hW').less HS3.out)
    refine (find_any L (m : Int) part (.slice a L.length c) S W' h3 (fun b hb => Nat.lt_of_lt_of_le (HS3.out b hb) hW'.size)).mono ?_
    rintro e w' ⟨rfl, hb⟩
    have hb' : Below w3.heap.size w3 w' := hW'.trans (hb.mono hW'.size)
    exact ⟨rfl, hb', by rw [hb'.cell hgl3]; exact m0, by rw [hb'.cell hgl3]; exact m4⟩
  have HB33 : Hid (Below w3.heap.size w3 w3.drew) := (Below.refl _ _).drew
  clear hB3
  go_region_held3 (fun w' => w'.cell? ⟨g, 0, none⟩ = some (.slice a L.length c) ∧ w'.cell? ⟨g, 4, none⟩ = some (.int .i64 (m : Int))) (go_keep) (first | (go_at_call 35; refine Calls.mono (HF.out _ HB33.out) ?_; rintro e w4 ⟨rfl, hb4, ⟨n0, n4⟩⟩; go_wp2_with fail))
  have hO4 : Only g W w4 := HO3.out.trans (Only.below hgl3 hb4)
  have HO4 : Hid (Only g W w4) := hO4
  have hB4 : Blk w4 g (wkC (.slice a L.length c) base fence follow (m : Int) (.slice (some A5) rest.length (lc - 1)) hops) 80 := HG3.out.below hb4 hgl3
  have HB4 : Hid (Blk w4 g (wkC (.slice a L.length c) base fence follow (m : Int) (.slice (some A5) rest.length (lc - 1)) hops) 80) := hB4
  have HV4 : Hid (Objs w4 S (.slice a L.length c) L) := HV.out.on (hO4.1.less HS.out)
  have HT4 : Hid (Row w4 T 1 (.slice (some A5) rest.length (lc - 1)) (rest.map tS)) := Row.on HTL.out (hO4.1.less HTf.out)
  have hK4 : Blk w4 W.heap.size #[.int .i64 0, .int .i64 0, .string ⟨#[]⟩] 30 := HK3.out.below hb4 HK3.out.lt
  have HK4 : Hid (Blk w4 W.heap.size #[.int .i64 0, .int .i64 0, .string ⟨#[]⟩] 30) := hK4
  have q3 : w4.cell? ⟨g, 3, none⟩ = some (.bool follow) := hB4.cell 3
  have f4 : w4.frozen? ⟨g, 4, none⟩ = false := hB4.free 4
  have r0 := hK4.cell 0
  have r1 := hK4.cell 1
  have r2 := hK4.cell 2
  have z0 := hK4.free 0
  have z1 := hK4.free 1
  have z2 := hK4.free 2
  have hlt4 := hK4.lt
  have hgl4 := hB4.lt
  have HNG : Hid (W.heap.size ≠ g) := by unfold Hid; omega
  clear hb4 hO4 hB4 hK4 HB33 HF HG3 HO3 HK3 HV3 HS3 m0 m3 m4 HTL HG HD hgl3
  have HIK : Hid (∀ k, Calls Tryd.prog 36 #[.slice a L.length c, .int .i64 k, .int .i64 3] w4 fun e w' => e = .returned (.bool (Lk.isK L k 3)) ∧ w' = w4) := fun k => isKind_any L k 3 _ S w4 HV4.out
  have HEQ : Hid (((rest.length : Int) + 1 == 1) = decide (rest = [])) := by
    cases rest with
    | nil => rfl
    | cons y t => simp [Hid]; omega
  cases hk3 : Lk.isK L (Sp.find L (m : Int) part) 3 with
  | false =>
    have HIK' : Hid (Calls Tryd.prog 36 #[.slice a L.length c, .int .i64 (Sp.find L (m : Int) part), .int .i64 3] w4 fun e w' => e = .returned (.bool false) ∧ w' = w4) := by have := HIK.out (Sp.find L (m : Int) part); rw [hk3] at this; exact this
    have HK3 : Hid (Lk.isK L (Sp.find L (m : Int) part) 3 = false) := hk3
    clear HIK hk3
    by_cases hr : rest = []
    · subst hr
      have h := HRES.out
      rw [Lk.one_last HKK.out HUP.out (Or.inl HK3.out)] at h
      obtain ⟨rfl, rfl, rfl, rfl⟩ := Lk.Res.mk.inj h
      clear h HRES
      go_wp2_with fail
      refine Calls.mono HIK'.out ?_
      rintro e w5 ⟨rfl, hw5⟩
      rw [hw5]
      clear hw5
      go_wp2
      generalize hW : ((w4.setCell ⟨W.heap.size, 0, none⟩ (.int .i64 (Sp.find L (m : Int) part))).setCell ⟨W.heap.size, 1, none⟩ (.int .i64 (m : Int))).setCell ⟨W.heap.size, 2, none⟩ (.string part) = W9
      obtain ⟨hb9, ho9, hs9, hB9⟩ := fd_cells HK4.out (Sp.find L (m : Int) part) (m : Int) part hW
      have hc9 := hb9.cell
      exact bodyPost_ret (v := .tuple #[.agg #[.int .i64 (Sp.find L (m : Int) part), .int .i64 (m : Int), .string part], .bool true, .int .i64 0]) (by simp [results, Tryd.results28, go_sem, hc9]) rfl ⟨rfl, HO4.out.with (Nat.le_refl _) ho9 hs9 hB9 hgl⟩
    · have hne : ((rest.length : Int) + 1 == 1) = false := by rw [HEQ.out]; simp [hr]
      by_cases hlt : Sp.find L (m : Int) part < 0
      · have h := HRES.out
        rw [Lk.one_none HKK.out HUP.out HK3.out hr hlt] at h
        obtain ⟨rfl, rfl, rfl, rfl⟩ := Lk.Res.mk.inj h
        clear h HRES hr
        go_wp2_with fail
        refine Calls.mono HIK'.out ?_
        rintro e w5 ⟨rfl, hw5⟩
        rw [hw5]
        clear hw5
        go_wp2
        generalize hW : ((w4.setCell ⟨W.heap.size, 0, none⟩ (.int .i64 0)).setCell ⟨W.heap.size, 1, none⟩ (.int .i64 0)).setCell ⟨W.heap.size, 2, none⟩ (.string ⟨#[]⟩) = W9
        obtain ⟨hb9, ho9, hs9, hB9⟩ := fd_cells HK4.out 0 0 ⟨#[]⟩ hW
        have hc9 := hb9.cell
        exact bodyPost_ret (v := .tuple #[.agg #[.int .i64 0, .int .i64 0, .string ⟨#[]⟩], .bool false, .int .i64 6]) (by simp [results, Tryd.results28, go_sem, hc9]) rfl ⟨rfl, HO4.out.with (Nat.le_refl _) ho9 hs9 hB9 hgl⟩
      · have h := HRES.out
        rw [Lk.one_go HKK.out HUP.out HK3.out hr hlt] at h
        obtain ⟨rfl, rfl, rfl, rfl⟩ := Lk.Res.mk.inj h
        clear h HRES hr
        have HB5 : Hid (Blk (w4.setCell ⟨g, 4, none⟩ (.int .i64 (Sp.find L (m : Int) part))) g (wkC (.slice a L.length c) base fence follow (Sp.find L (m : Int) part) (.slice (some A5) rest.length (lc - 1)) hops) 80) := HB4.out.set 4 _
        have HO5 : Hid (Only g W (w4.setCell ⟨g, 4, none⟩ (.int .i64 (Sp.find L (m : Int) part)))) := HO4.out.set 4 _
        have hK5 : Blk (w4.setCell ⟨g, 4, none⟩ (.int .i64 (Sp.find L (m : Int) part))) W.heap.size #[.int .i64 0, .int .i64 0, .string ⟨#[]⟩] 30 := HK4.out.other (a := ⟨g, 4, none⟩) HNG.out _
        have HK5 : Hid (Blk (w4.setCell ⟨g, 4, none⟩ (.int .i64 (Sp.find L (m : Int) part))) W.heap.size #[.int .i64 0, .int .i64 0, .string ⟨#[]⟩] 30) := hK5
        clear hK5
        go_wp2_with fail
        refine Calls.mono HIK'.out ?_
        rintro e w5 ⟨rfl, hw5⟩
        rw [hw5]
        clear hw5
        go_wp2
        generalize hW5 : w4.setCell ⟨g, 4, none⟩ (.int .i64 (Sp.find L (m : Int) part)) = w5 at *
        generalize hW : ((w5.setCell ⟨W.heap.size, 0, none⟩ (.int .i64 0)).setCell ⟨W.heap.size, 1, none⟩ (.int .i64 0)).setCell ⟨W.heap.size, 2, none⟩ (.string ⟨#[]⟩) = W9
        obtain ⟨hb9, ho9, hs9, hB9⟩ := fd_cells HK5.out 0 0 ⟨#[]⟩ hW
        have hc9 := hb9.cell
        exact bodyPost_ret (v := .tuple #[.agg #[.int .i64 0, .int .i64 0, .string ⟨#[]⟩], .bool false, .int .i64 0]) (by simp [results, Tryd.results28, go_sem, hc9]) rfl ⟨rfl, HO5.out.with (Nat.le_refl _) ho9 hs9 hB9 hgl, ⟨_, HB5.out.on ho9 HNG.out.symm, Row.more (Row.on HT4.out (On.trans (by rw [← hW5]; exact (On.set w4 ⟨g, 4, none⟩ _).less fun b hb => (HTf.out b hb).2) (ho9.less fun b hb => by have := (HTf.out b hb).1; omega))) fun b hb => ⟨by have := (HTf.out b hb).1; have := HO5.out.2.1; omega, (HTf.out b hb).2⟩⟩⟩
  | true =>
    obtain ⟨n, y, hkn, hy, hyk⟩ := Lk.isK_some hk3
    have HIK' : Hid (Calls Tryd.prog 36 #[.slice a L.length c, .int .i64 (n : Int), .int .i64 3] w4 fun e w' => e = .returned (.bool true) ∧ w' = w4) := by have := HIK.out (Sp.find L (m : Int) part); rw [hk3, hkn] at this; exact this
    have HK3 : Hid (Lk.isK L (Sp.find L (m : Int) part) 3 = true) := hk3
    have HTG : Hid (Lk.trg L (Sp.find L (m : Int) part) = y.target) := by unfold Hid Lk.trg; rw [hkn, Int.toNat_natCast, hy]
    by_cases hlk : follow = true ∨ rest ≠ []
    · have h := HRES.out
      rw [Lk.one_link HKK.out HUP.out HK3.out hlk, HTG.out] at h
      obtain ⟨rfl, rfl, rfl, rfl⟩ := Lk.Res.mk.inj h
      have HTH : Hid (Calls Tryd.prog 37 #[.pointer (some ⟨g, 0, none⟩), .string y.target] w4 _) := through_any y.target mm (HSM.out y (List.mem_of_getElem? hy)) g (.slice a L.length c) (.slice (some A5) rest.length (lc - 1)) base (m : Int) hops fence follow rest T w4 HB4.out (H00.out w4 HO4.out) hg0 HT4.out (fun b hb => ⟨by have := (HTf.out b hb).1; have := HO4.out.2.1; omega, (HTf.out b hb).2⟩) (by omega) hh
      obtain ⟨vb, vo, vc, vs, he, hVb, hc1, hcm, -, -, -, -, k3t, -⟩ := HV4.out.open hy
      obtain ⟨rfl, -, rfl⟩ := Value.slice.inj he
      have hnl := (List.getElem?_eq_some_iff.1 hy).1
      unfold maxLen at hcm
      have q0 : w4.cell? ⟨g, 0, none⟩ = some (.slice (some ⟨vb, vo, none⟩) L.length c) := n0
      have f0 := HTH
      clear h HRES he hy hyk hk3 HIK n0 f0
      rw [hkn]
      clear hkn
      cases follow with
      | true =>
        go_wp2_with fail
        refine Calls.mono HIK'.out ?_
        rintro e w5 ⟨rfl, hw5⟩
        rw [hw5]
        clear hw5
        go_wp2_with fail
        refine Calls.mono HTH.out ?_
        rintro e w6 ⟨rfl, ho6, hcase⟩
        have HO6 : Hid (Only g W w6) := HO4.out.trans ho6
        have hK6 : Blk w6 W.heap.size #[.int .i64 0, .int .i64 0, .string ⟨#[]⟩] 30 := HK4.out.on ho6.1 ⟨HK4.out.lt, HNG.out⟩
        have HK6 : Hid (Blk w6 W.heap.size #[.int .i64 0, .int .i64 0, .string ⟨#[]⟩] 30) := hK6
        have HC6 : Hid _ := hcase
        have HL4 : Hid (W.heap.size < w4.heap.size) := hlt4
        clear r0 r1 r2 z0 z1 z2 hlt4
        have r0 := hK6.cell 0
        have r1 := hK6.cell 1
        have r2 := hK6.cell 2
        have z0 := hK6.free 0
        have z1 := hK6.free 1
        have z2 := hK6.free 2
        have hlt6 := hK6.lt
        clear ho6 hcase hK6 HTH HIK' q0 q3 f4 k3t
        go_wp2
        generalize hW : ((w6.setCell ⟨W.heap.size, 0, none⟩ (.int .i64 0)).setCell ⟨W.heap.size, 1, none⟩ (.int .i64 0)).setCell ⟨W.heap.size, 2, none⟩ (.string ⟨#[]⟩) = W9
        obtain ⟨hb9, ho9, hs9, hB9⟩ := fd_cells HK6.out 0 0 ⟨#[]⟩ hW
        have hc9 := hb9.cell
        refine bodyPost_ret (v := .tuple #[.agg #[.int .i64 0, .int .i64 0, .string ⟨#[]⟩], .bool false, .int .i64 (Lk.throughE y.target fence hops)]) (by simp [results, Tryd.results28, go_sem, hc9]) rfl ⟨rfl, HO6.out.with (Nat.le_refl _) ho9 hs9 hB9 hgl, fun h => ?_⟩
        obtain ⟨v', h1, h2⟩ := HC6.out h
        rw [List.map_append] at h2
        exact ⟨v', h1.on ho9 HNG.out.symm, Row.more (Row.on h2 (ho9.less fun b hb => by have := hb.1; have := HL4.out; omega)) fun b hb => ⟨by have := hb.2; omega, by have := hb.1; have := HO4.out.2.1; have := HL4.out; omega⟩⟩
      | false =>
        have hr : rest ≠ [] := by rcases hlk with h | h; exact absurd h (by decide); exact h
        have hne : ((rest.length : Int) + 1 == 1) = false := by rw [HEQ.out]; simp [hr]
        clear hlk hr
        go_wp2_with fail
        refine Calls.mono HIK'.out ?_
        rintro e w5 ⟨rfl, hw5⟩
        rw [hw5]
        clear hw5
        go_wp2_with fail
        refine Calls.mono HTH.out ?_
        rintro e w6 ⟨rfl, ho6, hcase⟩
        have HO6 : Hid (Only g W w6) := HO4.out.trans ho6
        have hK6 : Blk w6 W.heap.size #[.int .i64 0, .int .i64 0, .string ⟨#[]⟩] 30 := HK4.out.on ho6.1 ⟨HK4.out.lt, HNG.out⟩
        have HK6 : Hid (Blk w6 W.heap.size #[.int .i64 0, .int .i64 0, .string ⟨#[]⟩] 30) := hK6
        have HC6 : Hid _ := hcase
        have HL4 : Hid (W.heap.size < w4.heap.size) := hlt4
        clear r0 r1 r2 z0 z1 z2 hlt4
        have r0 := hK6.cell 0
        have r1 := hK6.cell 1
        have r2 := hK6.cell 2
        have z0 := hK6.free 0
        have z1 := hK6.free 1
        have z2 := hK6.free 2
        have hlt6 := hK6.lt
        clear ho6 hcase hK6 HTH HIK' q0 q3 f4 k3t
        go_wp2
        generalize hW : ((w6.setCell ⟨W.heap.size, 0, none⟩ (.int .i64 0)).setCell ⟨W.heap.size, 1, none⟩ (.int .i64 0)).setCell ⟨W.heap.size, 2, none⟩ (.string ⟨#[]⟩) = W9
        obtain ⟨hb9, ho9, hs9, hB9⟩ := fd_cells HK6.out 0 0 ⟨#[]⟩ hW
        have hc9 := hb9.cell
        refine bodyPost_ret (v := .tuple #[.agg #[.int .i64 0, .int .i64 0, .string ⟨#[]⟩], .bool false, .int .i64 (Lk.throughE y.target fence hops)]) (by simp [results, Tryd.results28, go_sem, hc9]) rfl ⟨rfl, HO6.out.with (Nat.le_refl _) ho9 hs9 hB9 hgl, fun h => ?_⟩
        obtain ⟨v', h1, h2⟩ := HC6.out h
        rw [List.map_append] at h2
        exact ⟨v', h1.on ho9 HNG.out.symm, Row.more (Row.on h2 (ho9.less fun b hb => by have := hb.1; have := HL4.out; omega)) fun b hb => ⟨by have := hb.2; omega, by have := hb.1; have := HO4.out.2.1; have := HL4.out; omega⟩⟩
    · have hf : follow = false := by cases follow with | false => rfl | true => exact absurd (Or.inl rfl) hlk
      have hr : rest = [] := Classical.byContradiction fun h => hlk (Or.inr h)
      subst hr
      subst hf
      have h := HRES.out
      rw [Lk.one_last HKK.out HUP.out (Or.inr rfl)] at h
      obtain ⟨rfl, rfl, rfl, rfl⟩ := Lk.Res.mk.inj h
      clear h HRES hk3 hlk HTG HK3
      have HKN : Hid (Sp.find L (m : Int) part = (n : Int)) := hkn
      rw [hkn]
      clear hkn
      go_wp2_with fail
      refine Calls.mono HIK'.out ?_
      rintro e w5 ⟨rfl, hw5⟩
      rw [hw5]
      clear hw5
      go_wp2
      generalize hW : ((w4.setCell ⟨W.heap.size, 0, none⟩ (.int .i64 (n : Int))).setCell ⟨W.heap.size, 1, none⟩ (.int .i64 (m : Int))).setCell ⟨W.heap.size, 2, none⟩ (.string part) = W9
      obtain ⟨hb9, ho9, hs9, hB9⟩ := fd_cells HK4.out (n : Int) (m : Int) part hW
      have hc9 := hb9.cell
      exact bodyPost_ret (v := .tuple #[.agg #[.int .i64 (n : Int), .int .i64 (m : Int), .string part], .bool true, .int .i64 0]) (by simp [results, Tryd.results28, go_sem, hc9]) rfl ⟨by rw [HKN.out]; rfl, HO4.out.with (Nat.le_refl _) ho9 hs9 hB9 hgl⟩
end Go.Proofs.YtfiiandnopifnaaDoor
/-
  look's walk: step, in all cases.
-/
namespace Go.Proofs.YtfiiandnopifnaaDoor
open Go.RowKit
/-- A walk lies there: where it stands, what is left. -/
def Wk (w : World) (g : Nat) (T : Nat → Prop) (vl : Value) (base : Int) (fence follow : Bool) (st : Lk.St) : Prop :=
  ∃ v, Blk w g (wkC vl base fence follow st.pos v st.hops) 80 ∧ Row w T 1 v (st.left.map tS)
theorem step_any (L : List Sp.Ob) (hTr : Lk.Tree L) (g : Nat) (mm : Int) (vl : Value) (base pos : Int) (fence follow : Bool) (part : ByteArray) (rest : List ByteArray) (hops : Nat) (S : Nat → Prop) (W : World) (hg : Wk W g (fun b => b < W.heap.size ∧ b ≠ g) vl base fence follow ⟨pos, part :: rest, hops⟩) (hv : Objs W S vl L) (hS : ∀ b, S b → b < W.heap.size ∧ b ≠ g) (h00 : W.cell? ⟨0, 0, none⟩ = some (.int .i64 mm)) (hg0 : g ≠ 0) (hn : rest.length ≤ 999) (hh : hops ≤ 6) :
    Calls Tryd.prog 28 #[.pointer (some ⟨g, 0, none⟩)] W fun e w' => e = .returned (.tuple #[fdV (Lk.one L base fence follow pos part rest hops).fd.obj (Lk.one L base fence follow pos part rest hops).fd.dir (Lk.one L base fence follow pos part rest hops).fd.name, .bool (Lk.one L base fence follow pos part rest hops).done, .int .i64 (Lk.one L base fence follow pos part rest hops).err]) ∧ Only g W w' ∧ ((Lk.one L base fence follow pos part rest hops).done = false → (Lk.one L base fence follow pos part rest hops).err = 0 → Wk w' g (fun b => b < w'.heap.size ∧ b ≠ g) vl base fence follow (Lk.one L base fence follow pos part rest hops).st) := by
  obtain ⟨v, hb, hr⟩ := hg
  dsimp only at hb hr
  obtain ⟨lb, lo, lc, rfl, hlT, -, -, -⟩ := hr.some (by simp)
  rw [List.length_map, List.length_cons] at hb hr
  have hgl := hb.lt
  by_cases c1 : Lk.isK L pos 2 = false
  · have e1 : Lk.one L base fence follow pos part rest hops = ⟨Lk.nilF, false, 11, ⟨pos, rest, hops⟩⟩ := if_pos c1
    rw [e1]
    refine (step_nodir L g vl base pos hops fence follow lb lo lc part rest S _ W hb hv hS hr (fun b h => h) c1).mono ?_
    rintro e w' ⟨rfl, hB⟩
    exact ⟨rfl, Only.below hgl hB, fun _ h => absurd h (show ¬ ((11 : Int) = 0) by decide)⟩
  · have c1' : Lk.isK L pos 2 = true := by cases h : Lk.isK L pos 2 with | true => rfl | false => exact absurd h c1
    obtain ⟨m, x, rfl, hx, hk⟩ := Lk.isK_some c1'
    by_cases c2 : Lk.isUp part = true
    · have e1 : Lk.one L base fence follow (m : Int) part rest hops = ⟨Lk.nilF, false, riseE base fence (m : Int), ⟨riseA base fence (m : Int) x.up, rest, hops⟩⟩ := by
        unfold Lk.one
        rw [if_neg c1, if_pos c2, Lk.upOf_nat hx]
      rw [e1]
      refine (step_up L g m x vl base hops fence follow lb lo lc part rest S _ W hb hv hS hr (fun b h => h) hx hk c2).mono ?_
      rintro e w' ⟨rfl, ho, v5, hb5, hr5⟩
      exact ⟨rfl, ho, fun _ _ => ⟨v5, hb5, Row.more hr5 fun b h => ⟨by have := ho.2.1; omega, h.2⟩⟩⟩
    · have c2' : (part.toList == [46, 46]) = false := by cases h : (part.toList == [46, 46]) with | false => rfl | true => exact absurd h c2
      refine (step_find L g m x mm vl base hops fence follow lb lo lc part rest S _ W hb hv hS hr (fun b h => h) hx hk c2' h00 hg0 hn hh hTr.small _ _ _ _ rfl).mono ?_
      rintro e w' ⟨rfl, ho, h⟩
      exact ⟨rfl, ho, h⟩
end Go.Proofs.YtfiiandnopifnaaDoor
/-
  look.Path, walked.
-/
namespace Go.Proofs.YtfiiandnopifnaaDoor
open Go.RowKit
/-- What is left to go, as it lies in the walk's cells. -/
def wkMu (g : Nat) (w : World) : Nat := match w.cell? ⟨g, 6, none⟩, w.cell? ⟨g, 5, none⟩ with
  | some (.int _ h), some (.slice _ n _) => (6 - h.toNat) * 62 + n
  | _, _ => 0
theorem wkMu_of {w : World} {g : Nat} {T : Nat → Prop} {vl : Value} {base : Int} {fence follow : Bool} {st : Lk.St} (h : Wk w g T vl base fence follow st) : wkMu g w = Lk.mu st := by
  obtain ⟨v, hb, hr⟩ := h
  obtain ⟨a, c, rfl, _⟩ := hr.form
  have h6 : w.cell? ⟨g, 6, none⟩ = some (.int .i64 (st.hops : Int)) := hb.cell 6
  have h5 : w.cell? ⟨g, 5, none⟩ = some (.slice a (st.left.map tS).length c) := hb.cell 5
  unfold wkMu Lk.mu
  rw [h6, h5, List.length_map]
  rfl
namespace Lk
theorem go_step {L : List Sp.Ob} {base : Int} {fence follow : Bool} {pos : Int} {part : ByteArray} {rest : List ByteArray} {hops : Nat} (hh : hops ≤ 6) (hm : mu ⟨pos, part :: rest, hops⟩ < 1000) (hd : (one L base fence follow pos part rest hops).done = false) (he : (one L base fence follow pos part rest hops).err = 0) : go L base fence follow 1000 ⟨pos, part :: rest, hops⟩ = go L base fence follow 1000 (one L base fence follow pos part rest hops).st := by
  obtain ⟨h1, h2⟩ := one_less hh he
  have e : go L base fence follow 1000 ⟨pos, part :: rest, hops⟩ = go L base fence follow 999 (one L base fence follow pos part rest hops).st := by
    show (if _ then _ else _) = _
    exact if_neg (by rw [hd, he]; decide)
  rw [e]
  exact go_more _ _ _ h1 (by omega) (by omega)
theorem go_stop {L : List Sp.Ob} {base : Int} {fence follow : Bool} {pos : Int} {part : ByteArray} {rest : List ByteArray} {hops : Nat} (h : (one L base fence follow pos part rest hops).done = true ∨ (one L base fence follow pos part rest hops).err ≠ 0) : go L base fence follow 1000 ⟨pos, part :: rest, hops⟩ = ((one L base fence follow pos part rest hops).fd, (one L base fence follow pos part rest hops).err) := if_pos h
theorem path_base {L : List Sp.Ob} {base : Int} {s : ByteArray} {fence follow : Bool} (h : Sp.noDir L base ≠ 0) : path L base s fence follow = (nilF, Sp.noDir L base) := if_pos h
theorem path_turn {L : List Sp.Ob} {base : Int} {s : ByteArray} {fence follow : Bool} (h : Sp.noDir L base = 0) (h2 : turnE s fence ≠ 0) : path L base s fence follow = (nilF, turnE s fence) := by
  unfold path
  rw [if_neg (by rw [h]; decide), if_pos h2]
theorem path_go {L : List Sp.Ob} {base : Int} {s : ByteArray} {fence follow : Bool} (h : Sp.noDir L base = 0) (h2 : turnE s fence = 0) : path L base s fence follow = go L base fence follow 1000 ⟨turnA s base, partsB s, 0⟩ := by
  unfold path
  rw [if_neg (by rw [h]; decide), if_neg (by rw [h2]; decide)]
theorem start_stand {L : List Sp.Ob} (hT : Tree L) {base : Int} (s : ByteArray) (h : Sp.noDir L base = 0) : Stand L ⟨turnA s base, partsB s, 0⟩ := by
  obtain ⟨n, o, rfl, hx, hk, _⟩ := noDir_zero h
  have hu : isK L (turnA s (n : Int)) 2 = true := by
    unfold turnA
    split
    · exact hT.root
    · rw [isK_nat hx, hk]; rfl
  exact ⟨isK_stand hu, fun _ => hu⟩
end Lk
/-- Where Path stands in its loop. -/
def LkPI (L : List Sp.Ob) (g : Nat) (W1 : World) (vl : Value) (base : Int) (fence follow : Bool) (r : Lk.Fd × Int) (wr : World) : Prop :=
  ∃ st : Lk.St, Wk wr g (fun b => b < wr.heap.size ∧ b ≠ g) vl base fence follow st ∧ Only g W1 wr ∧ st.hops ≤ 6 ∧ Lk.mu st < 1000 ∧ Lk.Stand L st ∧ r = Lk.go L base fence follow 1000 st
set_option maxRecDepth 100000 in
set_option maxHeartbeats 8000000 in
theorem path_any (L : List Sp.Ob) (hTr : Lk.Tree L) (s : ByteArray) (mm : Int) (hs : s.size ≤ maxLen) (vl : Value) (base : Int) (fence follow : Bool) (S : Nat → Prop) (W : World) (hv : Objs W S vl L) (hS : ∀ b, S b → b < W.heap.size) (h00 : W.cell? ⟨0, 0, none⟩ = some (.int .i64 mm)) (hW0 : 0 < W.heap.size) :
    Calls Tryd.prog 9 #[vl, .int .i64 base, .string s, .bool fence, .bool follow] W fun e w' => e = .returned (.tuple #[fdV (Lk.path L base s fence follow).1.obj (Lk.path L base s fence follow).1.dir (Lk.path L base s fence follow).1.name, .int .i64 (Lk.path L base s fence follow).2]) ∧ Below W.heap.size W w' := by
  have hB0 : Below W.heap.size W (W.alloc (.cells #[.int .i64 0, .int .i64 0, .string ⟨#[]⟩] 30)) := (Below.refl _ _).alloc (Nat.le_refl _) _
  have hK0 : Blk (W.alloc (.cells #[.int .i64 0, .int .i64 0, .string ⟨#[]⟩] 30)) W.heap.size #[.int .i64 0, .int .i64 0, .string ⟨#[]⟩] 30 := Blk.new W _ _
  obtain ⟨w0, hw0⟩ : ∃ w0, w0 = (W.alloc (.cells #[.int .i64 0, .int .i64 0, .string ⟨#[]⟩] 30)) := ⟨_, rfl⟩
  rw [← hw0] at hB0 hK0
  have hs0 : w0.heap.size = W.heap.size + 1 := by rw [hw0]; simp
  have HW : Hid (w0 = (W.alloc (.cells #[.int .i64 0, .int .i64 0, .string ⟨#[]⟩] 30))) := hw0
  clear hw0
  have hv0 : Objs w0 S vl L := hv.on ((On.of hB0).less hS)
  have HNB : Hid (Calls Tryd.prog 26 #[vl, .int .i64 base] w0 fun e w' => e = .returned (.int .i64 (Sp.noDir L base)) ∧ w' = w0) := noBase_any L base vl S w0 hv0
  have HB0 : Hid (Below W.heap.size W w0) := hB0
  have HK0 : Hid (Blk w0 W.heap.size #[.int .i64 0, .int .i64 0, .string ⟨#[]⟩] 30) := hK0
  have HV0 : Hid (Objs w0 S vl L) := hv0
  have HS : Hid (∀ b, S b → b < W.heap.size) := hS
  have H00 : Hid (∀ w', Below W.heap.size W w' → w'.cell? ⟨0, 0, none⟩ = some (.int .i64 mm)) := fun w' h => by rw [h.cell (p := ⟨0, 0, none⟩) hW0]; exact h00
  have HTr : Hid (Lk.Tree L) := hTr
  have HW0 : Hid (0 < W.heap.size) := hW0
  obtain ⟨a, c, rfl, -⟩ := hv.form
  have r0 := hK0.cell 0
  have r1 := hK0.cell 1
  have r2 := hK0.cell 2
  have z0 := hK0.free 0
  have z1 := hK0.free 1
  have z2 := hK0.free 2
  clear hB0 hK0 hv hv0 hS h00 hTr hW0
  by_cases hn : Sp.noDir L base = 0
  · by_cases ht : Lk.turnE s fence = 0
    · have hRR : ∃ R, R = Lk.path L base s fence follow := ⟨_, rfl⟩
      obtain ⟨R, hR⟩ := hRR
      rw [← hR]
      have HR : Hid (R = Lk.go L base fence follow 1000 ⟨Lk.turnA s base, partsB s, 0⟩) := hR.trans (Lk.path_go hn ht)
      have HST : Hid (Lk.Stand L ⟨Lk.turnA s base, partsB s, 0⟩) := Lk.start_stand HTr.out s hn
      rw [hn] at HNB
      obtain ⟨⟨fo, fd, fn⟩, er⟩ := R
      have HPL : Hid ((partsB s).length ≤ 61) := partsB_len s (Lk.turnE_split ht)
      have hB1 : Below W.heap.size W (w0.alloc (.cells (wkC (.slice a L.length c) base fence follow base (.slice none 0 0) 0) 80)) := HB0.out.alloc (by omega) _
      have hK1 : Blk (w0.alloc (.cells (wkC (.slice a L.length c) base fence follow base (.slice none 0 0) 0) 80)) W.heap.size #[.int .i64 0, .int .i64 0, .string ⟨#[]⟩] 30 := HK0.out.alloc _
      have hG1 : Blk (w0.alloc (.cells (wkC (.slice a L.length c) base fence follow base (.slice none 0 0) 0) 80)) w0.heap.size (wkC (.slice a L.length c) base fence follow base (.slice none 0 0) 0) 80 := Blk.new w0 _ _
      have HTU : Hid (Calls Tryd.prog 27 #[.pointer (some ⟨w0.heap.size, 0, none⟩), .string s] (w0.alloc (.cells (wkC (.slice a L.length c) base fence follow base (.slice none 0 0) 0) 80)) _) := turn_any s mm hs w0.heap.size (.slice a L.length c) (.slice none 0 0) base base 0 fence follow [] (fun _ => False) _ hG1 (H00.out _ hB1) (Row.nil _ _ _ _ _) (fun b hb => absurd hb id) (Nat.zero_le _)
      have HT0 : Hid (Lk.turnE s fence = 0) := ht
      rw [ht, hs0] at HTU
      rw [hs0] at hG1
      have HB1 : Hid (Below W.heap.size W (w0.alloc (.cells #[.slice a L.length c, .int .i64 base, .bool fence, .bool follow, .int .i64 base, .slice none 0 0, .int .i64 0] 80))) := hB1
      have HK1 : Hid (Blk (w0.alloc (.cells #[.slice a L.length c, .int .i64 base, .bool fence, .bool follow, .int .i64 base, .slice none 0 0, .int .i64 0] 80)) W.heap.size #[.int .i64 0, .int .i64 0, .string ⟨#[]⟩] 30) := hK1
      have HZ1 : Hid ((w0.alloc (.cells #[.slice a L.length c, .int .i64 base, .bool fence, .bool follow, .int .i64 base, .slice none 0 0, .int .i64 0] 80)).heap.size = W.heap.size + 2) := by unfold Hid; simp; omega
      have HV1 : Hid (Objs (w0.alloc (.cells #[.slice a L.length c, .int .i64 base, .bool fence, .bool follow, .int .i64 base, .slice none 0 0, .int .i64 0] 80)) S (.slice a L.length c) L) := HV0.out.on ((On.alloc w0 _).less fun b hb => by have := HS.out b hb; omega)
      clear hB1 hK1 hG1 hR hn ht r0 r1 r2 z0 z1 z2
      unfold wkC at HTU
      unfold fdV
      go_enter Tryd.func9, Tryd.ntmps9
      go_wp2_with fail
      rw [← HW.out]
      refine Calls.mono HNB.out ?_
      rintro e w1 ⟨rfl, hw1⟩
      rw [hw1]
      clear hw1 HNB
      go_wp2_with fail
      generalize (w0.alloc (.cells #[.slice a L.length c, .int .i64 base, .bool fence, .bool follow, .int .i64 base, .slice none 0 0, .int .i64 0] 80)) = W1 at *
      refine Calls.mono HTU.out ?_
      rintro e w2 ⟨rfl, ho2, hcase⟩
      have HPI : Hid (LkPI L (W.heap.size + 1) W1 (.slice a L.length c) base fence follow (⟨fo, fd, fn⟩, er) w2) := by
        rcases hcase with ⟨h, -⟩ | ⟨-, v', h1, h2⟩
        · exact absurd rfl h
        · rw [List.append_nil] at h2
          refine ⟨⟨Lk.turnA s base, partsB s, 0⟩, ⟨v', h1, Row.more h2 fun b hb => ⟨hb.2, by have := hb.1; have := HZ1.out; omega⟩⟩, ho2, Nat.zero_le _, ?_, HST.out, HR.out⟩
          have := HPL.out
          unfold Lk.mu
          dsimp only
          omega
      clear ho2 hcase HTU HST HR HPL
      go_wp2_with fail
      go_loopw [17] (fun _ wr => LkPI L (W.heap.size + 1) W1 (.slice a L.length c) base fence follow (⟨fo, fd, fn⟩, er) wr) (fun _ wr => wkMu (W.heap.size + 1) wr)
      case atStart => exact HPI.out
      case round =>
        clear HPI
        obtain ⟨⟨pos, left, hops⟩, hwk, ho, hh, hmu, hst, hr⟩ := hrel
        dsimp only at hh
        have HMU := wkMu_of hwk
        have HWK : Hid _ := hwk
        have HO : Hid (Only (W.heap.size + 1) W1 wr) := ho
        have HH : Hid (hops ≤ 6) := hh
        have HM : Hid (Lk.mu ⟨pos, left, hops⟩ < 1000) := hmu
        have HSTD : Hid (Lk.Stand L ⟨pos, left, hops⟩) := hst
        have HR : Hid _ := hr
        have HV : Hid (Objs wr S (.slice a L.length c) L) := HV1.out.on (ho.1.less fun b hb => by have := HS.out b hb; have := HZ1.out; omega)
        have hKr : Blk wr W.heap.size #[.int .i64 0, .int .i64 0, .string ⟨#[]⟩] 30 := HK1.out.on ho.1 ⟨HK1.out.lt, by omega⟩
        have HKr : Hid (Blk wr W.heap.size #[.int .i64 0, .int .i64 0, .string ⟨#[]⟩] 30) := hKr
        have HSZ : Hid (W.heap.size + 2 ≤ wr.heap.size) := by unfold Hid; have := ho.2.1; have := HZ1.out; omega
        have HC0 : Hid (wr.cell? ⟨0, 0, none⟩ = some (.int .i64 mm)) := by
          refine H00.out wr ?_
          exact HB1.out.trans ((ho.2.2 W.heap.size (by omega)))
        cases left with
        | nil =>
          obtain ⟨v, hb, hrow⟩ := hwk
          have g5 : wr.cell? ⟨W.heap.size + 1, 5, none⟩ = some v := hb.cell 5
          obtain ⟨a5, c5, rfl, -⟩ := hrow.form
          obtain ⟨m, x, hpx, hx, hxk⟩ := Lk.isK_some (hst.2 rfl)
          dsimp only at hpx
          subst hpx
          have HE : Hid (Calls Tryd.prog 29 #[.pointer (some ⟨W.heap.size + 1, 0, none⟩)] wr fun e w' => e = .returned (.tuple #[.agg #[.int .i64 (m : Int), .int .i64 x.up, .string ⟨#[]⟩], .int .i64 0]) ∧ Below wr.heap.size wr w') := end_dir L (W.heap.size + 1) m x _ _ base hops fence follow S wr hb HV.out (fun b hb => ⟨by have := HS.out b hb; have := HSZ.out; omega, by have := HS.out b hb; omega⟩) hx hxk
          have HRE : Hid (fo = (m : Int) ∧ fd = x.up ∧ fn = ⟨#[]⟩ ∧ er = 0) := by
            have h := HR.out
            have e : Lk.go L base fence follow 1000 ⟨(m : Int), [], hops⟩ = (⟨(m : Int), Lk.upOf L (m : Int), ⟨#[]⟩⟩, 0) := rfl
            rw [e, Lk.upOf_nat hx] at h
            cases h
            exact ⟨rfl, rfl, rfl, rfl⟩
          have hz : ((List.map tS ([] : List ByteArray)).length : Nat) = 0 := rfl
          rw [hz] at g5
          have r0 := hKr.cell 0
          have r1 := hKr.cell 1
          have r2 := hKr.cell 2
          have z0 := hKr.free 0
          have z1 := hKr.free 1
          have z2 := hKr.free 2
          have hltr := hKr.lt
          have HBR : Hid (Below W.heap.size W wr) := HB1.out.trans (HO.out.2.2 W.heap.size (by omega))
          clear ho hh hmu hst hr HMU hb hrow hx hxk hKr hz
          go_wp2_with fail
          refine Calls.mono HE.out ?_
          rintro e w3 ⟨rfl, hb3⟩
          have hK3 := HKr.out.below hb3 HKr.out.lt
          have HB3 : Hid (Below W.heap.size W w3) := HBR.out.trans (hb3.mono (by omega))
          have HK3 : Hid (Blk w3 W.heap.size #[.int .i64 0, .int .i64 0, .string ⟨#[]⟩] 30) := hK3
          clear r0 r1 r2 z0 z1 z2 hltr g5
          have r0 := hK3.cell 0
          have r1 := hK3.cell 1
          have r2 := hK3.cell 2
          have z0 := hK3.free 0
          have z1 := hK3.free 1
          have z2 := hK3.free 2
          have hlt3 := hK3.lt
          clear hb3 hK3 HE
          go_wp2
          generalize hW : ((w3.setCell ⟨W.heap.size, 0, none⟩ (.int .i64 (m : Int))).setCell ⟨W.heap.size, 1, none⟩ (.int .i64 x.up)).setCell ⟨W.heap.size, 2, none⟩ (.string ⟨#[]⟩) = W9
          obtain ⟨hb9, ho9, hs9, hB9⟩ := fd_cells HK3.out (m : Int) x.up ⟨#[]⟩ hW
          have hc9 := hb9.cell
          exact bodyPost_ret (v := .tuple #[.agg #[.int .i64 (m : Int), .int .i64 x.up, .string ⟨#[]⟩], .int .i64 0]) (by simp [results, Tryd.results9, go_sem, hc9]) rfl ⟨by rw [HRE.out.1, HRE.out.2.1, HRE.out.2.2.1, HRE.out.2.2.2], HB3.out.trans (hB9 _ (Nat.le_refl _))⟩
        | cons part rest =>
          have HN : Hid (rest.length ≤ 999) := by
            have := HM.out
            unfold Lk.mu at this
            simp only [List.length_cons] at this
            unfold Hid
            omega
          have hST := step_any L HTr.out (W.heap.size + 1) mm (.slice a L.length c) base pos fence follow part rest hops S wr HWK.out HV.out (fun b hb => ⟨by have := HS.out b hb; have := HSZ.out; omega, by have := HS.out b hb; omega⟩) HC0.out (by omega) HN.out HH.out
          have HONE : ∃ r, r = Lk.one L base fence follow pos part rest hops := ⟨_, rfl⟩
          obtain ⟨r, hone⟩ := HONE
          rw [← hone] at hST
          have H1E : Hid (Lk.one L base fence follow pos part rest hops = r) := hone.symm
          obtain ⟨⟨ro, rd, rn⟩, dn, re, rst⟩ := r
          have HST : Hid (Calls Tryd.prog 28 #[.pointer (some ⟨W.heap.size + 1, 0, none⟩)] wr fun e w' => e = .returned (.tuple #[.agg #[.int .i64 ro, .int .i64 rd, .string rn], .bool dn, .int .i64 re]) ∧ Only (W.heap.size + 1) wr w' ∧ (dn = false → re = 0 → Wk w' (W.heap.size + 1) (fun b => b < w'.heap.size ∧ b ≠ W.heap.size + 1) (.slice a L.length c) base fence follow rst)) := hST
          obtain ⟨v, hb, hrow⟩ := hwk
          have g5 : wr.cell? ⟨W.heap.size + 1, 5, none⟩ = some v := hb.cell 5
          obtain ⟨a5, c5, rfl, -⟩ := hrow.form
          have hz : ((List.map tS (part :: rest)).length : Nat) = rest.length + 1 := by simp
          dsimp only at g5
          rw [hz] at g5
          have hgz : (0 : Int) < (rest.length : Int) + 1 := by omega
          have HBR : Hid (Below W.heap.size W wr) := HB1.out.trans (HO.out.2.2 W.heap.size (by omega))
          have HMU : Hid (wkMu (W.heap.size + 1) wr = Lk.mu ⟨pos, part :: rest, hops⟩) := HMU
          clear ho hh hmu hst hr hb hrow hKr hz hone hST
          go_wp2_with fail
          refine Calls.mono HST.out ?_
          rintro e w3 ⟨rfl, ho3, hnext⟩
          have HO3 : Hid (Only (W.heap.size + 1) W1 w3) := HO.out.trans ho3
          have hsz3 := ho3.2.1
          have HB3 : Hid (Below W.heap.size W w3) := HBR.out.trans (ho3.2.2 _ (by omega))
          have HNX : Hid _ := hnext
          have hK3 : Blk w3 W.heap.size #[.int .i64 0, .int .i64 0, .string ⟨#[]⟩] 30 := HKr.out.on ho3.1 ⟨HKr.out.lt, by omega⟩
          have HK3 : Hid (Blk w3 W.heap.size #[.int .i64 0, .int .i64 0, .string ⟨#[]⟩] 30) := hK3
          have HSZ3 : Hid (wr.heap.size ≤ w3.heap.size) := hsz3
          clear ho3 hnext HST g5 hK3 hsz3
          cases dn with
          | true =>
            have HRE : Hid (fo = ro ∧ fd = rd ∧ fn = rn ∧ er = re) := by
              have h := HR.out
              rw [Lk.go_stop (Or.inl (by rw [H1E.out])), H1E.out] at h
              obtain ⟨hf, h1⟩ := Prod.mk.inj h
              obtain ⟨h2, h3, h4⟩ := Lk.Fd.mk.inj hf
              exact ⟨h2, h3, h4, h1⟩
            have hK10 : Blk (w3.alloc (.cells #[.int .i64 ro, .int .i64 rd, .string rn] 30)) W.heap.size #[.int .i64 0, .int .i64 0, .string ⟨#[]⟩] 30 := HK3.out.alloc _
            have HK10 : Hid (Blk (w3.alloc (.cells #[.int .i64 ro, .int .i64 rd, .string rn] 30)) W.heap.size #[.int .i64 0, .int .i64 0, .string ⟨#[]⟩] 30) := hK10
            have HB10 : Hid (Below W.heap.size W (w3.alloc (.cells #[.int .i64 ro, .int .i64 rd, .string rn] 30))) := HB3.out.alloc (by have := HSZ.out; have := HSZ3.out; omega) _
            have r0 := hK10.cell 0
            have r1 := hK10.cell 1
            have r2 := hK10.cell 2
            have z0 := hK10.free 0
            have z1 := hK10.free 1
            have z2 := hK10.free 2
            have hlt10 := hK10.lt
            have hne10 : ¬ W.heap.size = w3.heap.size := by have := HSZ.out; have := HSZ3.out; omega
            clear hK10
            go_wp2
            generalize (w3.alloc (.cells #[.int .i64 ro, .int .i64 rd, .string rn] 30)) = w10 at *
            generalize hW : ((w10.setCell ⟨W.heap.size, 0, none⟩ (.int .i64 ro)).setCell ⟨W.heap.size, 1, none⟩ (.int .i64 rd)).setCell ⟨W.heap.size, 2, none⟩ (.string rn) = W9
            obtain ⟨hb9, ho9, hs9, hB9⟩ := fd_cells HK10.out ro rd rn hW
            have hc9 := hb9.cell
            exact bodyPost_ret (v := .tuple #[.agg #[.int .i64 ro, .int .i64 rd, .string rn], .int .i64 re]) (by simp [results, Tryd.results9, go_sem, hc9]) rfl ⟨by rw [HRE.out.1, HRE.out.2.1, HRE.out.2.2.1, HRE.out.2.2.2], HB10.out.trans (hB9 _ (Nat.le_refl _))⟩
          | false =>
            by_cases h0 : re = 0
            · subst h0
              have HW3 : Hid (Wk w3 (W.heap.size + 1) (fun b => b < w3.heap.size ∧ b ≠ W.heap.size + 1) (.slice a L.length c) base fence follow rst) := HNX.out rfl rfl
              have HP3 : Hid (LkPI L (W.heap.size + 1) W1 (.slice a L.length c) base fence follow (⟨fo, fd, fn⟩, er) (w3.alloc (.cells #[.int .i64 ro, .int .i64 rd, .string rn] 30)) ∧ wkMu (W.heap.size + 1) (w3.alloc (.cells #[.int .i64 ro, .int .i64 rd, .string rn] 30)) < wkMu (W.heap.size + 1) wr) := by
                have hle := Lk.one_less (L := L) (base := base) (pos := pos) (fence := fence) (follow := follow) (part := part) (rest := rest) HH.out (by rw [H1E.out])
                have hsta := Lk.one_stand HTr.out HSTD.out (base := base) (fence := fence) (follow := follow) (by rw [H1E.out]) (by rw [H1E.out])
                have hgo := Lk.go_step (L := L) (base := base) (pos := pos) (fence := fence) (follow := follow) (part := part) (rest := rest) HH.out HM.out (by rw [H1E.out]) (by rw [H1E.out])
                rw [H1E.out] at hle hsta hgo
                dsimp only at hle hsta hgo
                have hgl3 : W.heap.size + 1 < w3.heap.size := by have := HSZ.out; have := HSZ3.out; omega
                have hwa : Wk (w3.alloc (.cells #[.int .i64 ro, .int .i64 rd, .string rn] 30)) (W.heap.size + 1) (fun b => b < (w3.alloc (.cells #[.int .i64 ro, .int .i64 rd, .string rn] 30)).heap.size ∧ b ≠ W.heap.size + 1) (.slice a L.length c) base fence follow rst := by
                  obtain ⟨v', h1, h2⟩ := HW3.out
                  exact ⟨v', h1.alloc _, Row.more (Row.on h2 ((On.alloc w3 _).less fun b hb => hb.1)) fun b hb => ⟨by simp; omega, hb.2⟩⟩
                refine ⟨⟨rst, hwa, ?_, hle.1, by have := HM.out; omega, hsta, by rw [HR.out, hgo]⟩, ?_⟩
                · have : Only (W.heap.size + 1) w3 (w3.alloc (.cells #[.int .i64 ro, .int .i64 rd, .string rn] 30)) := Only.below hgl3 ((Below.refl _ _).alloc (Nat.le_refl _) _)
                  exact HO3.out.trans this
                · rw [wkMu_of hwa, HMU.out]
                  exact hle.2
              clear HNX HW3
              go_wp2
              go_roundw
              case rel => exact HP3.out.1
              case measure => exact HP3.out.2
            · have h0' : (re != 0) = true := by simpa using h0
              have h00' : (re == 0) = false := by simpa using h0
              have HRE : Hid (fo = ro ∧ fd = rd ∧ fn = rn ∧ er = re) := by
                have h := HR.out
                rw [Lk.go_stop (Or.inr (by rw [H1E.out]; exact h0)), H1E.out] at h
                obtain ⟨hf, h1⟩ := Prod.mk.inj h
                obtain ⟨h2, h3, h4⟩ := Lk.Fd.mk.inj hf
                exact ⟨h2, h3, h4, h1⟩
              clear h0
              have hK10 : Blk (w3.alloc (.cells #[.int .i64 ro, .int .i64 rd, .string rn] 30)) W.heap.size #[.int .i64 0, .int .i64 0, .string ⟨#[]⟩] 30 := HK3.out.alloc _
              have HK10 : Hid (Blk (w3.alloc (.cells #[.int .i64 ro, .int .i64 rd, .string rn] 30)) W.heap.size #[.int .i64 0, .int .i64 0, .string ⟨#[]⟩] 30) := hK10
              have HB10 : Hid (Below W.heap.size W (w3.alloc (.cells #[.int .i64 ro, .int .i64 rd, .string rn] 30))) := HB3.out.alloc (by have := HSZ.out; have := HSZ3.out; omega) _
              have r0 := hK10.cell 0
              have r1 := hK10.cell 1
              have r2 := hK10.cell 2
              have z0 := hK10.free 0
              have z1 := hK10.free 1
              have z2 := hK10.free 2
              have hlt10 := hK10.lt
              have hne10 : ¬ W.heap.size = w3.heap.size := by have := HSZ.out; have := HSZ3.out; omega
              clear hK10
              go_wp2
              generalize (w3.alloc (.cells #[.int .i64 ro, .int .i64 rd, .string rn] 30)) = w10 at *
              generalize hW : ((w10.setCell ⟨W.heap.size, 0, none⟩ (.int .i64 ro)).setCell ⟨W.heap.size, 1, none⟩ (.int .i64 rd)).setCell ⟨W.heap.size, 2, none⟩ (.string rn) = W9
              obtain ⟨hb9, ho9, hs9, hB9⟩ := fd_cells HK10.out ro rd rn hW
              have hc9 := hb9.cell
              exact bodyPost_ret (v := .tuple #[.agg #[.int .i64 ro, .int .i64 rd, .string rn], .int .i64 re]) (by simp [results, Tryd.results9, go_sem, hc9]) rfl ⟨by rw [HRE.out.1, HRE.out.2.1, HRE.out.2.2.1, HRE.out.2.2.2], HB10.out.trans (hB9 _ (Nat.le_refl _))⟩
    · have hte : Lk.path L base s fence follow = (Lk.nilF, Lk.turnE s fence) := Lk.path_turn hn ht
      rw [hte]
      rw [hn] at HNB
      have hB1 : Below W.heap.size W (w0.alloc (.cells (wkC (.slice a L.length c) base fence follow base (.slice none 0 0) 0) 80)) := HB0.out.alloc (by omega) _
      have hK1 : Blk (w0.alloc (.cells (wkC (.slice a L.length c) base fence follow base (.slice none 0 0) 0) 80)) W.heap.size #[.int .i64 0, .int .i64 0, .string ⟨#[]⟩] 30 := HK0.out.alloc _
      have hG1 : Blk (w0.alloc (.cells (wkC (.slice a L.length c) base fence follow base (.slice none 0 0) 0) 80)) w0.heap.size (wkC (.slice a L.length c) base fence follow base (.slice none 0 0) 0) 80 := Blk.new w0 _ _
      have HTU : Hid (Calls Tryd.prog 27 #[.pointer (some ⟨w0.heap.size, 0, none⟩), .string s] (w0.alloc (.cells (wkC (.slice a L.length c) base fence follow base (.slice none 0 0) 0) 80)) fun e w' => e = .returned (.int .i64 (Lk.turnE s fence)) ∧ Only w0.heap.size (w0.alloc (.cells (wkC (.slice a L.length c) base fence follow base (.slice none 0 0) 0) 80)) w') := (turn_any s mm hs w0.heap.size (.slice a L.length c) (.slice none 0 0) base base 0 fence follow [] (fun _ => False) _ hG1 (H00.out _ hB1) (Row.nil _ _ _ _ _) (fun b hb => absurd hb id) (Nat.zero_le _)).mono fun e w' h => ⟨h.1, h.2.1⟩
      rw [hs0] at HTU
      have HB1 : Hid (Below W.heap.size W (w0.alloc (.cells #[.slice a L.length c, .int .i64 base, .bool fence, .bool follow, .int .i64 base, .slice none 0 0, .int .i64 0] 80))) := hB1
      have HK1 : Hid (Blk (w0.alloc (.cells #[.slice a L.length c, .int .i64 base, .bool fence, .bool follow, .int .i64 base, .slice none 0 0, .int .i64 0] 80)) W.heap.size #[.int .i64 0, .int .i64 0, .string ⟨#[]⟩] 30) := hK1
      have HZ1 : Hid ((w0.alloc (.cells #[.slice a L.length c, .int .i64 base, .bool fence, .bool follow, .int .i64 base, .slice none 0 0, .int .i64 0] 80)).heap.size = W.heap.size + 2) := by unfold Hid; simp; omega
      have ht' : (Lk.turnE s fence != 0) = true := by simpa using ht
      clear hB1 hK1 hG1 hte hn ht r0 r1 r2 z0 z1 z2
      unfold wkC at HTU
      unfold fdV
      generalize Lk.turnE s fence = te at *
      go_enter Tryd.func9, Tryd.ntmps9
      go_wp2_with fail
      rw [← HW.out]
      refine Calls.mono HNB.out ?_
      rintro e w1 ⟨rfl, hw1⟩
      rw [hw1]
      clear hw1 HNB
      go_wp2_with fail
      generalize (w0.alloc (.cells #[.slice a L.length c, .int .i64 base, .bool fence, .bool follow, .int .i64 base, .slice none 0 0, .int .i64 0] 80)) = W1 at *
      refine Calls.mono HTU.out ?_
      rintro e w2 ⟨rfl, ho2⟩
      have hK2 : Blk w2 W.heap.size #[.int .i64 0, .int .i64 0, .string ⟨#[]⟩] 30 := HK1.out.on ho2.1 ⟨HK1.out.lt, by omega⟩
      have HK2 : Hid (Blk w2 W.heap.size #[.int .i64 0, .int .i64 0, .string ⟨#[]⟩] 30) := hK2
      have HB2 : Hid (Below W.heap.size W w2) := HB1.out.trans (ho2.2.2 _ (by omega))
      have r0 := hK2.cell 0
      have r1 := hK2.cell 1
      have r2 := hK2.cell 2
      have z0 := hK2.free 0
      have z1 := hK2.free 1
      have z2 := hK2.free 2
      have hlt2 := hK2.lt
      clear ho2 hK2 HTU
      go_wp2
      generalize hW : ((w2.setCell ⟨W.heap.size, 0, none⟩ (.int .i64 0)).setCell ⟨W.heap.size, 1, none⟩ (.int .i64 0)).setCell ⟨W.heap.size, 2, none⟩ (.string ⟨#[]⟩) = W9
      obtain ⟨hb9, ho9, hs9, hB9⟩ := fd_cells HK2.out 0 0 ⟨#[]⟩ hW
      have hc9 := hb9.cell
      exact bodyPost_ret (v := .tuple #[.agg #[.int .i64 0, .int .i64 0, .string ⟨#[]⟩], .int .i64 te]) (by simp [results, Tryd.results9, go_sem, hc9]) rfl ⟨rfl, HB2.out.trans (hB9 _ (Nat.le_refl _))⟩
  · rw [Lk.path_base hn]
    have hn' : (Sp.noDir L base != 0) = true := by simpa using hn
    clear hn
    unfold fdV
    generalize Sp.noDir L base = nd at *
    have hlt0 := HK0.out.lt
    go_enter Tryd.func9, Tryd.ntmps9
    go_wp2_with fail
    rw [← HW.out]
    refine Calls.mono HNB.out ?_
    rintro e w1 ⟨rfl, hw1⟩
    rw [hw1]
    clear hw1 HNB
    go_wp2
    generalize hW : ((w0.setCell ⟨W.heap.size, 0, none⟩ (.int .i64 0)).setCell ⟨W.heap.size, 1, none⟩ (.int .i64 0)).setCell ⟨W.heap.size, 2, none⟩ (.string ⟨#[]⟩) = W9
    obtain ⟨hb9, ho9, hs9, hB9⟩ := fd_cells HK0.out 0 0 ⟨#[]⟩ hW
    have hc9 := hb9.cell
    exact bodyPost_ret (v := .tuple #[.agg #[.int .i64 0, .int .i64 0, .string ⟨#[]⟩], .int .i64 nd]) (by simp [results, Tryd.results9, go_sem, hc9]) rfl ⟨rfl, HB0.out.trans (hB9 _ (Nat.le_refl _))⟩
end Go.Proofs.YtfiiandnopifnaaDoor
/-
  The document's own answer, chapter 4: a text cut at its strokes.
-/
namespace Go.Proofs.Pt
theorem cut_snoc : ∀ (l : List UInt8) (c : UInt8), ∃ ps last, cut l = ps ++ [last] ∧ cut (l ++ [c]) = (if c = 47 then ps ++ [last] ++ [[]] else ps ++ [last ++ [c]]) ∧ ps.length + last.length ≤ l.length
  | [], c => ⟨[], [], rfl, by by_cases h : c = 47 <;> simp [cut, h], Nat.le_refl _⟩
  | d :: r, c => by
    obtain ⟨ps, last, h1, h2, h3⟩ := cut_snoc r c
    by_cases hd : d = 47
    · refine ⟨[] :: ps, last, by rw [cut, if_pos hd, h1]; rfl, ?_, by simp; omega⟩
      rw [List.cons_append, cut, if_pos hd, h2]
      by_cases hc : c = 47 <;> simp [hc]
    · cases ps with
      | nil =>
        refine ⟨[], d :: last, by rw [cut, if_neg hd, h1]; rfl, ?_, by simp at h3 ⊢; omega⟩
        rw [List.cons_append, cut, if_neg hd, h2]
        by_cases hc : c = 47 <;> simp [hc]
      | cons p ps =>
        refine ⟨(d :: p) :: ps, last, by rw [cut, if_neg hd, h1]; rfl, ?_, by simp at h3 ⊢; omega⟩
        rw [List.cons_append, cut, if_neg hd, h2]
        by_cases hc : c = 47 <;> simp [hc]
end Go.Proofs.Pt
namespace Go.Proofs.YtfiiandnopifnaaDoor
open Go.RowKit
def str (p : List UInt8) : Value := .string ⟨p.toArray⟩
def CRel (w : World) (l : List UInt8) (v i : Value) (wr : World) : Prop :=
  ∃ k : Nat, k ≤ l.length ∧ i = .int .i64 k ∧ wr.ownsRow w.heap.size 9 1 v (Pt.cut (l.take k)).length ((Pt.cut (l.take k)).map str) ∧ Below w.heap.size w wr
theorem ext_one (s : ByteArray) (k : Nat) (h : k < s.size) : (s.extract k (k + 1)).data.toList = [s[k]] := by
  have h' : k < s.data.toList.length := by simpa using h
  rw [ByteArray.data_extract, Array.toList_extract, List.extract_eq_take_drop, show k + 1 - k = 1 from by omega, List.drop_eq_getElem_cons h', List.take_succ_cons, List.take_zero]
  rfl
set_option maxRecDepth 100000 in
set_option maxHeartbeats 2000000 in
theorem rcut (s : ByteArray) (hs : s.size ≤ 1048576) (w : World) : Calls Tryd.prog 32 #[.string s, .int .u8 47] w fun e w' => ∃ v, e = .returned v ∧ w'.ownsRow w.heap.size 9 1 v (Pt.cut s.data.toList).length ((Pt.cut s.data.toList).map str) ∧ Below w.heap.size w w' := by
  obtain ⟨i0, hi, hz0, hz1, hz2⟩ := info_parts Tryd.infoS
  go_enter Tryd.func32, Tryd.ntmps32
  go_wp2
  go_loopw [5, 10] (fun v i wr => CRel w s.data.toList v i wr) (fun _ i _ => s.size - (intOf i).toNat)
  case atStart => exact ⟨0, Nat.zero_le _, rfl, World.ownsRow_lit _ _ _ (Nat.le_refl _) (by decide) rfl, (Below.refl _ _).alloc (Nat.le_refl _) _⟩
  case round =>
    obtain ⟨k, hk, rfl, hown, hB⟩ := hrel
    have hks : k ≤ s.size := by simpa using hk
    have hzz : w.heap.size ≤ wr.heap.size := hB.size
    by_cases hlt : k < s.size
    · obtain ⟨ps, last, h1, h2, h3⟩ := Pt.cut_snoc (s.data.toList.take k) s[k]
      rw [← take_snoc s k hlt] at h2
      have hl3 : (s.data.toList.take k).length ≤ k := List.length_take_le _ _
      rw [h1] at hown
      by_cases hc : s[k] = 47
      · rw [if_pos hc] at h2
        have HS : Hid (Pt.cut (s.data.toList.take (k + 1)) = ps ++ [last] ++ [[]]) := h2
        have ht : ((s[k].toNat : Int) == 47) = true := by rw [hc]; rfl
        have hpl : (ps ++ [last]).length ≤ 1048577 := by simp; omega
        clear h1 h2 h3 hl3 hc
        go_wp2_with (at_builtin; refine wpList_append_own _ rfl _ _ 42 rfl w.heap.size 9 i0 (.string ByteArray.empty) 1 16 Tryd.underlying42 hi hz0 hz1 hz2 rfl (by decide) _ _ _ rfl (hown.alloc _) ⟨wr.heap.size, 0, none⟩ 1 1 [.string ⟨#[]⟩] rfl rfl ?c1 ?c2 ?c3 ?c4 ?c5 ?_)
        case c1 =>
          intro j u hj
          match j, hj with
          | 0, hj => simp at hj; subst hj; simp [Addr.add]
        case c2 => intro u hu; simp at hu; subst hu; rfl
        case c3 => unfold maxLen; omega
        case c4 => omega
        case c5 => simp; omega
        intro v' w2 hown' hgrow _
        have hb2 : Below w.heap.size w w2 := (hB.alloc hzz _).grown hgrow (by simp; omega) (fun j hj => (hown.lt j hj).1)
        have hown2 : w2.ownsRow w.heap.size 9 1 v' (Pt.cut (s.data.toList.take (k + 1))).length ((Pt.cut (s.data.toList.take (k + 1))).map str) := by
          rw [HS.out]; simpa [str] using hown'
        clear hown' hgrow hown hB
        go_wp2
        go_roundw
        case rel => exact ⟨k + 1, by simp; omega, by go_num, hown2, hb2⟩
        case measure => simp [intOf]; omega
      · rw [if_neg hc] at h2
        have HS : Hid (Pt.cut (s.data.toList.take (k + 1)) = ps ++ [last ++ [s[k]]]) := h2
        have ht : ((s[k].toNat : Int) == 47) = false := by
          rw [beq_eq_false_iff_ne]; intro h; exact hc (UInt8.toNat_inj.1 (by simpa using (by omega : s[k].toNat = 47)))
        clear h1 h2 hc
        have hlen : (ps ++ [last]).length = ps.length + 1 := by simp
        rw [hlen] at hown
        generalize hM : ps.length = m at *
        have hown0 := hown
        rcases hown.2 with ⟨_, h0⟩ | ⟨g, cap, cur, rfl, hg1, hg2, hg3, hg4, hg5, hg6⟩
        · omega
        have hcell : wr.cell? ⟨g, m, none⟩ = some (.string ⟨last.toArray⟩) := by
          rw [hown.cellAt m (by omega), ← hM]; simp [str]
        have hfz : wr.frozen? ⟨g, m, none⟩ = false := hown.frozenAt m
        have hST := hown.stored m (.string (⟨last.toArray⟩ ++ s.extract k (k + 1)))
        have hB2 : Below w.heap.size w (wr.setCell ⟨g, m, none⟩ (.string (⟨last.toArray⟩ ++ s.extract k (k + 1)))) := hB.setCell hg1 _
        have hx : (⟨last.toArray⟩ ++ s.extract k (k + 1) : ByteArray) = ⟨(last ++ [s[k]]).toArray⟩ := by
          exact Pt.bytes_ext (by rw [ByteArray.data_append, Array.toList_append, ext_one s k hlt])
        have hST2 : (wr.setCell ⟨g, m, none⟩ (.string (⟨last.toArray⟩ ++ s.extract k (k + 1)))).ownsRow w.heap.size 9 1 (.slice (some ⟨g, 0, none⟩) (m + 1) cap) (Pt.cut (s.data.toList.take (k + 1))).length ((Pt.cut (s.data.toList.take (k + 1))).map str) := by
          have e1 : (Pt.cut (s.data.toList.take (k + 1))).length = m + 1 := by rw [HS.out]; simp [hM]
          have e2 : (Pt.cut (s.data.toList.take (k + 1))).map str = ((ps ++ [last]).map str).set m (.string (⟨last.toArray⟩ ++ s.extract k (k + 1))) := by
            rw [HS.out, hx, List.map_append, List.map_append, ← hM, List.set_append_right _ _ (by simp)]
            simp [str]
          rw [e1, e2]
          exact hST.1
        have HST : Hid (CRel w s.data.toList (.slice (some ⟨g, 0, none⟩) (m + 1) cap) (.int .i64 ((k + 1 : Nat) : Int)) (wr.setCell ⟨g, m, none⟩ (.string (⟨last.toArray⟩ ++ s.extract k (k + 1)))).drew) := ⟨k + 1, by simp; omega, rfl, hST2.drew, hB2.drew⟩
        have hll : last.length ≤ 1048576 := by omega
        have hmm : m ≤ 1048576 := by omega
        clear hx hST hST2 hB2 hg1 hg2 hg4 hg5 hg6 hown hown0 hM HS hB h3 hl3 hlen
        go_wp2
        go_region
        all_goals (try go_wp2)
        all_goals go_roundw
        case rel => exact HST.out
        case measure => simp [intOf]; omega
    · obtain rfl : k = s.size := by omega
      have e : s.data.toList.take s.size = s.data.toList := List.take_of_length_le (by simp)
      rw [e] at hown
      go_wp2
      go_ret
      exact ⟨_, rfl, hown, hB⟩
/-- The pieces, as strings.Split has them. -/
theorem rcut_pcs (s : ByteArray) (hs : s.size ≤ 1048576) (w : World) : Calls Tryd.prog 32 #[.string s, .int .u8 47] w fun e w' => ∃ a c, e = .returned (.slice a (Pt.pcs s).length c) ∧ (∀ k x, (Pt.pcs s)[k]? = some x → ∃ g, a = some ⟨g, 0, none⟩ ∧ w.heap.size ≤ g ∧ g < w'.heap.size ∧ w'.cell? ⟨g, k, none⟩ = some (.string x)) ∧ Below w.heap.size w w' := by
  refine (rcut s hs w).mono ?_
  rintro e w' ⟨v, rfl, hown, hb⟩
  have e1 : (Pt.cut s.data.toList).map str = (Pt.pcs s).map Value.string := by
    rw [← Pt.pcs_cut, List.map_map]
    refine List.map_congr_left fun x _ => ?_
    show Value.string ⟨x.data.toList.toArray⟩ = _
    rfl
  have e2 : (Pt.cut s.data.toList).length = (Pt.pcs s).length := by rw [← Pt.pcs_cut, List.length_map]
  rw [e1, e2] at hown
  have hlt := World.ownsRow.lt hown
  have hc := fun g hg => World.ownsRow.cells hown (g := g) hg
  rcases hown.2 with ⟨rfl, h0⟩ | ⟨g, cap, cur, rfl, hrest⟩
  · refine ⟨none, 0, by rw [h0], fun k x hx => ?_, hb⟩
    have := (List.getElem?_eq_some_iff.1 hx).1
    omega
  · refine ⟨_, cap, rfl, fun k x hx => ⟨g, rfl, (hlt g rfl).1, (hlt g rfl).2, ?_⟩, hb⟩
    have := hc g rfl k (.string x) (by rw [List.getElem?_map, hx]; rfl)
    rw [Addr.add_lit, Nat.zero_add] at this
    exact this
end Go.Proofs.YtfiiandnopifnaaDoor
/-
  The document's own answer, chapter 4: rgref1.Split.
-/
namespace Go.Proofs.YtfiiandnopifnaaDoor
open Go.RowKit
def SRelR (w1 : World) (s : ByteArray) (v i : Value) (wr : World) : Prop :=
  ∃ k : Nat, k ≤ (Pt.pcs s).length ∧ i = .int .i64 k ∧ Hid ((((Pt.pcs s).take k).filter keepB).all fitB = true) ∧ wr.ownsRow w1.heap.size 9 1 v (((Pt.pcs s).take k).filter keepB).length ((((Pt.pcs s).take k).filter keepB).map Value.string) ∧ Below w1.heap.size w1 wr
theorem rsplit_form (s : ByteArray) (h : s.data.toList = []) (w : World) :
    Calls Tryd.prog 21 #[.string s] w fun e w' => e = .returned (.tuple #[.slice none 0 0, .bool false, .int .i64 2]) ∧ w' = w := by
  have e1 : (s.toList == []) = true := by rw [toList_beq]; simp [h]
  clear h
  go_enter Tryd.func21, Tryd.ntmps21
  go_wp2
  exact bodyPost_ret (v := .tuple #[.slice none 0 0, .bool false, .int .i64 2]) (by simp [results, Tryd.results21, go_sem]) rfl ⟨rfl, rfl⟩
theorem rsplit_much (s : ByteArray) (hs : s.size ≤ maxLen) (h : 60 < s.size) (w : World) :
    Calls Tryd.prog 21 #[.string s] w fun e w' => e = .returned (.tuple #[.slice none 0 0, .bool false, .int .i64 4]) ∧ w' = w := by
  have e1 : (s.toList == []) = false := by
    rw [toList_beq, decide_eq_false_iff_not]; intro e; rw [size_list, e] at h; simp at h
  unfold maxLen at hs
  have h' : (60 : Int) < s.size := by omega
  go_enter Tryd.func21, Tryd.ntmps21
  go_wp2
  exact bodyPost_ret (v := .tuple #[.slice none 0 0, .bool false, .int .i64 4]) (by simp [results, Tryd.results21, go_sem]) rfl ⟨rfl, rfl⟩
set_option maxRecDepth 100000 in
set_option maxHeartbeats 1000000 in
theorem rsplit_some (s : ByteArray) (h0 : s.data.toList ≠ []) (hs : s.size ≤ 60) (w : World) :
    Calls Tryd.prog 21 #[.string s] w fun e w' => Below w.heap.size w w' ∧
      ((Pt.fine s.data.toList = false ∧ e = .returned (.tuple #[.slice none 0 0, .bool false, .int .i64 7])) ∨
       (Pt.fine s.data.toList = true ∧ ∃ v, e = .returned (.tuple #[v, .bool (Pt.root s.data.toList), .int .i64 0]) ∧ w'.ownsRow w.heap.size 9 1 v (partsB s).length ((partsB s).map Value.string))) := by
  obtain ⟨i0, hi, hz0, hz1, hz2⟩ := info_parts Tryd.infoS
  have e1 : (s.toList == []) = false := by rw [toList_beq]; simp [h0]
  have g2 : ¬ (60 : Int) < s.size := by omega
  have H0 : Hid (s.data.toList ≠ []) := h0
  have hlen := pcs_le s
  have HP : Hid (∀ x ∈ Pt.pcs s, x.size ≤ s.size) := pcs_small s
  clear h0
  go_enter Tryd.func21, Tryd.ntmps21
  go_wp2_with (go_at_call 32; refine (rcut_pcs _ (by omega) _).mono ?_; rintro e w1 ⟨a1, c1, rfl, hc1, hb1⟩; focus (have HC1 : Hid _ := hc1; have HB1 : Hid (Below w.heap.size w w1) := hb1; clear hc1 hb1))
  go_loopw [5, 16] (fun v i wr => SRelR w1 s v i wr) (fun _ i _ => (Pt.pcs s).length - (intOf i).toNat)
  case atStart => exact ⟨0, Nat.zero_le _, rfl, rfl, World.ownsRow_nil _ _ _ _, Below.refl _ _⟩
  case round =>
    obtain ⟨k, hk, rfl, hall, hown, hb⟩ := hrel
    have hz : w1.heap.size ≤ wr.heap.size := hb.size
    have hbw : Below w.heap.size w wr := HB1.out.trans (hb.mono HB1.out.size)
    have HBW : Hid (Below w.heap.size w wr) := hbw
    have hl2 : (((Pt.pcs s).take k).filter keepB).length ≤ k := Nat.le_trans (List.length_filter_le _ _) (List.length_take_le _ _)
    clear hbw
    by_cases hlt : k < (Pt.pcs s).length
    · obtain ⟨x, hx⟩ : ∃ x, (Pt.pcs s)[k]? = some x := ⟨_, List.getElem?_eq_getElem hlt⟩
      obtain ⟨g1, rfl, hg1, hg2, hcx1⟩ := HC1.out k x hx
      have hcx : wr.cell? ⟨g1, k, none⟩ = some (.string x) := by
        rw [hb.cell (p := ⟨g1, k, none⟩) hg2]; exact hcx1
      clear hcx1
      have HT : Hid (((Pt.pcs s).take (k + 1)).filter keepB = ((Pt.pcs s).take k).filter keepB ++ if keepB x then [x] else []) := take_keep _ _ _ hx
      have HK : Hid (keepB x = !((x.toList == []) || (x.toList == [46]))) := keepB_eq x
      have hxs : x.size ≤ 60 := Nat.le_trans (HP.out x (List.mem_of_getElem? hx)) hs
      have HX : Hid ((Pt.pcs s)[k]? = some x) := hx
      clear hx
      have HU : Hid (fitB x = ((x.toList == [46, 46]) || Pt.isName x.data.toList)) := fitB_eq x
      cases h1 : (x.toList == []) with
      | true =>
        have HF : Hid (((Pt.pcs s).take (k + 1)).filter keepB = ((Pt.pcs s).take k).filter keepB) := by unfold Hid; rw [HT.out, HK.out, h1]; simp
        go_wp2
        go_roundw
        case rel => exact ⟨k + 1, by omega, by go_num, by unfold Hid; rw [HF.out]; exact hall.out, by rw [HF.out]; exact hown, hb⟩
        case measure => simp [intOf]; omega
      | false =>
        cases h2 : (x.toList == [46]) with
        | true =>
          have HF : Hid (((Pt.pcs s).take (k + 1)).filter keepB = ((Pt.pcs s).take k).filter keepB) := by unfold Hid; rw [HT.out, HK.out, h2]; simp
          go_wp2
          go_roundw
          case rel => exact ⟨k + 1, by omega, by go_num, by unfold Hid; rw [HF.out]; exact hall.out, by rw [HF.out]; exact hown, hb⟩
          case measure => simp [intOf]; omega
        | false =>
          have HF : Hid (((Pt.pcs s).take (k + 1)).filter keepB = ((Pt.pcs s).take k).filter keepB ++ [x]) := by unfold Hid; rw [HT.out, HK.out, h1, h2]; rfl
          cases h3 : (x.toList == [46, 46]) with
          | true =>
            have h4 : (x.toList != [46, 46]) = false := by rw [bne, h3]; rfl
            have HFit : Hid (fitB x = true) := by unfold Hid; rw [HU.out, h3]; rfl
            go_wp2_with (at_builtin; refine wpList_append_own _ rfl _ _ 42 rfl w1.heap.size 9 i0 (.string ByteArray.empty) 1 16 Tryd.underlying42 hi hz0 hz1 hz2 rfl (by decide) _ _ _ rfl (hown.alloc _) ⟨wr.heap.size, 0, none⟩ 1 1 [.string x] rfl rfl ?c1 ?c2 ?c3 ?c4 ?c5 ?_)
            case c1 =>
              intro j u hj
              match j, hj with
              | 0, hj => simp at hj; subst hj; simp [Addr.add]
            case c2 => intro u hu; simp at hu; subst hu; rfl
            case c3 => unfold maxLen; omega
            case c4 => omega
            case c5 => simp; omega
            intro v' w2 hown' hgrow _
            have hb2 : Below w1.heap.size w1 w2 := (hb.alloc hz _).grown hgrow (by simp; omega) (fun j hj => (hown.lt j hj).1)
            have hown2 : Hid (w2.ownsRow w1.heap.size 9 1 v' (((Pt.pcs s).take (k + 1)).filter keepB).length ((((Pt.pcs s).take (k + 1)).filter keepB).map Value.string)) := by unfold Hid; rw [HF.out]; simpa using hown'
            have HB2 : Hid (Below w1.heap.size w1 w2) := hb2
            clear hown' hgrow hown hb hcx hb2
            go_wp2
            go_roundw
            case rel => exact ⟨k + 1, by omega, by go_num, by unfold Hid; rw [HF.out, List.all_append, hall.out]; simp [HFit.out], hown2.out, HB2.out⟩
            case measure => simp [intOf]; omega
          | false =>
            have h4 : (x.toList != [46, 46]) = true := by rw [bne, h3]; rfl
            cases hn : Pt.isName x.data.toList with
            | true =>
              have HN : Hid (Pt.isName x.data.toList = true) := hn
              have HFit : Hid (fitB x = true) := by unfold Hid; rw [HU.out, hn]; simp
              clear hn
              go_wp2_with (first | (go_at_call 16; refine (rname_any _ (by unfold maxLen; omega) _).mono ?_; rintro e w' ⟨rfl, hw⟩; rw [hw, HN.out]; clear hw) | (at_builtin; refine wpList_append_own _ rfl _ _ 42 rfl w1.heap.size 9 i0 (.string ByteArray.empty) 1 16 Tryd.underlying42 hi hz0 hz1 hz2 rfl (by decide) _ _ _ rfl (hown.alloc _) ⟨wr.heap.size, 0, none⟩ 1 1 [.string x] rfl rfl ?c1 ?c2 ?c3 ?c4 ?c5 ?_))
              case c1 =>
                intro j u hj
                match j, hj with
                | 0, hj => simp at hj; subst hj; simp [Addr.add]
              case c2 => intro u hu; simp at hu; subst hu; rfl
              case c3 => unfold maxLen; omega
              case c4 => omega
              case c5 => simp; omega
              intro v' w2 hown' hgrow _
              have hb2 : Below w1.heap.size w1 w2 := (hb.alloc hz _).grown hgrow (by simp; omega) (fun j hj => (hown.lt j hj).1)
              have hown2 : Hid (w2.ownsRow w1.heap.size 9 1 v' (((Pt.pcs s).take (k + 1)).filter keepB).length ((((Pt.pcs s).take (k + 1)).filter keepB).map Value.string)) := by unfold Hid; rw [HF.out]; simpa using hown'
              have HB2 : Hid (Below w1.heap.size w1 w2) := hb2
              clear hown' hgrow hown hb hcx hb2
              go_wp2
              go_roundw
              case rel => exact ⟨k + 1, by omega, by go_num, by unfold Hid; rw [HF.out, List.all_append, hall.out]; simp [HFit.out], hown2.out, HB2.out⟩
              case measure => simp [intOf]; omega
            | false =>
              have HN : Hid (Pt.isName x.data.toList = false) := hn
              have HFit : Hid (fitB x = false) := by unfold Hid; rw [HU.out, hn, h3]; rfl
              have HBad : Hid (Pt.fine s.data.toList = false) := bad_fine HX.out HFit.out (by rw [HK.out, h1, h2]; rfl)
              clear hn
              go_wp2_with (go_at_call 16; refine (rname_any _ (by unfold maxLen; omega) _).mono ?_; rintro e w' ⟨rfl, rfl⟩; rw [HN.out])
              go_ret3
              exact ⟨HBW.out, Or.inl ⟨HBad.out, rfl⟩⟩
    · obtain rfl : k = (Pt.pcs s).length := by omega
      have hi0 : 0 < s.size := by
        rcases Nat.eq_zero_or_pos s.size with h | h
        · rw [size_list] at h; exact absurd (List.length_eq_zero_iff.1 h) H0.out
        · exact h
      have hr : (((s[0].toNat : Nat) : Int) == 47) = Pt.root s.data.toList := root_at s hi0
      go_wp2_with fail
      go_region
      go_wp2
      go_ret3
      refine ⟨below_drewN HBW.out 1, Or.inr ⟨?_, u5, ?_, ?_⟩⟩
      · rw [fine_all]; have := hall.out; rw [List.take_length] at this; exact this
      · rfl
      · rw [List.take_length] at hown; exact ⟨hown.1, hown.2.imp id fun ⟨g, cap, cur, h1, h2, h3⟩ => ⟨g, cap, cur, h1, Nat.le_trans HB1.out.size h2, h3⟩⟩
/-- rgref1.Split: an error, or parts of one's own. -/
theorem rsplit_any (s : ByteArray) (hs : s.size ≤ maxLen) (w : World) :
    Calls Tryd.prog 21 #[.string s] w fun e w' => Below w.heap.size w w' ∧ ((Lk.splitE s ≠ 0 ∧ e = .returned (.tuple #[.slice none 0 0, .bool false, .int .i64 (Lk.splitE s)])) ∨ (Lk.splitE s = 0 ∧ ∃ v, e = .returned (.tuple #[v, .bool (Pt.root s.data.toList), .int .i64 0]) ∧ Mine w' w.heap.size 9 1 v ((partsB s).map tS))) := by
  by_cases h0 : s.data.toList = []
  · have e : Lk.splitE s = 2 := if_pos h0
    rw [e]
    refine (rsplit_form s h0 w).mono ?_
    rintro e w' ⟨rfl, rfl⟩
    exact ⟨Below.refl _ _, Or.inl ⟨by decide, rfl⟩⟩
  · by_cases h1 : 60 < s.size
    · have e : Lk.splitE s = 4 := by unfold Lk.splitE; rw [if_neg h0, if_pos h1]
      rw [e]
      refine (rsplit_much s hs h1 w).mono ?_
      rintro e w' ⟨rfl, rfl⟩
      exact ⟨Below.refl _ _, Or.inl ⟨by decide, rfl⟩⟩
    · refine (rsplit_some s h0 (by omega) w).mono ?_
      rintro e w' ⟨hb, ⟨hf, rfl⟩ | ⟨hf, v, rfl, ho⟩⟩
      · have e : Lk.splitE s = 7 := by unfold Lk.splitE; rw [if_neg h0, if_neg h1, if_pos hf]
        rw [e]
        exact ⟨hb, Or.inl ⟨by decide, rfl⟩⟩
      · have e : Lk.splitE s = 0 := by unfold Lk.splitE; rw [if_neg h0, if_neg h1, if_neg (by rw [hf]; decide)]
        rw [e]
        refine ⟨hb, Or.inr ⟨rfl, v, rfl, ?_⟩⟩
        unfold Mine
        rw [List.length_map, tS_flat]
        exact ho
end Go.Proofs.YtfiiandnopifnaaDoor
/-
  rgref5.walk, walked: a case each.
-/
namespace Go.Proofs.YtfiiandnopifnaaDoor
open Go.RowKit
/-- What rgref5.walk answers from there on, wherever all of it lies. -/
def Says (L : List Sp.Ob) (base : Int) (fence follow : Bool) (st : Lk.St) : Prop :=
  ∀ (vl vleft : Value) (S T : Nat → Prop) (W : World), Objs W S vl L → (∀ b, S b → b < W.heap.size) → Row W T 1 vleft (st.left.map tS) → (∀ b, T b → b < W.heap.size) →
    Calls Tryd.prog 30 #[vl, .int .i64 base, .int .i64 st.pos, vleft, .bool fence, .bool follow, .int .i64 (st.hops : Int)] W fun e w' => e = .returned (.tuple #[.agg #[.int .i64 (Lk.go L base fence follow 1000 st).1.obj, .int .i64 (Lk.go L base fence follow 1000 st).1.dir, .string (Lk.go L base fence follow 1000 st).1.name], .int .i64 (Lk.go L base fence follow 1000 st).2]) ∧ Below W.heap.size W w'
set_option maxRecDepth 100000 in
set_option maxHeartbeats 8000000 in
theorem rwalk_nil (L : List Sp.Ob) (m : Nat) (x : Sp.Ob) (vl : Value) (base : Int) (fence follow : Bool) (hops : Nat) (S : Nat → Prop) (W : World) (hv : Objs W S vl L) (hS : ∀ b, S b → b < W.heap.size) (hx : L[m]? = some x) (vleft : Value) (T : Nat → Prop) (hl : Row W T 1 vleft (([] : List ByteArray).map tS)) :
    Calls Tryd.prog 30 #[vl, .int .i64 base, .int .i64 (m : Int), vleft, .bool fence, .bool follow, .int .i64 (hops : Int)] W fun e w' => e = .returned (.tuple #[fdV (Lk.go L base fence follow 1000 ⟨(m : Int), [], hops⟩).1.obj (Lk.go L base fence follow 1000 ⟨(m : Int), [], hops⟩).1.dir (Lk.go L base fence follow 1000 ⟨(m : Int), [], hops⟩).1.name, .int .i64 (Lk.go L base fence follow 1000 ⟨(m : Int), [], hops⟩).2]) ∧ Below W.heap.size W w' := by
  have e : (Lk.go L base fence follow 1000 ⟨(m : Int), [], hops⟩) = (⟨(m : Int), Lk.upOf L (m : Int), ⟨#[]⟩⟩, 0) := rfl
  rw [e, Lk.upOf_nat hx]
  obtain ⟨a5, c5, rfl, -⟩ := hl.form
  clear e hl
  have HB0 : Hid (Below W.heap.size W (W.alloc (.cells #[.int .i64 0, .int .i64 0, .string ⟨#[]⟩] 34))) := (Below.refl _ _).alloc (Nat.le_refl _) _
  have hK0 : Blk (W.alloc (.cells #[.int .i64 0, .int .i64 0, .string ⟨#[]⟩] 34)) W.heap.size #[.int .i64 0, .int .i64 0, .string ⟨#[]⟩] 34 := Blk.new W _ _
  have HK0 : Hid (Blk (W.alloc (.cells #[.int .i64 0, .int .i64 0, .string ⟨#[]⟩] 34)) W.heap.size #[.int .i64 0, .int .i64 0, .string ⟨#[]⟩] 34) := hK0
  have hml := (List.getElem?_eq_some_iff.1 hx).1
  have HV : Hid (Objs W S vl L) := hv
  have HS : Hid (∀ b, S b → b < W.heap.size) := hS
  have HX : Hid (L[m]? = some x) := hx
  obtain ⟨b, o, c, s, rfl, hb, hc, hm, -, k0, -, -, -, -, -, -, -, k8⟩ := hv.open hx
  have hbl := hS b hb
  unfold maxLen at hm
  have c0 : (W.alloc (.cells #[.int .i64 0, .int .i64 0, .string ⟨#[]⟩] 34)).cell? ⟨b, o + m * 9, none⟩ = some (.int .i64 x.kind) := by rw [(On.alloc W _).cell hbl]; exact k0
  have c8 : (W.alloc (.cells #[.int .i64 0, .int .i64 0, .string ⟨#[]⟩] 34)).cell? ⟨b, o + m * 9 + 8, none⟩ = some (.int .i64 x.up) := by rw [(On.alloc W _).cell hbl]; exact k8
  have r0 := hK0.cell 0
  have z0 := hK0.free 0
  have r1 := hK0.cell 1
  have z1 := hK0.free 1
  have r2 := hK0.cell 2
  have z2 := hK0.free 2
  have hlt0 := hK0.lt
  have n3 : ¬ b = W.heap.size := by omega
  rw [show (List.map tS ([] : List ByteArray)).length = 0 from rfl]
  clear hv hS hx hb hK0 k0 k8
  unfold fdV
  go_enter Tryd.func30, Tryd.ntmps30
  go_wp2
  exact bodyPost_ret (v := .tuple #[.agg #[.int .i64 (m : Int), .int .i64 x.up, .string ⟨#[]⟩], .int .i64 0]) (by simp [results, Tryd.results30, go_sem]) rfl ⟨rfl, (Below.refl _ _).alloc (Nat.le_refl _) _⟩
set_option maxRecDepth 100000 in
set_option maxHeartbeats 8000000 in
theorem rwalk_nodir (L : List Sp.Ob) (m : Nat) (x : Sp.Ob) (vl : Value) (base : Int) (fence follow : Bool) (hops : Nat) (S : Nat → Prop) (W : World) (hv : Objs W S vl L) (hS : ∀ b, S b → b < W.heap.size) (hx : L[m]? = some x) (vleft : Value) (part : ByteArray) (rest : List ByteArray) (T : Nat → Prop) (hl : Row W T 1 vleft ((part :: rest).map tS)) (hT : ∀ b, T b → b < W.heap.size) (hmu : Lk.mu ⟨(m : Int), part :: rest, hops⟩ < 1000) (hh : hops ≤ 6) (hk : (x.kind == 2) = false) :
    Calls Tryd.prog 30 #[vl, .int .i64 base, .int .i64 (m : Int), vleft, .bool fence, .bool follow, .int .i64 (hops : Int)] W fun e w' => e = .returned (.tuple #[fdV (Lk.go L base fence follow 1000 ⟨(m : Int), (part :: rest), hops⟩).1.obj (Lk.go L base fence follow 1000 ⟨(m : Int), (part :: rest), hops⟩).1.dir (Lk.go L base fence follow 1000 ⟨(m : Int), (part :: rest), hops⟩).1.name, .int .i64 (Lk.go L base fence follow 1000 ⟨(m : Int), (part :: rest), hops⟩).2]) ∧ Below W.heap.size W w' := by
  have c1 : Lk.isK L (m : Int) 2 = false := by rw [Lk.isK_nat hx, hk]
  have e1 : Lk.one L base fence follow (m : Int) part rest hops = ⟨Lk.nilF, false, 11, ⟨(m : Int), rest, hops⟩⟩ := if_pos c1
  have e : (Lk.go L base fence follow 1000 ⟨(m : Int), (part :: rest), hops⟩) = (Lk.nilF, 11) := by rw [Lk.go_stop (Or.inr (by rw [e1]; exact (show ¬ ((11 : Int) = 0) by decide))), e1]
  rw [e]
  have hk' : (x.kind != 2) = true := by simpa using hk
  clear e e1 c1
  have HB0 : Hid (Below W.heap.size W (W.alloc (.cells #[.int .i64 0, .int .i64 0, .string ⟨#[]⟩] 34))) := (Below.refl _ _).alloc (Nat.le_refl _) _
  have hK0 : Blk (W.alloc (.cells #[.int .i64 0, .int .i64 0, .string ⟨#[]⟩] 34)) W.heap.size #[.int .i64 0, .int .i64 0, .string ⟨#[]⟩] 34 := Blk.new W _ _
  have HK0 : Hid (Blk (W.alloc (.cells #[.int .i64 0, .int .i64 0, .string ⟨#[]⟩] 34)) W.heap.size #[.int .i64 0, .int .i64 0, .string ⟨#[]⟩] 34) := hK0
  have hml := (List.getElem?_eq_some_iff.1 hx).1
  have HV : Hid (Objs W S vl L) := hv
  have HS : Hid (∀ b, S b → b < W.heap.size) := hS
  have HX : Hid (L[m]? = some x) := hx
  obtain ⟨b, o, c, s, rfl, hb, hc, hm, -, k0, -, -, -, -, -, -, -, k8⟩ := hv.open hx
  have hbl := hS b hb
  unfold maxLen at hm
  have c0 : (W.alloc (.cells #[.int .i64 0, .int .i64 0, .string ⟨#[]⟩] 34)).cell? ⟨b, o + m * 9, none⟩ = some (.int .i64 x.kind) := by rw [(On.alloc W _).cell hbl]; exact k0
  have c8 : (W.alloc (.cells #[.int .i64 0, .int .i64 0, .string ⟨#[]⟩] 34)).cell? ⟨b, o + m * 9 + 8, none⟩ = some (.int .i64 x.up) := by rw [(On.alloc W _).cell hbl]; exact k8
  have r0 := hK0.cell 0
  have z0 := hK0.free 0
  have r1 := hK0.cell 1
  have z1 := hK0.free 1
  have r2 := hK0.cell 2
  have z2 := hK0.free 2
  have hlt0 := hK0.lt
  have n3 : ¬ b = W.heap.size := by omega
  have HL : Hid (Row W T 1 vleft ((part :: rest).map tS)) := hl
  have HT : Hid (∀ b, T b → b < W.heap.size) := hT
  have HMU : Hid (Lk.mu ⟨(m : Int), part :: rest, hops⟩ < 1000) := hmu
  have HH : Hid (hops ≤ 6) := hh
  obtain ⟨lb, lo, lc, rfl, hTb, hc3, hc4, h5⟩ := hl.some (by simp)
  rw [List.length_map, List.length_cons] at hc3 HL
  rw [List.length_map, List.length_cons]
  have l0 := h5 0 (tS part) rfl 0 _ rfl
  rw [Nat.zero_mul, Nat.add_zero] at l0
  have hlbl := hT lb hTb
  unfold maxLen at hc4
  have hcz : (1 : Int) ≤ (lc : Int) := by omega
  have hcy : (1 : Int) ≤ (rest.length : Int) + 1 := by omega
  have hcx : (rest.length : Int) + 1 ≤ (lc : Int) := by omega
  obtain ⟨A5, hA5⟩ : ∃ A5 : Addr, (if lc = 1 then some (⟨lb, lo, none⟩ : Addr) else some ⟨lb, lo + 1, none⟩) = some A5 := by split <;> exact ⟨_, rfl⟩
  have HTL : Hid (Row W T 1 (.slice (some A5) rest.length (lc - 1)) (rest.map tS)) := by
    have := row_tail HL.out
    rw [hA5] at this
    exact this
  have d0 : (W.alloc (.cells #[.int .i64 0, .int .i64 0, .string ⟨#[]⟩] 34)).cell? ⟨lb, lo, none⟩ = some (.string part) := by rw [(On.alloc W _).cell hlbl]; exact l0
  clear h5 hl hT hmu hh hTb l0

  clear hv hS hx hb hK0 k0 k8
  unfold fdV
  go_enter Tryd.func30, Tryd.ntmps30
  go_wp2_with fail
  exact bodyPost_ret (v := .tuple #[.agg #[.int .i64 0, .int .i64 0, .string ⟨#[]⟩], .int .i64 11]) (by simp [results, Tryd.results30, go_sem]) rfl ⟨rfl, (Below.refl _ _).alloc (Nat.le_refl _) _⟩
set_option maxRecDepth 100000 in
set_option maxHeartbeats 8000000 in
theorem rwalk_out (L : List Sp.Ob) (m : Nat) (x : Sp.Ob) (vl : Value) (base : Int) (fence follow : Bool) (hops : Nat) (S : Nat → Prop) (W : World) (hv : Objs W S vl L) (hS : ∀ b, S b → b < W.heap.size) (hx : L[m]? = some x) (vleft : Value) (part : ByteArray) (rest : List ByteArray) (T : Nat → Prop) (hl : Row W T 1 vleft ((part :: rest).map tS)) (hT : ∀ b, T b → b < W.heap.size) (hmu : Lk.mu ⟨(m : Int), part :: rest, hops⟩ < 1000) (hh : hops ≤ 6) (hk : x.kind = 2) (hp : (part.toList == [46, 46]) = true) (hf : fence = true) (hbs : base = (m : Int)) :
    Calls Tryd.prog 30 #[vl, .int .i64 base, .int .i64 (m : Int), vleft, .bool fence, .bool follow, .int .i64 (hops : Int)] W fun e w' => e = .returned (.tuple #[fdV (Lk.go L base fence follow 1000 ⟨(m : Int), (part :: rest), hops⟩).1.obj (Lk.go L base fence follow 1000 ⟨(m : Int), (part :: rest), hops⟩).1.dir (Lk.go L base fence follow 1000 ⟨(m : Int), (part :: rest), hops⟩).1.name, .int .i64 (Lk.go L base fence follow 1000 ⟨(m : Int), (part :: rest), hops⟩).2]) ∧ Below W.heap.size W w' := by
  have c1 : Lk.isK L (m : Int) 2 = true := by rw [Lk.isK_nat hx, hk]; rfl
  have hp' : Lk.isUp part = true := hp
  have e1 : Lk.one L base fence follow (m : Int) part rest hops = ⟨Lk.nilF, false, riseE base fence (m : Int), ⟨riseA base fence (m : Int) (Lk.upOf L (m : Int)), rest, hops⟩⟩ := by
    unfold Lk.one
    rw [if_neg (by rw [c1]; decide), if_pos hp']
  have e2 : riseE base fence (m : Int) = 14 := if_pos ⟨hf, hbs.symm⟩
  have e : (Lk.go L base fence follow 1000 ⟨(m : Int), (part :: rest), hops⟩) = (Lk.nilF, 14) := by rw [Lk.go_stop (Or.inr (by rw [e1, e2]; exact (show ¬ ((14 : Int) = 0) by decide))), e1, e2]
  rw [e]
  subst hf
  subst hbs
  clear e e1 e2 c1
  have HB0 : Hid (Below W.heap.size W (W.alloc (.cells #[.int .i64 0, .int .i64 0, .string ⟨#[]⟩] 34))) := (Below.refl _ _).alloc (Nat.le_refl _) _
  have hK0 : Blk (W.alloc (.cells #[.int .i64 0, .int .i64 0, .string ⟨#[]⟩] 34)) W.heap.size #[.int .i64 0, .int .i64 0, .string ⟨#[]⟩] 34 := Blk.new W _ _
  have HK0 : Hid (Blk (W.alloc (.cells #[.int .i64 0, .int .i64 0, .string ⟨#[]⟩] 34)) W.heap.size #[.int .i64 0, .int .i64 0, .string ⟨#[]⟩] 34) := hK0
  have hml := (List.getElem?_eq_some_iff.1 hx).1
  have HV : Hid (Objs W S vl L) := hv
  have HS : Hid (∀ b, S b → b < W.heap.size) := hS
  have HX : Hid (L[m]? = some x) := hx
  obtain ⟨b, o, c, s, rfl, hb, hc, hm, -, k0, -, -, -, -, -, -, -, k8⟩ := hv.open hx
  have hbl := hS b hb
  unfold maxLen at hm
  have c0 : (W.alloc (.cells #[.int .i64 0, .int .i64 0, .string ⟨#[]⟩] 34)).cell? ⟨b, o + m * 9, none⟩ = some (.int .i64 x.kind) := by rw [(On.alloc W _).cell hbl]; exact k0
  have c8 : (W.alloc (.cells #[.int .i64 0, .int .i64 0, .string ⟨#[]⟩] 34)).cell? ⟨b, o + m * 9 + 8, none⟩ = some (.int .i64 x.up) := by rw [(On.alloc W _).cell hbl]; exact k8
  have r0 := hK0.cell 0
  have z0 := hK0.free 0
  have r1 := hK0.cell 1
  have z1 := hK0.free 1
  have r2 := hK0.cell 2
  have z2 := hK0.free 2
  have hlt0 := hK0.lt
  have n3 : ¬ b = W.heap.size := by omega
  have HL : Hid (Row W T 1 vleft ((part :: rest).map tS)) := hl
  have HT : Hid (∀ b, T b → b < W.heap.size) := hT
  have HMU : Hid (Lk.mu ⟨(m : Int), part :: rest, hops⟩ < 1000) := hmu
  have HH : Hid (hops ≤ 6) := hh
  obtain ⟨lb, lo, lc, rfl, hTb, hc3, hc4, h5⟩ := hl.some (by simp)
  rw [List.length_map, List.length_cons] at hc3 HL
  rw [List.length_map, List.length_cons]
  have l0 := h5 0 (tS part) rfl 0 _ rfl
  rw [Nat.zero_mul, Nat.add_zero] at l0
  have hlbl := hT lb hTb
  unfold maxLen at hc4
  have hcz : (1 : Int) ≤ (lc : Int) := by omega
  have hcy : (1 : Int) ≤ (rest.length : Int) + 1 := by omega
  have hcx : (rest.length : Int) + 1 ≤ (lc : Int) := by omega
  obtain ⟨A5, hA5⟩ : ∃ A5 : Addr, (if lc = 1 then some (⟨lb, lo, none⟩ : Addr) else some ⟨lb, lo + 1, none⟩) = some A5 := by split <;> exact ⟨_, rfl⟩
  have HTL : Hid (Row W T 1 (.slice (some A5) rest.length (lc - 1)) (rest.map tS)) := by
    have := row_tail HL.out
    rw [hA5] at this
    exact this
  have d0 : (W.alloc (.cells #[.int .i64 0, .int .i64 0, .string ⟨#[]⟩] 34)).cell? ⟨lb, lo, none⟩ = some (.string part) := by rw [(On.alloc W _).cell hlbl]; exact l0
  clear h5 hl hT hmu hh hTb l0
  rw [hk] at c0
  clear hv hS hx hb hK0 k0 k8
  unfold fdV
  go_enter Tryd.func30, Tryd.ntmps30
  go_wp2_with fail
  generalize (W.alloc (.cells #[.int .i64 0, .int .i64 0, .string ⟨#[]⟩] 34)) = w0 at *
  go_region_held3 (fun w' => w'.cell? ⟨lb, lo, none⟩ = some (.string part)) (go_keep) (fail)
  clear hA5
  go_wp2
  generalize hW : (((w0.setCell ⟨W.heap.size, 0, none⟩ (.int .i64 0)).setCell ⟨W.heap.size, 1, none⟩ (.int .i64 0)).setCell ⟨W.heap.size, 2, none⟩ (.string ⟨#[]⟩)).drew = W9
  obtain ⟨hb9, ho9, hs9, hB9⟩ := fd_cells (w := w0.drew) (show Blk w0.drew W.heap.size _ _ from HK0.out) 0 0 ⟨#[]⟩ hW
  have hc9 := hb9.cell
  exact bodyPost_ret (v := .tuple #[.agg #[.int .i64 0, .int .i64 0, .string ⟨#[]⟩], .int .i64 14]) (by simp [results, Tryd.results30, go_sem, hc9]) rfl ⟨rfl, (HB0.out.drew).trans (hB9 _ (Nat.le_refl _))⟩
end Go.Proofs.YtfiiandnopifnaaDoor
/-
  rgref5.walk, walked: a case each (more).
-/
namespace Go.Proofs.YtfiiandnopifnaaDoor
open Go.RowKit
set_option maxRecDepth 100000 in
set_option maxHeartbeats 8000000 in
theorem rwalk_up (L : List Sp.Ob) (m : Nat) (x : Sp.Ob) (vl : Value) (base : Int) (fence follow : Bool) (hops : Nat) (S : Nat → Prop) (W : World) (hv : Objs W S vl L) (hS : ∀ b, S b → b < W.heap.size) (hx : L[m]? = some x) (vleft : Value) (part : ByteArray) (rest : List ByteArray) (T : Nat → Prop) (hl : Row W T 1 vleft ((part :: rest).map tS)) (hT : ∀ b, T b → b < W.heap.size) (hmu : Lk.mu ⟨(m : Int), part :: rest, hops⟩ < 1000) (hh : hops ≤ 6) (hk : x.kind = 2) (hp : (part.toList == [46, 46]) = true) (hno : ¬ (fence = true ∧ (m : Int) = base)) (nx : Says L base fence follow ⟨x.up, rest, hops⟩) :
    Calls Tryd.prog 30 #[vl, .int .i64 base, .int .i64 (m : Int), vleft, .bool fence, .bool follow, .int .i64 (hops : Int)] W fun e w' => e = .returned (.tuple #[fdV (Lk.go L base fence follow 1000 ⟨(m : Int), (part :: rest), hops⟩).1.obj (Lk.go L base fence follow 1000 ⟨(m : Int), (part :: rest), hops⟩).1.dir (Lk.go L base fence follow 1000 ⟨(m : Int), (part :: rest), hops⟩).1.name, .int .i64 (Lk.go L base fence follow 1000 ⟨(m : Int), (part :: rest), hops⟩).2]) ∧ Below W.heap.size W w' := by
  have c1 : Lk.isK L (m : Int) 2 = true := by rw [Lk.isK_nat hx, hk]; rfl
  have hp' : Lk.isUp part = true := hp
  have e1 : Lk.one L base fence follow (m : Int) part rest hops = ⟨Lk.nilF, false, 0, ⟨x.up, rest, hops⟩⟩ := by
    unfold Lk.one
    rw [if_neg (by rw [c1]; decide), if_pos hp', Lk.upOf_nat hx]
    unfold riseE riseA
    rw [if_neg hno, if_neg hno]
  have e : (Lk.go L base fence follow 1000 ⟨(m : Int), (part :: rest), hops⟩) = Lk.go L base fence follow 1000 ⟨x.up, rest, hops⟩ := by rw [Lk.go_step hh hmu (by rw [e1]) (by rw [e1]), e1]
  rw [e]
  obtain ⟨R, hR⟩ : ∃ R, Lk.go L base fence follow 1000 ⟨x.up, rest, hops⟩ = R := ⟨_, rfl⟩
  rw [hR]
  obtain ⟨⟨fo, fd, fn⟩, er⟩ := R
  clear e e1 c1
  have HB0 : Hid (Below W.heap.size W (W.alloc (.cells #[.int .i64 0, .int .i64 0, .string ⟨#[]⟩] 34))) := (Below.refl _ _).alloc (Nat.le_refl _) _
  have hK0 : Blk (W.alloc (.cells #[.int .i64 0, .int .i64 0, .string ⟨#[]⟩] 34)) W.heap.size #[.int .i64 0, .int .i64 0, .string ⟨#[]⟩] 34 := Blk.new W _ _
  have HK0 : Hid (Blk (W.alloc (.cells #[.int .i64 0, .int .i64 0, .string ⟨#[]⟩] 34)) W.heap.size #[.int .i64 0, .int .i64 0, .string ⟨#[]⟩] 34) := hK0
  have hml := (List.getElem?_eq_some_iff.1 hx).1
  have HV : Hid (Objs W S vl L) := hv
  have HS : Hid (∀ b, S b → b < W.heap.size) := hS
  have HX : Hid (L[m]? = some x) := hx
  obtain ⟨b, o, c, s, rfl, hb, hc, hm, -, k0, -, -, -, -, -, -, -, k8⟩ := hv.open hx
  have hbl := hS b hb
  unfold maxLen at hm
  have c0 : (W.alloc (.cells #[.int .i64 0, .int .i64 0, .string ⟨#[]⟩] 34)).cell? ⟨b, o + m * 9, none⟩ = some (.int .i64 x.kind) := by rw [(On.alloc W _).cell hbl]; exact k0
  have c8 : (W.alloc (.cells #[.int .i64 0, .int .i64 0, .string ⟨#[]⟩] 34)).cell? ⟨b, o + m * 9 + 8, none⟩ = some (.int .i64 x.up) := by rw [(On.alloc W _).cell hbl]; exact k8
  have r0 := hK0.cell 0
  have z0 := hK0.free 0
  have r1 := hK0.cell 1
  have z1 := hK0.free 1
  have r2 := hK0.cell 2
  have z2 := hK0.free 2
  have hlt0 := hK0.lt
  have n3 : ¬ b = W.heap.size := by omega
  have HL : Hid (Row W T 1 vleft ((part :: rest).map tS)) := hl
  have HT : Hid (∀ b, T b → b < W.heap.size) := hT
  have HMU : Hid (Lk.mu ⟨(m : Int), part :: rest, hops⟩ < 1000) := hmu
  have HH : Hid (hops ≤ 6) := hh
  obtain ⟨lb, lo, lc, rfl, hTb, hc3, hc4, h5⟩ := hl.some (by simp)
  rw [List.length_map, List.length_cons] at hc3 HL
  rw [List.length_map, List.length_cons]
  have l0 := h5 0 (tS part) rfl 0 _ rfl
  rw [Nat.zero_mul, Nat.add_zero] at l0
  have hlbl := hT lb hTb
  unfold maxLen at hc4
  have hcz : (1 : Int) ≤ (lc : Int) := by omega
  have hcy : (1 : Int) ≤ (rest.length : Int) + 1 := by omega
  have hcx : (rest.length : Int) + 1 ≤ (lc : Int) := by omega
  obtain ⟨A5, hA5⟩ : ∃ A5 : Addr, (if lc = 1 then some (⟨lb, lo, none⟩ : Addr) else some ⟨lb, lo + 1, none⟩) = some A5 := by split <;> exact ⟨_, rfl⟩
  have HTL : Hid (Row W T 1 (.slice (some A5) rest.length (lc - 1)) (rest.map tS)) := by
    have := row_tail HL.out
    rw [hA5] at this
    exact this
  have d0 : (W.alloc (.cells #[.int .i64 0, .int .i64 0, .string ⟨#[]⟩] 34)).cell? ⟨lb, lo, none⟩ = some (.string part) := by rw [(On.alloc W _).cell hlbl]; exact l0
  clear h5 hl hT hmu hh hTb l0
  rw [hk] at c0
  clear hv hS hx hb hK0 k0 k8
  unfold fdV
  go_enter Tryd.func30, Tryd.ntmps30
  go_wp2_with fail
  generalize (W.alloc (.cells #[.int .i64 0, .int .i64 0, .string ⟨#[]⟩] 34)) = w0 at *
  go_region_held3 (fun w' => w'.cell? ⟨lb, lo, none⟩ = some (.string part)) (go_keep) (fail)
  clear hA5
  have HKP : Hid (Blk w0.drew W.heap.size #[.int .i64 0, .int .i64 0, .string ⟨#[]⟩] 34) := HK0.out
  have HBP : Hid (Below W.heap.size W w0.drew) := HB0.out.drew
  have hn := nx
  unfold Says at hn
  dsimp only at hn
  rw [hR] at hn
  dsimp only at hn
  have HN : Hid (Calls Tryd.prog 30 _ w0.drew _) := hn _ (.slice (some A5) rest.length (lc - 1)) S T w0.drew (HV.out.on ((On.of HBP.out).less HS.out)) (fun b h => Nat.lt_of_lt_of_le (HS.out b h) HBP.out.size) (Row.on HTL.out ((On.of HBP.out).less HT.out)) (fun b h => Nat.lt_of_lt_of_le (HT.out b h) HBP.out.size)
  clear hn
  cases fence with
  | false =>
    clear hno
    go_wp2_with fail
    refine Calls.mono HN.out ?_
    rintro e w9 ⟨rfl, hb9'⟩
    have hK9 : Blk w9 W.heap.size #[.int .i64 0, .int .i64 0, .string ⟨#[]⟩] 34 := HKP.out.below hb9' HKP.out.lt
    have HBX : Hid (Below W.heap.size W w9) := HBP.out.trans (hb9'.mono HBP.out.size)
    have HK9 : Hid (Blk w9 W.heap.size #[.int .i64 0, .int .i64 0, .string ⟨#[]⟩] 34) := hK9
    clear r0 r1 r2 z0 z1 z2 HN hb9'
    have r0 := hK9.cell 0
    have z0 := hK9.free 0
    have r1 := hK9.cell 1
    have z1 := hK9.free 1
    have r2 := hK9.cell 2
    have z2 := hK9.free 2
    have hlt9 := hK9.lt
    clear hK9
    go_wp2
    generalize hW : ((w9.setCell ⟨W.heap.size, 0, none⟩ (.int .i64 fo)).setCell ⟨W.heap.size, 1, none⟩ (.int .i64 fd)).setCell ⟨W.heap.size, 2, none⟩ (.string fn) = W9
    obtain ⟨hb9, ho9, hs9, hB9⟩ := fd_cells HK9.out fo fd fn hW
    have hc9 := hb9.cell
    exact bodyPost_ret (v := .tuple #[.agg #[.int .i64 fo, .int .i64 fd, .string fn], .int .i64 er]) (by simp [results, Tryd.results30, go_sem, hc9]) rfl ⟨rfl, (HBX.out).trans (hB9 _ (Nat.le_refl _))⟩
  | true =>
    have hne : ((m : Int) == base) = false := by simpa using hno
    clear hno
    go_wp2_with fail
    refine Calls.mono HN.out ?_
    rintro e w9 ⟨rfl, hb9'⟩
    have hK9 : Blk w9 W.heap.size #[.int .i64 0, .int .i64 0, .string ⟨#[]⟩] 34 := HKP.out.below hb9' HKP.out.lt
    have HBX : Hid (Below W.heap.size W w9) := HBP.out.trans (hb9'.mono HBP.out.size)
    have HK9 : Hid (Blk w9 W.heap.size #[.int .i64 0, .int .i64 0, .string ⟨#[]⟩] 34) := hK9
    clear r0 r1 r2 z0 z1 z2 HN hb9'
    have r0 := hK9.cell 0
    have z0 := hK9.free 0
    have r1 := hK9.cell 1
    have z1 := hK9.free 1
    have r2 := hK9.cell 2
    have z2 := hK9.free 2
    have hlt9 := hK9.lt
    clear hK9
    go_wp2
    generalize hW : ((w9.setCell ⟨W.heap.size, 0, none⟩ (.int .i64 fo)).setCell ⟨W.heap.size, 1, none⟩ (.int .i64 fd)).setCell ⟨W.heap.size, 2, none⟩ (.string fn) = W9
    obtain ⟨hb9, ho9, hs9, hB9⟩ := fd_cells HK9.out fo fd fn hW
    have hc9 := hb9.cell
    exact bodyPost_ret (v := .tuple #[.agg #[.int .i64 fo, .int .i64 fd, .string fn], .int .i64 er]) (by simp [results, Tryd.results30, go_sem, hc9]) rfl ⟨rfl, (HBX.out).trans (hB9 _ (Nat.le_refl _))⟩
set_option maxRecDepth 100000 in
set_option maxHeartbeats 8000000 in
theorem rwalk_none (L : List Sp.Ob) (m : Nat) (x : Sp.Ob) (vl : Value) (base : Int) (fence follow : Bool) (hops : Nat) (S : Nat → Prop) (W : World) (hv : Objs W S vl L) (hS : ∀ b, S b → b < W.heap.size) (hx : L[m]? = some x) (vleft : Value) (part : ByteArray) (rest : List ByteArray) (T : Nat → Prop) (hl : Row W T 1 vleft ((part :: rest).map tS)) (hT : ∀ b, T b → b < W.heap.size) (hmu : Lk.mu ⟨(m : Int), part :: rest, hops⟩ < 1000) (hh : hops ≤ 6) (hk : x.kind = 2) (hp : (part.toList == [46, 46]) = false) (hr : rest ≠ []) (hneg : Sp.find L (m : Int) part < 0) :
    Calls Tryd.prog 30 #[vl, .int .i64 base, .int .i64 (m : Int), vleft, .bool fence, .bool follow, .int .i64 (hops : Int)] W fun e w' => e = .returned (.tuple #[fdV (Lk.go L base fence follow 1000 ⟨(m : Int), (part :: rest), hops⟩).1.obj (Lk.go L base fence follow 1000 ⟨(m : Int), (part :: rest), hops⟩).1.dir (Lk.go L base fence follow 1000 ⟨(m : Int), (part :: rest), hops⟩).1.name, .int .i64 (Lk.go L base fence follow 1000 ⟨(m : Int), (part :: rest), hops⟩).2]) ∧ Below W.heap.size W w' := by
  have c1 : Lk.isK L (m : Int) 2 = true := by rw [Lk.isK_nat hx, hk]; rfl
  have hp' : Lk.isUp part = false := hp
  have hk3 : Lk.isK L (Sp.find L (m : Int) part) 3 = false := by unfold Lk.isK; rw [if_neg (by omega)]
  have e1 := Lk.one_none (L := L) (base := base) (fence := fence) (follow := follow) (hops := hops) c1 hp' hk3 hr hneg
  have e : (Lk.go L base fence follow 1000 ⟨(m : Int), (part :: rest), hops⟩) = (Lk.nilF, 6) := by rw [Lk.go_stop (Or.inr (by rw [e1]; exact (show ¬ ((6 : Int) = 0) by decide))), e1]
  rw [e]
  have hgt : (0 : Int) < (rest.length : Int) := by have := List.length_pos_iff.2 hr; omega
  clear e e1 c1 hk3 hr
  have HB0 : Hid (Below W.heap.size W (W.alloc (.cells #[.int .i64 0, .int .i64 0, .string ⟨#[]⟩] 34))) := (Below.refl _ _).alloc (Nat.le_refl _) _
  have hK0 : Blk (W.alloc (.cells #[.int .i64 0, .int .i64 0, .string ⟨#[]⟩] 34)) W.heap.size #[.int .i64 0, .int .i64 0, .string ⟨#[]⟩] 34 := Blk.new W _ _
  have HK0 : Hid (Blk (W.alloc (.cells #[.int .i64 0, .int .i64 0, .string ⟨#[]⟩] 34)) W.heap.size #[.int .i64 0, .int .i64 0, .string ⟨#[]⟩] 34) := hK0
  have hml := (List.getElem?_eq_some_iff.1 hx).1
  have HV : Hid (Objs W S vl L) := hv
  have HS : Hid (∀ b, S b → b < W.heap.size) := hS
  have HX : Hid (L[m]? = some x) := hx
  obtain ⟨b, o, c, s, rfl, hb, hc, hm, -, k0, -, -, -, -, -, -, -, k8⟩ := hv.open hx
  have hbl := hS b hb
  unfold maxLen at hm
  have c0 : (W.alloc (.cells #[.int .i64 0, .int .i64 0, .string ⟨#[]⟩] 34)).cell? ⟨b, o + m * 9, none⟩ = some (.int .i64 x.kind) := by rw [(On.alloc W _).cell hbl]; exact k0
  have c8 : (W.alloc (.cells #[.int .i64 0, .int .i64 0, .string ⟨#[]⟩] 34)).cell? ⟨b, o + m * 9 + 8, none⟩ = some (.int .i64 x.up) := by rw [(On.alloc W _).cell hbl]; exact k8
  have r0 := hK0.cell 0
  have z0 := hK0.free 0
  have r1 := hK0.cell 1
  have z1 := hK0.free 1
  have r2 := hK0.cell 2
  have z2 := hK0.free 2
  have hlt0 := hK0.lt
  have n3 : ¬ b = W.heap.size := by omega
  have HL : Hid (Row W T 1 vleft ((part :: rest).map tS)) := hl
  have HT : Hid (∀ b, T b → b < W.heap.size) := hT
  have HMU : Hid (Lk.mu ⟨(m : Int), part :: rest, hops⟩ < 1000) := hmu
  have HH : Hid (hops ≤ 6) := hh
  obtain ⟨lb, lo, lc, rfl, hTb, hc3, hc4, h5⟩ := hl.some (by simp)
  rw [List.length_map, List.length_cons] at hc3 HL
  rw [List.length_map, List.length_cons]
  have l0 := h5 0 (tS part) rfl 0 _ rfl
  rw [Nat.zero_mul, Nat.add_zero] at l0
  have hlbl := hT lb hTb
  unfold maxLen at hc4
  have hcz : (1 : Int) ≤ (lc : Int) := by omega
  have hcy : (1 : Int) ≤ (rest.length : Int) + 1 := by omega
  have hcx : (rest.length : Int) + 1 ≤ (lc : Int) := by omega
  obtain ⟨A5, hA5⟩ : ∃ A5 : Addr, (if lc = 1 then some (⟨lb, lo, none⟩ : Addr) else some ⟨lb, lo + 1, none⟩) = some A5 := by split <;> exact ⟨_, rfl⟩
  have HTL : Hid (Row W T 1 (.slice (some A5) rest.length (lc - 1)) (rest.map tS)) := by
    have := row_tail HL.out
    rw [hA5] at this
    exact this
  have d0 : (W.alloc (.cells #[.int .i64 0, .int .i64 0, .string ⟨#[]⟩] 34)).cell? ⟨lb, lo, none⟩ = some (.string part) := by rw [(On.alloc W _).cell hlbl]; exact l0
  clear h5 hl hT hmu hh hTb l0
  rw [hk] at c0
  clear hv hS hx hb hK0 k0 k8
  unfold fdV
  go_enter Tryd.func30, Tryd.ntmps30
  go_wp2_with fail
  generalize (W.alloc (.cells #[.int .i64 0, .int .i64 0, .string ⟨#[]⟩] 34)) = w0 at *
  go_region_held3 (fun w' => w'.cell? ⟨lb, lo, none⟩ = some (.string part)) (go_keep) (fail)
  clear hA5
  have HF : Hid (Calls Tryd.prog 14 #[.slice (some ⟨b, o, none⟩) L.length c, .int .i64 (m : Int), .string part] w0.drew fun e w' => e = .returned (.int .i64 (Sp.find L (m : Int) part)) ∧ Below w0.drew.heap.size w0.drew w') := rfind_any L (m : Int) part _ S w0.drew (HV.out.on ((On.of HB0.out.drew).less HS.out)) (fun b h => Nat.lt_of_lt_of_le (HS.out b h) HB0.out.drew.size)
  go_wp2_with fail
  refine Calls.mono HF.out ?_
  rintro e w2 ⟨rfl, hb2⟩
  have hK2 : Blk w2 W.heap.size #[.int .i64 0, .int .i64 0, .string ⟨#[]⟩] 34 := Blk.below (w := w0.drew) HK0.out hb2 HK0.out.lt
  have HK2 : Hid (Blk w2 W.heap.size #[.int .i64 0, .int .i64 0, .string ⟨#[]⟩] 34) := hK2
  have HB2 : Hid (Below W.heap.size W w2) := HB0.out.drew.trans (hb2.mono HB0.out.drew.size)
  have HV2 : Hid (Objs w2 S (.slice (some ⟨b, o, none⟩) L.length c) L) := HV.out.on ((On.of HB2.out).less HS.out)
  have HT2 : Hid (Row w2 T 1 (.slice (some A5) rest.length (lc - 1)) (rest.map tS)) := Row.on HTL.out ((On.of HB2.out).less HT.out)
  clear r0 r1 r2 z0 z1 z2 c0 c8 d0 hb2 HF
  have r0 := hK2.cell 0
  have z0 := hK2.free 0
  have r1 := hK2.cell 1
  have z1 := hK2.free 1
  have r2 := hK2.cell 2
  have z2 := hK2.free 2
  have hlt2 := hK2.lt
  clear hK2
  go_wp2
  generalize hW : ((w2.setCell ⟨W.heap.size, 0, none⟩ (.int .i64 0)).setCell ⟨W.heap.size, 1, none⟩ (.int .i64 0)).setCell ⟨W.heap.size, 2, none⟩ (.string ⟨#[]⟩) = W9
  obtain ⟨hb9, ho9, hs9, hB9⟩ := fd_cells HK2.out 0 0 ⟨#[]⟩ hW
  have hc9 := hb9.cell
  exact bodyPost_ret (v := .tuple #[.agg #[.int .i64 0, .int .i64 0, .string ⟨#[]⟩], .int .i64 6]) (by simp [results, Tryd.results30, go_sem, hc9]) rfl ⟨rfl, (HB2.out).trans (hB9 _ (Nat.le_refl _))⟩
set_option maxRecDepth 100000 in
set_option maxHeartbeats 8000000 in
theorem rwalk_new (L : List Sp.Ob) (m : Nat) (x : Sp.Ob) (vl : Value) (base : Int) (fence follow : Bool) (hops : Nat) (S : Nat → Prop) (W : World) (hv : Objs W S vl L) (hS : ∀ b, S b → b < W.heap.size) (hx : L[m]? = some x) (vleft : Value) (part : ByteArray) (rest : List ByteArray) (T : Nat → Prop) (hl : Row W T 1 vleft ((part :: rest).map tS)) (hT : ∀ b, T b → b < W.heap.size) (hmu : Lk.mu ⟨(m : Int), part :: rest, hops⟩ < 1000) (hh : hops ≤ 6) (hk : x.kind = 2) (hp : (part.toList == [46, 46]) = false) (hr : rest = []) (hm1 : Sp.find L (m : Int) part = -1) :
    Calls Tryd.prog 30 #[vl, .int .i64 base, .int .i64 (m : Int), vleft, .bool fence, .bool follow, .int .i64 (hops : Int)] W fun e w' => e = .returned (.tuple #[fdV (Lk.go L base fence follow 1000 ⟨(m : Int), (part :: rest), hops⟩).1.obj (Lk.go L base fence follow 1000 ⟨(m : Int), (part :: rest), hops⟩).1.dir (Lk.go L base fence follow 1000 ⟨(m : Int), (part :: rest), hops⟩).1.name, .int .i64 (Lk.go L base fence follow 1000 ⟨(m : Int), (part :: rest), hops⟩).2]) ∧ Below W.heap.size W w' := by
  have c1 : Lk.isK L (m : Int) 2 = true := by rw [Lk.isK_nat hx, hk]; rfl
  have hp' : Lk.isUp part = false := hp
  have hk3 : Lk.isK L (Sp.find L (m : Int) part) 3 = false := by unfold Lk.isK; rw [if_neg (by rw [hm1]; decide)]
  have e1 : Lk.one L base fence follow (m : Int) part rest hops = ⟨⟨Sp.find L (m : Int) part, (m : Int), part⟩, true, 0, ⟨(m : Int), [], hops⟩⟩ := by rw [hr]; exact Lk.one_last (L := L) (base := base) (fence := fence) (follow := follow) (hops := hops) c1 hp' (Or.inl hk3)
  have e : (Lk.go L base fence follow 1000 ⟨(m : Int), (part :: rest), hops⟩) = (⟨Sp.find L (m : Int) part, (m : Int), part⟩, 0) := by rw [Lk.go_stop (Or.inl (by rw [e1])), e1]
  rw [e]
  have HM1 : Hid (Sp.find L (m : Int) part = -1) := hm1
  rw [hm1]
  clear e e1 c1 hk3 hm1
  have hz : ((rest.length : Nat) : Int) = 0 := by rw [hr]; rfl
  clear hr
  have HB0 : Hid (Below W.heap.size W (W.alloc (.cells #[.int .i64 0, .int .i64 0, .string ⟨#[]⟩] 34))) := (Below.refl _ _).alloc (Nat.le_refl _) _
  have hK0 : Blk (W.alloc (.cells #[.int .i64 0, .int .i64 0, .string ⟨#[]⟩] 34)) W.heap.size #[.int .i64 0, .int .i64 0, .string ⟨#[]⟩] 34 := Blk.new W _ _
  have HK0 : Hid (Blk (W.alloc (.cells #[.int .i64 0, .int .i64 0, .string ⟨#[]⟩] 34)) W.heap.size #[.int .i64 0, .int .i64 0, .string ⟨#[]⟩] 34) := hK0
  have hml := (List.getElem?_eq_some_iff.1 hx).1
  have HV : Hid (Objs W S vl L) := hv
  have HS : Hid (∀ b, S b → b < W.heap.size) := hS
  have HX : Hid (L[m]? = some x) := hx
  obtain ⟨b, o, c, s, rfl, hb, hc, hm, -, k0, -, -, -, -, -, -, -, k8⟩ := hv.open hx
  have hbl := hS b hb
  unfold maxLen at hm
  have c0 : (W.alloc (.cells #[.int .i64 0, .int .i64 0, .string ⟨#[]⟩] 34)).cell? ⟨b, o + m * 9, none⟩ = some (.int .i64 x.kind) := by rw [(On.alloc W _).cell hbl]; exact k0
  have c8 : (W.alloc (.cells #[.int .i64 0, .int .i64 0, .string ⟨#[]⟩] 34)).cell? ⟨b, o + m * 9 + 8, none⟩ = some (.int .i64 x.up) := by rw [(On.alloc W _).cell hbl]; exact k8
  have r0 := hK0.cell 0
  have z0 := hK0.free 0
  have r1 := hK0.cell 1
  have z1 := hK0.free 1
  have r2 := hK0.cell 2
  have z2 := hK0.free 2
  have hlt0 := hK0.lt
  have n3 : ¬ b = W.heap.size := by omega
  have HL : Hid (Row W T 1 vleft ((part :: rest).map tS)) := hl
  have HT : Hid (∀ b, T b → b < W.heap.size) := hT
  have HMU : Hid (Lk.mu ⟨(m : Int), part :: rest, hops⟩ < 1000) := hmu
  have HH : Hid (hops ≤ 6) := hh
  obtain ⟨lb, lo, lc, rfl, hTb, hc3, hc4, h5⟩ := hl.some (by simp)
  rw [List.length_map, List.length_cons] at hc3 HL
  rw [List.length_map, List.length_cons]
  have l0 := h5 0 (tS part) rfl 0 _ rfl
  rw [Nat.zero_mul, Nat.add_zero] at l0
  have hlbl := hT lb hTb
  unfold maxLen at hc4
  have hcz : (1 : Int) ≤ (lc : Int) := by omega
  have hcy : (1 : Int) ≤ (rest.length : Int) + 1 := by omega
  have hcx : (rest.length : Int) + 1 ≤ (lc : Int) := by omega
  obtain ⟨A5, hA5⟩ : ∃ A5 : Addr, (if lc = 1 then some (⟨lb, lo, none⟩ : Addr) else some ⟨lb, lo + 1, none⟩) = some A5 := by split <;> exact ⟨_, rfl⟩
  have HTL : Hid (Row W T 1 (.slice (some A5) rest.length (lc - 1)) (rest.map tS)) := by
    have := row_tail HL.out
    rw [hA5] at this
    exact this
  have d0 : (W.alloc (.cells #[.int .i64 0, .int .i64 0, .string ⟨#[]⟩] 34)).cell? ⟨lb, lo, none⟩ = some (.string part) := by rw [(On.alloc W _).cell hlbl]; exact l0
  clear h5 hl hT hmu hh hTb l0
  rw [hk] at c0
  clear hv hS hx hb hK0 k0 k8
  unfold fdV
  go_enter Tryd.func30, Tryd.ntmps30
  go_wp2_with fail
  generalize (W.alloc (.cells #[.int .i64 0, .int .i64 0, .string ⟨#[]⟩] 34)) = w0 at *
  go_region_held3 (fun w' => w'.cell? ⟨lb, lo, none⟩ = some (.string part)) (go_keep) (fail)
  clear hA5
  have HF : Hid (Calls Tryd.prog 14 #[.slice (some ⟨b, o, none⟩) L.length c, .int .i64 (m : Int), .string part] w0.drew fun e w' => e = .returned (.int .i64 (Sp.find L (m : Int) part)) ∧ Below w0.drew.heap.size w0.drew w') := rfind_any L (m : Int) part _ S w0.drew (HV.out.on ((On.of HB0.out.drew).less HS.out)) (fun b h => Nat.lt_of_lt_of_le (HS.out b h) HB0.out.drew.size)
  go_wp2_with fail
  refine Calls.mono HF.out ?_
  rw [HM1.out]
  rintro e w2 ⟨rfl, hb2⟩
  have hK2 : Blk w2 W.heap.size #[.int .i64 0, .int .i64 0, .string ⟨#[]⟩] 34 := Blk.below (w := w0.drew) HK0.out hb2 HK0.out.lt
  have HK2 : Hid (Blk w2 W.heap.size #[.int .i64 0, .int .i64 0, .string ⟨#[]⟩] 34) := hK2
  have HB2 : Hid (Below W.heap.size W w2) := HB0.out.drew.trans (hb2.mono HB0.out.drew.size)
  have HV2 : Hid (Objs w2 S (.slice (some ⟨b, o, none⟩) L.length c) L) := HV.out.on ((On.of HB2.out).less HS.out)
  have HT2 : Hid (Row w2 T 1 (.slice (some A5) rest.length (lc - 1)) (rest.map tS)) := Row.on HTL.out ((On.of HB2.out).less HT.out)
  clear r0 r1 r2 z0 z1 z2 c0 c8 d0 hb2 HF
  have r0 := hK2.cell 0
  have z0 := hK2.free 0
  have r1 := hK2.cell 1
  have z1 := hK2.free 1
  have r2 := hK2.cell 2
  have z2 := hK2.free 2
  have hlt2 := hK2.lt
  clear hK2
  go_wp2
  generalize hW : ((w2.setCell ⟨W.heap.size, 0, none⟩ (.int .i64 (-1))).setCell ⟨W.heap.size, 1, none⟩ (.int .i64 (m : Int))).setCell ⟨W.heap.size, 2, none⟩ (.string part) = W9
  obtain ⟨hb9, ho9, hs9, hB9⟩ := fd_cells HK2.out (-1) (m : Int) part hW
  have hc9 := hb9.cell
  exact bodyPost_ret (v := .tuple #[.agg #[.int .i64 (-1), .int .i64 (m : Int), .string part], .int .i64 0]) (by simp [results, Tryd.results30, go_sem, hc9]) rfl ⟨rfl, (HB2.out).trans (hB9 _ (Nat.le_refl _))⟩
set_option maxRecDepth 100000 in
set_option maxHeartbeats 8000000 in
theorem rwalk_last (L : List Sp.Ob) (m : Nat) (x : Sp.Ob) (vl : Value) (base : Int) (fence follow : Bool) (hops : Nat) (S : Nat → Prop) (W : World) (hv : Objs W S vl L) (hS : ∀ b, S b → b < W.heap.size) (hx : L[m]? = some x) (vleft : Value) (part : ByteArray) (rest : List ByteArray) (T : Nat → Prop) (hl : Row W T 1 vleft ((part :: rest).map tS)) (hT : ∀ b, T b → b < W.heap.size) (hmu : Lk.mu ⟨(m : Int), part :: rest, hops⟩ < 1000) (hh : hops ≤ 6) (hk : x.kind = 2) (hp : (part.toList == [46, 46]) = false) (n : Nat) (y : Sp.Ob) (hkn : Sp.find L (m : Int) part = (n : Int)) (hy : L[n]? = some y) (hr : rest = []) (hnl3 : (y.kind == 3) = false ∨ follow = false) :
    Calls Tryd.prog 30 #[vl, .int .i64 base, .int .i64 (m : Int), vleft, .bool fence, .bool follow, .int .i64 (hops : Int)] W fun e w' => e = .returned (.tuple #[fdV (Lk.go L base fence follow 1000 ⟨(m : Int), (part :: rest), hops⟩).1.obj (Lk.go L base fence follow 1000 ⟨(m : Int), (part :: rest), hops⟩).1.dir (Lk.go L base fence follow 1000 ⟨(m : Int), (part :: rest), hops⟩).1.name, .int .i64 (Lk.go L base fence follow 1000 ⟨(m : Int), (part :: rest), hops⟩).2]) ∧ Below W.heap.size W w' := by
  have c1 : Lk.isK L (m : Int) 2 = true := by rw [Lk.isK_nat hx, hk]; rfl
  have hp' : Lk.isUp part = false := hp
  have hk3 : Lk.isK L (Sp.find L (m : Int) part) 3 = (y.kind == 3) := by rw [hkn]; exact Lk.isK_nat hy 3
  have e1 : Lk.one L base fence follow (m : Int) part rest hops = ⟨⟨Sp.find L (m : Int) part, (m : Int), part⟩, true, 0, ⟨(m : Int), [], hops⟩⟩ := by rw [hr]; exact Lk.one_last c1 hp' (by rw [hk3]; rcases hnl3 with h | h; exact Or.inl h; exact Or.inr h)
  have e : (Lk.go L base fence follow 1000 ⟨(m : Int), (part :: rest), hops⟩) = (⟨(n : Int), (m : Int), part⟩, 0) := by rw [Lk.go_stop (Or.inl (by rw [e1])), e1, hkn]
  rw [e]
  have hz : ((rest.length : Nat) : Int) = 0 := by rw [hr]; rfl
  clear e e1 c1 hk3 hr
  have HB0 : Hid (Below W.heap.size W (W.alloc (.cells #[.int .i64 0, .int .i64 0, .string ⟨#[]⟩] 34))) := (Below.refl _ _).alloc (Nat.le_refl _) _
  have hK0 : Blk (W.alloc (.cells #[.int .i64 0, .int .i64 0, .string ⟨#[]⟩] 34)) W.heap.size #[.int .i64 0, .int .i64 0, .string ⟨#[]⟩] 34 := Blk.new W _ _
  have HK0 : Hid (Blk (W.alloc (.cells #[.int .i64 0, .int .i64 0, .string ⟨#[]⟩] 34)) W.heap.size #[.int .i64 0, .int .i64 0, .string ⟨#[]⟩] 34) := hK0
  have hml := (List.getElem?_eq_some_iff.1 hx).1
  have HV : Hid (Objs W S vl L) := hv
  have HS : Hid (∀ b, S b → b < W.heap.size) := hS
  have HX : Hid (L[m]? = some x) := hx
  obtain ⟨b, o, c, s, rfl, hb, hc, hm, -, k0, -, -, -, -, -, -, -, k8⟩ := hv.open hx
  have hbl := hS b hb
  unfold maxLen at hm
  have c0 : (W.alloc (.cells #[.int .i64 0, .int .i64 0, .string ⟨#[]⟩] 34)).cell? ⟨b, o + m * 9, none⟩ = some (.int .i64 x.kind) := by rw [(On.alloc W _).cell hbl]; exact k0
  have c8 : (W.alloc (.cells #[.int .i64 0, .int .i64 0, .string ⟨#[]⟩] 34)).cell? ⟨b, o + m * 9 + 8, none⟩ = some (.int .i64 x.up) := by rw [(On.alloc W _).cell hbl]; exact k8
  have r0 := hK0.cell 0
  have z0 := hK0.free 0
  have r1 := hK0.cell 1
  have z1 := hK0.free 1
  have r2 := hK0.cell 2
  have z2 := hK0.free 2
  have hlt0 := hK0.lt
  have n3 : ¬ b = W.heap.size := by omega
  have HL : Hid (Row W T 1 vleft ((part :: rest).map tS)) := hl
  have HT : Hid (∀ b, T b → b < W.heap.size) := hT
  have HMU : Hid (Lk.mu ⟨(m : Int), part :: rest, hops⟩ < 1000) := hmu
  have HH : Hid (hops ≤ 6) := hh
  obtain ⟨lb, lo, lc, rfl, hTb, hc3, hc4, h5⟩ := hl.some (by simp)
  rw [List.length_map, List.length_cons] at hc3 HL
  rw [List.length_map, List.length_cons]
  have l0 := h5 0 (tS part) rfl 0 _ rfl
  rw [Nat.zero_mul, Nat.add_zero] at l0
  have hlbl := hT lb hTb
  unfold maxLen at hc4
  have hcz : (1 : Int) ≤ (lc : Int) := by omega
  have hcy : (1 : Int) ≤ (rest.length : Int) + 1 := by omega
  have hcx : (rest.length : Int) + 1 ≤ (lc : Int) := by omega
  obtain ⟨A5, hA5⟩ : ∃ A5 : Addr, (if lc = 1 then some (⟨lb, lo, none⟩ : Addr) else some ⟨lb, lo + 1, none⟩) = some A5 := by split <;> exact ⟨_, rfl⟩
  have HTL : Hid (Row W T 1 (.slice (some A5) rest.length (lc - 1)) (rest.map tS)) := by
    have := row_tail HL.out
    rw [hA5] at this
    exact this
  have d0 : (W.alloc (.cells #[.int .i64 0, .int .i64 0, .string ⟨#[]⟩] 34)).cell? ⟨lb, lo, none⟩ = some (.string part) := by rw [(On.alloc W _).cell hlbl]; exact l0
  clear h5 hl hT hmu hh hTb l0
  rw [hk] at c0
  have HY : Hid (L[n]? = some y) := hy
  have hnl := (List.getElem?_eq_some_iff.1 hy).1
  have HKN : Hid (Sp.find L (m : Int) part = (n : Int)) := hkn
  clear hy hkn
  clear hv hS hx hb hK0 k0 k8
  unfold fdV
  go_enter Tryd.func30, Tryd.ntmps30
  go_wp2_with fail
  generalize (W.alloc (.cells #[.int .i64 0, .int .i64 0, .string ⟨#[]⟩] 34)) = w0 at *
  go_region_held3 (fun w' => w'.cell? ⟨lb, lo, none⟩ = some (.string part)) (go_keep) (fail)
  clear hA5
  have HF : Hid (Calls Tryd.prog 14 #[.slice (some ⟨b, o, none⟩) L.length c, .int .i64 (m : Int), .string part] w0.drew fun e w' => e = .returned (.int .i64 (Sp.find L (m : Int) part)) ∧ Below w0.drew.heap.size w0.drew w') := rfind_any L (m : Int) part _ S w0.drew (HV.out.on ((On.of HB0.out.drew).less HS.out)) (fun b h => Nat.lt_of_lt_of_le (HS.out b h) HB0.out.drew.size)
  go_wp2_with fail
  refine Calls.mono HF.out ?_
  rw [HKN.out]
  rintro e w2 ⟨rfl, hb2⟩
  have hK2 : Blk w2 W.heap.size #[.int .i64 0, .int .i64 0, .string ⟨#[]⟩] 34 := Blk.below (w := w0.drew) HK0.out hb2 HK0.out.lt
  have HK2 : Hid (Blk w2 W.heap.size #[.int .i64 0, .int .i64 0, .string ⟨#[]⟩] 34) := hK2
  have HB2 : Hid (Below W.heap.size W w2) := HB0.out.drew.trans (hb2.mono HB0.out.drew.size)
  have HV2 : Hid (Objs w2 S (.slice (some ⟨b, o, none⟩) L.length c) L) := HV.out.on ((On.of HB2.out).less HS.out)
  have HT2 : Hid (Row w2 T 1 (.slice (some A5) rest.length (lc - 1)) (rest.map tS)) := Row.on HTL.out ((On.of HB2.out).less HT.out)
  clear r0 r1 r2 z0 z1 z2 c0 c8 d0 hb2 HF
  have r0 := hK2.cell 0
  have z0 := hK2.free 0
  have r1 := hK2.cell 1
  have z1 := hK2.free 1
  have r2 := hK2.cell 2
  have z2 := hK2.free 2
  have hlt2 := hK2.lt
  clear hK2
  obtain ⟨b', o', c', s', he, -, -, -, -, y0, -, -, y3, -⟩ := HV2.out.open HY.out
  obtain ⟨e1, -, rfl⟩ := Value.slice.inj he
  cases e1
  clear he
  rcases hnl3 with h3 | h3
  ·
    go_wp2
    generalize hW : ((w2.setCell ⟨W.heap.size, 0, none⟩ (.int .i64 (n : Int))).setCell ⟨W.heap.size, 1, none⟩ (.int .i64 (m : Int))).setCell ⟨W.heap.size, 2, none⟩ (.string part) = W9
    obtain ⟨hb9, ho9, hs9, hB9⟩ := fd_cells HK2.out (n : Int) (m : Int) part hW
    have hc9 := hb9.cell
    exact bodyPost_ret (v := .tuple #[.agg #[.int .i64 (n : Int), .int .i64 (m : Int), .string part], .int .i64 0]) (by simp [results, Tryd.results30, go_sem, hc9]) rfl ⟨rfl, (HB2.out).trans (hB9 _ (Nat.le_refl _))⟩
  · subst h3
    cases hyk : (y.kind == 3) with
    | true =>
      go_wp2
      generalize hW : ((w2.setCell ⟨W.heap.size, 0, none⟩ (.int .i64 (n : Int))).setCell ⟨W.heap.size, 1, none⟩ (.int .i64 (m : Int))).setCell ⟨W.heap.size, 2, none⟩ (.string part) = W9
      obtain ⟨hb9, ho9, hs9, hB9⟩ := fd_cells HK2.out (n : Int) (m : Int) part hW
      have hc9 := hb9.cell
      exact bodyPost_ret (v := .tuple #[.agg #[.int .i64 (n : Int), .int .i64 (m : Int), .string part], .int .i64 0]) (by simp [results, Tryd.results30, go_sem, hc9]) rfl ⟨rfl, (HB2.out).trans (hB9 _ (Nat.le_refl _))⟩
    | false =>
      go_wp2
      generalize hW : ((w2.setCell ⟨W.heap.size, 0, none⟩ (.int .i64 (n : Int))).setCell ⟨W.heap.size, 1, none⟩ (.int .i64 (m : Int))).setCell ⟨W.heap.size, 2, none⟩ (.string part) = W9
      obtain ⟨hb9, ho9, hs9, hB9⟩ := fd_cells HK2.out (n : Int) (m : Int) part hW
      have hc9 := hb9.cell
      exact bodyPost_ret (v := .tuple #[.agg #[.int .i64 (n : Int), .int .i64 (m : Int), .string part], .int .i64 0]) (by simp [results, Tryd.results30, go_sem, hc9]) rfl ⟨rfl, (HB2.out).trans (hB9 _ (Nat.le_refl _))⟩
set_option maxRecDepth 100000 in
set_option maxHeartbeats 8000000 in
theorem rwalk_go (L : List Sp.Ob) (m : Nat) (x : Sp.Ob) (vl : Value) (base : Int) (fence follow : Bool) (hops : Nat) (S : Nat → Prop) (W : World) (hv : Objs W S vl L) (hS : ∀ b, S b → b < W.heap.size) (hx : L[m]? = some x) (vleft : Value) (part : ByteArray) (rest : List ByteArray) (T : Nat → Prop) (hl : Row W T 1 vleft ((part :: rest).map tS)) (hT : ∀ b, T b → b < W.heap.size) (hmu : Lk.mu ⟨(m : Int), part :: rest, hops⟩ < 1000) (hh : hops ≤ 6) (hk : x.kind = 2) (hp : (part.toList == [46, 46]) = false) (n : Nat) (y : Sp.Ob) (hkn : Sp.find L (m : Int) part = (n : Int)) (hy : L[n]? = some y) (hr : rest ≠ []) (hnl3 : (y.kind == 3) = false) (nx : Says L base fence follow ⟨(n : Int), rest, hops⟩) :
    Calls Tryd.prog 30 #[vl, .int .i64 base, .int .i64 (m : Int), vleft, .bool fence, .bool follow, .int .i64 (hops : Int)] W fun e w' => e = .returned (.tuple #[fdV (Lk.go L base fence follow 1000 ⟨(m : Int), (part :: rest), hops⟩).1.obj (Lk.go L base fence follow 1000 ⟨(m : Int), (part :: rest), hops⟩).1.dir (Lk.go L base fence follow 1000 ⟨(m : Int), (part :: rest), hops⟩).1.name, .int .i64 (Lk.go L base fence follow 1000 ⟨(m : Int), (part :: rest), hops⟩).2]) ∧ Below W.heap.size W w' := by
  have c1 : Lk.isK L (m : Int) 2 = true := by rw [Lk.isK_nat hx, hk]; rfl
  have hp' : Lk.isUp part = false := hp
  have hk3 : Lk.isK L (Sp.find L (m : Int) part) 3 = false := by rw [hkn, Lk.isK_nat hy, hnl3]
  have e1 : Lk.one L base fence follow (m : Int) part rest hops = ⟨Lk.nilF, false, 0, ⟨Sp.find L (m : Int) part, rest, hops⟩⟩ := Lk.one_go c1 hp' hk3 hr (by rw [hkn]; omega)
  have e : (Lk.go L base fence follow 1000 ⟨(m : Int), (part :: rest), hops⟩) = Lk.go L base fence follow 1000 ⟨(n : Int), rest, hops⟩ := by rw [Lk.go_step hh hmu (by rw [e1]) (by rw [e1]), e1, hkn]
  rw [e]
  have hz : ((rest.length : Int) == 0) = false := by have := List.length_pos_iff.2 hr; rw [beq_eq_false_iff_ne]; omega
  obtain ⟨R, hR⟩ : ∃ R, Lk.go L base fence follow 1000 ⟨(n : Int), rest, hops⟩ = R := ⟨_, rfl⟩
  rw [hR]
  obtain ⟨⟨fo, fd, fn⟩, er⟩ := R
  clear e e1 c1 hk3 hr
  have HB0 : Hid (Below W.heap.size W (W.alloc (.cells #[.int .i64 0, .int .i64 0, .string ⟨#[]⟩] 34))) := (Below.refl _ _).alloc (Nat.le_refl _) _
  have hK0 : Blk (W.alloc (.cells #[.int .i64 0, .int .i64 0, .string ⟨#[]⟩] 34)) W.heap.size #[.int .i64 0, .int .i64 0, .string ⟨#[]⟩] 34 := Blk.new W _ _
  have HK0 : Hid (Blk (W.alloc (.cells #[.int .i64 0, .int .i64 0, .string ⟨#[]⟩] 34)) W.heap.size #[.int .i64 0, .int .i64 0, .string ⟨#[]⟩] 34) := hK0
  have hml := (List.getElem?_eq_some_iff.1 hx).1
  have HV : Hid (Objs W S vl L) := hv
  have HS : Hid (∀ b, S b → b < W.heap.size) := hS
  have HX : Hid (L[m]? = some x) := hx
  obtain ⟨b, o, c, s, rfl, hb, hc, hm, -, k0, -, -, -, -, -, -, -, k8⟩ := hv.open hx
  have hbl := hS b hb
  unfold maxLen at hm
  have c0 : (W.alloc (.cells #[.int .i64 0, .int .i64 0, .string ⟨#[]⟩] 34)).cell? ⟨b, o + m * 9, none⟩ = some (.int .i64 x.kind) := by rw [(On.alloc W _).cell hbl]; exact k0
  have c8 : (W.alloc (.cells #[.int .i64 0, .int .i64 0, .string ⟨#[]⟩] 34)).cell? ⟨b, o + m * 9 + 8, none⟩ = some (.int .i64 x.up) := by rw [(On.alloc W _).cell hbl]; exact k8
  have r0 := hK0.cell 0
  have z0 := hK0.free 0
  have r1 := hK0.cell 1
  have z1 := hK0.free 1
  have r2 := hK0.cell 2
  have z2 := hK0.free 2
  have hlt0 := hK0.lt
  have n3 : ¬ b = W.heap.size := by omega
  have HL : Hid (Row W T 1 vleft ((part :: rest).map tS)) := hl
  have HT : Hid (∀ b, T b → b < W.heap.size) := hT
  have HMU : Hid (Lk.mu ⟨(m : Int), part :: rest, hops⟩ < 1000) := hmu
  have HH : Hid (hops ≤ 6) := hh
  obtain ⟨lb, lo, lc, rfl, hTb, hc3, hc4, h5⟩ := hl.some (by simp)
  rw [List.length_map, List.length_cons] at hc3 HL
  rw [List.length_map, List.length_cons]
  have l0 := h5 0 (tS part) rfl 0 _ rfl
  rw [Nat.zero_mul, Nat.add_zero] at l0
  have hlbl := hT lb hTb
  unfold maxLen at hc4
  have hcz : (1 : Int) ≤ (lc : Int) := by omega
  have hcy : (1 : Int) ≤ (rest.length : Int) + 1 := by omega
  have hcx : (rest.length : Int) + 1 ≤ (lc : Int) := by omega
  obtain ⟨A5, hA5⟩ : ∃ A5 : Addr, (if lc = 1 then some (⟨lb, lo, none⟩ : Addr) else some ⟨lb, lo + 1, none⟩) = some A5 := by split <;> exact ⟨_, rfl⟩
  have HTL : Hid (Row W T 1 (.slice (some A5) rest.length (lc - 1)) (rest.map tS)) := by
    have := row_tail HL.out
    rw [hA5] at this
    exact this
  have d0 : (W.alloc (.cells #[.int .i64 0, .int .i64 0, .string ⟨#[]⟩] 34)).cell? ⟨lb, lo, none⟩ = some (.string part) := by rw [(On.alloc W _).cell hlbl]; exact l0
  clear h5 hl hT hmu hh hTb l0
  rw [hk] at c0
  have HY : Hid (L[n]? = some y) := hy
  have hnl := (List.getElem?_eq_some_iff.1 hy).1
  have HKN : Hid (Sp.find L (m : Int) part = (n : Int)) := hkn
  clear hy hkn
  clear hv hS hx hb hK0 k0 k8
  unfold fdV
  go_enter Tryd.func30, Tryd.ntmps30
  go_wp2_with fail
  generalize (W.alloc (.cells #[.int .i64 0, .int .i64 0, .string ⟨#[]⟩] 34)) = w0 at *
  go_region_held3 (fun w' => w'.cell? ⟨lb, lo, none⟩ = some (.string part)) (go_keep) (fail)
  clear hA5
  have HF : Hid (Calls Tryd.prog 14 #[.slice (some ⟨b, o, none⟩) L.length c, .int .i64 (m : Int), .string part] w0.drew fun e w' => e = .returned (.int .i64 (Sp.find L (m : Int) part)) ∧ Below w0.drew.heap.size w0.drew w') := rfind_any L (m : Int) part _ S w0.drew (HV.out.on ((On.of HB0.out.drew).less HS.out)) (fun b h => Nat.lt_of_lt_of_le (HS.out b h) HB0.out.drew.size)
  go_wp2_with fail
  refine Calls.mono HF.out ?_
  rw [HKN.out]
  rintro e w2 ⟨rfl, hb2⟩
  have hK2 : Blk w2 W.heap.size #[.int .i64 0, .int .i64 0, .string ⟨#[]⟩] 34 := Blk.below (w := w0.drew) HK0.out hb2 HK0.out.lt
  have HK2 : Hid (Blk w2 W.heap.size #[.int .i64 0, .int .i64 0, .string ⟨#[]⟩] 34) := hK2
  have HB2 : Hid (Below W.heap.size W w2) := HB0.out.drew.trans (hb2.mono HB0.out.drew.size)
  have HV2 : Hid (Objs w2 S (.slice (some ⟨b, o, none⟩) L.length c) L) := HV.out.on ((On.of HB2.out).less HS.out)
  have HT2 : Hid (Row w2 T 1 (.slice (some A5) rest.length (lc - 1)) (rest.map tS)) := Row.on HTL.out ((On.of HB2.out).less HT.out)
  clear r0 r1 r2 z0 z1 z2 c0 c8 d0 hb2 HF
  have r0 := hK2.cell 0
  have z0 := hK2.free 0
  have r1 := hK2.cell 1
  have z1 := hK2.free 1
  have r2 := hK2.cell 2
  have z2 := hK2.free 2
  have hlt2 := hK2.lt
  clear hK2
  obtain ⟨b', o', c', s', he, -, -, -, -, y0, -, -, y3, -⟩ := HV2.out.open HY.out
  obtain ⟨e1, -, rfl⟩ := Value.slice.inj he
  cases e1
  clear he
  have HKP : Hid (Blk w2 W.heap.size #[.int .i64 0, .int .i64 0, .string ⟨#[]⟩] 34) := HK2.out
  have HBP : Hid (Below W.heap.size W w2) := HB2.out
  have hn := nx
  unfold Says at hn
  dsimp only at hn
  rw [hR] at hn
  dsimp only at hn
  have HN : Hid (Calls Tryd.prog 30 _ w2 _) := hn _ (.slice (some A5) rest.length (lc - 1)) S T w2 HV2.out (fun b h => Nat.lt_of_lt_of_le (HS.out b h) HBP.out.size) HT2.out (fun b h => Nat.lt_of_lt_of_le (HT.out b h) HBP.out.size)
  clear hn
  go_wp2_with fail
  refine Calls.mono HN.out ?_
  rintro e w9 ⟨rfl, hb9'⟩
  have hK9 : Blk w9 W.heap.size #[.int .i64 0, .int .i64 0, .string ⟨#[]⟩] 34 := HKP.out.below hb9' HKP.out.lt
  have HBX : Hid (Below W.heap.size W w9) := HBP.out.trans (hb9'.mono HBP.out.size)
  have HK9 : Hid (Blk w9 W.heap.size #[.int .i64 0, .int .i64 0, .string ⟨#[]⟩] 34) := hK9
  clear r0 r1 r2 z0 z1 z2 HN hb9'
  have r0 := hK9.cell 0
  have z0 := hK9.free 0
  have r1 := hK9.cell 1
  have z1 := hK9.free 1
  have r2 := hK9.cell 2
  have z2 := hK9.free 2
  have hlt9 := hK9.lt
  clear hK9
  go_wp2
  generalize hW : ((w9.setCell ⟨W.heap.size, 0, none⟩ (.int .i64 fo)).setCell ⟨W.heap.size, 1, none⟩ (.int .i64 fd)).setCell ⟨W.heap.size, 2, none⟩ (.string fn) = W9
  obtain ⟨hb9, ho9, hs9, hB9⟩ := fd_cells HK9.out fo fd fn hW
  have hc9 := hb9.cell
  exact bodyPost_ret (v := .tuple #[.agg #[.int .i64 fo, .int .i64 fd, .string fn], .int .i64 er]) (by simp [results, Tryd.results30, go_sem, hc9]) rfl ⟨rfl, (HBX.out).trans (hB9 _ (Nat.le_refl _))⟩
end Go.Proofs.YtfiiandnopifnaaDoor
/-
  rgref5.walk, walked: links.
-/
namespace Go.Proofs.YtfiiandnopifnaaDoor
open Go.RowKit
set_option maxRecDepth 100000 in
set_option maxHeartbeats 8000000 in
theorem rwalk_loop (L : List Sp.Ob) (m : Nat) (x : Sp.Ob) (vl : Value) (base : Int) (fence follow : Bool) (hops : Nat) (S : Nat → Prop) (W : World) (hv : Objs W S vl L) (hS : ∀ b, S b → b < W.heap.size) (hx : L[m]? = some x) (vleft : Value) (part : ByteArray) (rest : List ByteArray) (T : Nat → Prop) (hl : Row W T 1 vleft ((part :: rest).map tS)) (hT : ∀ b, T b → b < W.heap.size) (hmu : Lk.mu ⟨(m : Int), part :: rest, hops⟩ < 1000) (hh : hops ≤ 6) (hk : x.kind = 2) (hp : (part.toList == [46, 46]) = false) (n : Nat) (y : Sp.Ob) (hkn : Sp.find L (m : Int) part = (n : Int)) (hy : L[n]? = some y) (hl3 : y.kind = 3) (hlk : follow = true ∨ rest ≠ []) (h6 : 6 ≤ hops) :
    Calls Tryd.prog 30 #[vl, .int .i64 base, .int .i64 (m : Int), vleft, .bool fence, .bool follow, .int .i64 (hops : Int)] W fun e w' => e = .returned (.tuple #[fdV (Lk.go L base fence follow 1000 ⟨(m : Int), (part :: rest), hops⟩).1.obj (Lk.go L base fence follow 1000 ⟨(m : Int), (part :: rest), hops⟩).1.dir (Lk.go L base fence follow 1000 ⟨(m : Int), (part :: rest), hops⟩).1.name, .int .i64 (Lk.go L base fence follow 1000 ⟨(m : Int), (part :: rest), hops⟩).2]) ∧ Below W.heap.size W w' := by
  have c1 : Lk.isK L (m : Int) 2 = true := by rw [Lk.isK_nat hx, hk]; rfl
  have hp' : Lk.isUp part = false := hp
  have hk3 : Lk.isK L (Sp.find L (m : Int) part) 3 = true := by rw [hkn, Lk.isK_nat hy, hl3]; rfl
  have htg : Lk.trg L (Sp.find L (m : Int) part) = y.target := by unfold Lk.trg; rw [hkn, Int.toNat_natCast, hy]
  have e1 := Lk.one_link (base := base) (fence := fence) (follow := follow) (hops := hops) c1 hp' hk3 hlk
  rw [htg] at e1
  have hgt : follow = true ∨ (follow = false ∧ (0 : Int) < (rest.length : Int)) := by
    rcases hlk with h | h
    · exact Or.inl h
    · cases follow with
      | true => exact Or.inl rfl
      | false => exact Or.inr ⟨rfl, by have := List.length_pos_iff.2 h; omega⟩
  have et : Lk.throughE y.target fence hops = 13 := if_pos h6
  have e : (Lk.go L base fence follow 1000 ⟨(m : Int), (part :: rest), hops⟩) = (Lk.nilF, 13) := by rw [Lk.go_stop (Or.inr (by rw [e1]; dsimp only; rw [et]; decide)), e1]; dsimp only; rw [et]
  rw [e]
  have h6z : (6 : Int) ≤ (hops : Int) := by omega
  clear e e1 c1 hk3 htg et hlk
  have HB0 : Hid (Below W.heap.size W (W.alloc (.cells #[.int .i64 0, .int .i64 0, .string ⟨#[]⟩] 34))) := (Below.refl _ _).alloc (Nat.le_refl _) _
  have hK0 : Blk (W.alloc (.cells #[.int .i64 0, .int .i64 0, .string ⟨#[]⟩] 34)) W.heap.size #[.int .i64 0, .int .i64 0, .string ⟨#[]⟩] 34 := Blk.new W _ _
  have HK0 : Hid (Blk (W.alloc (.cells #[.int .i64 0, .int .i64 0, .string ⟨#[]⟩] 34)) W.heap.size #[.int .i64 0, .int .i64 0, .string ⟨#[]⟩] 34) := hK0
  have hml := (List.getElem?_eq_some_iff.1 hx).1
  have HV : Hid (Objs W S vl L) := hv
  have HS : Hid (∀ b, S b → b < W.heap.size) := hS
  have HX : Hid (L[m]? = some x) := hx
  obtain ⟨b, o, c, s, rfl, hb, hc, hm, -, k0, -, -, -, -, -, -, -, k8⟩ := hv.open hx
  have hbl := hS b hb
  unfold maxLen at hm
  have c0 : (W.alloc (.cells #[.int .i64 0, .int .i64 0, .string ⟨#[]⟩] 34)).cell? ⟨b, o + m * 9, none⟩ = some (.int .i64 x.kind) := by rw [(On.alloc W _).cell hbl]; exact k0
  have c8 : (W.alloc (.cells #[.int .i64 0, .int .i64 0, .string ⟨#[]⟩] 34)).cell? ⟨b, o + m * 9 + 8, none⟩ = some (.int .i64 x.up) := by rw [(On.alloc W _).cell hbl]; exact k8
  have r0 := hK0.cell 0
  have z0 := hK0.free 0
  have r1 := hK0.cell 1
  have z1 := hK0.free 1
  have r2 := hK0.cell 2
  have z2 := hK0.free 2
  have hlt0 := hK0.lt
  have n3 : ¬ b = W.heap.size := by omega
  have HL : Hid (Row W T 1 vleft ((part :: rest).map tS)) := hl
  have HT : Hid (∀ b, T b → b < W.heap.size) := hT
  have HMU : Hid (Lk.mu ⟨(m : Int), part :: rest, hops⟩ < 1000) := hmu
  have HH : Hid (hops ≤ 6) := hh
  obtain ⟨lb, lo, lc, rfl, hTb, hc3, hc4, h5⟩ := hl.some (by simp)
  rw [List.length_map, List.length_cons] at hc3 HL
  rw [List.length_map, List.length_cons]
  have l0 := h5 0 (tS part) rfl 0 _ rfl
  rw [Nat.zero_mul, Nat.add_zero] at l0
  have hlbl := hT lb hTb
  unfold maxLen at hc4
  have hcz : (1 : Int) ≤ (lc : Int) := by omega
  have hcy : (1 : Int) ≤ (rest.length : Int) + 1 := by omega
  have hcx : (rest.length : Int) + 1 ≤ (lc : Int) := by omega
  obtain ⟨A5, hA5⟩ : ∃ A5 : Addr, (if lc = 1 then some (⟨lb, lo, none⟩ : Addr) else some ⟨lb, lo + 1, none⟩) = some A5 := by split <;> exact ⟨_, rfl⟩
  have HTL : Hid (Row W T 1 (.slice (some A5) rest.length (lc - 1)) (rest.map tS)) := by
    have := row_tail HL.out
    rw [hA5] at this
    exact this
  have d0 : (W.alloc (.cells #[.int .i64 0, .int .i64 0, .string ⟨#[]⟩] 34)).cell? ⟨lb, lo, none⟩ = some (.string part) := by rw [(On.alloc W _).cell hlbl]; exact l0
  clear h5 hl hT hmu hh hTb l0
  rw [hk] at c0
  have HY : Hid (L[n]? = some y) := hy
  have hnl := (List.getElem?_eq_some_iff.1 hy).1
  have HKN : Hid (Sp.find L (m : Int) part = (n : Int)) := hkn
  clear hy hkn
  clear hv hS hx hb hK0 k0 k8
  unfold fdV
  go_enter Tryd.func30, Tryd.ntmps30
  go_wp2_with fail
  generalize (W.alloc (.cells #[.int .i64 0, .int .i64 0, .string ⟨#[]⟩] 34)) = w0 at *
  go_region_held3 (fun w' => w'.cell? ⟨lb, lo, none⟩ = some (.string part)) (go_keep) (fail)
  clear hA5
  have HF : Hid (Calls Tryd.prog 14 #[.slice (some ⟨b, o, none⟩) L.length c, .int .i64 (m : Int), .string part] w0.drew fun e w' => e = .returned (.int .i64 (Sp.find L (m : Int) part)) ∧ Below w0.drew.heap.size w0.drew w') := rfind_any L (m : Int) part _ S w0.drew (HV.out.on ((On.of HB0.out.drew).less HS.out)) (fun b h => Nat.lt_of_lt_of_le (HS.out b h) HB0.out.drew.size)
  go_wp2_with fail
  refine Calls.mono HF.out ?_
  rw [HKN.out]
  rintro e w2 ⟨rfl, hb2⟩
  have hK2 : Blk w2 W.heap.size #[.int .i64 0, .int .i64 0, .string ⟨#[]⟩] 34 := Blk.below (w := w0.drew) HK0.out hb2 HK0.out.lt
  have HK2 : Hid (Blk w2 W.heap.size #[.int .i64 0, .int .i64 0, .string ⟨#[]⟩] 34) := hK2
  have HB2 : Hid (Below W.heap.size W w2) := HB0.out.drew.trans (hb2.mono HB0.out.drew.size)
  have HV2 : Hid (Objs w2 S (.slice (some ⟨b, o, none⟩) L.length c) L) := HV.out.on ((On.of HB2.out).less HS.out)
  have HT2 : Hid (Row w2 T 1 (.slice (some A5) rest.length (lc - 1)) (rest.map tS)) := Row.on HTL.out ((On.of HB2.out).less HT.out)
  clear r0 r1 r2 z0 z1 z2 c0 c8 d0 hb2 HF
  have r0 := hK2.cell 0
  have z0 := hK2.free 0
  have r1 := hK2.cell 1
  have z1 := hK2.free 1
  have r2 := hK2.cell 2
  have z2 := hK2.free 2
  have hlt2 := hK2.lt
  clear hK2
  obtain ⟨b', o', c', s', he, -, -, -, -, y0, -, -, y3, -⟩ := HV2.out.open HY.out
  obtain ⟨e1, -, rfl⟩ := Value.slice.inj he
  cases e1
  clear he
  rw [hl3] at y0
  rcases hgt with hf | ⟨hf, hgt⟩
  ·
    subst hf
    go_wp2
    generalize hW : ((w2.setCell ⟨W.heap.size, 0, none⟩ (.int .i64 0)).setCell ⟨W.heap.size, 1, none⟩ (.int .i64 0)).setCell ⟨W.heap.size, 2, none⟩ (.string ⟨#[]⟩) = W9
    obtain ⟨hb9, ho9, hs9, hB9⟩ := fd_cells HK2.out 0 0 ⟨#[]⟩ hW
    have hc9 := hb9.cell
    exact bodyPost_ret (v := .tuple #[.agg #[.int .i64 0, .int .i64 0, .string ⟨#[]⟩], .int .i64 13]) (by simp [results, Tryd.results30, go_sem, hc9]) rfl ⟨rfl, (HB2.out).trans (hB9 _ (Nat.le_refl _))⟩
  ·
    subst hf
    go_wp2
    generalize hW : ((w2.setCell ⟨W.heap.size, 0, none⟩ (.int .i64 0)).setCell ⟨W.heap.size, 1, none⟩ (.int .i64 0)).setCell ⟨W.heap.size, 2, none⟩ (.string ⟨#[]⟩) = W9
    obtain ⟨hb9, ho9, hs9, hB9⟩ := fd_cells HK2.out 0 0 ⟨#[]⟩ hW
    have hc9 := hb9.cell
    exact bodyPost_ret (v := .tuple #[.agg #[.int .i64 0, .int .i64 0, .string ⟨#[]⟩], .int .i64 13]) (by simp [results, Tryd.results30, go_sem, hc9]) rfl ⟨rfl, (HB2.out).trans (hB9 _ (Nat.le_refl _))⟩
set_option maxRecDepth 100000 in
set_option maxHeartbeats 8000000 in
theorem rwalk_bad (L : List Sp.Ob) (m : Nat) (x : Sp.Ob) (vl : Value) (base : Int) (fence follow : Bool) (hops : Nat) (S : Nat → Prop) (W : World) (hv : Objs W S vl L) (hS : ∀ b, S b → b < W.heap.size) (hx : L[m]? = some x) (vleft : Value) (part : ByteArray) (rest : List ByteArray) (T : Nat → Prop) (hl : Row W T 1 vleft ((part :: rest).map tS)) (hT : ∀ b, T b → b < W.heap.size) (hmu : Lk.mu ⟨(m : Int), part :: rest, hops⟩ < 1000) (hh : hops ≤ 6) (hk : x.kind = 2) (hp : (part.toList == [46, 46]) = false) (n : Nat) (y : Sp.Ob) (hkn : Sp.find L (m : Int) part = (n : Int)) (hy : L[n]? = some y) (hl3 : y.kind = 3) (hlk : follow = true ∨ rest ≠ []) (h6 : hops < 6) (hse : Lk.splitE y.target ≠ 0) (hsz : y.target.size ≤ maxLen) :
    Calls Tryd.prog 30 #[vl, .int .i64 base, .int .i64 (m : Int), vleft, .bool fence, .bool follow, .int .i64 (hops : Int)] W fun e w' => e = .returned (.tuple #[fdV (Lk.go L base fence follow 1000 ⟨(m : Int), (part :: rest), hops⟩).1.obj (Lk.go L base fence follow 1000 ⟨(m : Int), (part :: rest), hops⟩).1.dir (Lk.go L base fence follow 1000 ⟨(m : Int), (part :: rest), hops⟩).1.name, .int .i64 (Lk.go L base fence follow 1000 ⟨(m : Int), (part :: rest), hops⟩).2]) ∧ Below W.heap.size W w' := by
  have c1 : Lk.isK L (m : Int) 2 = true := by rw [Lk.isK_nat hx, hk]; rfl
  have hp' : Lk.isUp part = false := hp
  have hk3 : Lk.isK L (Sp.find L (m : Int) part) 3 = true := by rw [hkn, Lk.isK_nat hy, hl3]; rfl
  have htg : Lk.trg L (Sp.find L (m : Int) part) = y.target := by unfold Lk.trg; rw [hkn, Int.toNat_natCast, hy]
  have e1 := Lk.one_link (base := base) (fence := fence) (follow := follow) (hops := hops) c1 hp' hk3 hlk
  rw [htg] at e1
  have hgt : follow = true ∨ (follow = false ∧ (0 : Int) < (rest.length : Int)) := by
    rcases hlk with h | h
    · exact Or.inl h
    · cases follow with
      | true => exact Or.inl rfl
      | false => exact Or.inr ⟨rfl, by have := List.length_pos_iff.2 h; omega⟩
  have et : Lk.throughE y.target fence hops = Lk.splitE y.target := by
    unfold Lk.throughE Lk.turnE
    rw [if_neg (by omega), if_pos hse]
  have e : (Lk.go L base fence follow 1000 ⟨(m : Int), (part :: rest), hops⟩) = (Lk.nilF, Lk.splitE y.target) := by rw [Lk.go_stop (Or.inr (by rw [e1]; dsimp only; rw [et]; exact hse)), e1]; dsimp only; rw [et]
  rw [e]
  have h6z : ¬ (6 : Int) ≤ (hops : Int) := by omega
  have HSE : Hid (Lk.splitE y.target ≠ 0) := hse
  have hse' : (Lk.splitE y.target != 0) = true := by simpa using hse
  clear e e1 c1 hk3 htg et hlk hse
  have HB0 : Hid (Below W.heap.size W (W.alloc (.cells #[.int .i64 0, .int .i64 0, .string ⟨#[]⟩] 34))) := (Below.refl _ _).alloc (Nat.le_refl _) _
  have hK0 : Blk (W.alloc (.cells #[.int .i64 0, .int .i64 0, .string ⟨#[]⟩] 34)) W.heap.size #[.int .i64 0, .int .i64 0, .string ⟨#[]⟩] 34 := Blk.new W _ _
  have HK0 : Hid (Blk (W.alloc (.cells #[.int .i64 0, .int .i64 0, .string ⟨#[]⟩] 34)) W.heap.size #[.int .i64 0, .int .i64 0, .string ⟨#[]⟩] 34) := hK0
  have hml := (List.getElem?_eq_some_iff.1 hx).1
  have HV : Hid (Objs W S vl L) := hv
  have HS : Hid (∀ b, S b → b < W.heap.size) := hS
  have HX : Hid (L[m]? = some x) := hx
  obtain ⟨b, o, c, s, rfl, hb, hc, hm, -, k0, -, -, -, -, -, -, -, k8⟩ := hv.open hx
  have hbl := hS b hb
  unfold maxLen at hm
  have c0 : (W.alloc (.cells #[.int .i64 0, .int .i64 0, .string ⟨#[]⟩] 34)).cell? ⟨b, o + m * 9, none⟩ = some (.int .i64 x.kind) := by rw [(On.alloc W _).cell hbl]; exact k0
  have c8 : (W.alloc (.cells #[.int .i64 0, .int .i64 0, .string ⟨#[]⟩] 34)).cell? ⟨b, o + m * 9 + 8, none⟩ = some (.int .i64 x.up) := by rw [(On.alloc W _).cell hbl]; exact k8
  have r0 := hK0.cell 0
  have z0 := hK0.free 0
  have r1 := hK0.cell 1
  have z1 := hK0.free 1
  have r2 := hK0.cell 2
  have z2 := hK0.free 2
  have hlt0 := hK0.lt
  have n3 : ¬ b = W.heap.size := by omega
  have HL : Hid (Row W T 1 vleft ((part :: rest).map tS)) := hl
  have HT : Hid (∀ b, T b → b < W.heap.size) := hT
  have HMU : Hid (Lk.mu ⟨(m : Int), part :: rest, hops⟩ < 1000) := hmu
  have HH : Hid (hops ≤ 6) := hh
  obtain ⟨lb, lo, lc, rfl, hTb, hc3, hc4, h5⟩ := hl.some (by simp)
  rw [List.length_map, List.length_cons] at hc3 HL
  rw [List.length_map, List.length_cons]
  have l0 := h5 0 (tS part) rfl 0 _ rfl
  rw [Nat.zero_mul, Nat.add_zero] at l0
  have hlbl := hT lb hTb
  unfold maxLen at hc4
  have hcz : (1 : Int) ≤ (lc : Int) := by omega
  have hcy : (1 : Int) ≤ (rest.length : Int) + 1 := by omega
  have hcx : (rest.length : Int) + 1 ≤ (lc : Int) := by omega
  obtain ⟨A5, hA5⟩ : ∃ A5 : Addr, (if lc = 1 then some (⟨lb, lo, none⟩ : Addr) else some ⟨lb, lo + 1, none⟩) = some A5 := by split <;> exact ⟨_, rfl⟩
  have HTL : Hid (Row W T 1 (.slice (some A5) rest.length (lc - 1)) (rest.map tS)) := by
    have := row_tail HL.out
    rw [hA5] at this
    exact this
  have d0 : (W.alloc (.cells #[.int .i64 0, .int .i64 0, .string ⟨#[]⟩] 34)).cell? ⟨lb, lo, none⟩ = some (.string part) := by rw [(On.alloc W _).cell hlbl]; exact l0
  clear h5 hl hT hmu hh hTb l0
  rw [hk] at c0
  have HY : Hid (L[n]? = some y) := hy
  have hnl := (List.getElem?_eq_some_iff.1 hy).1
  have HKN : Hid (Sp.find L (m : Int) part = (n : Int)) := hkn
  clear hy hkn
  clear hv hS hx hb hK0 k0 k8
  unfold fdV
  go_enter Tryd.func30, Tryd.ntmps30
  go_wp2_with fail
  generalize (W.alloc (.cells #[.int .i64 0, .int .i64 0, .string ⟨#[]⟩] 34)) = w0 at *
  go_region_held3 (fun w' => w'.cell? ⟨lb, lo, none⟩ = some (.string part)) (go_keep) (fail)
  clear hA5
  have HF : Hid (Calls Tryd.prog 14 #[.slice (some ⟨b, o, none⟩) L.length c, .int .i64 (m : Int), .string part] w0.drew fun e w' => e = .returned (.int .i64 (Sp.find L (m : Int) part)) ∧ Below w0.drew.heap.size w0.drew w') := rfind_any L (m : Int) part _ S w0.drew (HV.out.on ((On.of HB0.out.drew).less HS.out)) (fun b h => Nat.lt_of_lt_of_le (HS.out b h) HB0.out.drew.size)
  go_wp2_with fail
  refine Calls.mono HF.out ?_
  rw [HKN.out]
  rintro e w2 ⟨rfl, hb2⟩
  have hK2 : Blk w2 W.heap.size #[.int .i64 0, .int .i64 0, .string ⟨#[]⟩] 34 := Blk.below (w := w0.drew) HK0.out hb2 HK0.out.lt
  have HK2 : Hid (Blk w2 W.heap.size #[.int .i64 0, .int .i64 0, .string ⟨#[]⟩] 34) := hK2
  have HB2 : Hid (Below W.heap.size W w2) := HB0.out.drew.trans (hb2.mono HB0.out.drew.size)
  have HV2 : Hid (Objs w2 S (.slice (some ⟨b, o, none⟩) L.length c) L) := HV.out.on ((On.of HB2.out).less HS.out)
  have HT2 : Hid (Row w2 T 1 (.slice (some A5) rest.length (lc - 1)) (rest.map tS)) := Row.on HTL.out ((On.of HB2.out).less HT.out)
  clear r0 r1 r2 z0 z1 z2 c0 c8 d0 hb2 HF
  have r0 := hK2.cell 0
  have z0 := hK2.free 0
  have r1 := hK2.cell 1
  have z1 := hK2.free 1
  have r2 := hK2.cell 2
  have z2 := hK2.free 2
  have hlt2 := hK2.lt
  clear hK2
  obtain ⟨b', o', c', s', he, -, -, -, -, y0, -, -, y3, -⟩ := HV2.out.open HY.out
  obtain ⟨e1, -, rfl⟩ := Value.slice.inj he
  cases e1
  clear he
  rw [hl3] at y0
  have HSP : Hid (Calls Tryd.prog 21 #[.string y.target] w2 fun e w' => Below w2.heap.size w2 w' ∧ ((Lk.splitE y.target ≠ 0 ∧ e = .returned (.tuple #[.slice none 0 0, .bool false, .int .i64 (Lk.splitE y.target)])) ∨ (Lk.splitE y.target = 0 ∧ ∃ v, e = .returned (.tuple #[v, .bool (Pt.root y.target.data.toList), .int .i64 0]) ∧ Mine w' w2.heap.size 9 1 v ((partsB y.target).map tS)))) := rsplit_any y.target hsz w2
  rcases hgt with hf | ⟨hf, hgt⟩
  ·
    subst hf
    go_wp2_with fail
    refine HSP.out.mono ?_
    rintro e w3 ⟨hb3, ⟨-, rfl⟩ | ⟨hz, -⟩⟩
    focus
      have hK3 : Blk w3 W.heap.size #[.int .i64 0, .int .i64 0, .string ⟨#[]⟩] 34 := HK2.out.below hb3 HK2.out.lt
      have HK3 : Hid (Blk w3 W.heap.size #[.int .i64 0, .int .i64 0, .string ⟨#[]⟩] 34) := hK3
      have HB3 : Hid (Below W.heap.size W w3) := HB2.out.trans (hb3.mono HB2.out.size)
      clear r0 r1 r2 z0 z1 z2 y0 y3 HSP
      have r0 := hK3.cell 0
      have z0 := hK3.free 0
      have r1 := hK3.cell 1
      have z1 := hK3.free 1
      have r2 := hK3.cell 2
      have z2 := hK3.free 2
      have hlt3 := hK3.lt
      clear hK3
      clear hb3
      go_wp2
      generalize hW : ((w3.setCell ⟨W.heap.size, 0, none⟩ (.int .i64 0)).setCell ⟨W.heap.size, 1, none⟩ (.int .i64 0)).setCell ⟨W.heap.size, 2, none⟩ (.string ⟨#[]⟩) = W9
      obtain ⟨hb9, ho9, hs9, hB9⟩ := fd_cells HK3.out 0 0 ⟨#[]⟩ hW
      have hc9 := hb9.cell
      exact bodyPost_ret (v := .tuple #[.agg #[.int .i64 0, .int .i64 0, .string ⟨#[]⟩], .int .i64 (Lk.splitE y.target)]) (by simp [results, Tryd.results30, go_sem, hc9]) rfl ⟨rfl, (HB3.out).trans (hB9 _ (Nat.le_refl _))⟩
    exact absurd hz HSE.out
  ·
    subst hf
    go_wp2_with fail
    refine HSP.out.mono ?_
    rintro e w3 ⟨hb3, ⟨-, rfl⟩ | ⟨hz, -⟩⟩
    focus
      have hK3 : Blk w3 W.heap.size #[.int .i64 0, .int .i64 0, .string ⟨#[]⟩] 34 := HK2.out.below hb3 HK2.out.lt
      have HK3 : Hid (Blk w3 W.heap.size #[.int .i64 0, .int .i64 0, .string ⟨#[]⟩] 34) := hK3
      have HB3 : Hid (Below W.heap.size W w3) := HB2.out.trans (hb3.mono HB2.out.size)
      clear r0 r1 r2 z0 z1 z2 y0 y3 HSP
      have r0 := hK3.cell 0
      have z0 := hK3.free 0
      have r1 := hK3.cell 1
      have z1 := hK3.free 1
      have r2 := hK3.cell 2
      have z2 := hK3.free 2
      have hlt3 := hK3.lt
      clear hK3
      clear hb3
      go_wp2
      generalize hW : ((w3.setCell ⟨W.heap.size, 0, none⟩ (.int .i64 0)).setCell ⟨W.heap.size, 1, none⟩ (.int .i64 0)).setCell ⟨W.heap.size, 2, none⟩ (.string ⟨#[]⟩) = W9
      obtain ⟨hb9, ho9, hs9, hB9⟩ := fd_cells HK3.out 0 0 ⟨#[]⟩ hW
      have hc9 := hb9.cell
      exact bodyPost_ret (v := .tuple #[.agg #[.int .i64 0, .int .i64 0, .string ⟨#[]⟩], .int .i64 (Lk.splitE y.target)]) (by simp [results, Tryd.results30, go_sem, hc9]) rfl ⟨rfl, (HB3.out).trans (hB9 _ (Nat.le_refl _))⟩
    exact absurd hz HSE.out
set_option maxRecDepth 100000 in
set_option maxHeartbeats 8000000 in
theorem rwalk_linkout (L : List Sp.Ob) (m : Nat) (x : Sp.Ob) (vl : Value) (base : Int) (fence follow : Bool) (hops : Nat) (S : Nat → Prop) (W : World) (hv : Objs W S vl L) (hS : ∀ b, S b → b < W.heap.size) (hx : L[m]? = some x) (vleft : Value) (part : ByteArray) (rest : List ByteArray) (T : Nat → Prop) (hl : Row W T 1 vleft ((part :: rest).map tS)) (hT : ∀ b, T b → b < W.heap.size) (hmu : Lk.mu ⟨(m : Int), part :: rest, hops⟩ < 1000) (hh : hops ≤ 6) (hk : x.kind = 2) (hp : (part.toList == [46, 46]) = false) (n : Nat) (y : Sp.Ob) (hkn : Sp.find L (m : Int) part = (n : Int)) (hy : L[n]? = some y) (hl3 : y.kind = 3) (hlk : follow = true ∨ rest ≠ []) (h6 : hops < 6) (hse : Lk.splitE y.target = 0) (hro : Pt.root y.target.data.toList = true) (hfe : fence = true) (hsz : y.target.size ≤ maxLen) :
    Calls Tryd.prog 30 #[vl, .int .i64 base, .int .i64 (m : Int), vleft, .bool fence, .bool follow, .int .i64 (hops : Int)] W fun e w' => e = .returned (.tuple #[fdV (Lk.go L base fence follow 1000 ⟨(m : Int), (part :: rest), hops⟩).1.obj (Lk.go L base fence follow 1000 ⟨(m : Int), (part :: rest), hops⟩).1.dir (Lk.go L base fence follow 1000 ⟨(m : Int), (part :: rest), hops⟩).1.name, .int .i64 (Lk.go L base fence follow 1000 ⟨(m : Int), (part :: rest), hops⟩).2]) ∧ Below W.heap.size W w' := by
  have c1 : Lk.isK L (m : Int) 2 = true := by rw [Lk.isK_nat hx, hk]; rfl
  have hp' : Lk.isUp part = false := hp
  have hk3 : Lk.isK L (Sp.find L (m : Int) part) 3 = true := by rw [hkn, Lk.isK_nat hy, hl3]; rfl
  have htg : Lk.trg L (Sp.find L (m : Int) part) = y.target := by unfold Lk.trg; rw [hkn, Int.toNat_natCast, hy]
  have e1 := Lk.one_link (base := base) (fence := fence) (follow := follow) (hops := hops) c1 hp' hk3 hlk
  rw [htg] at e1
  have hgt : follow = true ∨ (follow = false ∧ (0 : Int) < (rest.length : Int)) := by
    rcases hlk with h | h
    · exact Or.inl h
    · cases follow with
      | true => exact Or.inl rfl
      | false => exact Or.inr ⟨rfl, by have := List.length_pos_iff.2 h; omega⟩
  have et : Lk.throughE y.target fence hops = 14 := by
    unfold Lk.throughE Lk.turnE
    rw [if_neg (by omega), if_neg (by rw [hse]; decide), if_pos ⟨hro, hfe⟩]
  have e : (Lk.go L base fence follow 1000 ⟨(m : Int), (part :: rest), hops⟩) = (Lk.nilF, 14) := by rw [Lk.go_stop (Or.inr (by rw [e1]; dsimp only; rw [et]; decide)), e1]; dsimp only; rw [et]
  rw [e]
  have h6z : ¬ (6 : Int) ≤ (hops : Int) := by omega
  have HSE : Hid (Lk.splitE y.target = 0) := hse
  have HRO : Hid (Pt.root y.target.data.toList = true) := hro
  clear e e1 c1 hk3 htg et hlk hse hro
  subst hfe
  have HB0 : Hid (Below W.heap.size W (W.alloc (.cells #[.int .i64 0, .int .i64 0, .string ⟨#[]⟩] 34))) := (Below.refl _ _).alloc (Nat.le_refl _) _
  have hK0 : Blk (W.alloc (.cells #[.int .i64 0, .int .i64 0, .string ⟨#[]⟩] 34)) W.heap.size #[.int .i64 0, .int .i64 0, .string ⟨#[]⟩] 34 := Blk.new W _ _
  have HK0 : Hid (Blk (W.alloc (.cells #[.int .i64 0, .int .i64 0, .string ⟨#[]⟩] 34)) W.heap.size #[.int .i64 0, .int .i64 0, .string ⟨#[]⟩] 34) := hK0
  have hml := (List.getElem?_eq_some_iff.1 hx).1
  have HV : Hid (Objs W S vl L) := hv
  have HS : Hid (∀ b, S b → b < W.heap.size) := hS
  have HX : Hid (L[m]? = some x) := hx
  obtain ⟨b, o, c, s, rfl, hb, hc, hm, -, k0, -, -, -, -, -, -, -, k8⟩ := hv.open hx
  have hbl := hS b hb
  unfold maxLen at hm
  have c0 : (W.alloc (.cells #[.int .i64 0, .int .i64 0, .string ⟨#[]⟩] 34)).cell? ⟨b, o + m * 9, none⟩ = some (.int .i64 x.kind) := by rw [(On.alloc W _).cell hbl]; exact k0
  have c8 : (W.alloc (.cells #[.int .i64 0, .int .i64 0, .string ⟨#[]⟩] 34)).cell? ⟨b, o + m * 9 + 8, none⟩ = some (.int .i64 x.up) := by rw [(On.alloc W _).cell hbl]; exact k8
  have r0 := hK0.cell 0
  have z0 := hK0.free 0
  have r1 := hK0.cell 1
  have z1 := hK0.free 1
  have r2 := hK0.cell 2
  have z2 := hK0.free 2
  have hlt0 := hK0.lt
  have n3 : ¬ b = W.heap.size := by omega
  have HL : Hid (Row W T 1 vleft ((part :: rest).map tS)) := hl
  have HT : Hid (∀ b, T b → b < W.heap.size) := hT
  have HMU : Hid (Lk.mu ⟨(m : Int), part :: rest, hops⟩ < 1000) := hmu
  have HH : Hid (hops ≤ 6) := hh
  obtain ⟨lb, lo, lc, rfl, hTb, hc3, hc4, h5⟩ := hl.some (by simp)
  rw [List.length_map, List.length_cons] at hc3 HL
  rw [List.length_map, List.length_cons]
  have l0 := h5 0 (tS part) rfl 0 _ rfl
  rw [Nat.zero_mul, Nat.add_zero] at l0
  have hlbl := hT lb hTb
  unfold maxLen at hc4
  have hcz : (1 : Int) ≤ (lc : Int) := by omega
  have hcy : (1 : Int) ≤ (rest.length : Int) + 1 := by omega
  have hcx : (rest.length : Int) + 1 ≤ (lc : Int) := by omega
  obtain ⟨A5, hA5⟩ : ∃ A5 : Addr, (if lc = 1 then some (⟨lb, lo, none⟩ : Addr) else some ⟨lb, lo + 1, none⟩) = some A5 := by split <;> exact ⟨_, rfl⟩
  have HTL : Hid (Row W T 1 (.slice (some A5) rest.length (lc - 1)) (rest.map tS)) := by
    have := row_tail HL.out
    rw [hA5] at this
    exact this
  have d0 : (W.alloc (.cells #[.int .i64 0, .int .i64 0, .string ⟨#[]⟩] 34)).cell? ⟨lb, lo, none⟩ = some (.string part) := by rw [(On.alloc W _).cell hlbl]; exact l0
  clear h5 hl hT hmu hh hTb l0
  rw [hk] at c0
  have HY : Hid (L[n]? = some y) := hy
  have hnl := (List.getElem?_eq_some_iff.1 hy).1
  have HKN : Hid (Sp.find L (m : Int) part = (n : Int)) := hkn
  clear hy hkn
  clear hv hS hx hb hK0 k0 k8
  unfold fdV
  go_enter Tryd.func30, Tryd.ntmps30
  go_wp2_with fail
  generalize (W.alloc (.cells #[.int .i64 0, .int .i64 0, .string ⟨#[]⟩] 34)) = w0 at *
  go_region_held3 (fun w' => w'.cell? ⟨lb, lo, none⟩ = some (.string part)) (go_keep) (fail)
  clear hA5
  have HF : Hid (Calls Tryd.prog 14 #[.slice (some ⟨b, o, none⟩) L.length c, .int .i64 (m : Int), .string part] w0.drew fun e w' => e = .returned (.int .i64 (Sp.find L (m : Int) part)) ∧ Below w0.drew.heap.size w0.drew w') := rfind_any L (m : Int) part _ S w0.drew (HV.out.on ((On.of HB0.out.drew).less HS.out)) (fun b h => Nat.lt_of_lt_of_le (HS.out b h) HB0.out.drew.size)
  go_wp2_with fail
  refine Calls.mono HF.out ?_
  rw [HKN.out]
  rintro e w2 ⟨rfl, hb2⟩
  have hK2 : Blk w2 W.heap.size #[.int .i64 0, .int .i64 0, .string ⟨#[]⟩] 34 := Blk.below (w := w0.drew) HK0.out hb2 HK0.out.lt
  have HK2 : Hid (Blk w2 W.heap.size #[.int .i64 0, .int .i64 0, .string ⟨#[]⟩] 34) := hK2
  have HB2 : Hid (Below W.heap.size W w2) := HB0.out.drew.trans (hb2.mono HB0.out.drew.size)
  have HV2 : Hid (Objs w2 S (.slice (some ⟨b, o, none⟩) L.length c) L) := HV.out.on ((On.of HB2.out).less HS.out)
  have HT2 : Hid (Row w2 T 1 (.slice (some A5) rest.length (lc - 1)) (rest.map tS)) := Row.on HTL.out ((On.of HB2.out).less HT.out)
  clear r0 r1 r2 z0 z1 z2 c0 c8 d0 hb2 HF
  have r0 := hK2.cell 0
  have z0 := hK2.free 0
  have r1 := hK2.cell 1
  have z1 := hK2.free 1
  have r2 := hK2.cell 2
  have z2 := hK2.free 2
  have hlt2 := hK2.lt
  clear hK2
  obtain ⟨b', o', c', s', he, -, -, -, -, y0, -, -, y3, -⟩ := HV2.out.open HY.out
  obtain ⟨e1, -, rfl⟩ := Value.slice.inj he
  cases e1
  clear he
  rw [hl3] at y0
  have HSP : Hid (Calls Tryd.prog 21 #[.string y.target] w2 fun e w' => Below w2.heap.size w2 w' ∧ ((Lk.splitE y.target ≠ 0 ∧ e = .returned (.tuple #[.slice none 0 0, .bool false, .int .i64 (Lk.splitE y.target)])) ∨ (Lk.splitE y.target = 0 ∧ ∃ v, e = .returned (.tuple #[v, .bool (Pt.root y.target.data.toList), .int .i64 0]) ∧ Mine w' w2.heap.size 9 1 v ((partsB y.target).map tS)))) := rsplit_any y.target hsz w2
  rcases hgt with hf | ⟨hf, hgt⟩
  ·
    subst hf
    go_wp2_with fail
    refine HSP.out.mono ?_
    rintro e w3 ⟨hb3, ⟨hz, -⟩ | ⟨-, v3, rfl, -⟩⟩
    focus
      exact absurd HSE.out hz
    rw [HRO.out]
    have hK3 : Blk w3 W.heap.size #[.int .i64 0, .int .i64 0, .string ⟨#[]⟩] 34 := HK2.out.below hb3 HK2.out.lt
    have HK3 : Hid (Blk w3 W.heap.size #[.int .i64 0, .int .i64 0, .string ⟨#[]⟩] 34) := hK3
    have HB3 : Hid (Below W.heap.size W w3) := HB2.out.trans (hb3.mono HB2.out.size)
    clear r0 r1 r2 z0 z1 z2 y0 y3 HSP
    have r0 := hK3.cell 0
    have z0 := hK3.free 0
    have r1 := hK3.cell 1
    have z1 := hK3.free 1
    have r2 := hK3.cell 2
    have z2 := hK3.free 2
    have hlt3 := hK3.lt
    clear hK3
    clear hb3
    go_wp2
    generalize hW : ((w3.setCell ⟨W.heap.size, 0, none⟩ (.int .i64 0)).setCell ⟨W.heap.size, 1, none⟩ (.int .i64 0)).setCell ⟨W.heap.size, 2, none⟩ (.string ⟨#[]⟩) = W9
    obtain ⟨hb9, ho9, hs9, hB9⟩ := fd_cells HK3.out 0 0 ⟨#[]⟩ hW
    have hc9 := hb9.cell
    exact bodyPost_ret (v := .tuple #[.agg #[.int .i64 0, .int .i64 0, .string ⟨#[]⟩], .int .i64 14]) (by simp [results, Tryd.results30, go_sem, hc9]) rfl ⟨rfl, (HB3.out).trans (hB9 _ (Nat.le_refl _))⟩
  ·
    subst hf
    go_wp2_with fail
    refine HSP.out.mono ?_
    rintro e w3 ⟨hb3, ⟨hz, -⟩ | ⟨-, v3, rfl, -⟩⟩
    focus
      exact absurd HSE.out hz
    rw [HRO.out]
    have hK3 : Blk w3 W.heap.size #[.int .i64 0, .int .i64 0, .string ⟨#[]⟩] 34 := HK2.out.below hb3 HK2.out.lt
    have HK3 : Hid (Blk w3 W.heap.size #[.int .i64 0, .int .i64 0, .string ⟨#[]⟩] 34) := hK3
    have HB3 : Hid (Below W.heap.size W w3) := HB2.out.trans (hb3.mono HB2.out.size)
    clear r0 r1 r2 z0 z1 z2 y0 y3 HSP
    have r0 := hK3.cell 0
    have z0 := hK3.free 0
    have r1 := hK3.cell 1
    have z1 := hK3.free 1
    have r2 := hK3.cell 2
    have z2 := hK3.free 2
    have hlt3 := hK3.lt
    clear hK3
    clear hb3
    go_wp2
    generalize hW : ((w3.setCell ⟨W.heap.size, 0, none⟩ (.int .i64 0)).setCell ⟨W.heap.size, 1, none⟩ (.int .i64 0)).setCell ⟨W.heap.size, 2, none⟩ (.string ⟨#[]⟩) = W9
    obtain ⟨hb9, ho9, hs9, hB9⟩ := fd_cells HK3.out 0 0 ⟨#[]⟩ hW
    have hc9 := hb9.cell
    exact bodyPost_ret (v := .tuple #[.agg #[.int .i64 0, .int .i64 0, .string ⟨#[]⟩], .int .i64 14]) (by simp [results, Tryd.results30, go_sem, hc9]) rfl ⟨rfl, (HB3.out).trans (hB9 _ (Nat.le_refl _))⟩
end Go.Proofs.YtfiiandnopifnaaDoor
/-
  rgref5.walk, walked: links.
-/
namespace Go.Proofs.YtfiiandnopifnaaDoor
open Go.RowKit
set_option maxRecDepth 100000 in
set_option maxHeartbeats 8000000 in
theorem rwalk_linkroot (L : List Sp.Ob) (m : Nat) (x : Sp.Ob) (vl : Value) (base : Int) (fence follow : Bool) (hops : Nat) (S : Nat → Prop) (W : World) (hv : Objs W S vl L) (hS : ∀ b, S b → b < W.heap.size) (hx : L[m]? = some x) (vleft : Value) (part : ByteArray) (rest : List ByteArray) (T : Nat → Prop) (hl : Row W T 1 vleft ((part :: rest).map tS)) (hT : ∀ b, T b → b < W.heap.size) (hmu : Lk.mu ⟨(m : Int), part :: rest, hops⟩ < 1000) (hh : hops ≤ 6) (hk : x.kind = 2) (hp : (part.toList == [46, 46]) = false) (n : Nat) (y : Sp.Ob) (hkn : Sp.find L (m : Int) part = (n : Int)) (hy : L[n]? = some y) (hl3 : y.kind = 3) (hlk : follow = true ∨ rest ≠ []) (h6 : hops < 6) (hse : Lk.splitE y.target = 0) (hro : Pt.root y.target.data.toList = true) (hfe : fence = false) (hsz : y.target.size ≤ maxLen) (nx : Says L base fence follow ⟨0, partsB y.target ++ rest, hops + 1⟩) :
    Calls Tryd.prog 30 #[vl, .int .i64 base, .int .i64 (m : Int), vleft, .bool fence, .bool follow, .int .i64 (hops : Int)] W fun e w' => e = .returned (.tuple #[fdV (Lk.go L base fence follow 1000 ⟨(m : Int), (part :: rest), hops⟩).1.obj (Lk.go L base fence follow 1000 ⟨(m : Int), (part :: rest), hops⟩).1.dir (Lk.go L base fence follow 1000 ⟨(m : Int), (part :: rest), hops⟩).1.name, .int .i64 (Lk.go L base fence follow 1000 ⟨(m : Int), (part :: rest), hops⟩).2]) ∧ Below W.heap.size W w' := by
  have c1 : Lk.isK L (m : Int) 2 = true := by rw [Lk.isK_nat hx, hk]; rfl
  have hp' : Lk.isUp part = false := hp
  have hk3 : Lk.isK L (Sp.find L (m : Int) part) 3 = true := by rw [hkn, Lk.isK_nat hy, hl3]; rfl
  have htg : Lk.trg L (Sp.find L (m : Int) part) = y.target := by unfold Lk.trg; rw [hkn, Int.toNat_natCast, hy]
  have e1 := Lk.one_link (base := base) (fence := fence) (follow := follow) (hops := hops) c1 hp' hk3 hlk
  rw [htg] at e1
  have hgt : follow = true ∨ (follow = false ∧ (0 : Int) < (rest.length : Int)) := by
    rcases hlk with h | h
    · exact Or.inl h
    · cases follow with
      | true => exact Or.inl rfl
      | false => exact Or.inr ⟨rfl, by have := List.length_pos_iff.2 h; omega⟩
  have et : Lk.throughE y.target fence hops = 0 := by
    unfold Lk.throughE Lk.turnE
    rw [if_neg (by omega), if_neg (by rw [hse]; decide), if_neg (by rw [hro]; rw [hfe]; decide)]
  have ea : Lk.turnA y.target (m : Int) = 0 := by unfold Lk.turnA; rw [hro]; rfl
  rw [et, ea] at e1
  have e : (Lk.go L base fence follow 1000 ⟨(m : Int), (part :: rest), hops⟩) = Lk.go L base fence follow 1000 ⟨0, partsB y.target ++ rest, hops + 1⟩ := by rw [Lk.go_step hh hmu (by rw [e1]) (by rw [e1]), e1]
  rw [e]
  have HPL : Hid ((partsB y.target).length ≤ 61) := partsB_len _ hse
  have HRL : Hid (rest.length < 1000) := by
    have := hmu
    unfold Lk.mu at this
    simp only [List.length_cons] at this
    unfold Hid
    omega
  have h6z : ¬ (6 : Int) ≤ (hops : Int) := by omega
  have HSE : Hid (Lk.splitE y.target = 0) := hse
  have HRO : Hid (Pt.root y.target.data.toList = true) := hro
  obtain ⟨R, hR⟩ : ∃ R, Lk.go L base fence follow 1000 ⟨0, partsB y.target ++ rest, hops + 1⟩ = R := ⟨_, rfl⟩
  rw [hR]
  obtain ⟨⟨fo, fd, fn⟩, er⟩ := R
  have EZ : Hid (((hops + 1 : Nat) : Int) = (hops : Int) + 1) := by unfold Hid; omega
  clear e e1 c1 hk3 htg et ea hlk hse hro
  subst hfe
  have HB0 : Hid (Below W.heap.size W (W.alloc (.cells #[.int .i64 0, .int .i64 0, .string ⟨#[]⟩] 34))) := (Below.refl _ _).alloc (Nat.le_refl _) _
  have hK0 : Blk (W.alloc (.cells #[.int .i64 0, .int .i64 0, .string ⟨#[]⟩] 34)) W.heap.size #[.int .i64 0, .int .i64 0, .string ⟨#[]⟩] 34 := Blk.new W _ _
  have HK0 : Hid (Blk (W.alloc (.cells #[.int .i64 0, .int .i64 0, .string ⟨#[]⟩] 34)) W.heap.size #[.int .i64 0, .int .i64 0, .string ⟨#[]⟩] 34) := hK0
  have hml := (List.getElem?_eq_some_iff.1 hx).1
  have HV : Hid (Objs W S vl L) := hv
  have HS : Hid (∀ b, S b → b < W.heap.size) := hS
  have HX : Hid (L[m]? = some x) := hx
  obtain ⟨b, o, c, s, rfl, hb, hc, hm, -, k0, -, -, -, -, -, -, -, k8⟩ := hv.open hx
  have hbl := hS b hb
  unfold maxLen at hm
  have c0 : (W.alloc (.cells #[.int .i64 0, .int .i64 0, .string ⟨#[]⟩] 34)).cell? ⟨b, o + m * 9, none⟩ = some (.int .i64 x.kind) := by rw [(On.alloc W _).cell hbl]; exact k0
  have c8 : (W.alloc (.cells #[.int .i64 0, .int .i64 0, .string ⟨#[]⟩] 34)).cell? ⟨b, o + m * 9 + 8, none⟩ = some (.int .i64 x.up) := by rw [(On.alloc W _).cell hbl]; exact k8
  have r0 := hK0.cell 0
  have z0 := hK0.free 0
  have r1 := hK0.cell 1
  have z1 := hK0.free 1
  have r2 := hK0.cell 2
  have z2 := hK0.free 2
  have hlt0 := hK0.lt
  have n3 : ¬ b = W.heap.size := by omega
  have HL : Hid (Row W T 1 vleft ((part :: rest).map tS)) := hl
  have HT : Hid (∀ b, T b → b < W.heap.size) := hT
  have HMU : Hid (Lk.mu ⟨(m : Int), part :: rest, hops⟩ < 1000) := hmu
  have HH : Hid (hops ≤ 6) := hh
  obtain ⟨lb, lo, lc, rfl, hTb, hc3, hc4, h5⟩ := hl.some (by simp)
  rw [List.length_map, List.length_cons] at hc3 HL
  rw [List.length_map, List.length_cons]
  have l0 := h5 0 (tS part) rfl 0 _ rfl
  rw [Nat.zero_mul, Nat.add_zero] at l0
  have hlbl := hT lb hTb
  unfold maxLen at hc4
  have hcz : (1 : Int) ≤ (lc : Int) := by omega
  have hcy : (1 : Int) ≤ (rest.length : Int) + 1 := by omega
  have hcx : (rest.length : Int) + 1 ≤ (lc : Int) := by omega
  obtain ⟨A5, hA5⟩ : ∃ A5 : Addr, (if lc = 1 then some (⟨lb, lo, none⟩ : Addr) else some ⟨lb, lo + 1, none⟩) = some A5 := by split <;> exact ⟨_, rfl⟩
  have HTL : Hid (Row W T 1 (.slice (some A5) rest.length (lc - 1)) (rest.map tS)) := by
    have := row_tail HL.out
    rw [hA5] at this
    exact this
  have d0 : (W.alloc (.cells #[.int .i64 0, .int .i64 0, .string ⟨#[]⟩] 34)).cell? ⟨lb, lo, none⟩ = some (.string part) := by rw [(On.alloc W _).cell hlbl]; exact l0
  clear h5 hl hT hmu hh hTb l0
  rw [hk] at c0
  have HY : Hid (L[n]? = some y) := hy
  have hnl := (List.getElem?_eq_some_iff.1 hy).1
  have HKN : Hid (Sp.find L (m : Int) part = (n : Int)) := hkn
  clear hy hkn
  clear hv hS hx hb hK0 k0 k8
  unfold fdV
  go_enter Tryd.func30, Tryd.ntmps30
  go_wp2_with fail
  generalize (W.alloc (.cells #[.int .i64 0, .int .i64 0, .string ⟨#[]⟩] 34)) = w0 at *
  go_region_held3 (fun w' => w'.cell? ⟨lb, lo, none⟩ = some (.string part)) (go_keep) (fail)
  clear hA5
  have HF : Hid (Calls Tryd.prog 14 #[.slice (some ⟨b, o, none⟩) L.length c, .int .i64 (m : Int), .string part] w0.drew fun e w' => e = .returned (.int .i64 (Sp.find L (m : Int) part)) ∧ Below w0.drew.heap.size w0.drew w') := rfind_any L (m : Int) part _ S w0.drew (HV.out.on ((On.of HB0.out.drew).less HS.out)) (fun b h => Nat.lt_of_lt_of_le (HS.out b h) HB0.out.drew.size)
  go_wp2_with fail
  refine Calls.mono HF.out ?_
  rw [HKN.out]
  rintro e w2 ⟨rfl, hb2⟩
  have hK2 : Blk w2 W.heap.size #[.int .i64 0, .int .i64 0, .string ⟨#[]⟩] 34 := Blk.below (w := w0.drew) HK0.out hb2 HK0.out.lt
  have HK2 : Hid (Blk w2 W.heap.size #[.int .i64 0, .int .i64 0, .string ⟨#[]⟩] 34) := hK2
  have HB2 : Hid (Below W.heap.size W w2) := HB0.out.drew.trans (hb2.mono HB0.out.drew.size)
  have HV2 : Hid (Objs w2 S (.slice (some ⟨b, o, none⟩) L.length c) L) := HV.out.on ((On.of HB2.out).less HS.out)
  have HT2 : Hid (Row w2 T 1 (.slice (some A5) rest.length (lc - 1)) (rest.map tS)) := Row.on HTL.out ((On.of HB2.out).less HT.out)
  clear r0 r1 r2 z0 z1 z2 c0 c8 d0 hb2 HF
  have r0 := hK2.cell 0
  have z0 := hK2.free 0
  have r1 := hK2.cell 1
  have z1 := hK2.free 1
  have r2 := hK2.cell 2
  have z2 := hK2.free 2
  have hlt2 := hK2.lt
  clear hK2
  obtain ⟨b', o', c', s', he, -, -, -, -, y0, -, -, y3, -⟩ := HV2.out.open HY.out
  obtain ⟨e1, -, rfl⟩ := Value.slice.inj he
  cases e1
  clear he
  rw [hl3] at y0
  have HSP : Hid (Calls Tryd.prog 21 #[.string y.target] w2 fun e w' => Below w2.heap.size w2 w' ∧ ((Lk.splitE y.target ≠ 0 ∧ e = .returned (.tuple #[.slice none 0 0, .bool false, .int .i64 (Lk.splitE y.target)])) ∨ (Lk.splitE y.target = 0 ∧ ∃ v, e = .returned (.tuple #[v, .bool (Pt.root y.target.data.toList), .int .i64 0]) ∧ Mine w' w2.heap.size 9 1 v ((partsB y.target).map tS)))) := rsplit_any y.target hsz w2
  rcases hgt with hf | ⟨hf, hgt⟩
  ·
    subst hf
    go_wp2_with fail
    refine HSP.out.mono ?_
    rintro e w3 ⟨hb3, ⟨hz, -⟩ | ⟨-, v3, rfl, hm3⟩⟩
    focus
      exact absurd HSE.out hz
    rw [HRO.out]
    have hK3 : Blk w3 W.heap.size #[.int .i64 0, .int .i64 0, .string ⟨#[]⟩] 34 := HK2.out.below hb3 HK2.out.lt
    have HK3 : Hid (Blk w3 W.heap.size #[.int .i64 0, .int .i64 0, .string ⟨#[]⟩] 34) := hK3
    have HB3 : Hid (Below W.heap.size W w3) := HB2.out.trans (hb3.mono HB2.out.size)
    clear r0 r1 r2 z0 z1 z2 y0 y3 HSP
    have r0 := hK3.cell 0
    have z0 := hK3.free 0
    have r1 := hK3.cell 1
    have z1 := hK3.free 1
    have r2 := hK3.cell 2
    have z2 := hK3.free 2
    have hlt3 := hK3.lt
    clear hK3
    have HM3 : Hid (Row w3 (fun b => w2.heap.size ≤ b ∧ b < w3.heap.size) 1 v3 ((partsB y.target).map tS)) := hm3.row (even_tS _)
    have HT3 : Hid (Row w3 T 1 (.slice (some A5) rest.length (lc - 1)) (rest.map tS)) := Row.on HT2.out ((On.of hb3).less fun b h => by have := HT.out b h; have := HB2.out.size; omega)
    clear hb3 hm3
    go_wp2_with (with_reducible refine stop_at (.call { callee := .builtin .append, args := #[.tmp 120, .tmp 121], argTypes := #[42, 42] }) rfl ?_)
    unfold Hold
    obtain ⟨i0, hi, hz0, hz1, hz2⟩ := info_parts Tryd.infoS
    refine wpList_append_row rfl _ _ _ rfl w3.heap.size 9 i0 (.string ByteArray.empty) 1 16 Tryd.underlying42 hi hz0 hz1 hz2 rfl (by decide) _ [] rfl (Mine.empty w3 9 1) _ _ _ rfl (Row.on HM3.out ((On.alloc w3 _).less fun b h => h.2)) (even_tS _) (ones_tS _) ?_ (by decide) ?_ ?_
    · rw [List.length_map]; have := HPL.out; simp; omega
    · simp
    intro v4 w4 hm4 hg4
    have hbe4 : Below w3.heap.size w3 w4 := Below.grown ((Below.refl _ _).alloc (Nat.le_refl _) _) hg4 (by simp) (fun j hj => by cases hj; exact Nat.le_refl _)
    have hK4 : Blk w4 W.heap.size #[.int .i64 0, .int .i64 0, .string ⟨#[]⟩] 34 := HK3.out.below hbe4 HK3.out.lt
    have HK4 : Hid (Blk w4 W.heap.size #[.int .i64 0, .int .i64 0, .string ⟨#[]⟩] 34) := hK4
    have HB4 : Hid (Below W.heap.size W w4) := HB3.out.trans (hbe4.mono HB3.out.size)
    have HT4 : Hid (Row w4 T 1 (.slice (some A5) rest.length (lc - 1)) (rest.map tS)) := Row.on HT3.out ((On.of hbe4).less fun b h => by have := HT.out b h; have := HB3.out.size; omega)
    have HM4 : Hid (Mine w4 w3.heap.size 9 1 v4 ((partsB y.target).map tS)) := hm4
    have HZ4 : Hid (w3.heap.size ≤ w4.heap.size) := hbe4.size
    clear r0 r1 r2 z0 z1 z2 hlt3 hi hz0 hz1 hz2 hm4 hg4 hbe4 hK4
    go_wp2_with (with_reducible refine stop_at (.call { callee := .builtin .append, args := #[.tmp 122, .tmp 123], argTypes := #[42, 42] }) rfl ?_)
    unfold Hold
    obtain ⟨i0, hi, hz0, hz1, hz2⟩ := info_parts Tryd.infoS
    refine wpList_append_row rfl _ _ _ rfl w3.heap.size 9 i0 (.string ByteArray.empty) 1 16 Tryd.underlying42 hi hz0 hz1 hz2 rfl (by decide) _ _ rfl HM4.out _ _ _ rfl HT4.out (even_tS _) (ones_tS _) ?_ (by decide) HZ4.out ?_
    · rw [List.length_map, List.length_map]; have := HPL.out; have := HRL.out; omega
    intro v5 w5 hm5 hg5
    rw [← List.map_append] at hm5
    have hbe5 : Below w3.heap.size w4 w5 := Below.grown (Below.refl _ _) hg5 HZ4.out (fun j hj => (HM4.out.lt j hj).1)
    have hK5 : Blk w5 W.heap.size #[.int .i64 0, .int .i64 0, .string ⟨#[]⟩] 34 := HK4.out.below hbe5 HK3.out.lt
    have HKP : Hid (Blk w5 W.heap.size #[.int .i64 0, .int .i64 0, .string ⟨#[]⟩] 34) := hK5
    have HBP : Hid (Below W.heap.size W w5) := HB4.out.trans (hbe5.mono HB3.out.size)
    have hn := nx
    unfold Says at hn
    dsimp only at hn
    rw [hR] at hn
    dsimp only at hn
    rw [EZ.out] at hn
    have HN : Hid (Calls Tryd.prog 30 _ w5 _) := hn _ v5 S (fun b => w3.heap.size ≤ b ∧ b < w5.heap.size) w5 (HV.out.on ((On.of HBP.out).less HS.out)) (fun b h => Nat.lt_of_lt_of_le (HS.out b h) HBP.out.size) (hm5.row (even_tS _)) (fun b h => h.2)
    have r0 := hK5.cell 0
    have r1 := hK5.cell 1
    have r2 := hK5.cell 2
    have z0 := hK5.free 0
    have z1 := hK5.free 1
    have z2 := hK5.free 2
    clear hn hi hz0 hz1 hz2 hm5 hg5 hbe5 hK5
    go_wp2_with fail
    refine Calls.mono HN.out ?_
    rintro e w9 ⟨rfl, hb9'⟩
    have hK9 : Blk w9 W.heap.size #[.int .i64 0, .int .i64 0, .string ⟨#[]⟩] 34 := HKP.out.below hb9' HKP.out.lt
    have HBX : Hid (Below W.heap.size W w9) := HBP.out.trans (hb9'.mono HBP.out.size)
    have HK9 : Hid (Blk w9 W.heap.size #[.int .i64 0, .int .i64 0, .string ⟨#[]⟩] 34) := hK9
    clear r0 r1 r2 z0 z1 z2 HN hb9'
    have r0 := hK9.cell 0
    have z0 := hK9.free 0
    have r1 := hK9.cell 1
    have z1 := hK9.free 1
    have r2 := hK9.cell 2
    have z2 := hK9.free 2
    have hlt9 := hK9.lt
    clear hK9
    go_wp2
    generalize hW : ((w9.setCell ⟨W.heap.size, 0, none⟩ (.int .i64 fo)).setCell ⟨W.heap.size, 1, none⟩ (.int .i64 fd)).setCell ⟨W.heap.size, 2, none⟩ (.string fn) = W9
    obtain ⟨hb9, ho9, hs9, hB9⟩ := fd_cells HK9.out fo fd fn hW
    have hc9 := hb9.cell
    exact bodyPost_ret (v := .tuple #[.agg #[.int .i64 fo, .int .i64 fd, .string fn], .int .i64 er]) (by simp [results, Tryd.results30, go_sem, hc9]) rfl ⟨rfl, (HBX.out).trans (hB9 _ (Nat.le_refl _))⟩
  ·
    subst hf
    go_wp2_with fail
    refine HSP.out.mono ?_
    rintro e w3 ⟨hb3, ⟨hz, -⟩ | ⟨-, v3, rfl, hm3⟩⟩
    focus
      exact absurd HSE.out hz
    rw [HRO.out]
    have hK3 : Blk w3 W.heap.size #[.int .i64 0, .int .i64 0, .string ⟨#[]⟩] 34 := HK2.out.below hb3 HK2.out.lt
    have HK3 : Hid (Blk w3 W.heap.size #[.int .i64 0, .int .i64 0, .string ⟨#[]⟩] 34) := hK3
    have HB3 : Hid (Below W.heap.size W w3) := HB2.out.trans (hb3.mono HB2.out.size)
    clear r0 r1 r2 z0 z1 z2 y0 y3 HSP
    have r0 := hK3.cell 0
    have z0 := hK3.free 0
    have r1 := hK3.cell 1
    have z1 := hK3.free 1
    have r2 := hK3.cell 2
    have z2 := hK3.free 2
    have hlt3 := hK3.lt
    clear hK3
    have HM3 : Hid (Row w3 (fun b => w2.heap.size ≤ b ∧ b < w3.heap.size) 1 v3 ((partsB y.target).map tS)) := hm3.row (even_tS _)
    have HT3 : Hid (Row w3 T 1 (.slice (some A5) rest.length (lc - 1)) (rest.map tS)) := Row.on HT2.out ((On.of hb3).less fun b h => by have := HT.out b h; have := HB2.out.size; omega)
    clear hb3 hm3
    go_wp2_with (with_reducible refine stop_at (.call { callee := .builtin .append, args := #[.tmp 120, .tmp 121], argTypes := #[42, 42] }) rfl ?_)
    unfold Hold
    obtain ⟨i0, hi, hz0, hz1, hz2⟩ := info_parts Tryd.infoS
    refine wpList_append_row rfl _ _ _ rfl w3.heap.size 9 i0 (.string ByteArray.empty) 1 16 Tryd.underlying42 hi hz0 hz1 hz2 rfl (by decide) _ [] rfl (Mine.empty w3 9 1) _ _ _ rfl (Row.on HM3.out ((On.alloc w3 _).less fun b h => h.2)) (even_tS _) (ones_tS _) ?_ (by decide) ?_ ?_
    · rw [List.length_map]; have := HPL.out; simp; omega
    · simp
    intro v4 w4 hm4 hg4
    have hbe4 : Below w3.heap.size w3 w4 := Below.grown ((Below.refl _ _).alloc (Nat.le_refl _) _) hg4 (by simp) (fun j hj => by cases hj; exact Nat.le_refl _)
    have hK4 : Blk w4 W.heap.size #[.int .i64 0, .int .i64 0, .string ⟨#[]⟩] 34 := HK3.out.below hbe4 HK3.out.lt
    have HK4 : Hid (Blk w4 W.heap.size #[.int .i64 0, .int .i64 0, .string ⟨#[]⟩] 34) := hK4
    have HB4 : Hid (Below W.heap.size W w4) := HB3.out.trans (hbe4.mono HB3.out.size)
    have HT4 : Hid (Row w4 T 1 (.slice (some A5) rest.length (lc - 1)) (rest.map tS)) := Row.on HT3.out ((On.of hbe4).less fun b h => by have := HT.out b h; have := HB3.out.size; omega)
    have HM4 : Hid (Mine w4 w3.heap.size 9 1 v4 ((partsB y.target).map tS)) := hm4
    have HZ4 : Hid (w3.heap.size ≤ w4.heap.size) := hbe4.size
    clear r0 r1 r2 z0 z1 z2 hlt3 hi hz0 hz1 hz2 hm4 hg4 hbe4 hK4
    go_wp2_with (with_reducible refine stop_at (.call { callee := .builtin .append, args := #[.tmp 122, .tmp 123], argTypes := #[42, 42] }) rfl ?_)
    unfold Hold
    obtain ⟨i0, hi, hz0, hz1, hz2⟩ := info_parts Tryd.infoS
    refine wpList_append_row rfl _ _ _ rfl w3.heap.size 9 i0 (.string ByteArray.empty) 1 16 Tryd.underlying42 hi hz0 hz1 hz2 rfl (by decide) _ _ rfl HM4.out _ _ _ rfl HT4.out (even_tS _) (ones_tS _) ?_ (by decide) HZ4.out ?_
    · rw [List.length_map, List.length_map]; have := HPL.out; have := HRL.out; omega
    intro v5 w5 hm5 hg5
    rw [← List.map_append] at hm5
    have hbe5 : Below w3.heap.size w4 w5 := Below.grown (Below.refl _ _) hg5 HZ4.out (fun j hj => (HM4.out.lt j hj).1)
    have hK5 : Blk w5 W.heap.size #[.int .i64 0, .int .i64 0, .string ⟨#[]⟩] 34 := HK4.out.below hbe5 HK3.out.lt
    have HKP : Hid (Blk w5 W.heap.size #[.int .i64 0, .int .i64 0, .string ⟨#[]⟩] 34) := hK5
    have HBP : Hid (Below W.heap.size W w5) := HB4.out.trans (hbe5.mono HB3.out.size)
    have hn := nx
    unfold Says at hn
    dsimp only at hn
    rw [hR] at hn
    dsimp only at hn
    rw [EZ.out] at hn
    have HN : Hid (Calls Tryd.prog 30 _ w5 _) := hn _ v5 S (fun b => w3.heap.size ≤ b ∧ b < w5.heap.size) w5 (HV.out.on ((On.of HBP.out).less HS.out)) (fun b h => Nat.lt_of_lt_of_le (HS.out b h) HBP.out.size) (hm5.row (even_tS _)) (fun b h => h.2)
    have r0 := hK5.cell 0
    have r1 := hK5.cell 1
    have r2 := hK5.cell 2
    have z0 := hK5.free 0
    have z1 := hK5.free 1
    have z2 := hK5.free 2
    clear hn hi hz0 hz1 hz2 hm5 hg5 hbe5 hK5
    go_wp2_with fail
    refine Calls.mono HN.out ?_
    rintro e w9 ⟨rfl, hb9'⟩
    have hK9 : Blk w9 W.heap.size #[.int .i64 0, .int .i64 0, .string ⟨#[]⟩] 34 := HKP.out.below hb9' HKP.out.lt
    have HBX : Hid (Below W.heap.size W w9) := HBP.out.trans (hb9'.mono HBP.out.size)
    have HK9 : Hid (Blk w9 W.heap.size #[.int .i64 0, .int .i64 0, .string ⟨#[]⟩] 34) := hK9
    clear r0 r1 r2 z0 z1 z2 HN hb9'
    have r0 := hK9.cell 0
    have z0 := hK9.free 0
    have r1 := hK9.cell 1
    have z1 := hK9.free 1
    have r2 := hK9.cell 2
    have z2 := hK9.free 2
    have hlt9 := hK9.lt
    clear hK9
    go_wp2
    generalize hW : ((w9.setCell ⟨W.heap.size, 0, none⟩ (.int .i64 fo)).setCell ⟨W.heap.size, 1, none⟩ (.int .i64 fd)).setCell ⟨W.heap.size, 2, none⟩ (.string fn) = W9
    obtain ⟨hb9, ho9, hs9, hB9⟩ := fd_cells HK9.out fo fd fn hW
    have hc9 := hb9.cell
    exact bodyPost_ret (v := .tuple #[.agg #[.int .i64 fo, .int .i64 fd, .string fn], .int .i64 er]) (by simp [results, Tryd.results30, go_sem, hc9]) rfl ⟨rfl, (HBX.out).trans (hB9 _ (Nat.le_refl _))⟩
set_option maxRecDepth 100000 in
set_option maxHeartbeats 8000000 in
theorem rwalk_link (L : List Sp.Ob) (m : Nat) (x : Sp.Ob) (vl : Value) (base : Int) (fence follow : Bool) (hops : Nat) (S : Nat → Prop) (W : World) (hv : Objs W S vl L) (hS : ∀ b, S b → b < W.heap.size) (hx : L[m]? = some x) (vleft : Value) (part : ByteArray) (rest : List ByteArray) (T : Nat → Prop) (hl : Row W T 1 vleft ((part :: rest).map tS)) (hT : ∀ b, T b → b < W.heap.size) (hmu : Lk.mu ⟨(m : Int), part :: rest, hops⟩ < 1000) (hh : hops ≤ 6) (hk : x.kind = 2) (hp : (part.toList == [46, 46]) = false) (n : Nat) (y : Sp.Ob) (hkn : Sp.find L (m : Int) part = (n : Int)) (hy : L[n]? = some y) (hl3 : y.kind = 3) (hlk : follow = true ∨ rest ≠ []) (h6 : hops < 6) (hse : Lk.splitE y.target = 0) (hro : Pt.root y.target.data.toList = false) (hsz : y.target.size ≤ maxLen) (nx : Says L base fence follow ⟨(m : Int), partsB y.target ++ rest, hops + 1⟩) :
    Calls Tryd.prog 30 #[vl, .int .i64 base, .int .i64 (m : Int), vleft, .bool fence, .bool follow, .int .i64 (hops : Int)] W fun e w' => e = .returned (.tuple #[fdV (Lk.go L base fence follow 1000 ⟨(m : Int), (part :: rest), hops⟩).1.obj (Lk.go L base fence follow 1000 ⟨(m : Int), (part :: rest), hops⟩).1.dir (Lk.go L base fence follow 1000 ⟨(m : Int), (part :: rest), hops⟩).1.name, .int .i64 (Lk.go L base fence follow 1000 ⟨(m : Int), (part :: rest), hops⟩).2]) ∧ Below W.heap.size W w' := by
  have c1 : Lk.isK L (m : Int) 2 = true := by rw [Lk.isK_nat hx, hk]; rfl
  have hp' : Lk.isUp part = false := hp
  have hk3 : Lk.isK L (Sp.find L (m : Int) part) 3 = true := by rw [hkn, Lk.isK_nat hy, hl3]; rfl
  have htg : Lk.trg L (Sp.find L (m : Int) part) = y.target := by unfold Lk.trg; rw [hkn, Int.toNat_natCast, hy]
  have e1 := Lk.one_link (base := base) (fence := fence) (follow := follow) (hops := hops) c1 hp' hk3 hlk
  rw [htg] at e1
  have hgt : follow = true ∨ (follow = false ∧ (0 : Int) < (rest.length : Int)) := by
    rcases hlk with h | h
    · exact Or.inl h
    · cases follow with
      | true => exact Or.inl rfl
      | false => exact Or.inr ⟨rfl, by have := List.length_pos_iff.2 h; omega⟩
  have et : Lk.throughE y.target fence hops = 0 := by
    unfold Lk.throughE Lk.turnE
    rw [if_neg (by omega), if_neg (by rw [hse]; decide), if_neg (by rw [hro]; simp)]
  have ea : Lk.turnA y.target (m : Int) = (m : Int) := by unfold Lk.turnA; rw [hro]; rfl
  rw [et, ea] at e1
  have e : (Lk.go L base fence follow 1000 ⟨(m : Int), (part :: rest), hops⟩) = Lk.go L base fence follow 1000 ⟨(m : Int), partsB y.target ++ rest, hops + 1⟩ := by rw [Lk.go_step hh hmu (by rw [e1]) (by rw [e1]), e1]
  rw [e]
  have HPL : Hid ((partsB y.target).length ≤ 61) := partsB_len _ hse
  have HRL : Hid (rest.length < 1000) := by
    have := hmu
    unfold Lk.mu at this
    simp only [List.length_cons] at this
    unfold Hid
    omega
  have h6z : ¬ (6 : Int) ≤ (hops : Int) := by omega
  have HSE : Hid (Lk.splitE y.target = 0) := hse
  have HRO : Hid (Pt.root y.target.data.toList = false) := hro
  obtain ⟨R, hR⟩ : ∃ R, Lk.go L base fence follow 1000 ⟨(m : Int), partsB y.target ++ rest, hops + 1⟩ = R := ⟨_, rfl⟩
  rw [hR]
  obtain ⟨⟨fo, fd, fn⟩, er⟩ := R
  have EZ : Hid (((hops + 1 : Nat) : Int) = (hops : Int) + 1) := by unfold Hid; omega
  clear e e1 c1 hk3 htg et ea hlk hse hro
  have HB0 : Hid (Below W.heap.size W (W.alloc (.cells #[.int .i64 0, .int .i64 0, .string ⟨#[]⟩] 34))) := (Below.refl _ _).alloc (Nat.le_refl _) _
  have hK0 : Blk (W.alloc (.cells #[.int .i64 0, .int .i64 0, .string ⟨#[]⟩] 34)) W.heap.size #[.int .i64 0, .int .i64 0, .string ⟨#[]⟩] 34 := Blk.new W _ _
  have HK0 : Hid (Blk (W.alloc (.cells #[.int .i64 0, .int .i64 0, .string ⟨#[]⟩] 34)) W.heap.size #[.int .i64 0, .int .i64 0, .string ⟨#[]⟩] 34) := hK0
  have hml := (List.getElem?_eq_some_iff.1 hx).1
  have HV : Hid (Objs W S vl L) := hv
  have HS : Hid (∀ b, S b → b < W.heap.size) := hS
  have HX : Hid (L[m]? = some x) := hx
  obtain ⟨b, o, c, s, rfl, hb, hc, hm, -, k0, -, -, -, -, -, -, -, k8⟩ := hv.open hx
  have hbl := hS b hb
  unfold maxLen at hm
  have c0 : (W.alloc (.cells #[.int .i64 0, .int .i64 0, .string ⟨#[]⟩] 34)).cell? ⟨b, o + m * 9, none⟩ = some (.int .i64 x.kind) := by rw [(On.alloc W _).cell hbl]; exact k0
  have c8 : (W.alloc (.cells #[.int .i64 0, .int .i64 0, .string ⟨#[]⟩] 34)).cell? ⟨b, o + m * 9 + 8, none⟩ = some (.int .i64 x.up) := by rw [(On.alloc W _).cell hbl]; exact k8
  have r0 := hK0.cell 0
  have z0 := hK0.free 0
  have r1 := hK0.cell 1
  have z1 := hK0.free 1
  have r2 := hK0.cell 2
  have z2 := hK0.free 2
  have hlt0 := hK0.lt
  have n3 : ¬ b = W.heap.size := by omega
  have HL : Hid (Row W T 1 vleft ((part :: rest).map tS)) := hl
  have HT : Hid (∀ b, T b → b < W.heap.size) := hT
  have HMU : Hid (Lk.mu ⟨(m : Int), part :: rest, hops⟩ < 1000) := hmu
  have HH : Hid (hops ≤ 6) := hh
  obtain ⟨lb, lo, lc, rfl, hTb, hc3, hc4, h5⟩ := hl.some (by simp)
  rw [List.length_map, List.length_cons] at hc3 HL
  rw [List.length_map, List.length_cons]
  have l0 := h5 0 (tS part) rfl 0 _ rfl
  rw [Nat.zero_mul, Nat.add_zero] at l0
  have hlbl := hT lb hTb
  unfold maxLen at hc4
  have hcz : (1 : Int) ≤ (lc : Int) := by omega
  have hcy : (1 : Int) ≤ (rest.length : Int) + 1 := by omega
  have hcx : (rest.length : Int) + 1 ≤ (lc : Int) := by omega
  obtain ⟨A5, hA5⟩ : ∃ A5 : Addr, (if lc = 1 then some (⟨lb, lo, none⟩ : Addr) else some ⟨lb, lo + 1, none⟩) = some A5 := by split <;> exact ⟨_, rfl⟩
  have HTL : Hid (Row W T 1 (.slice (some A5) rest.length (lc - 1)) (rest.map tS)) := by
    have := row_tail HL.out
    rw [hA5] at this
    exact this
  have d0 : (W.alloc (.cells #[.int .i64 0, .int .i64 0, .string ⟨#[]⟩] 34)).cell? ⟨lb, lo, none⟩ = some (.string part) := by rw [(On.alloc W _).cell hlbl]; exact l0
  clear h5 hl hT hmu hh hTb l0
  rw [hk] at c0
  have HY : Hid (L[n]? = some y) := hy
  have hnl := (List.getElem?_eq_some_iff.1 hy).1
  have HKN : Hid (Sp.find L (m : Int) part = (n : Int)) := hkn
  clear hy hkn
  clear hv hS hx hb hK0 k0 k8
  unfold fdV
  go_enter Tryd.func30, Tryd.ntmps30
  go_wp2_with fail
  generalize (W.alloc (.cells #[.int .i64 0, .int .i64 0, .string ⟨#[]⟩] 34)) = w0 at *
  go_region_held3 (fun w' => w'.cell? ⟨lb, lo, none⟩ = some (.string part)) (go_keep) (fail)
  clear hA5
  have HF : Hid (Calls Tryd.prog 14 #[.slice (some ⟨b, o, none⟩) L.length c, .int .i64 (m : Int), .string part] w0.drew fun e w' => e = .returned (.int .i64 (Sp.find L (m : Int) part)) ∧ Below w0.drew.heap.size w0.drew w') := rfind_any L (m : Int) part _ S w0.drew (HV.out.on ((On.of HB0.out.drew).less HS.out)) (fun b h => Nat.lt_of_lt_of_le (HS.out b h) HB0.out.drew.size)
  go_wp2_with fail
  refine Calls.mono HF.out ?_
  rw [HKN.out]
  rintro e w2 ⟨rfl, hb2⟩
  have hK2 : Blk w2 W.heap.size #[.int .i64 0, .int .i64 0, .string ⟨#[]⟩] 34 := Blk.below (w := w0.drew) HK0.out hb2 HK0.out.lt
  have HK2 : Hid (Blk w2 W.heap.size #[.int .i64 0, .int .i64 0, .string ⟨#[]⟩] 34) := hK2
  have HB2 : Hid (Below W.heap.size W w2) := HB0.out.drew.trans (hb2.mono HB0.out.drew.size)
  have HV2 : Hid (Objs w2 S (.slice (some ⟨b, o, none⟩) L.length c) L) := HV.out.on ((On.of HB2.out).less HS.out)
  have HT2 : Hid (Row w2 T 1 (.slice (some A5) rest.length (lc - 1)) (rest.map tS)) := Row.on HTL.out ((On.of HB2.out).less HT.out)
  clear r0 r1 r2 z0 z1 z2 c0 c8 d0 hb2 HF
  have r0 := hK2.cell 0
  have z0 := hK2.free 0
  have r1 := hK2.cell 1
  have z1 := hK2.free 1
  have r2 := hK2.cell 2
  have z2 := hK2.free 2
  have hlt2 := hK2.lt
  clear hK2
  obtain ⟨b', o', c', s', he, -, -, -, -, y0, -, -, y3, -⟩ := HV2.out.open HY.out
  obtain ⟨e1, -, rfl⟩ := Value.slice.inj he
  cases e1
  clear he
  rw [hl3] at y0
  have HSP : Hid (Calls Tryd.prog 21 #[.string y.target] w2 fun e w' => Below w2.heap.size w2 w' ∧ ((Lk.splitE y.target ≠ 0 ∧ e = .returned (.tuple #[.slice none 0 0, .bool false, .int .i64 (Lk.splitE y.target)])) ∨ (Lk.splitE y.target = 0 ∧ ∃ v, e = .returned (.tuple #[v, .bool (Pt.root y.target.data.toList), .int .i64 0]) ∧ Mine w' w2.heap.size 9 1 v ((partsB y.target).map tS)))) := rsplit_any y.target hsz w2
  rcases hgt with hf | ⟨hf, hgt⟩
  ·
    subst hf
    go_wp2_with fail
    refine HSP.out.mono ?_
    rintro e w3 ⟨hb3, ⟨hz, -⟩ | ⟨-, v3, rfl, hm3⟩⟩
    focus
      exact absurd HSE.out hz
    rw [HRO.out]
    have hK3 : Blk w3 W.heap.size #[.int .i64 0, .int .i64 0, .string ⟨#[]⟩] 34 := HK2.out.below hb3 HK2.out.lt
    have HK3 : Hid (Blk w3 W.heap.size #[.int .i64 0, .int .i64 0, .string ⟨#[]⟩] 34) := hK3
    have HB3 : Hid (Below W.heap.size W w3) := HB2.out.trans (hb3.mono HB2.out.size)
    clear r0 r1 r2 z0 z1 z2 y0 y3 HSP
    have r0 := hK3.cell 0
    have z0 := hK3.free 0
    have r1 := hK3.cell 1
    have z1 := hK3.free 1
    have r2 := hK3.cell 2
    have z2 := hK3.free 2
    have hlt3 := hK3.lt
    clear hK3
    have HM3 : Hid (Row w3 (fun b => w2.heap.size ≤ b ∧ b < w3.heap.size) 1 v3 ((partsB y.target).map tS)) := hm3.row (even_tS _)
    have HT3 : Hid (Row w3 T 1 (.slice (some A5) rest.length (lc - 1)) (rest.map tS)) := Row.on HT2.out ((On.of hb3).less fun b h => by have := HT.out b h; have := HB2.out.size; omega)
    clear hb3 hm3
    go_wp2_with (with_reducible refine stop_at (.call { callee := .builtin .append, args := #[.tmp 120, .tmp 121], argTypes := #[42, 42] }) rfl ?_)
    unfold Hold
    obtain ⟨i0, hi, hz0, hz1, hz2⟩ := info_parts Tryd.infoS
    refine wpList_append_row rfl _ _ _ rfl w3.heap.size 9 i0 (.string ByteArray.empty) 1 16 Tryd.underlying42 hi hz0 hz1 hz2 rfl (by decide) _ [] rfl (Mine.empty w3 9 1) _ _ _ rfl (Row.on HM3.out ((On.alloc w3 _).less fun b h => h.2)) (even_tS _) (ones_tS _) ?_ (by decide) ?_ ?_
    · rw [List.length_map]; have := HPL.out; simp; omega
    · simp
    intro v4 w4 hm4 hg4
    have hbe4 : Below w3.heap.size w3 w4 := Below.grown ((Below.refl _ _).alloc (Nat.le_refl _) _) hg4 (by simp) (fun j hj => by cases hj; exact Nat.le_refl _)
    have hK4 : Blk w4 W.heap.size #[.int .i64 0, .int .i64 0, .string ⟨#[]⟩] 34 := HK3.out.below hbe4 HK3.out.lt
    have HK4 : Hid (Blk w4 W.heap.size #[.int .i64 0, .int .i64 0, .string ⟨#[]⟩] 34) := hK4
    have HB4 : Hid (Below W.heap.size W w4) := HB3.out.trans (hbe4.mono HB3.out.size)
    have HT4 : Hid (Row w4 T 1 (.slice (some A5) rest.length (lc - 1)) (rest.map tS)) := Row.on HT3.out ((On.of hbe4).less fun b h => by have := HT.out b h; have := HB3.out.size; omega)
    have HM4 : Hid (Mine w4 w3.heap.size 9 1 v4 ((partsB y.target).map tS)) := hm4
    have HZ4 : Hid (w3.heap.size ≤ w4.heap.size) := hbe4.size
    clear r0 r1 r2 z0 z1 z2 hlt3 hi hz0 hz1 hz2 hm4 hg4 hbe4 hK4
    go_wp2_with (with_reducible refine stop_at (.call { callee := .builtin .append, args := #[.tmp 122, .tmp 123], argTypes := #[42, 42] }) rfl ?_)
    unfold Hold
    obtain ⟨i0, hi, hz0, hz1, hz2⟩ := info_parts Tryd.infoS
    refine wpList_append_row rfl _ _ _ rfl w3.heap.size 9 i0 (.string ByteArray.empty) 1 16 Tryd.underlying42 hi hz0 hz1 hz2 rfl (by decide) _ _ rfl HM4.out _ _ _ rfl HT4.out (even_tS _) (ones_tS _) ?_ (by decide) HZ4.out ?_
    · rw [List.length_map, List.length_map]; have := HPL.out; have := HRL.out; omega
    intro v5 w5 hm5 hg5
    rw [← List.map_append] at hm5
    have hbe5 : Below w3.heap.size w4 w5 := Below.grown (Below.refl _ _) hg5 HZ4.out (fun j hj => (HM4.out.lt j hj).1)
    have hK5 : Blk w5 W.heap.size #[.int .i64 0, .int .i64 0, .string ⟨#[]⟩] 34 := HK4.out.below hbe5 HK3.out.lt
    have HKP : Hid (Blk w5 W.heap.size #[.int .i64 0, .int .i64 0, .string ⟨#[]⟩] 34) := hK5
    have HBP : Hid (Below W.heap.size W w5) := HB4.out.trans (hbe5.mono HB3.out.size)
    have hn := nx
    unfold Says at hn
    dsimp only at hn
    rw [hR] at hn
    dsimp only at hn
    rw [EZ.out] at hn
    have HN : Hid (Calls Tryd.prog 30 _ w5 _) := hn _ v5 S (fun b => w3.heap.size ≤ b ∧ b < w5.heap.size) w5 (HV.out.on ((On.of HBP.out).less HS.out)) (fun b h => Nat.lt_of_lt_of_le (HS.out b h) HBP.out.size) (hm5.row (even_tS _)) (fun b h => h.2)
    have r0 := hK5.cell 0
    have r1 := hK5.cell 1
    have r2 := hK5.cell 2
    have z0 := hK5.free 0
    have z1 := hK5.free 1
    have z2 := hK5.free 2
    clear hn hi hz0 hz1 hz2 hm5 hg5 hbe5 hK5
    go_wp2_with fail
    refine Calls.mono HN.out ?_
    rintro e w9 ⟨rfl, hb9'⟩
    have hK9 : Blk w9 W.heap.size #[.int .i64 0, .int .i64 0, .string ⟨#[]⟩] 34 := HKP.out.below hb9' HKP.out.lt
    have HBX : Hid (Below W.heap.size W w9) := HBP.out.trans (hb9'.mono HBP.out.size)
    have HK9 : Hid (Blk w9 W.heap.size #[.int .i64 0, .int .i64 0, .string ⟨#[]⟩] 34) := hK9
    clear r0 r1 r2 z0 z1 z2 HN hb9'
    have r0 := hK9.cell 0
    have z0 := hK9.free 0
    have r1 := hK9.cell 1
    have z1 := hK9.free 1
    have r2 := hK9.cell 2
    have z2 := hK9.free 2
    have hlt9 := hK9.lt
    clear hK9
    go_wp2
    generalize hW : ((w9.setCell ⟨W.heap.size, 0, none⟩ (.int .i64 fo)).setCell ⟨W.heap.size, 1, none⟩ (.int .i64 fd)).setCell ⟨W.heap.size, 2, none⟩ (.string fn) = W9
    obtain ⟨hb9, ho9, hs9, hB9⟩ := fd_cells HK9.out fo fd fn hW
    have hc9 := hb9.cell
    exact bodyPost_ret (v := .tuple #[.agg #[.int .i64 fo, .int .i64 fd, .string fn], .int .i64 er]) (by simp [results, Tryd.results30, go_sem, hc9]) rfl ⟨rfl, (HBX.out).trans (hB9 _ (Nat.le_refl _))⟩
  ·
    subst hf
    go_wp2_with fail
    refine HSP.out.mono ?_
    rintro e w3 ⟨hb3, ⟨hz, -⟩ | ⟨-, v3, rfl, hm3⟩⟩
    focus
      exact absurd HSE.out hz
    rw [HRO.out]
    have hK3 : Blk w3 W.heap.size #[.int .i64 0, .int .i64 0, .string ⟨#[]⟩] 34 := HK2.out.below hb3 HK2.out.lt
    have HK3 : Hid (Blk w3 W.heap.size #[.int .i64 0, .int .i64 0, .string ⟨#[]⟩] 34) := hK3
    have HB3 : Hid (Below W.heap.size W w3) := HB2.out.trans (hb3.mono HB2.out.size)
    clear r0 r1 r2 z0 z1 z2 y0 y3 HSP
    have r0 := hK3.cell 0
    have z0 := hK3.free 0
    have r1 := hK3.cell 1
    have z1 := hK3.free 1
    have r2 := hK3.cell 2
    have z2 := hK3.free 2
    have hlt3 := hK3.lt
    clear hK3
    have HM3 : Hid (Row w3 (fun b => w2.heap.size ≤ b ∧ b < w3.heap.size) 1 v3 ((partsB y.target).map tS)) := hm3.row (even_tS _)
    have HT3 : Hid (Row w3 T 1 (.slice (some A5) rest.length (lc - 1)) (rest.map tS)) := Row.on HT2.out ((On.of hb3).less fun b h => by have := HT.out b h; have := HB2.out.size; omega)
    clear hb3 hm3
    go_wp2_with (with_reducible refine stop_at (.call { callee := .builtin .append, args := #[.tmp 120, .tmp 121], argTypes := #[42, 42] }) rfl ?_)
    unfold Hold
    obtain ⟨i0, hi, hz0, hz1, hz2⟩ := info_parts Tryd.infoS
    refine wpList_append_row rfl _ _ _ rfl w3.heap.size 9 i0 (.string ByteArray.empty) 1 16 Tryd.underlying42 hi hz0 hz1 hz2 rfl (by decide) _ [] rfl (Mine.empty w3 9 1) _ _ _ rfl (Row.on HM3.out ((On.alloc w3 _).less fun b h => h.2)) (even_tS _) (ones_tS _) ?_ (by decide) ?_ ?_
    · rw [List.length_map]; have := HPL.out; simp; omega
    · simp
    intro v4 w4 hm4 hg4
    have hbe4 : Below w3.heap.size w3 w4 := Below.grown ((Below.refl _ _).alloc (Nat.le_refl _) _) hg4 (by simp) (fun j hj => by cases hj; exact Nat.le_refl _)
    have hK4 : Blk w4 W.heap.size #[.int .i64 0, .int .i64 0, .string ⟨#[]⟩] 34 := HK3.out.below hbe4 HK3.out.lt
    have HK4 : Hid (Blk w4 W.heap.size #[.int .i64 0, .int .i64 0, .string ⟨#[]⟩] 34) := hK4
    have HB4 : Hid (Below W.heap.size W w4) := HB3.out.trans (hbe4.mono HB3.out.size)
    have HT4 : Hid (Row w4 T 1 (.slice (some A5) rest.length (lc - 1)) (rest.map tS)) := Row.on HT3.out ((On.of hbe4).less fun b h => by have := HT.out b h; have := HB3.out.size; omega)
    have HM4 : Hid (Mine w4 w3.heap.size 9 1 v4 ((partsB y.target).map tS)) := hm4
    have HZ4 : Hid (w3.heap.size ≤ w4.heap.size) := hbe4.size
    clear r0 r1 r2 z0 z1 z2 hlt3 hi hz0 hz1 hz2 hm4 hg4 hbe4 hK4
    go_wp2_with (with_reducible refine stop_at (.call { callee := .builtin .append, args := #[.tmp 122, .tmp 123], argTypes := #[42, 42] }) rfl ?_)
    unfold Hold
    obtain ⟨i0, hi, hz0, hz1, hz2⟩ := info_parts Tryd.infoS
    refine wpList_append_row rfl _ _ _ rfl w3.heap.size 9 i0 (.string ByteArray.empty) 1 16 Tryd.underlying42 hi hz0 hz1 hz2 rfl (by decide) _ _ rfl HM4.out _ _ _ rfl HT4.out (even_tS _) (ones_tS _) ?_ (by decide) HZ4.out ?_
    · rw [List.length_map, List.length_map]; have := HPL.out; have := HRL.out; omega
    intro v5 w5 hm5 hg5
    rw [← List.map_append] at hm5
    have hbe5 : Below w3.heap.size w4 w5 := Below.grown (Below.refl _ _) hg5 HZ4.out (fun j hj => (HM4.out.lt j hj).1)
    have hK5 : Blk w5 W.heap.size #[.int .i64 0, .int .i64 0, .string ⟨#[]⟩] 34 := HK4.out.below hbe5 HK3.out.lt
    have HKP : Hid (Blk w5 W.heap.size #[.int .i64 0, .int .i64 0, .string ⟨#[]⟩] 34) := hK5
    have HBP : Hid (Below W.heap.size W w5) := HB4.out.trans (hbe5.mono HB3.out.size)
    have hn := nx
    unfold Says at hn
    dsimp only at hn
    rw [hR] at hn
    dsimp only at hn
    rw [EZ.out] at hn
    have HN : Hid (Calls Tryd.prog 30 _ w5 _) := hn _ v5 S (fun b => w3.heap.size ≤ b ∧ b < w5.heap.size) w5 (HV.out.on ((On.of HBP.out).less HS.out)) (fun b h => Nat.lt_of_lt_of_le (HS.out b h) HBP.out.size) (hm5.row (even_tS _)) (fun b h => h.2)
    have r0 := hK5.cell 0
    have r1 := hK5.cell 1
    have r2 := hK5.cell 2
    have z0 := hK5.free 0
    have z1 := hK5.free 1
    have z2 := hK5.free 2
    clear hn hi hz0 hz1 hz2 hm5 hg5 hbe5 hK5
    go_wp2_with fail
    refine Calls.mono HN.out ?_
    rintro e w9 ⟨rfl, hb9'⟩
    have hK9 : Blk w9 W.heap.size #[.int .i64 0, .int .i64 0, .string ⟨#[]⟩] 34 := HKP.out.below hb9' HKP.out.lt
    have HBX : Hid (Below W.heap.size W w9) := HBP.out.trans (hb9'.mono HBP.out.size)
    have HK9 : Hid (Blk w9 W.heap.size #[.int .i64 0, .int .i64 0, .string ⟨#[]⟩] 34) := hK9
    clear r0 r1 r2 z0 z1 z2 HN hb9'
    have r0 := hK9.cell 0
    have z0 := hK9.free 0
    have r1 := hK9.cell 1
    have z1 := hK9.free 1
    have r2 := hK9.cell 2
    have z2 := hK9.free 2
    have hlt9 := hK9.lt
    clear hK9
    go_wp2
    generalize hW : ((w9.setCell ⟨W.heap.size, 0, none⟩ (.int .i64 fo)).setCell ⟨W.heap.size, 1, none⟩ (.int .i64 fd)).setCell ⟨W.heap.size, 2, none⟩ (.string fn) = W9
    obtain ⟨hb9, ho9, hs9, hB9⟩ := fd_cells HK9.out fo fd fn hW
    have hc9 := hb9.cell
    exact bodyPost_ret (v := .tuple #[.agg #[.int .i64 fo, .int .i64 fd, .string fn], .int .i64 er]) (by simp [results, Tryd.results30, go_sem, hc9]) rfl ⟨rfl, (HBX.out).trans (hB9 _ (Nat.le_refl _))⟩
end Go.Proofs.YtfiiandnopifnaaDoor
/-
  rgref5.walk, whole; rgref5.Look.
-/
namespace Go.Proofs.YtfiiandnopifnaaDoor
open Go.RowKit
namespace Lk
theorem find_neg {L : List Sp.Ob} (hT : Tree L) {pos : Int} {name : ByteArray} (h : Sp.find L pos name < 0) : Sp.find L pos name = -1 := by
  unfold Sp.find at h ⊢
  cases ho : Sp.objAt L pos with
  | none => rfl
  | some o =>
    rw [ho] at h
    dsimp only at h ⊢
    by_cases h2 : o.kind = 2
    · rw [if_pos h2] at h ⊢
      cases hf : o.ents.find? (fun e => Sp.eqB e.name name) with
      | none => rfl
      | some e =>
        rw [hf] at h
        dsimp only at h
        obtain ⟨n, _, hx, _⟩ := objAt_some ho
        obtain ⟨j, oj, h3, h4⟩ := hT.leads n o hx h2 e (List.mem_of_find?_eq_some hf)
        omega
    · rw [if_neg h2]
end Lk
theorem says_all {L : List Sp.Ob} (hTr : Lk.Tree L) (base : Int) (fence follow : Bool) : ∀ (n : Nat) (st : Lk.St), Lk.mu st < n → Lk.mu st < 1000 → st.hops ≤ 6 → Lk.Stand L st → Says L base fence follow st
  | 0, _, h, _, _, _ => absurd h (Nat.not_lt_zero _)
  | n + 1, ⟨pos, left, hops⟩, h, hm, hh, hst => by
    obtain ⟨⟨m, x, hpx, hx⟩, hend⟩ := hst
    dsimp only at hpx hh
    subst hpx
    cases left with
    | nil => exact fun vl vleft S T W hv hS hl hT => rwalk_nil L m x vl base fence follow hops S W hv hS hx vleft T hl
    | cons part rest =>
      by_cases hk : x.kind = 2
      · have c1 : Lk.isK L (m : Int) 2 = true := by rw [Lk.isK_nat hx, hk]; rfl
        have next : ∀ st', Lk.one L base fence follow (m : Int) part rest hops = ⟨Lk.nilF, false, 0, st'⟩ → Says L base fence follow st' := fun st' e => by
          have hl := Lk.one_less (L := L) (base := base) (pos := (m : Int)) (fence := fence) (follow := follow) (part := part) (rest := rest) hh (by rw [e])
          have hs := Lk.one_stand hTr (base := base) (fence := fence) (follow := follow) ⟨⟨m, x, rfl, hx⟩, hend⟩ (by rw [e]) (by rw [e])
          rw [e] at hl hs
          dsimp only at hl hs
          exact says_all hTr base fence follow n st' (by omega) (by omega) hl.1 hs
        cases hp : (part.toList == [46, 46]) with
        | true =>
          have hp' : Lk.isUp part = true := hp
          by_cases ho : fence = true ∧ (m : Int) = base
          · exact fun vl vleft S T W hv hS hl hT => rwalk_out L m x vl base fence follow hops S W hv hS hx vleft part rest T hl hT hm hh hk hp ho.1 ho.2.symm
          · have nx := next ⟨x.up, rest, hops⟩ (by unfold Lk.one; rw [if_neg (by rw [c1]; decide), if_pos hp', Lk.upOf_nat hx]; unfold riseE riseA; rw [if_neg ho, if_neg ho])
            exact fun vl vleft S T W hv hS hl hT => rwalk_up L m x vl base fence follow hops S W hv hS hx vleft part rest T hl hT hm hh hk hp ho nx
        | false =>
          have hp' : Lk.isUp part = false := hp
          by_cases hneg : Sp.find L (m : Int) part < 0
          · by_cases hr : rest = []
            · exact fun vl vleft S T W hv hS hl hT => rwalk_new L m x vl base fence follow hops S W hv hS hx vleft part rest T hl hT hm hh hk hp hr (Lk.find_neg hTr hneg)
            · exact fun vl vleft S T W hv hS hl hT => rwalk_none L m x vl base fence follow hops S W hv hS hx vleft part rest T hl hT hm hh hk hp hr hneg
          · obtain ⟨j, y, hkn, hy⟩ := Lk.find_stand hTr (by omega : 0 ≤ Sp.find L (m : Int) part)
            have hsz := hTr.small y (List.mem_of_getElem? hy)
            have hky : Lk.isK L (Sp.find L (m : Int) part) 3 = (y.kind == 3) := by rw [hkn]; exact Lk.isK_nat hy 3
            have htg : Lk.trg L (Sp.find L (m : Int) part) = y.target := by unfold Lk.trg; rw [hkn, Int.toNat_natCast, hy]
            by_cases hl3 : y.kind = 3
            · by_cases hlk : follow = true ∨ rest ≠ []
              · by_cases h6 : 6 ≤ hops
                · exact fun vl vleft S T W hv hS hl hT => rwalk_loop L m x vl base fence follow hops S W hv hS hx vleft part rest T hl hT hm hh hk hp j y hkn hy hl3 hlk h6
                · by_cases hse : Lk.splitE y.target = 0
                  · have e1 := Lk.one_link (base := base) (fence := fence) (follow := follow) (hops := hops) c1 hp' (by rw [hky, hl3]; rfl) hlk
                    rw [htg] at e1
                    cases hro : Pt.root y.target.data.toList with
                    | true =>
                      cases fence with
                      | true => exact fun vl vleft S T W hv hS hl hT => rwalk_linkout L m x vl base true follow hops S W hv hS hx vleft part rest T hl hT hm hh hk hp j y hkn hy hl3 hlk (by omega) hse hro rfl hsz
                      | false =>
                        have nx := next ⟨0, partsB y.target ++ rest, hops + 1⟩ (by rw [e1]; unfold Lk.throughE Lk.turnE Lk.turnA; rw [if_neg h6, if_neg (by rw [hse]; decide), if_neg (by simp), if_pos hro])
                        exact fun vl vleft S T W hv hS hl hT => rwalk_linkroot L m x vl base false follow hops S W hv hS hx vleft part rest T hl hT hm hh hk hp j y hkn hy hl3 hlk (by omega) hse hro rfl hsz nx
                    | false =>
                      have nx := next ⟨(m : Int), partsB y.target ++ rest, hops + 1⟩ (by rw [e1]; unfold Lk.throughE Lk.turnE Lk.turnA; rw [if_neg h6, if_neg (by rw [hse]; decide), if_neg (by rw [hro]; simp), if_neg (by rw [hro]; decide)])
                      exact fun vl vleft S T W hv hS hl hT => rwalk_link L m x vl base fence follow hops S W hv hS hx vleft part rest T hl hT hm hh hk hp j y hkn hy hl3 hlk (by omega) hse hro hsz nx
                  · exact fun vl vleft S T W hv hS hl hT => rwalk_bad L m x vl base fence follow hops S W hv hS hx vleft part rest T hl hT hm hh hk hp j y hkn hy hl3 hlk (by omega) hse hsz
              · have hf : follow = false := by cases follow with | false => rfl | true => exact absurd (Or.inl rfl) hlk
                have hr : rest = [] := Classical.byContradiction fun h => hlk (Or.inr h)
                exact fun vl vleft S T W hv hS hl hT => rwalk_last L m x vl base fence follow hops S W hv hS hx vleft part rest T hl hT hm hh hk hp j y hkn hy hr (Or.inr hf)
            · have hl3' : (y.kind == 3) = false := by simpa using hl3
              by_cases hr : rest = []
              · exact fun vl vleft S T W hv hS hl hT => rwalk_last L m x vl base fence follow hops S W hv hS hx vleft part rest T hl hT hm hh hk hp j y hkn hy hr (Or.inl hl3')
              · have nx := next ⟨(j : Int), rest, hops⟩ (by rw [Lk.one_go c1 hp' (by rw [hky, hl3']) hr hneg, hkn])
                exact fun vl vleft S T W hv hS hl hT => rwalk_go L m x vl base fence follow hops S W hv hS hx vleft part rest T hl hT hm hh hk hp j y hkn hy hr hl3' nx
      · have hk' : (x.kind == 2) = false := by simpa using hk
        exact fun vl vleft S T W hv hS hl hT => rwalk_nodir L m x vl base fence follow hops S W hv hS hx vleft part rest T hl hT hm hh hk'
set_option maxRecDepth 100000 in
set_option maxHeartbeats 8000000 in
theorem rlook_any (L : List Sp.Ob) (hTr : Lk.Tree L) (s : ByteArray) (hs : s.size ≤ maxLen) (vl : Value) (base : Int) (fence follow : Bool) (S : Nat → Prop) (W : World) (hv : Objs W S vl L) (hS : ∀ b, S b → b < W.heap.size) :
    Calls Tryd.prog 10 #[vl, .int .i64 base, .string s, .bool fence, .bool follow] W fun e w' => e = .returned (.tuple #[fdV (Lk.path L base s fence follow).1.obj (Lk.path L base s fence follow).1.dir (Lk.path L base s fence follow).1.name, .int .i64 (Lk.path L base s fence follow).2]) ∧ Below W.heap.size W w' := by
  have HB0 : Hid (Below W.heap.size W (W.alloc (.cells #[.int .i64 0, .int .i64 0, .string ⟨#[]⟩] 34))) := (Below.refl _ _).alloc (Nat.le_refl _) _
  have hK0 : Blk (W.alloc (.cells #[.int .i64 0, .int .i64 0, .string ⟨#[]⟩] 34)) W.heap.size #[.int .i64 0, .int .i64 0, .string ⟨#[]⟩] 34 := Blk.new W _ _
  have HK0 : Hid (Blk (W.alloc (.cells #[.int .i64 0, .int .i64 0, .string ⟨#[]⟩] 34)) W.heap.size #[.int .i64 0, .int .i64 0, .string ⟨#[]⟩] 34) := hK0
  have HV : Hid (Objs W S vl L) := hv
  have HS : Hid (∀ b, S b → b < W.heap.size) := hS
  have HV0 : Hid (Objs (W.alloc (.cells #[.int .i64 0, .int .i64 0, .string ⟨#[]⟩] 34)) S vl L) := hv.on ((On.alloc W _).less hS)
  have HIS : Hid (Calls Tryd.prog 15 #[vl, .int .i64 base, .int .i64 0] (W.alloc (.cells #[.int .i64 0, .int .i64 0, .string ⟨#[]⟩] 34)) fun e w' => e = .returned (.bool (Sp.is L base 0)) ∧ w' = (W.alloc (.cells #[.int .i64 0, .int .i64 0, .string ⟨#[]⟩] 34))) := is_any L base 0 vl S _ HV0.out
  have r0 := hK0.cell 0
  have z0 := hK0.free 0
  have r1 := hK0.cell 1
  have z1 := hK0.free 1
  have r2 := hK0.cell 2
  have z2 := hK0.free 2
  have hlt0 := hK0.lt
  have HTr : Hid (Lk.Tree L) := hTr
  cases ho : Sp.objAt L base with
  | none =>
    have e0 : Sp.noDir L base = 6 := by unfold Sp.noDir; rw [ho]
    have ei : Sp.is L base 0 = false := by unfold Sp.is; rw [ho]
    rw [ei] at HIS
    rw [Lk.path_base (by rw [e0]; decide), e0]
    obtain ⟨a, c, rfl, -⟩ := hv.form
    clear hv hS hK0 ho e0 ei hTr hs
    unfold fdV
    go_enter Tryd.func10, Tryd.ntmps10
    go_wp2_with fail
    generalize (W.alloc (.cells #[.int .i64 0, .int .i64 0, .string ⟨#[]⟩] 34)) = w0 at *
    refine Calls.mono HIS.out ?_
    rintro e w1 ⟨rfl, hw1⟩
    rw [hw1]
    clear hw1
    go_wp2
    generalize hW : ((w0.setCell ⟨W.heap.size, 0, none⟩ (.int .i64 0)).setCell ⟨W.heap.size, 1, none⟩ (.int .i64 0)).setCell ⟨W.heap.size, 2, none⟩ (.string ⟨#[]⟩) = W9
    obtain ⟨hb9, ho9, hs9, hB9⟩ := fd_cells HK0.out 0 0 ⟨#[]⟩ hW
    have hc9 := hb9.cell
    exact bodyPost_ret (v := .tuple #[.agg #[.int .i64 0, .int .i64 0, .string ⟨#[]⟩], .int .i64 6]) (by simp [results, Tryd.results10, go_sem, hc9]) rfl ⟨rfl, (HB0.out).trans (hB9 _ (Nat.le_refl _))⟩
  | some x =>
    obtain ⟨m, rfl, hx, hx0⟩ := objAt_some ho
    have ei : Sp.is L (m : Int) 0 = true := by unfold Sp.is; rw [ho]; simp
    rw [ei] at HIS
    have HX : Hid (L[m]? = some x) := hx
    have hml := (List.getElem?_eq_some_iff.1 hx).1
    obtain ⟨b, o, c, sl, rfl, hb, hc, hm, -, k0, -⟩ := hv.open hx
    have hbl := hS b hb
    unfold maxLen at hm
    have c0 : (W.alloc (.cells #[.int .i64 0, .int .i64 0, .string ⟨#[]⟩] 34)).cell? ⟨b, o + m * 9, none⟩ = some (.int .i64 x.kind) := by rw [(On.alloc W _).cell hbl]; exact k0
    have n3 : ¬ b = W.heap.size := by omega
    by_cases hk : x.kind = 2
    · have e0 : Sp.noDir L (m : Int) = 0 := by unfold Sp.noDir; rw [ho]; exact if_pos hk
      have HN0 : Hid (Sp.noDir L (m : Int) = 0) := e0
      have HSP : Hid (Calls Tryd.prog 21 #[.string s] (W.alloc (.cells #[.int .i64 0, .int .i64 0, .string ⟨#[]⟩] 34)) fun e w' => Below (W.alloc (.cells #[.int .i64 0, .int .i64 0, .string ⟨#[]⟩] 34)).heap.size (W.alloc (.cells #[.int .i64 0, .int .i64 0, .string ⟨#[]⟩] 34)) w' ∧ ((Lk.splitE s ≠ 0 ∧ e = .returned (.tuple #[.slice none 0 0, .bool false, .int .i64 (Lk.splitE s)])) ∨ (Lk.splitE s = 0 ∧ ∃ v, e = .returned (.tuple #[v, .bool (Pt.root s.data.toList), .int .i64 0]) ∧ Mine w' (W.alloc (.cells #[.int .i64 0, .int .i64 0, .string ⟨#[]⟩] 34)).heap.size 9 1 v ((partsB s).map tS)))) := rsplit_any s hs _
      rw [hk] at c0
      by_cases hse : Lk.splitE s = 0
      · by_cases hof : Pt.root s.data.toList = true ∧ fence = true
        · have et : Lk.turnE s fence = 14 := by unfold Lk.turnE; rw [if_neg (by rw [hse]; decide), if_pos hof]
          rw [Lk.path_turn e0 (by rw [et]; decide), et]
          obtain ⟨hro, rfl⟩ := hof
          have HRO : Hid (Pt.root s.data.toList = true) := hro
          have HSE : Hid (Lk.splitE s = 0) := hse
          clear hv hS hK0 ho e0 ei hTr hs hx hb k0 hk hse et hro
          unfold fdV
          go_enter Tryd.func10, Tryd.ntmps10
          go_wp2_with fail
          generalize (W.alloc (.cells #[.int .i64 0, .int .i64 0, .string ⟨#[]⟩] 34)) = w0 at *
          refine Calls.mono HIS.out ?_
          rintro e w1 ⟨rfl, hw1⟩
          rw [hw1]
          clear hw1
          go_wp2_with fail
          refine Calls.mono HSP.out ?_
          rintro e w3 ⟨hb3, ⟨hz, -⟩ | ⟨-, v3, rfl, -⟩⟩
          focus
            exact absurd HSE.out hz
          rw [HRO.out]
          have hK3 := HK0.out.below hb3 HK0.out.lt
          have HK3 : Hid (Blk w3 W.heap.size #[.int .i64 0, .int .i64 0, .string ⟨#[]⟩] 34) := hK3
          have HB3 : Hid (Below W.heap.size W w3) := HB0.out.trans (hb3.mono HB0.out.size)
          clear r0 r1 r2 z0 z1 z2
          have r0 := hK3.cell 0
          have z0 := hK3.free 0
          have r1 := hK3.cell 1
          have z1 := hK3.free 1
          have r2 := hK3.cell 2
          have z2 := hK3.free 2
          have hlt3 := hK3.lt
          clear hK3 hb3
          go_wp2
          generalize hW : ((w3.setCell ⟨W.heap.size, 0, none⟩ (.int .i64 0)).setCell ⟨W.heap.size, 1, none⟩ (.int .i64 0)).setCell ⟨W.heap.size, 2, none⟩ (.string ⟨#[]⟩) = W9
          obtain ⟨hb9, ho9, hs9, hB9⟩ := fd_cells HK3.out 0 0 ⟨#[]⟩ hW
          have hc9 := hb9.cell
          exact bodyPost_ret (v := .tuple #[.agg #[.int .i64 0, .int .i64 0, .string ⟨#[]⟩], .int .i64 14]) (by simp [results, Tryd.results10, go_sem, hc9]) rfl ⟨rfl, (HB3.out).trans (hB9 _ (Nat.le_refl _))⟩
        · have et : Lk.turnE s fence = 0 := by unfold Lk.turnE; rw [if_neg (by rw [hse]; decide), if_neg hof]
          rw [Lk.path_go e0 et]
          have nx : Says L (m : Int) fence follow ⟨Lk.turnA s (m : Int), partsB s, 0⟩ := says_all hTr _ _ _ 1000 _ (by have := partsB_len s hse; unfold Lk.mu; dsimp only; omega) (by have := partsB_len s hse; unfold Lk.mu; dsimp only; omega) (Nat.zero_le _) (Lk.start_stand hTr s e0)
          obtain ⟨R, hR⟩ : ∃ R, Lk.go L (m : Int) fence follow 1000 ⟨Lk.turnA s (m : Int), partsB s, 0⟩ = R := ⟨_, rfl⟩
          rw [hR]
          obtain ⟨⟨fo, fd, fn⟩, er⟩ := R
          unfold Says at nx
          dsimp only at nx
          rw [hR] at nx
          dsimp only at nx
          have HNX : Hid _ := nx
          have HSE : Hid (Lk.splitE s = 0) := hse
          have key : ∀ (rt : Bool), Pt.root s.data.toList = rt → (rt = true → fence = false) → Calls Tryd.prog 10 #[.slice (some ⟨b, o, none⟩) L.length c, .int .i64 (m : Int), .string s, .bool fence, .bool follow] W fun e w' => e = .returned (.tuple #[.agg #[.int .i64 fo, .int .i64 fd, .string fn], .int .i64 er]) ∧ Below W.heap.size W w' := by
            intro rt hro hrf
            have HRO : Hid (Pt.root s.data.toList = rt) := hro
            have HTA : Hid (Lk.turnA s (m : Int) = if rt = true then 0 else (m : Int)) := by unfold Hid Lk.turnA; rw [hro]
            clear hv hS hK0 ho e0 ei hTr hs hx hb k0 hk hse et hof nx hR hro
            go_enter Tryd.func10, Tryd.ntmps10
            go_wp2_with fail
            generalize (W.alloc (.cells #[.int .i64 0, .int .i64 0, .string ⟨#[]⟩] 34)) = w0 at *
            refine Calls.mono HIS.out ?_
            rintro e w1 ⟨rfl, hw1⟩
            rw [hw1]
            clear hw1
            go_wp2_with fail
            refine Calls.mono HSP.out ?_
            rintro e w3 ⟨hb3, ⟨hz, -⟩ | ⟨-, v3, rfl, hm3⟩⟩
            focus
              exact absurd HSE.out hz
            rw [HRO.out]
            have hK3 := HK0.out.below hb3 HK0.out.lt
            have HK3 : Hid (Blk w3 W.heap.size #[.int .i64 0, .int .i64 0, .string ⟨#[]⟩] 34) := hK3
            have HB3 : Hid (Below W.heap.size W w3) := HB0.out.trans (hb3.mono HB0.out.size)
            have hn := HNX.out (.slice (some ⟨b, o, none⟩) L.length c) v3 S (fun b => w0.heap.size ≤ b ∧ b < w3.heap.size) w3 (HV.out.on ((On.of HB3.out).less HS.out)) (fun b h => Nat.lt_of_lt_of_le (HS.out b h) HB3.out.size) (hm3.row (even_tS _)) (fun b h => h.2)
            rw [HTA.out] at hn
            have HN : Hid _ := hn
            clear r0 r1 r2 z0 z1 z2 hn hm3 hb3
            have r0 := hK3.cell 0
            have z0 := hK3.free 0
            have r1 := hK3.cell 1
            have z1 := hK3.free 1
            have r2 := hK3.cell 2
            have z2 := hK3.free 2
            have hlt3 := hK3.lt
            clear hK3
            cases rt with
            | true =>
              obtain rfl := hrf rfl
              go_wp2_with fail
              refine Calls.mono HN.out ?_
              rintro e w9 ⟨rfl, hb9'⟩
              have hK9 : Blk w9 W.heap.size #[.int .i64 0, .int .i64 0, .string ⟨#[]⟩] 34 := HK3.out.below hb9' HK3.out.lt
              have HBX : Hid (Below W.heap.size W w9) := HB3.out.trans (hb9'.mono HB3.out.size)
              have HK9 : Hid (Blk w9 W.heap.size #[.int .i64 0, .int .i64 0, .string ⟨#[]⟩] 34) := hK9
              clear r0 r1 r2 z0 z1 z2 HN hb9'
              have r0 := hK9.cell 0
              have z0 := hK9.free 0
              have r1 := hK9.cell 1
              have z1 := hK9.free 1
              have r2 := hK9.cell 2
              have z2 := hK9.free 2
              have hlt9 := hK9.lt
              clear hK9
              go_wp2
              generalize hW : ((w9.setCell ⟨W.heap.size, 0, none⟩ (.int .i64 fo)).setCell ⟨W.heap.size, 1, none⟩ (.int .i64 fd)).setCell ⟨W.heap.size, 2, none⟩ (.string fn) = W9
              obtain ⟨hb9, ho9, hs9, hB9⟩ := fd_cells HK9.out fo fd fn hW
              have hc9 := hb9.cell
              exact bodyPost_ret (v := .tuple #[.agg #[.int .i64 fo, .int .i64 fd, .string fn], .int .i64 er]) (by simp [results, Tryd.results10, go_sem, hc9]) rfl ⟨rfl, (HBX.out).trans (hB9 _ (Nat.le_refl _))⟩
            | false =>
              clear hrf
              go_wp2_with fail
              refine Calls.mono HN.out ?_
              rintro e w9 ⟨rfl, hb9'⟩
              have hK9 : Blk w9 W.heap.size #[.int .i64 0, .int .i64 0, .string ⟨#[]⟩] 34 := HK3.out.below hb9' HK3.out.lt
              have HBX : Hid (Below W.heap.size W w9) := HB3.out.trans (hb9'.mono HB3.out.size)
              have HK9 : Hid (Blk w9 W.heap.size #[.int .i64 0, .int .i64 0, .string ⟨#[]⟩] 34) := hK9
              clear r0 r1 r2 z0 z1 z2 HN hb9'
              have r0 := hK9.cell 0
              have z0 := hK9.free 0
              have r1 := hK9.cell 1
              have z1 := hK9.free 1
              have r2 := hK9.cell 2
              have z2 := hK9.free 2
              have hlt9 := hK9.lt
              clear hK9
              go_wp2
              generalize hW : ((w9.setCell ⟨W.heap.size, 0, none⟩ (.int .i64 fo)).setCell ⟨W.heap.size, 1, none⟩ (.int .i64 fd)).setCell ⟨W.heap.size, 2, none⟩ (.string fn) = W9
              obtain ⟨hb9, ho9, hs9, hB9⟩ := fd_cells HK9.out fo fd fn hW
              have hc9 := hb9.cell
              exact bodyPost_ret (v := .tuple #[.agg #[.int .i64 fo, .int .i64 fd, .string fn], .int .i64 er]) (by simp [results, Tryd.results10, go_sem, hc9]) rfl ⟨rfl, (HBX.out).trans (hB9 _ (Nat.le_refl _))⟩
          cases hro : Pt.root s.data.toList with
          | true => exact key true hro (fun _ => by cases fence with | false => rfl | true => exact absurd ⟨hro, rfl⟩ hof)
          | false => exact key false hro (fun h => by cases h)
      · have et : Lk.turnE s fence = Lk.splitE s := if_pos hse
        rw [Lk.path_turn e0 (by rw [et]; exact hse), et]
        have HSE : Hid (Lk.splitE s ≠ 0) := hse
        have hse' : (Lk.splitE s != 0) = true := by simpa using hse
        clear hv hS hK0 ho e0 ei hTr hs hx hb k0 hk hse et
        unfold fdV
        go_enter Tryd.func10, Tryd.ntmps10
        go_wp2_with fail
        generalize (W.alloc (.cells #[.int .i64 0, .int .i64 0, .string ⟨#[]⟩] 34)) = w0 at *
        refine Calls.mono HIS.out ?_
        rintro e w1 ⟨rfl, hw1⟩
        rw [hw1]
        clear hw1
        go_wp2_with fail
        refine Calls.mono HSP.out ?_
        rintro e w3 ⟨hb3, ⟨-, rfl⟩ | ⟨hz, -⟩⟩
        focus
          have hK3 := HK0.out.below hb3 HK0.out.lt
          have HK3 : Hid (Blk w3 W.heap.size #[.int .i64 0, .int .i64 0, .string ⟨#[]⟩] 34) := hK3
          have HB3 : Hid (Below W.heap.size W w3) := HB0.out.trans (hb3.mono HB0.out.size)
          clear r0 r1 r2 z0 z1 z2
          have r0 := hK3.cell 0
          have z0 := hK3.free 0
          have r1 := hK3.cell 1
          have z1 := hK3.free 1
          have r2 := hK3.cell 2
          have z2 := hK3.free 2
          have hlt3 := hK3.lt
          clear hK3 hb3
          go_wp2
          generalize hW : ((w3.setCell ⟨W.heap.size, 0, none⟩ (.int .i64 0)).setCell ⟨W.heap.size, 1, none⟩ (.int .i64 0)).setCell ⟨W.heap.size, 2, none⟩ (.string ⟨#[]⟩) = W9
          obtain ⟨hb9, ho9, hs9, hB9⟩ := fd_cells HK3.out 0 0 ⟨#[]⟩ hW
          have hc9 := hb9.cell
          exact bodyPost_ret (v := .tuple #[.agg #[.int .i64 0, .int .i64 0, .string ⟨#[]⟩], .int .i64 (Lk.splitE s)]) (by simp [results, Tryd.results10, go_sem, hc9]) rfl ⟨rfl, (HB3.out).trans (hB9 _ (Nat.le_refl _))⟩
        exact absurd hz HSE.out
    · have e0 : Sp.noDir L (m : Int) = 11 := by unfold Sp.noDir; rw [ho]; exact if_neg hk
      rw [Lk.path_base (by rw [e0]; decide), e0]
      have hk' : (x.kind != 2) = true := by simpa using hk
      clear hv hS hK0 ho e0 ei hTr hs hx hb k0 hk
      unfold fdV
      go_enter Tryd.func10, Tryd.ntmps10
      go_wp2_with fail
      generalize (W.alloc (.cells #[.int .i64 0, .int .i64 0, .string ⟨#[]⟩] 34)) = w0 at *
      refine Calls.mono HIS.out ?_
      rintro e w1 ⟨rfl, hw1⟩
      rw [hw1]
      clear hw1
      go_wp2
      generalize hW : ((w0.setCell ⟨W.heap.size, 0, none⟩ (.int .i64 0)).setCell ⟨W.heap.size, 1, none⟩ (.int .i64 0)).setCell ⟨W.heap.size, 2, none⟩ (.string ⟨#[]⟩) = W9
      obtain ⟨hb9, ho9, hs9, hB9⟩ := fd_cells HK0.out 0 0 ⟨#[]⟩ hW
      have hc9 := hb9.cell
      exact bodyPost_ret (v := .tuple #[.agg #[.int .i64 0, .int .i64 0, .string ⟨#[]⟩], .int .i64 11]) (by simp [results, Tryd.results10, go_sem, hc9]) rfl ⟨rfl, (HB0.out).trans (hB9 _ (Nat.le_refl _))⟩
end Go.Proofs.YtfiiandnopifnaaDoor
/-
  LookTells, walked.
-/
namespace Go.Proofs.YtfiiandnopifnaaDoor
open Go.RowKit
set_option maxRecDepth 100000 in
set_option maxHeartbeats 8000000 in
theorem ltells_any (l : List UInt8) (base dir : Int) (s : ByteArray) (fence follow : Bool) (mm : Int) (v : Value) (w : World) (hv : Bytes w (fun b => b < w.heap.size) v l) (hs : s.size ≤ maxLen) (h00 : w.cell? ⟨0, 0, none⟩ = some (.int .i64 mm)) (hw0 : 0 < w.heap.size) :
    Calls Tryd.prog 3 #[v, .int .i64 base, .string s, .bool fence, .bool follow, .int .i64 dir] w fun e w' => e = .returned (.bool true) ∧ Below w.heap.size w w' := by
  obtain ⟨va, vc, rfl, -⟩ := Row.form hv
  rw [List.length_map] at hv ⊢
  have HV : Hid (Bytes w (fun b => b < w.heap.size) (.slice va l.length vc) l) := hv
  have HN : Hid (s.size ≤ maxLen) := hs
  have H00 : Hid (∀ w', Below w.heap.size w w' → w'.cell? ⟨0, 0, none⟩ = some (.int .i64 mm)) := fun w' h => by rw [h.cell (p := ⟨0, 0, none⟩) hw0]; exact h00
  have HW0 : Hid (0 < w.heap.size) := hw0
  clear hv hs h00 hw0
  go_enter Tryd.func3, Tryd.ntmps3
  go_wp2_with fail
  refine (build_objs l (.slice va l.length vc) w HV.out).mono ?_
  rintro e w2 ⟨a2, a3, a4, n3, n4, c2, c3, c4, L, rfl, hO, hT, hL, hb2⟩
  have hfk := fun (w : World) => fieldKL a2 a3 a4 L.length n3 n4 c2 c3 c4 w
  have HO2 : Hid (Objs w2 (fun b => b < w2.heap.size) (.slice a2 L.length c2) L) := hO
  have HT : Hid (Sp.TOk L) := hT
  have HL : Hid (L.length ≤ 14) := hL
  have HB2 : Hid (Below w.heap.size w w2) := hb2
  obtain ⟨R, hR⟩ : ∃ R, Lk.path L base s fence follow = R := ⟨_, rfl⟩
  have HP := path_any L (Lk.tree_of hT) s mm HN.out (.slice a2 L.length c2) base fence follow _ w2 HO2.out (fun b hb => hb) (H00.out w2 hb2) (Nat.lt_of_lt_of_le HW0.out hb2.size)
  have HRL : Hid (∀ w', Below w2.heap.size w2 w' → Calls Tryd.prog 10 #[.slice a2 L.length c2, .int .i64 base, .string s, .bool fence, .bool follow] w' fun e w'' => e = .returned (.tuple #[fdV (Lk.path L base s fence follow).1.obj (Lk.path L base s fence follow).1.dir (Lk.path L base s fence follow).1.name, .int .i64 (Lk.path L base s fence follow).2]) ∧ Below w'.heap.size w' w'') := fun w' h => rlook_any L (Lk.tree_of hT) s HN.out _ base fence follow _ w' (hO.on (On.of h)) (fun b hb => Nat.lt_of_lt_of_le hb h.size)
  rw [hR] at HP HRL
  obtain ⟨⟨fo, fd, fn⟩, er⟩ := R
  unfold fdV at HP HRL
  have HP : Hid _ := HP
  clear hO hT hL hb2 HV hR
  go_wp2_with fail
  refine Calls.mono HP.out ?_
  rintro e w3 ⟨rfl, hb3⟩
  have HB3 : Hid (Below w2.heap.size w2 (w3.alloc (.cells #[.int .i64 fo, .int .i64 fd, .string fn] 30))) := hb3.alloc hb3.size _
  have hK4 : Blk (w3.alloc (.cells #[.int .i64 fo, .int .i64 fd, .string fn] 30)) w3.heap.size #[.int .i64 fo, .int .i64 fd, .string fn] 30 := Blk.new _ _ _
  have HK4 : Hid (Blk (w3.alloc (.cells #[.int .i64 fo, .int .i64 fd, .string fn] 30)) w3.heap.size #[.int .i64 fo, .int .i64 fd, .string fn] 30) := hK4
  have hz4 : (w3.alloc (.cells #[.int .i64 fo, .int .i64 fd, .string fn] 30)).heap.size = w3.heap.size + 1 := by simp
  clear hb3 HP hK4 hfk
  go_wp2_with fail
  generalize (w3.alloc (.cells #[.int .i64 fo, .int .i64 fd, .string fn] 30)) = w4 at *
  refine Calls.mono (HRL.out w4 HB3.out) ?_
  rintro e w5 ⟨rfl, hb5⟩
  have hK5 : Blk w5 w3.heap.size #[.int .i64 fo, .int .i64 fd, .string fn] 30 := HK4.out.below hb5 HK4.out.lt
  have h50 := hK5.cell 0
  have h51 := hK5.cell 1
  have h52 := hK5.cell 2
  have hl5 := hK5.lt
  have HB5 : Hid (Below w2.heap.size w2 w5) := HB3.out.trans (hb5.mono HB3.out.size)
  have HB6 : Hid (Below w2.heap.size w2 (w5.alloc (.cells #[.int .i64 fo, .int .i64 fd, .string fn] 34))) := HB5.out.alloc HB5.out.size _
  have HBEN : Hid (∀ w', Below w2.heap.size w2 w' → Calls Tryd.prog 11 #[.slice a2 L.length c2, .int .i64 dir, .int .i64 base] w' fun e w'' => e = .returned (.bool (Lk.ben L base L.length dir)) ∧ w'' = w') := fun w' h => beneath_any L dir base _ _ w' (HO2.out.on (On.of h))
  have HRBEN : Hid (∀ w', Below w2.heap.size w2 w' → Calls Tryd.prog 12 #[.slice a2 L.length c2, .int .i64 dir, .int .i64 base] w' fun e w'' => e = .returned (.bool (Lk.ben L base L.length dir)) ∧ Below w'.heap.size w' w'') := fun w' h => rben_any L (Lk.ups_of HT.out) (by have := HL.out; omega) dir base _ _ w' (HO2.out.on (On.of h)) (fun b hb => Nat.lt_of_lt_of_le hb h.size)
  clear hb5 hK5 HRL HK4
  go_wp2_with fail
  refine Calls.mono (HBEN.out _ HB6.out) ?_
  rintro e w7 ⟨rfl, hw7⟩
  rw [hw7]
  clear hw7
  go_wp2_with fail
  refine Calls.mono (HRBEN.out _ HB6.out) ?_
  rintro e w8 ⟨rfl, hb8⟩
  have HB8 : Hid (Below w.heap.size w w8) := HB2.out.trans ((HB6.out.trans (hb8.mono HB6.out.size)).mono HB2.out.size)
  clear hb8
  go_wp2
  go_ret
  exact ⟨by simp, HB8.out⟩
end Go.Proofs.YtfiiandnopifnaaDoor
