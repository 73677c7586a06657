import Derived.Test.YtfiiandnopifnaaDoorJA
import Derived.Test.YtfiiandnopifnaaDoorLTree
import Derived.Test.YtfiiandnopifnaaDoorRFind
/-
  look's walk: step.
-/
namespace Go.Proofs.YtfiiandnopifnaaDoor
open Go.RowKit
/-- What is left behind the first. -/
theorem row_tail {w : World} {S : Nat → Prop} {lb lo lc : Nat} {x : ByteArray} {rest : List ByteArray} (h : Row w S 1 (.slice (some ⟨lb, lo, none⟩) (rest.length + 1) lc) ((x :: rest).map tS)) : Row w S 1 (.slice (if lc = 1 then some ⟨lb, lo, none⟩ else some ⟨lb, lo + 1, none⟩) rest.length (lc - 1)) (rest.map tS) := by
  obtain ⟨b', o', c', h1, h2, h3, h4, h5⟩ := h.some (by simp)
  obtain ⟨e1, -, rfl⟩ := Value.slice.inj h1
  cases e1
  rw [List.length_map, List.length_cons] at h3
  cases rest with
  | nil => exact Row.nil _ _ _ _ _
  | cons y t =>
    rw [if_neg (by simp at h3; omega)]
    refine Or.inr ⟨lb, lo + 1, lc - 1, by simp, h2, by simp at h3 ⊢; omega, by omega, fun i cs hi j u hj => ?_⟩
    have := h5 (i + 1) cs (by rw [List.map_cons, List.getElem?_cons_succ]; exact hi) j u hj
    rw [show lo + 1 + i * 1 + j = lo + (i + 1) * 1 + j by omega]
    exact this
set_option maxRecDepth 100000 in
set_option maxHeartbeats 8000000 in
theorem step_nodir (L : List Sp.Ob) (g : Nat) (vl : Value) (base at_ hops : Int) (fence follow : Bool) (lb lo lc : Nat) (part : ByteArray) (rest : List ByteArray) (S T : Nat → Prop) (W : World) (hg : Blk W g (wkC vl base fence follow at_ (.slice (some ⟨lb, lo, none⟩) (rest.length + 1) lc) hops) 80) (hv : Objs W S vl L) (hS : ∀ b, S b → b < W.heap.size ∧ b ≠ g) (hl : Row W T 1 (.slice (some ⟨lb, lo, none⟩) (rest.length + 1) lc) ((part :: rest).map tS)) (hT : ∀ b, T b → b < W.heap.size ∧ b ≠ g) (hk : Lk.isK L at_ 2 = false) :
    Calls Tryd.prog 28 #[.pointer (some ⟨g, 0, none⟩)] W fun e w' => e = .returned (.tuple #[fdV 0 0 ⟨#[]⟩, .bool false, .int .i64 11]) ∧ Below W.heap.size W w' := by
  have HD : Hid (∀ W', Below W.heap.size W W' → Calls Tryd.prog 31 #[vl, .int .i64 at_] W' fun e w' => e = .returned (.bool false) ∧ w' = W') := fun W' hW => by
    have := isDir_any L at_ vl S W' (hv.on ((On.of hW).less fun b hb => (hS b hb).1))
    rw [hk] at this
    exact this
  have hgl := hg.lt
  have HG : Hid (Blk W g (wkC vl base fence follow at_ (.slice (some ⟨lb, lo, none⟩) (rest.length + 1) lc) hops) 80) := hg
  have HV : Hid (Objs W S vl L) := hv
  have HS : Hid (∀ b, S b → b < W.heap.size ∧ b ≠ g) := hS
  have HLf : Hid (Row W T 1 (.slice (some ⟨lb, lo, none⟩) (rest.length + 1) lc) ((part :: rest).map tS)) := hl
  have HTf : Hid (∀ b, T b → b < W.heap.size ∧ b ≠ g) := hT
  obtain ⟨a, c, rfl, -⟩ := hv.form
  have g0 : W.cell? ⟨g, 0, none⟩ = some (.slice a L.length c) := hg.cell 0
  have g4 : W.cell? ⟨g, 4, none⟩ = some (.int .i64 at_) := hg.cell 4
  have HB0 : Hid (Below W.heap.size W (W.alloc (.cells #[.int .i64 0, .int .i64 0, .string ⟨#[]⟩] 30))) := (Below.refl _ _).alloc (Nat.le_refl _) _
  have hK0 : Blk (W.alloc (.cells #[.int .i64 0, .int .i64 0, .string ⟨#[]⟩] 30)) W.heap.size #[.int .i64 0, .int .i64 0, .string ⟨#[]⟩] 30 := Blk.new W _ _
  have HK0 : Hid (Blk (W.alloc (.cells #[.int .i64 0, .int .i64 0, .string ⟨#[]⟩] 30)) W.heap.size #[.int .i64 0, .int .i64 0, .string ⟨#[]⟩] 30) := hK0
  have c0 : (W.alloc (.cells #[.int .i64 0, .int .i64 0, .string ⟨#[]⟩] 30)).cell? ⟨g, 0, none⟩ = some (.slice a L.length c) := by rw [(On.alloc W _).cell hgl]; exact g0
  have c4 : (W.alloc (.cells #[.int .i64 0, .int .i64 0, .string ⟨#[]⟩] 30)).cell? ⟨g, 4, none⟩ = some (.int .i64 at_) := by rw [(On.alloc W _).cell hgl]; exact g4
  have r0 := hK0.cell 0
  have r1 := hK0.cell 1
  have r2 := hK0.cell 2
  have q0 := hK0.free 0
  have q1 := hK0.free 1
  have q2 := hK0.free 2
  have hlt0 := hK0.lt
  clear hg hv hS hl hT g0 g4 hk hK0 HG HV HS HLf HTf
  unfold fdV
  go_enter Tryd.func28, Tryd.ntmps28
  go_wp2_with fail
  generalize (W.alloc (.cells #[.int .i64 0, .int .i64 0, .string ⟨#[]⟩] 30)) = w0 at *
  go_region_held3 (fun w' => w'.cell? ⟨g, 0, none⟩ = some (.slice a L.length c) ∧ w'.cell? ⟨g, 4, none⟩ = some (.int .i64 at_)) (go_keep) (first | (refine Calls.mono (HD.out _ HB0.out.drew) ?_; rintro e w2 ⟨rfl, rfl⟩; go_wp2_with fail))
  go_wp2
  generalize hW : (((w0.setCell ⟨W.heap.size, 0, none⟩ (.int .i64 0)).setCell ⟨W.heap.size, 1, none⟩ (.int .i64 0)).setCell ⟨W.heap.size, 2, none⟩ (.string ⟨#[]⟩)).drew = W9
  have hb9 : Blk W9 W.heap.size #[.int .i64 0, .int .i64 0, .string ⟨#[]⟩] 30 := by
    rw [← hW]
    exact ((HK0.out.set 0 _).set 1 _).set 2 _
  have hc9 := hb9.cell
  have hB9 : Below W.heap.size W W9 := by
    rw [← hW]
    exact (((HB0.out.setCell (Nat.le_refl _) _).setCell (Nat.le_refl _) _).setCell (Nat.le_refl _) _).drew
  exact bodyPost_ret (v := .tuple #[.agg #[.int .i64 0, .int .i64 0, .string ⟨#[]⟩], .bool false, .int .i64 11]) (by simp [results, Tryd.results28, go_sem, hc9]) rfl ⟨rfl, hB9⟩
set_option maxRecDepth 100000 in
set_option maxHeartbeats 8000000 in
theorem step_up (L : List Sp.Ob) (g m : Nat) (x : Sp.Ob) (vl : Value) (base hops : Int) (fence follow : Bool) (lb lo lc : Nat) (part : ByteArray) (rest : List ByteArray) (S T : Nat → Prop) (W : World) (hg : Blk W g (wkC vl base fence follow (m : Int) (.slice (some ⟨lb, lo, none⟩) (rest.length + 1) lc) hops) 80) (hv : Objs W S vl L) (hS : ∀ b, S b → b < W.heap.size ∧ b ≠ g) (hl : Row W T 1 (.slice (some ⟨lb, lo, none⟩) (rest.length + 1) lc) ((part :: rest).map tS)) (hT : ∀ b, T b → b < W.heap.size ∧ b ≠ g) (hx : L[m]? = some x) (hk : x.kind = 2) (hp : (part.toList == [46, 46]) = true) :
    Calls Tryd.prog 28 #[.pointer (some ⟨g, 0, none⟩)] W fun e w' => e = .returned (.tuple #[fdV 0 0 ⟨#[]⟩, .bool false, .int .i64 (riseE base fence (m : Int))]) ∧ Only g W w' ∧ ∃ v5, Blk w' g (wkC vl base fence follow (riseA base fence (m : Int) x.up) v5 hops) 80 ∧ Row w' T 1 v5 (rest.map tS) := by
  have hK : Lk.isK L (m : Int) 2 = true := by rw [Lk.isK_nat hx, hk]; rfl
  have HD : Hid (∀ W', Below W.heap.size W W' → Calls Tryd.prog 31 #[vl, .int .i64 (m : Int)] W' fun e w' => e = .returned (.bool true) ∧ w' = W') := fun W' hW => by
    have := isDir_any L (m : Int) vl S W' (hv.on ((On.of hW).less fun b hb => (hS b hb).1))
    rw [hK] at this
    exact this
  have hgl := hg.lt
  have HG : Hid (Blk W g (wkC vl base fence follow (m : Int) (.slice (some ⟨lb, lo, none⟩) (rest.length + 1) lc) hops) 80) := hg
  have HV : Hid (Objs W S vl L) := hv
  have HS : Hid (∀ b, S b → b < W.heap.size ∧ b ≠ g) := hS
  have HLf : Hid (Row W T 1 (.slice (some ⟨lb, lo, none⟩) (rest.length + 1) lc) ((part :: rest).map tS)) := hl
  have HTf : Hid (∀ b, T b → b < W.heap.size ∧ b ≠ g) := hT
  have HX : Hid (L[m]? = some x) := hx
  obtain ⟨a, c, rfl, -⟩ := hv.form
  obtain ⟨b', o', c', he, hTb, hc3, hc4, h5⟩ := hl.some (by simp)
  obtain ⟨e1, -, rfl⟩ := Value.slice.inj he
  cases e1
  rw [List.length_map, List.length_cons] at hc3
  have l0 := h5 0 (tS part) rfl 0 _ rfl
  rw [Nat.zero_mul, Nat.add_zero] at l0
  have hlbl := (hT lb hTb).1
  have hlbg := (hT lb hTb).2
  have hlbg' : ¬ g = lb := fun h => hlbg h.symm
  unfold maxLen at hc4
  have g0 : W.cell? ⟨g, 0, none⟩ = some (.slice a L.length c) := hg.cell 0
  have g4 : W.cell? ⟨g, 4, none⟩ = some (.int .i64 (m : Int)) := hg.cell 4
  have g5 : W.cell? ⟨g, 5, none⟩ = some (.slice (some ⟨lb, lo, none⟩) (rest.length + 1) lc) := hg.cell 5
  have f5 : W.frozen? ⟨g, 5, none⟩ = false := hg.free 5
  have hcz : (1 : Int) ≤ (lc : Int) := by omega
  obtain ⟨A5, hA5⟩ : ∃ A5 : Addr, (if lc = 1 then some (⟨lb, lo, none⟩ : Addr) else some ⟨lb, lo + 1, none⟩) = some A5 := by split <;> exact ⟨_, rfl⟩
  have HTL : Hid (Row W T 1 (.slice (some A5) rest.length (lc - 1)) (rest.map tS)) := by
    have := row_tail hl
    rw [hA5] at this
    exact this
  have HB0 : Hid (Below W.heap.size W (W.alloc (.cells #[.int .i64 0, .int .i64 0, .string ⟨#[]⟩] 30))) := (Below.refl _ _).alloc (Nat.le_refl _) _
  have HK0 : Hid (Blk (W.alloc (.cells #[.int .i64 0, .int .i64 0, .string ⟨#[]⟩] 30)) W.heap.size #[.int .i64 0, .int .i64 0, .string ⟨#[]⟩] 30) := Blk.new W _ _
  have HG0 : Hid (Blk (W.alloc (.cells #[.int .i64 0, .int .i64 0, .string ⟨#[]⟩] 30)) g (wkC (.slice a L.length c) base fence follow (m : Int) (.slice (some ⟨lb, lo, none⟩) (rest.length + 1) lc) hops) 80) := hg.alloc _
  have c0 : (W.alloc (.cells #[.int .i64 0, .int .i64 0, .string ⟨#[]⟩] 30)).cell? ⟨g, 0, none⟩ = some (.slice a L.length c) := by rw [(On.alloc W _).cell hgl]; exact g0
  have c4 : (W.alloc (.cells #[.int .i64 0, .int .i64 0, .string ⟨#[]⟩] 30)).cell? ⟨g, 4, none⟩ = some (.int .i64 (m : Int)) := by rw [(On.alloc W _).cell hgl]; exact g4
  have c5 : (W.alloc (.cells #[.int .i64 0, .int .i64 0, .string ⟨#[]⟩] 30)).cell? ⟨g, 5, none⟩ = some (.slice (some ⟨lb, lo, none⟩) (rest.length + 1) lc) := by rw [(On.alloc W _).cell hgl]; exact g5
  have d0 : (W.alloc (.cells #[.int .i64 0, .int .i64 0, .string ⟨#[]⟩] 30)).cell? ⟨lb, lo, none⟩ = some (.string part) := by rw [(On.alloc W _).cell hlbl]; exact l0
  have u5 : (W.alloc (.cells #[.int .i64 0, .int .i64 0, .string ⟨#[]⟩] 30)).frozen? ⟨g, 5, none⟩ = false := HG0.out.free 5
  clear hg hv hS hl hT g0 g4 g5 f5 l0 h5 he hTb hK hx hk
  go_enter Tryd.func28, Tryd.ntmps28
  go_wp2_with fail
  generalize (W.alloc (.cells #[.int .i64 0, .int .i64 0, .string ⟨#[]⟩] 30)) = w0 at *
  go_region_held3 (fun w' => w'.cell? ⟨g, 0, none⟩ = some (.slice a L.length c) ∧ w'.cell? ⟨g, 4, none⟩ = some (.int .i64 (m : Int))) (go_keep) (first | (refine Calls.mono (HD.out _ HB0.out.drew) ?_; rintro e w2 ⟨rfl, rfl⟩; go_wp2_with fail))
  go_wp2_with fail
  go_region_held3 (fun w' => w'.cell? ⟨g, 5, none⟩ = some (.slice (some ⟨lb, lo, none⟩) (rest.length + 1) lc) ∧ w'.cell? ⟨lb, lo, none⟩ = some (.string part)) (go_keep) (fail)
  go_wp2_with fail
  clear hA5
  have hlt0 := HK0.out.lt
  have HG3 : Hid (Blk (w0.setCell ⟨g, 5, none⟩ (.slice (some A5) rest.length (lc - 1))).drew.drew g (wkC (.slice a L.length c) base fence follow (m : Int) (.slice (some A5) rest.length (lc - 1)) hops) 80) := HG0.out.set 5 _
  have HO3 : Hid (Only g W (w0.setCell ⟨g, 5, none⟩ (.slice (some A5) rest.length (lc - 1))).drew.drew) := ((Only.below hgl HB0.out).set 5 _).drew.drew
  have hK3 : Blk (w0.setCell ⟨g, 5, none⟩ (.slice (some A5) rest.length (lc - 1))).drew.drew W.heap.size #[.int .i64 0, .int .i64 0, .string ⟨#[]⟩] 30 := HK0.out.other (a := ⟨g, 5, none⟩) (by show W.heap.size ≠ g; omega) _
  have HK3 : Hid (Blk (w0.setCell ⟨g, 5, none⟩ (.slice (some A5) rest.length (lc - 1))).drew.drew W.heap.size #[.int .i64 0, .int .i64 0, .string ⟨#[]⟩] 30) := hK3
  clear c0 c4 c5 d0 u5 HG0 HB0 HK0 hK3
  generalize (w0.setCell ⟨g, 5, none⟩ (.slice (some A5) rest.length (lc - 1))).drew.drew = w3 at *
  refine Calls.mono (rise_any L g m x (.slice a L.length c) _ base hops fence follow S w3 HG3.out (HV.out.on (HO3.out.1.less HS.out)) (fun b hb => ⟨by have := (HS.out b hb).1; have := HO3.out.2.1; omega, (HS.out b hb).2⟩) HX.out) ?_
  rintro e w4 ⟨rfl, hB4, hO4⟩
  have hgl3 := HG3.out.lt
  have hK4 : Blk w4 W.heap.size #[.int .i64 0, .int .i64 0, .string ⟨#[]⟩] 30 := HK3.out.on hO4.1 ⟨HK3.out.lt, by omega⟩
  have HK4 : Hid (Blk w4 W.heap.size #[.int .i64 0, .int .i64 0, .string ⟨#[]⟩] 30) := hK4
  have HB4 : Hid (Blk w4 g (wkC (.slice a L.length c) base fence follow (riseA base fence (m : Int) x.up) (.slice (some A5) rest.length (lc - 1)) hops) 80) := hB4
  have HO4 : Hid (Only g W w4) := HO3.out.trans hO4
  have r0 := hK4.cell 0
  have r1 := hK4.cell 1
  have r2 := hK4.cell 2
  have q0 := hK4.free 0
  have q1 := hK4.free 1
  have q2 := hK4.free 2
  have hlt4 := hK4.lt
  clear hB4 hO4 hK4 HG3 HO3 HK3
  go_wp2
  generalize hW : ((w4.setCell ⟨W.heap.size, 0, none⟩ (.int .i64 0)).setCell ⟨W.heap.size, 1, none⟩ (.int .i64 0)).setCell ⟨W.heap.size, 2, none⟩ (.string ⟨#[]⟩) = W9
  have hb9 : Blk W9 W.heap.size #[.int .i64 0, .int .i64 0, .string ⟨#[]⟩] 30 := by
    rw [← hW]
    exact ((HK4.out.set 0 _).set 1 _).set 2 _
  have hc9 := hb9.cell
  have ho9 : On (fun b => b ≠ W.heap.size) w4 W9 := by
    rw [← hW]
    exact ((On.set w4 ⟨W.heap.size, 0, none⟩ _).trans (On.set _ ⟨W.heap.size, 1, none⟩ _)).trans (On.set _ ⟨W.heap.size, 2, none⟩ _)
  have hs9 : W9.heap.size = w4.heap.size := by rw [← hW]; simp
  have hO9 : Only g W W9 := by
    refine ⟨HO4.out.1.trans (ho9.less fun b hb => by omega), by have := HO4.out.2.1; omega, fun B hB => ?_⟩
    rw [← hW]
    exact (((HO4.out.2.2 B hB).setCell (by show B ≤ W.heap.size; omega) _).setCell (by show B ≤ W.heap.size; omega) _).setCell (by show B ≤ W.heap.size; omega) _
  exact bodyPost_ret (v := .tuple #[.agg #[.int .i64 0, .int .i64 0, .string ⟨#[]⟩], .bool false, .int .i64 (riseE base fence (m : Int))]) (by simp [results, Tryd.results28, go_sem, hc9]) rfl ⟨rfl, hO9, _, HB4.out.on ho9 (by show g ≠ W.heap.size; omega), Row.on HTL.out ((HO4.out.1.less HTf.out).trans (ho9.less fun b hb => by have := (HTf.out b hb).1; omega))⟩
end Go.Proofs.YtfiiandnopifnaaDoor
/-
  look's walk: step, behind the part that was found.
-/
namespace Go.Proofs.YtfiiandnopifnaaDoor
open Go.RowKit
namespace Lk
theorem one_link {L : List Sp.Ob} {base pos : Int} {fence follow : Bool} {part : ByteArray} {rest : List ByteArray} {hops : Nat} (h1 : isK L pos 2 = true) (h2 : isUp part = false) (h3 : isK L (Sp.find L pos part) 3 = true) (h4 : follow = true ∨ rest ≠ []) : one L base fence follow pos part rest hops = ⟨nilF, false, throughE (trg L (Sp.find L pos part)) fence hops, ⟨turnA (trg L (Sp.find L pos part)) pos, partsB (trg L (Sp.find L pos part)) ++ rest, hops + 1⟩⟩ := by
  unfold one
  rw [if_neg (by rw [h1]; decide), if_neg (by rw [h2]; decide), if_pos ⟨h3, h4⟩]
theorem one_last {L : List Sp.Ob} {base pos : Int} {fence follow : Bool} {part : ByteArray} {hops : Nat} (h1 : isK L pos 2 = true) (h2 : isUp part = false) (h3 : isK L (Sp.find L pos part) 3 = false ∨ follow = false) : one L base fence follow pos part [] hops = ⟨⟨Sp.find L pos part, pos, part⟩, true, 0, ⟨pos, [], hops⟩⟩ := by
  unfold one
  rw [if_neg (by rw [h1]; decide), if_neg (by rw [h2]; decide), if_neg (by rcases h3 with h | h <;> simp [h]), if_pos rfl]
theorem one_none {L : List Sp.Ob} {base pos : Int} {fence follow : Bool} {part : ByteArray} {rest : List ByteArray} {hops : Nat} (h1 : isK L pos 2 = true) (h2 : isUp part = false) (h3 : isK L (Sp.find L pos part) 3 = false) (h4 : rest ≠ []) (h5 : Sp.find L pos part < 0) : one L base fence follow pos part rest hops = ⟨nilF, false, 6, ⟨pos, rest, hops⟩⟩ := by
  unfold one
  rw [if_neg (by rw [h1]; decide), if_neg (by rw [h2]; decide), if_neg (by simp [h3]), if_neg h4, if_pos h5]
theorem one_go {L : List Sp.Ob} {base pos : Int} {fence follow : Bool} {part : ByteArray} {rest : List ByteArray} {hops : Nat} (h1 : isK L pos 2 = true) (h2 : isUp part = false) (h3 : isK L (Sp.find L pos part) 3 = false) (h4 : rest ≠ []) (h5 : ¬ Sp.find L pos part < 0) : one L base fence follow pos part rest hops = ⟨nilF, false, 0, ⟨Sp.find L pos part, rest, hops⟩⟩ := by
  unfold one
  rw [if_neg (by rw [h1]; decide), if_neg (by rw [h2]; decide), if_neg (by simp [h3]), if_neg h4, if_neg h5]
end Lk
/-- What is found is laid into its cells, and handed back. -/
theorem fd_cells {w W9 : World} {b : Nat} {x y z : Value} {t : TypeId} (h : Blk w b #[x, y, z] t) (o d : Int) (nm : ByteArray) (hW : ((w.setCell ⟨b, 0, none⟩ (.int .i64 o)).setCell ⟨b, 1, none⟩ (.int .i64 d)).setCell ⟨b, 2, none⟩ (.string nm) = W9) : Blk W9 b #[.int .i64 o, .int .i64 d, .string nm] t ∧ On (fun c => c ≠ b) w W9 ∧ W9.heap.size = w.heap.size ∧ ∀ B, B ≤ b → Below B w W9 := by
  subst hW
  refine ⟨((h.set 0 _).set 1 _).set 2 _, ((On.set w ⟨b, 0, none⟩ _).trans (On.set _ ⟨b, 1, none⟩ _)).trans (On.set _ ⟨b, 2, none⟩ _), by simp, fun B hB => ?_⟩
  exact ((((Below.refl B w).setCell (p := ⟨b, 0, none⟩) hB _).setCell (p := ⟨b, 1, none⟩) hB _).setCell (p := ⟨b, 2, none⟩) hB _)
theorem Only.with {g b : Nat} {W w w' : World} (h : Only g W w) (hb : W.heap.size ≤ b) (ho : On (fun c => c ≠ b) w w') (hs : w'.heap.size = w.heap.size) (hB : ∀ B, B ≤ b → Below B w w') (hg : g < W.heap.size) : Only g W w' :=
  ⟨h.1.trans (ho.less fun c hc => by omega), by have := h.2.1; omega, fun B h2 => (h.2.2 B h2).trans (hB B (by omega))⟩
set_option maxRecDepth 100000 in
set_option maxHeartbeats 8000000 in
theorem step_find (L : List Sp.Ob) (g m : Nat) (x : Sp.Ob) (mm : Int) (vl : Value) (base : Int) (hops : Nat) (fence follow : Bool) (lb lo lc : Nat) (part : ByteArray) (rest : List ByteArray) (S T : Nat → Prop) (W : World) (hg : Blk W g (wkC vl base fence follow (m : Int) (.slice (some ⟨lb, lo, none⟩) (rest.length + 1) lc) hops) 80) (hv : Objs W S vl L) (hS : ∀ b, S b → b < W.heap.size ∧ b ≠ g) (hl : Row W T 1 (.slice (some ⟨lb, lo, none⟩) (rest.length + 1) lc) ((part :: rest).map tS)) (hT : ∀ b, T b → b < W.heap.size ∧ b ≠ g) (hx : L[m]? = some x) (hk : x.kind = 2) (hp : (part.toList == [46, 46]) = false) (h00 : W.cell? ⟨0, 0, none⟩ = some (.int .i64 mm)) (hg0 : g ≠ 0) (hn : rest.length ≤ 999) (hh : hops ≤ 6) (hsm : ∀ o ∈ L, o.target.size ≤ maxLen) (fd : Lk.Fd) (done : Bool) (err : Int) (st : Lk.St) (hres : Lk.one L base fence follow (m : Int) part rest hops = ⟨fd, done, err, st⟩) :
    Calls Tryd.prog 28 #[.pointer (some ⟨g, 0, none⟩)] W fun e w' => e = .returned (.tuple #[fdV fd.obj fd.dir fd.name, .bool done, .int .i64 err]) ∧ Only g W w' ∧ (done = false → err = 0 → ∃ v', Blk w' g (wkC vl base fence follow st.pos v' st.hops) 80 ∧ Row w' (fun b => b < w'.heap.size ∧ b ≠ g) 1 v' (st.left.map tS)) := by
  have HRES : Hid (Lk.one L base fence follow (m : Int) part rest hops = ⟨fd, done, err, st⟩) := hres
  have HUP : Hid (Lk.isUp part = false) := hp
  have HKK : Hid (Lk.isK L (m : Int) 2 = true) := by unfold Hid; rw [Lk.isK_nat hx, hk]; rfl
  have HSM : Hid (∀ o ∈ L, o.target.size ≤ maxLen) := hsm
  have H00 : Hid (∀ w', Only g W w' → w'.cell? ⟨0, 0, none⟩ = some (.int .i64 mm)) := fun w' h => by
    rw [h.1.cell (b := 0) ⟨by have := hg.lt; omega, fun e => hg0 e.symm⟩]; exact h00
  clear hres hsm h00
  have hK : Lk.isK L (m : Int) 2 = true := by rw [Lk.isK_nat hx, hk]; rfl
  have HD : Hid (∀ W', Below W.heap.size W W' → Calls Tryd.prog 31 #[vl, .int .i64 (m : Int)] W' fun e w' => e = .returned (.bool true) ∧ w' = W') := fun W' hW => by
    have := isDir_any L (m : Int) vl S W' (hv.on ((On.of hW).less fun b hb => (hS b hb).1))
    rw [hK] at this
    exact this
  have hgl := hg.lt
  have HG : Hid (Blk W g (wkC vl base fence follow (m : Int) (.slice (some ⟨lb, lo, none⟩) (rest.length + 1) lc) hops) 80) := hg
  have HV : Hid (Objs W S vl L) := hv
  have HS : Hid (∀ b, S b → b < W.heap.size ∧ b ≠ g) := hS
  have HLf : Hid (Row W T 1 (.slice (some ⟨lb, lo, none⟩) (rest.length + 1) lc) ((part :: rest).map tS)) := hl
  have HTf : Hid (∀ b, T b → b < W.heap.size ∧ b ≠ g) := hT
  have HX : Hid (L[m]? = some x) := hx
  obtain ⟨a, c, rfl, -⟩ := hv.form
  obtain ⟨b', o', c', he, hTb, hc3, hc4, h5⟩ := hl.some (by simp)
  obtain ⟨e1, -, rfl⟩ := Value.slice.inj he
  cases e1
  rw [List.length_map, List.length_cons] at hc3
  have l0 := h5 0 (tS part) rfl 0 _ rfl
  rw [Nat.zero_mul, Nat.add_zero] at l0
  have hlbl := (hT lb hTb).1
  have hlbg := (hT lb hTb).2
  have hlbg' : ¬ g = lb := fun h => hlbg h.symm
  unfold maxLen at hc4
  have g0 : W.cell? ⟨g, 0, none⟩ = some (.slice a L.length c) := hg.cell 0
  have g4 : W.cell? ⟨g, 4, none⟩ = some (.int .i64 (m : Int)) := hg.cell 4
  have g5 : W.cell? ⟨g, 5, none⟩ = some (.slice (some ⟨lb, lo, none⟩) (rest.length + 1) lc) := hg.cell 5
  have f5 : W.frozen? ⟨g, 5, none⟩ = false := hg.free 5
  have hcz : (1 : Int) ≤ (lc : Int) := by omega
  obtain ⟨A5, hA5⟩ : ∃ A5 : Addr, (if lc = 1 then some (⟨lb, lo, none⟩ : Addr) else some ⟨lb, lo + 1, none⟩) = some A5 := by split <;> exact ⟨_, rfl⟩
  have HTL : Hid (Row W T 1 (.slice (some A5) rest.length (lc - 1)) (rest.map tS)) := by
    have := row_tail hl
    rw [hA5] at this
    exact this
  have HB0 : Hid (Below W.heap.size W (W.alloc (.cells #[.int .i64 0, .int .i64 0, .string ⟨#[]⟩] 30))) := (Below.refl _ _).alloc (Nat.le_refl _) _
  have HK0 : Hid (Blk (W.alloc (.cells #[.int .i64 0, .int .i64 0, .string ⟨#[]⟩] 30)) W.heap.size #[.int .i64 0, .int .i64 0, .string ⟨#[]⟩] 30) := Blk.new W _ _
  have HG0 : Hid (Blk (W.alloc (.cells #[.int .i64 0, .int .i64 0, .string ⟨#[]⟩] 30)) g (wkC (.slice a L.length c) base fence follow (m : Int) (.slice (some ⟨lb, lo, none⟩) (rest.length + 1) lc) hops) 80) := hg.alloc _
  have c0 : (W.alloc (.cells #[.int .i64 0, .int .i64 0, .string ⟨#[]⟩] 30)).cell? ⟨g, 0, none⟩ = some (.slice a L.length c) := by rw [(On.alloc W _).cell hgl]; exact g0
  have c4 : (W.alloc (.cells #[.int .i64 0, .int .i64 0, .string ⟨#[]⟩] 30)).cell? ⟨g, 4, none⟩ = some (.int .i64 (m : Int)) := by rw [(On.alloc W _).cell hgl]; exact g4
  have c5 : (W.alloc (.cells #[.int .i64 0, .int .i64 0, .string ⟨#[]⟩] 30)).cell? ⟨g, 5, none⟩ = some (.slice (some ⟨lb, lo, none⟩) (rest.length + 1) lc) := by rw [(On.alloc W _).cell hgl]; exact g5
  have d0 : (W.alloc (.cells #[.int .i64 0, .int .i64 0, .string ⟨#[]⟩] 30)).cell? ⟨lb, lo, none⟩ = some (.string part) := by rw [(On.alloc W _).cell hlbl]; exact l0
  have u5 : (W.alloc (.cells #[.int .i64 0, .int .i64 0, .string ⟨#[]⟩] 30)).frozen? ⟨g, 5, none⟩ = false := HG0.out.free 5
  clear hg hv hS hl hT g0 g4 g5 f5 l0 h5 he hTb hK hx hk
  go_enter Tryd.func28, Tryd.ntmps28
  go_wp2_with fail
  generalize (W.alloc (.cells #[.int .i64 0, .int .i64 0, .string ⟨#[]⟩] 30)) = w0 at *
  go_region_held3 (fun w' => w'.cell? ⟨g, 0, none⟩ = some (.slice a L.length c) ∧ w'.cell? ⟨g, 4, none⟩ = some (.int .i64 (m : Int))) (go_keep) (first | (refine Calls.mono (HD.out _ HB0.out.drew) ?_; rintro e w2 ⟨rfl, rfl⟩; go_wp2_with fail))
  go_wp2_with fail
  go_region_held3 (fun w' => w'.cell? ⟨g, 5, none⟩ = some (.slice (some ⟨lb, lo, none⟩) (rest.length + 1) lc) ∧ w'.cell? ⟨lb, lo, none⟩ = some (.string part)) (go_keep) (fail)
  go_wp2_with fail
  clear hA5
  have hlt0 := HK0.out.lt
  have HG3 : Hid (Blk (w0.setCell ⟨g, 5, none⟩ (.slice (some A5) rest.length (lc - 1))).drew.drew g (wkC (.slice a L.length c) base fence follow (m : Int) (.slice (some A5) rest.length (lc - 1)) hops) 80) := HG0.out.set 5 _
  have HO3 : Hid (Only g W (w0.setCell ⟨g, 5, none⟩ (.slice (some A5) rest.length (lc - 1))).drew.drew) := ((Only.below hgl HB0.out).set 5 _).drew.drew
  have hK3 : Blk (w0.setCell ⟨g, 5, none⟩ (.slice (some A5) rest.length (lc - 1))).drew.drew W.heap.size #[.int .i64 0, .int .i64 0, .string ⟨#[]⟩] 30 := HK0.out.other (a := ⟨g, 5, none⟩) (by show W.heap.size ≠ g; omega) _
  have HK3 : Hid (Blk (w0.setCell ⟨g, 5, none⟩ (.slice (some A5) rest.length (lc - 1))).drew.drew W.heap.size #[.int .i64 0, .int .i64 0, .string ⟨#[]⟩] 30) := hK3
  clear c0 c4 c5 d0 u5 HG0 HB0 HK0 hK3
  generalize (w0.setCell ⟨g, 5, none⟩ (.slice (some A5) rest.length (lc - 1))).drew.drew = w3 at *
  have hB3 := HG3.out
  have m0 : w3.cell? ⟨g, 0, none⟩ = some (.slice a L.length c) := hB3.cell 0
  have m3 : w3.cell? ⟨g, 3, none⟩ = some (.bool follow) := hB3.cell 3
  have m4 : w3.cell? ⟨g, 4, none⟩ = some (.int .i64 (m : Int)) := hB3.cell 4
  have hgl3 := hB3.lt
  have HV3 : Hid (Objs w3 S (.slice a L.length c) L) := HV.out.on (HO3.out.1.less HS.out)
  have HS3 : Hid (∀ b, S b → b < w3.heap.size) := fun b hb => by have := (HS.out b hb).1; have := HO3.out.2.1; omega
  have HF : Hid (∀ W', Below w3.heap.size w3 W' → Calls Tryd.prog 35 #[.slice a L.length c, .int .i64 (m : Int), .string part] W' fun e w' => e = .returned (.int .i64 (Sp.find L (m : Int) part)) ∧ Below w3.heap.size w3 w' ∧ (w'.cell? ⟨g, 0, none⟩ = some (.slice a L.length c) ∧ w'.cell? ⟨g, 4, none⟩ = some (.int .i64 (m : Int)))) := fun W' hW' => by
    have h3 : Objs W' S (.slice a L.length c) L := HV3.out.on ((On.of hW').less HS3.out)
    refine (find_any L (m : Int) part (.slice a L.length c) S W' h3 (fun b hb => Nat.lt_of_lt_of_le (HS3.out b hb) hW'.size)).mono ?_
    rintro e w' ⟨rfl, hb⟩
    have hb' : Below w3.heap.size w3 w' := hW'.trans (hb.mono hW'.size)
    exact ⟨rfl, hb', by rw [hb'.cell hgl3]; exact m0, by rw [hb'.cell hgl3]; exact m4⟩
  have HB33 : Hid (Below w3.heap.size w3 w3.drew) := (Below.refl _ _).drew
  clear hB3
  go_region_held3 (fun w' => w'.cell? ⟨g, 0, none⟩ = some (.slice a L.length c) ∧ w'.cell? ⟨g, 4, none⟩ = some (.int .i64 (m : Int))) (go_keep) (first | (go_at_call 35; refine Calls.mono (HF.out _ HB33.out) ?_; rintro e w4 ⟨rfl, hb4, ⟨n0, n4⟩⟩; go_wp2_with fail))
  have hO4 : Only g W w4 := HO3.out.trans (Only.below hgl3 hb4)
  have HO4 : Hid (Only g W w4) := hO4
  have hB4 : Blk w4 g (wkC (.slice a L.length c) base fence follow (m : Int) (.slice (some A5) rest.length (lc - 1)) hops) 80 := HG3.out.below hb4 hgl3
  have HB4 : Hid (Blk w4 g (wkC (.slice a L.length c) base fence follow (m : Int) (.slice (some A5) rest.length (lc - 1)) hops) 80) := hB4
  have HV4 : Hid (Objs w4 S (.slice a L.length c) L) := HV.out.on (hO4.1.less HS.out)
  have HT4 : Hid (Row w4 T 1 (.slice (some A5) rest.length (lc - 1)) (rest.map tS)) := Row.on HTL.out (hO4.1.less HTf.out)
  have hK4 : Blk w4 W.heap.size #[.int .i64 0, .int .i64 0, .string ⟨#[]⟩] 30 := HK3.out.below hb4 HK3.out.lt
  have HK4 : Hid (Blk w4 W.heap.size #[.int .i64 0, .int .i64 0, .string ⟨#[]⟩] 30) := hK4
  have q3 : w4.cell? ⟨g, 3, none⟩ = some (.bool follow) := hB4.cell 3
  have f4 : w4.frozen? ⟨g, 4, none⟩ = false := hB4.free 4
  have r0 := hK4.cell 0
  have r1 := hK4.cell 1
  have r2 := hK4.cell 2
  have z0 := hK4.free 0
  have z1 := hK4.free 1
  have z2 := hK4.free 2
  have hlt4 := hK4.lt
  have hgl4 := hB4.lt
  have HNG : Hid (W.heap.size ≠ g) := by unfold Hid; omega
  clear hb4 hO4 hB4 hK4 HB33 HF HG3 HO3 HK3 HV3 HS3 m0 m3 m4 HTL HG HD hgl3
  have HIK : Hid (∀ k, Calls Tryd.prog 36 #[.slice a L.length c, .int .i64 k, .int .i64 3] w4 fun e w' => e = .returned (.bool (Lk.isK L k 3)) ∧ w' = w4) := fun k => isKind_any L k 3 _ S w4 HV4.out
  have HEQ : Hid (((rest.length : Int) + 1 == 1) = decide (rest = [])) := by
    cases rest with
    | nil => rfl
    | cons y t => simp [Hid]; omega
  cases hk3 : Lk.isK L (Sp.find L (m : Int) part) 3 with
  | false =>
    have HIK' : Hid (Calls Tryd.prog 36 #[.slice a L.length c, .int .i64 (Sp.find L (m : Int) part), .int .i64 3] w4 fun e w' => e = .returned (.bool false) ∧ w' = w4) := by have := HIK.out (Sp.find L (m : Int) part); rw [hk3] at this; exact this
    have HK3 : Hid (Lk.isK L (Sp.find L (m : Int) part) 3 = false) := hk3
    clear HIK hk3
    by_cases hr : rest = []
    · subst hr
      have h := HRES.out
      rw [Lk.one_last HKK.out HUP.out (Or.inl HK3.out)] at h
      obtain ⟨rfl, rfl, rfl, rfl⟩ := Lk.Res.mk.inj h
      clear h HRES
      go_wp2_with fail
      refine Calls.mono HIK'.out ?_
      rintro e w5 ⟨rfl, hw5⟩
      rw [hw5]
      clear hw5
      go_wp2
      generalize hW : ((w4.setCell ⟨W.heap.size, 0, none⟩ (.int .i64 (Sp.find L (m : Int) part))).setCell ⟨W.heap.size, 1, none⟩ (.int .i64 (m : Int))).setCell ⟨W.heap.size, 2, none⟩ (.string part) = W9
      obtain ⟨hb9, ho9, hs9, hB9⟩ := fd_cells HK4.out (Sp.find L (m : Int) part) (m : Int) part hW
      have hc9 := hb9.cell
      exact bodyPost_ret (v := .tuple #[.agg #[.int .i64 (Sp.find L (m : Int) part), .int .i64 (m : Int), .string part], .bool true, .int .i64 0]) (by simp [results, Tryd.results28, go_sem, hc9]) rfl ⟨rfl, HO4.out.with (Nat.le_refl _) ho9 hs9 hB9 hgl⟩
    · have hne : ((rest.length : Int) + 1 == 1) = false := by rw [HEQ.out]; simp [hr]
      by_cases hlt : Sp.find L (m : Int) part < 0
      · have h := HRES.out
        rw [Lk.one_none HKK.out HUP.out HK3.out hr hlt] at h
        obtain ⟨rfl, rfl, rfl, rfl⟩ := Lk.Res.mk.inj h
        clear h HRES hr
        go_wp2_with fail
        refine Calls.mono HIK'.out ?_
        rintro e w5 ⟨rfl, hw5⟩
        rw [hw5]
        clear hw5
        go_wp2
        generalize hW : ((w4.setCell ⟨W.heap.size, 0, none⟩ (.int .i64 0)).setCell ⟨W.heap.size, 1, none⟩ (.int .i64 0)).setCell ⟨W.heap.size, 2, none⟩ (.string ⟨#[]⟩) = W9
        obtain ⟨hb9, ho9, hs9, hB9⟩ := fd_cells HK4.out 0 0 ⟨#[]⟩ hW
        have hc9 := hb9.cell
        exact bodyPost_ret (v := .tuple #[.agg #[.int .i64 0, .int .i64 0, .string ⟨#[]⟩], .bool false, .int .i64 6]) (by simp [results, Tryd.results28, go_sem, hc9]) rfl ⟨rfl, HO4.out.with (Nat.le_refl _) ho9 hs9 hB9 hgl⟩
      · have h := HRES.out
        rw [Lk.one_go HKK.out HUP.out HK3.out hr hlt] at h
        obtain ⟨rfl, rfl, rfl, rfl⟩ := Lk.Res.mk.inj h
        clear h HRES hr
        have HB5 : Hid (Blk (w4.setCell ⟨g, 4, none⟩ (.int .i64 (Sp.find L (m : Int) part))) g (wkC (.slice a L.length c) base fence follow (Sp.find L (m : Int) part) (.slice (some A5) rest.length (lc - 1)) hops) 80) := HB4.out.set 4 _
        have HO5 : Hid (Only g W (w4.setCell ⟨g, 4, none⟩ (.int .i64 (Sp.find L (m : Int) part)))) := HO4.out.set 4 _
        have hK5 : Blk (w4.setCell ⟨g, 4, none⟩ (.int .i64 (Sp.find L (m : Int) part))) W.heap.size #[.int .i64 0, .int .i64 0, .string ⟨#[]⟩] 30 := HK4.out.other (a := ⟨g, 4, none⟩) HNG.out _
        have HK5 : Hid (Blk (w4.setCell ⟨g, 4, none⟩ (.int .i64 (Sp.find L (m : Int) part))) W.heap.size #[.int .i64 0, .int .i64 0, .string ⟨#[]⟩] 30) := hK5
        clear hK5
        go_wp2_with fail
        refine Calls.mono HIK'.out ?_
        rintro e w5 ⟨rfl, hw5⟩
        rw [hw5]
        clear hw5
        go_wp2
        generalize hW5 : w4.setCell ⟨g, 4, none⟩ (.int .i64 (Sp.find L (m : Int) part)) = w5 at *
        generalize hW : ((w5.setCell ⟨W.heap.size, 0, none⟩ (.int .i64 0)).setCell ⟨W.heap.size, 1, none⟩ (.int .i64 0)).setCell ⟨W.heap.size, 2, none⟩ (.string ⟨#[]⟩) = W9
        obtain ⟨hb9, ho9, hs9, hB9⟩ := fd_cells HK5.out 0 0 ⟨#[]⟩ hW
        have hc9 := hb9.cell
        exact bodyPost_ret (v := .tuple #[.agg #[.int .i64 0, .int .i64 0, .string ⟨#[]⟩], .bool false, .int .i64 0]) (by simp [results, Tryd.results28, go_sem, hc9]) rfl ⟨rfl, HO5.out.with (Nat.le_refl _) ho9 hs9 hB9 hgl, ⟨_, HB5.out.on ho9 HNG.out.symm, Row.more (Row.on HT4.out (On.trans (by rw [← hW5]; exact (On.set w4 ⟨g, 4, none⟩ _).less fun b hb => (HTf.out b hb).2) (ho9.less fun b hb => by have := (HTf.out b hb).1; omega))) fun b hb => ⟨by have := (HTf.out b hb).1; have := HO5.out.2.1; omega, (HTf.out b hb).2⟩⟩⟩
  | true =>
    obtain ⟨n, y, hkn, hy, hyk⟩ := Lk.isK_some hk3
    have HIK' : Hid (Calls Tryd.prog 36 #[.slice a L.length c, .int .i64 (n : Int), .int .i64 3] w4 fun e w' => e = .returned (.bool true) ∧ w' = w4) := by have := HIK.out (Sp.find L (m : Int) part); rw [hk3, hkn] at this; exact this
    have HK3 : Hid (Lk.isK L (Sp.find L (m : Int) part) 3 = true) := hk3
    have HTG : Hid (Lk.trg L (Sp.find L (m : Int) part) = y.target) := by unfold Hid Lk.trg; rw [hkn, Int.toNat_natCast, hy]
    by_cases hlk : follow = true ∨ rest ≠ []
    · have h := HRES.out
      rw [Lk.one_link HKK.out HUP.out HK3.out hlk, HTG.out] at h
      obtain ⟨rfl, rfl, rfl, rfl⟩ := Lk.Res.mk.inj h
      have HTH : Hid (Calls Tryd.prog 37 #[.pointer (some ⟨g, 0, none⟩), .string y.target] w4 _) := through_any y.target mm (HSM.out y (List.mem_of_getElem? hy)) g (.slice a L.length c) (.slice (some A5) rest.length (lc - 1)) base (m : Int) hops fence follow rest T w4 HB4.out (H00.out w4 HO4.out) hg0 HT4.out (fun b hb => ⟨by have := (HTf.out b hb).1; have := HO4.out.2.1; omega, (HTf.out b hb).2⟩) (by omega) hh
      obtain ⟨vb, vo, vc, vs, he, hVb, hc1, hcm, -, -, -, -, k3t, -⟩ := HV4.out.open hy
      obtain ⟨rfl, -, rfl⟩ := Value.slice.inj he
      have hnl := (List.getElem?_eq_some_iff.1 hy).1
      unfold maxLen at hcm
      have q0 : w4.cell? ⟨g, 0, none⟩ = some (.slice (some ⟨vb, vo, none⟩) L.length c) := n0
      have f0 := HTH
      clear h HRES he hy hyk hk3 HIK n0 f0
      rw [hkn]
      clear hkn
      cases follow with
      | true =>
        go_wp2_with fail
        refine Calls.mono HIK'.out ?_
        rintro e w5 ⟨rfl, hw5⟩
        rw [hw5]
        clear hw5
        go_wp2_with fail
        refine Calls.mono HTH.out ?_
        rintro e w6 ⟨rfl, ho6, hcase⟩
        have HO6 : Hid (Only g W w6) := HO4.out.trans ho6
        have hK6 : Blk w6 W.heap.size #[.int .i64 0, .int .i64 0, .string ⟨#[]⟩] 30 := HK4.out.on ho6.1 ⟨HK4.out.lt, HNG.out⟩
        have HK6 : Hid (Blk w6 W.heap.size #[.int .i64 0, .int .i64 0, .string ⟨#[]⟩] 30) := hK6
        have HC6 : Hid _ := hcase
        have HL4 : Hid (W.heap.size < w4.heap.size) := hlt4
        clear r0 r1 r2 z0 z1 z2 hlt4
        have r0 := hK6.cell 0
        have r1 := hK6.cell 1
        have r2 := hK6.cell 2
        have z0 := hK6.free 0
        have z1 := hK6.free 1
        have z2 := hK6.free 2
        have hlt6 := hK6.lt
        clear ho6 hcase hK6 HTH HIK' q0 q3 f4 k3t
        go_wp2
        generalize hW : ((w6.setCell ⟨W.heap.size, 0, none⟩ (.int .i64 0)).setCell ⟨W.heap.size, 1, none⟩ (.int .i64 0)).setCell ⟨W.heap.size, 2, none⟩ (.string ⟨#[]⟩) = W9
        obtain ⟨hb9, ho9, hs9, hB9⟩ := fd_cells HK6.out 0 0 ⟨#[]⟩ hW
        have hc9 := hb9.cell
        refine bodyPost_ret (v := .tuple #[.agg #[.int .i64 0, .int .i64 0, .string ⟨#[]⟩], .bool false, .int .i64 (Lk.throughE y.target fence hops)]) (by simp [results, Tryd.results28, go_sem, hc9]) rfl ⟨rfl, HO6.out.with (Nat.le_refl _) ho9 hs9 hB9 hgl, fun h => ?_⟩
        obtain ⟨v', h1, h2⟩ := HC6.out h
        rw [List.map_append] at h2
        exact ⟨v', h1.on ho9 HNG.out.symm, Row.more (Row.on h2 (ho9.less fun b hb => by have := hb.1; have := HL4.out; omega)) fun b hb => ⟨by have := hb.2; omega, by have := hb.1; have := HO4.out.2.1; have := HL4.out; omega⟩⟩
      | false =>
        have hr : rest ≠ [] := by rcases hlk with h | h; exact absurd h (by decide); exact h
        have hne : ((rest.length : Int) + 1 == 1) = false := by rw [HEQ.out]; simp [hr]
        clear hlk hr
        go_wp2_with fail
        refine Calls.mono HIK'.out ?_
        rintro e w5 ⟨rfl, hw5⟩
        rw [hw5]
        clear hw5
        go_wp2_with fail
        refine Calls.mono HTH.out ?_
        rintro e w6 ⟨rfl, ho6, hcase⟩
        have HO6 : Hid (Only g W w6) := HO4.out.trans ho6
        have hK6 : Blk w6 W.heap.size #[.int .i64 0, .int .i64 0, .string ⟨#[]⟩] 30 := HK4.out.on ho6.1 ⟨HK4.out.lt, HNG.out⟩
        have HK6 : Hid (Blk w6 W.heap.size #[.int .i64 0, .int .i64 0, .string ⟨#[]⟩] 30) := hK6
        have HC6 : Hid _ := hcase
        have HL4 : Hid (W.heap.size < w4.heap.size) := hlt4
        clear r0 r1 r2 z0 z1 z2 hlt4
        have r0 := hK6.cell 0
        have r1 := hK6.cell 1
        have r2 := hK6.cell 2
        have z0 := hK6.free 0
        have z1 := hK6.free 1
        have z2 := hK6.free 2
        have hlt6 := hK6.lt
        clear ho6 hcase hK6 HTH HIK' q0 q3 f4 k3t
        go_wp2
        generalize hW : ((w6.setCell ⟨W.heap.size, 0, none⟩ (.int .i64 0)).setCell ⟨W.heap.size, 1, none⟩ (.int .i64 0)).setCell ⟨W.heap.size, 2, none⟩ (.string ⟨#[]⟩) = W9
        obtain ⟨hb9, ho9, hs9, hB9⟩ := fd_cells HK6.out 0 0 ⟨#[]⟩ hW
        have hc9 := hb9.cell
        refine bodyPost_ret (v := .tuple #[.agg #[.int .i64 0, .int .i64 0, .string ⟨#[]⟩], .bool false, .int .i64 (Lk.throughE y.target fence hops)]) (by simp [results, Tryd.results28, go_sem, hc9]) rfl ⟨rfl, HO6.out.with (Nat.le_refl _) ho9 hs9 hB9 hgl, fun h => ?_⟩
        obtain ⟨v', h1, h2⟩ := HC6.out h
        rw [List.map_append] at h2
        exact ⟨v', h1.on ho9 HNG.out.symm, Row.more (Row.on h2 (ho9.less fun b hb => by have := hb.1; have := HL4.out; omega)) fun b hb => ⟨by have := hb.2; omega, by have := hb.1; have := HO4.out.2.1; have := HL4.out; omega⟩⟩
    · have hf : follow = false := by cases follow with | false => rfl | true => exact absurd (Or.inl rfl) hlk
      have hr : rest = [] := Classical.byContradiction fun h => hlk (Or.inr h)
      subst hr
      subst hf
      have h := HRES.out
      rw [Lk.one_last HKK.out HUP.out (Or.inr rfl)] at h
      obtain ⟨rfl, rfl, rfl, rfl⟩ := Lk.Res.mk.inj h
      clear h HRES hk3 hlk HTG HK3
      have HKN : Hid (Sp.find L (m : Int) part = (n : Int)) := hkn
      rw [hkn]
      clear hkn
      go_wp2_with fail
      refine Calls.mono HIK'.out ?_
      rintro e w5 ⟨rfl, hw5⟩
      rw [hw5]
      clear hw5
      go_wp2
      generalize hW : ((w4.setCell ⟨W.heap.size, 0, none⟩ (.int .i64 (n : Int))).setCell ⟨W.heap.size, 1, none⟩ (.int .i64 (m : Int))).setCell ⟨W.heap.size, 2, none⟩ (.string part) = W9
      obtain ⟨hb9, ho9, hs9, hB9⟩ := fd_cells HK4.out (n : Int) (m : Int) part hW
      have hc9 := hb9.cell
      exact bodyPost_ret (v := .tuple #[.agg #[.int .i64 (n : Int), .int .i64 (m : Int), .string part], .bool true, .int .i64 0]) (by simp [results, Tryd.results28, go_sem, hc9]) rfl ⟨by rw [HKN.out]; rfl, HO4.out.with (Nat.le_refl _) ho9 hs9 hB9 hgl⟩
end Go.Proofs.YtfiiandnopifnaaDoor
/-
  look's walk: step, in all cases.
-/
namespace Go.Proofs.YtfiiandnopifnaaDoor
open Go.RowKit
/-- A walk lies there: where it stands, what is left. -/
def Wk (w : World) (g : Nat) (T : Nat → Prop) (vl : Value) (base : Int) (fence follow : Bool) (st : Lk.St) : Prop :=
  ∃ v, Blk w g (wkC vl base fence follow st.pos v st.hops) 80 ∧ Row w T 1 v (st.left.map tS)
theorem step_any (L : List Sp.Ob) (hTr : Lk.Tree L) (g : Nat) (mm : Int) (vl : Value) (base pos : Int) (fence follow : Bool) (part : ByteArray) (rest : List ByteArray) (hops : Nat) (S : Nat → Prop) (W : World) (hg : Wk W g (fun b => b < W.heap.size ∧ b ≠ g) vl base fence follow ⟨pos, part :: rest, hops⟩) (hv : Objs W S vl L) (hS : ∀ b, S b → b < W.heap.size ∧ b ≠ g) (h00 : W.cell? ⟨0, 0, none⟩ = some (.int .i64 mm)) (hg0 : g ≠ 0) (hn : rest.length ≤ 999) (hh : hops ≤ 6) :
    Calls Tryd.prog 28 #[.pointer (some ⟨g, 0, none⟩)] W fun e w' => e = .returned (.tuple #[fdV (Lk.one L base fence follow pos part rest hops).fd.obj (Lk.one L base fence follow pos part rest hops).fd.dir (Lk.one L base fence follow pos part rest hops).fd.name, .bool (Lk.one L base fence follow pos part rest hops).done, .int .i64 (Lk.one L base fence follow pos part rest hops).err]) ∧ Only g W w' ∧ ((Lk.one L base fence follow pos part rest hops).done = false → (Lk.one L base fence follow pos part rest hops).err = 0 → Wk w' g (fun b => b < w'.heap.size ∧ b ≠ g) vl base fence follow (Lk.one L base fence follow pos part rest hops).st) := by
  obtain ⟨v, hb, hr⟩ := hg
  dsimp only at hb hr
  obtain ⟨lb, lo, lc, rfl, hlT, -, -, -⟩ := hr.some (by simp)
  rw [List.length_map, List.length_cons] at hb hr
  have hgl := hb.lt
  by_cases c1 : Lk.isK L pos 2 = false
  · have e1 : Lk.one L base fence follow pos part rest hops = ⟨Lk.nilF, false, 11, ⟨pos, rest, hops⟩⟩ := if_pos c1
    rw [e1]
    refine (step_nodir L g vl base pos hops fence follow lb lo lc part rest S _ W hb hv hS hr (fun b h => h) c1).mono ?_
    rintro e w' ⟨rfl, hB⟩
    exact ⟨rfl, Only.below hgl hB, fun _ h => absurd h (show ¬ ((11 : Int) = 0) by decide)⟩
  · have c1' : Lk.isK L pos 2 = true := by cases h : Lk.isK L pos 2 with | true => rfl | false => exact absurd h c1
    obtain ⟨m, x, rfl, hx, hk⟩ := Lk.isK_some c1'
    by_cases c2 : Lk.isUp part = true
    · have e1 : Lk.one L base fence follow (m : Int) part rest hops = ⟨Lk.nilF, false, riseE base fence (m : Int), ⟨riseA base fence (m : Int) x.up, rest, hops⟩⟩ := by
        unfold Lk.one
        rw [if_neg c1, if_pos c2, Lk.upOf_nat hx]
      rw [e1]
      refine (step_up L g m x vl base hops fence follow lb lo lc part rest S _ W hb hv hS hr (fun b h => h) hx hk c2).mono ?_
      rintro e w' ⟨rfl, ho, v5, hb5, hr5⟩
      exact ⟨rfl, ho, fun _ _ => ⟨v5, hb5, Row.more hr5 fun b h => ⟨by have := ho.2.1; omega, h.2⟩⟩⟩
    · have c2' : (part.toList == [46, 46]) = false := by cases h : (part.toList == [46, 46]) with | false => rfl | true => exact absurd h c2
      refine (step_find L g m x mm vl base hops fence follow lb lo lc part rest S _ W hb hv hS hr (fun b h => h) hx hk c2' h00 hg0 hn hh hTr.small _ _ _ _ rfl).mono ?_
      rintro e w' ⟨rfl, ho, h⟩
      exact ⟨rfl, ho, h⟩
end Go.Proofs.YtfiiandnopifnaaDoor
/-
  look.Path, walked.
-/
namespace Go.Proofs.YtfiiandnopifnaaDoor
open Go.RowKit
/-- What is left to go, as it lies in the walk's cells. -/
def wkMu (g : Nat) (w : World) : Nat := match w.cell? ⟨g, 6, none⟩, w.cell? ⟨g, 5, none⟩ with
  | some (.int _ h), some (.slice _ n _) => (6 - h.toNat) * 62 + n
  | _, _ => 0
theorem wkMu_of {w : World} {g : Nat} {T : Nat → Prop} {vl : Value} {base : Int} {fence follow : Bool} {st : Lk.St} (h : Wk w g T vl base fence follow st) : wkMu g w = Lk.mu st := by
  obtain ⟨v, hb, hr⟩ := h
  obtain ⟨a, c, rfl, _⟩ := hr.form
  have h6 : w.cell? ⟨g, 6, none⟩ = some (.int .i64 (st.hops : Int)) := hb.cell 6
  have h5 : w.cell? ⟨g, 5, none⟩ = some (.slice a (st.left.map tS).length c) := hb.cell 5
  unfold wkMu Lk.mu
  rw [h6, h5, List.length_map]
  rfl
namespace Lk
theorem go_step {L : List Sp.Ob} {base : Int} {fence follow : Bool} {pos : Int} {part : ByteArray} {rest : List ByteArray} {hops : Nat} (hh : hops ≤ 6) (hm : mu ⟨pos, part :: rest, hops⟩ < 1000) (hd : (one L base fence follow pos part rest hops).done = false) (he : (one L base fence follow pos part rest hops).err = 0) : go L base fence follow 1000 ⟨pos, part :: rest, hops⟩ = go L base fence follow 1000 (one L base fence follow pos part rest hops).st := by
  obtain ⟨h1, h2⟩ := one_less hh he
  have e : go L base fence follow 1000 ⟨pos, part :: rest, hops⟩ = go L base fence follow 999 (one L base fence follow pos part rest hops).st := by
    show (if _ then _ else _) = _
    exact if_neg (by rw [hd, he]; decide)
  rw [e]
  exact go_more _ _ _ h1 (by omega) (by omega)
theorem go_stop {L : List Sp.Ob} {base : Int} {fence follow : Bool} {pos : Int} {part : ByteArray} {rest : List ByteArray} {hops : Nat} (h : (one L base fence follow pos part rest hops).done = true ∨ (one L base fence follow pos part rest hops).err ≠ 0) : go L base fence follow 1000 ⟨pos, part :: rest, hops⟩ = ((one L base fence follow pos part rest hops).fd, (one L base fence follow pos part rest hops).err) := if_pos h
theorem path_base {L : List Sp.Ob} {base : Int} {s : ByteArray} {fence follow : Bool} (h : Sp.noDir L base ≠ 0) : path L base s fence follow = (nilF, Sp.noDir L base) := if_pos h
theorem path_turn {L : List Sp.Ob} {base : Int} {s : ByteArray} {fence follow : Bool} (h : Sp.noDir L base = 0) (h2 : turnE s fence ≠ 0) : path L base s fence follow = (nilF, turnE s fence) := by
  unfold path
  rw [if_neg (by rw [h]; decide), if_pos h2]
theorem path_go {L : List Sp.Ob} {base : Int} {s : ByteArray} {fence follow : Bool} (h : Sp.noDir L base = 0) (h2 : turnE s fence = 0) : path L base s fence follow = go L base fence follow 1000 ⟨turnA s base, partsB s, 0⟩ := by
  unfold path
  rw [if_neg (by rw [h]; decide), if_neg (by rw [h2]; decide)]
theorem start_stand {L : List Sp.Ob} (hT : Tree L) {base : Int} (s : ByteArray) (h : Sp.noDir L base = 0) : Stand L ⟨turnA s base, partsB s, 0⟩ := by
  obtain ⟨n, o, rfl, hx, hk, _⟩ := noDir_zero h
  have hu : isK L (turnA s (n : Int)) 2 = true := by
    unfold turnA
    split
    · exact hT.root
    · rw [isK_nat hx, hk]; rfl
  exact ⟨isK_stand hu, fun _ => hu⟩
end Lk
/-- Where Path stands in its loop. -/
def LkPI (L : List Sp.Ob) (g : Nat) (W1 : World) (vl : Value) (base : Int) (fence follow : Bool) (r : Lk.Fd × Int) (wr : World) : Prop :=
  ∃ st : Lk.St, Wk wr g (fun b => b < wr.heap.size ∧ b ≠ g) vl base fence follow st ∧ Only g W1 wr ∧ st.hops ≤ 6 ∧ Lk.mu st < 1000 ∧ Lk.Stand L st ∧ r = Lk.go L base fence follow 1000 st
set_option maxRecDepth 100000 in
set_option maxHeartbeats 8000000 in
theorem path_any (L : List Sp.Ob) (hTr : Lk.Tree L) (s : ByteArray) (mm : Int) (hs : s.size ≤ maxLen) (vl : Value) (base : Int) (fence follow : Bool) (S : Nat → Prop) (W : World) (hv : Objs W S vl L) (hS : ∀ b, S b → b < W.heap.size) (h00 : W.cell? ⟨0, 0, none⟩ = some (.int .i64 mm)) (hW0 : 0 < W.heap.size) :
    Calls Tryd.prog 9 #[vl, .int .i64 base, .string s, .bool fence, .bool follow] W fun e w' => e = .returned (.tuple #[fdV (Lk.path L base s fence follow).1.obj (Lk.path L base s fence follow).1.dir (Lk.path L base s fence follow).1.name, .int .i64 (Lk.path L base s fence follow).2]) ∧ Below W.heap.size W w' := by
  have hB0 : Below W.heap.size W (W.alloc (.cells #[.int .i64 0, .int .i64 0, .string ⟨#[]⟩] 30)) := (Below.refl _ _).alloc (Nat.le_refl _) _
  have hK0 : Blk (W.alloc (.cells #[.int .i64 0, .int .i64 0, .string ⟨#[]⟩] 30)) W.heap.size #[.int .i64 0, .int .i64 0, .string ⟨#[]⟩] 30 := Blk.new W _ _
  obtain ⟨w0, hw0⟩ : ∃ w0, w0 = (W.alloc (.cells #[.int .i64 0, .int .i64 0, .string ⟨#[]⟩] 30)) := ⟨_, rfl⟩
  rw [← hw0] at hB0 hK0
  have hs0 : w0.heap.size = W.heap.size + 1 := by rw [hw0]; simp
  have HW : Hid (w0 = (W.alloc (.cells #[.int .i64 0, .int .i64 0, .string ⟨#[]⟩] 30))) := hw0
  clear hw0
  have hv0 : Objs w0 S vl L := hv.on ((On.of hB0).less hS)
  have HNB : Hid (Calls Tryd.prog 26 #[vl, .int .i64 base] w0 fun e w' => e = .returned (.int .i64 (Sp.noDir L base)) ∧ w' = w0) := noBase_any L base vl S w0 hv0
  have HB0 : Hid (Below W.heap.size W w0) := hB0
  have HK0 : Hid (Blk w0 W.heap.size #[.int .i64 0, .int .i64 0, .string ⟨#[]⟩] 30) := hK0
  have HV0 : Hid (Objs w0 S vl L) := hv0
  have HS : Hid (∀ b, S b → b < W.heap.size) := hS
  have H00 : Hid (∀ w', Below W.heap.size W w' → w'.cell? ⟨0, 0, none⟩ = some (.int .i64 mm)) := fun w' h => by rw [h.cell (p := ⟨0, 0, none⟩) hW0]; exact h00
  have HTr : Hid (Lk.Tree L) := hTr
  have HW0 : Hid (0 < W.heap.size) := hW0
  obtain ⟨a, c, rfl, -⟩ := hv.form
  have r0 := hK0.cell 0
  have r1 := hK0.cell 1
  have r2 := hK0.cell 2
  have z0 := hK0.free 0
  have z1 := hK0.free 1
  have z2 := hK0.free 2
  clear hB0 hK0 hv hv0 hS h00 hTr hW0
  by_cases hn : Sp.noDir L base = 0
  · by_cases ht : Lk.turnE s fence = 0
    · have hRR : ∃ R, R = Lk.path L base s fence follow := ⟨_, rfl⟩
      obtain ⟨R, hR⟩ := hRR
      rw [← hR]
      have HR : Hid (R = Lk.go L base fence follow 1000 ⟨Lk.turnA s base, partsB s, 0⟩) := hR.trans (Lk.path_go hn ht)
      have HST : Hid (Lk.Stand L ⟨Lk.turnA s base, partsB s, 0⟩) := Lk.start_stand HTr.out s hn
      rw [hn] at HNB
      obtain ⟨⟨fo, fd, fn⟩, er⟩ := R
      have HPL : Hid ((partsB s).length ≤ 61) := partsB_len s (Lk.turnE_split ht)
      have hB1 : Below W.heap.size W (w0.alloc (.cells (wkC (.slice a L.length c) base fence follow base (.slice none 0 0) 0) 80)) := HB0.out.alloc (by omega) _
      have hK1 : Blk (w0.alloc (.cells (wkC (.slice a L.length c) base fence follow base (.slice none 0 0) 0) 80)) W.heap.size #[.int .i64 0, .int .i64 0, .string ⟨#[]⟩] 30 := HK0.out.alloc _
      have hG1 : Blk (w0.alloc (.cells (wkC (.slice a L.length c) base fence follow base (.slice none 0 0) 0) 80)) w0.heap.size (wkC (.slice a L.length c) base fence follow base (.slice none 0 0) 0) 80 := Blk.new w0 _ _
      have HTU : Hid (Calls Tryd.prog 27 #[.pointer (some ⟨w0.heap.size, 0, none⟩), .string s] (w0.alloc (.cells (wkC (.slice a L.length c) base fence follow base (.slice none 0 0) 0) 80)) _) := turn_any s mm hs w0.heap.size (.slice a L.length c) (.slice none 0 0) base base 0 fence follow [] (fun _ => False) _ hG1 (H00.out _ hB1) (Row.nil _ _ _ _ _) (fun b hb => absurd hb id) (Nat.zero_le _)
      have HT0 : Hid (Lk.turnE s fence = 0) := ht
      rw [ht, hs0] at HTU
      rw [hs0] at hG1
      have HB1 : Hid (Below W.heap.size W (w0.alloc (.cells #[.slice a L.length c, .int .i64 base, .bool fence, .bool follow, .int .i64 base, .slice none 0 0, .int .i64 0] 80))) := hB1
      have HK1 : Hid (Blk (w0.alloc (.cells #[.slice a L.length c, .int .i64 base, .bool fence, .bool follow, .int .i64 base, .slice none 0 0, .int .i64 0] 80)) W.heap.size #[.int .i64 0, .int .i64 0, .string ⟨#[]⟩] 30) := hK1
      have HZ1 : Hid ((w0.alloc (.cells #[.slice a L.length c, .int .i64 base, .bool fence, .bool follow, .int .i64 base, .slice none 0 0, .int .i64 0] 80)).heap.size = W.heap.size + 2) := by unfold Hid; simp; omega
      have HV1 : Hid (Objs (w0.alloc (.cells #[.slice a L.length c, .int .i64 base, .bool fence, .bool follow, .int .i64 base, .slice none 0 0, .int .i64 0] 80)) S (.slice a L.length c) L) := HV0.out.on ((On.alloc w0 _).less fun b hb => by have := HS.out b hb; omega)
      clear hB1 hK1 hG1 hR hn ht r0 r1 r2 z0 z1 z2
      unfold wkC at HTU
      unfold fdV
      go_enter Tryd.func9, Tryd.ntmps9
      go_wp2_with fail
      rw [← HW.out]
      refine Calls.mono HNB.out ?_
      rintro e w1 ⟨rfl, hw1⟩
      rw [hw1]
      clear hw1 HNB
      go_wp2_with fail
      generalize (w0.alloc (.cells #[.slice a L.length c, .int .i64 base, .bool fence, .bool follow, .int .i64 base, .slice none 0 0, .int .i64 0] 80)) = W1 at *
      refine Calls.mono HTU.out ?_
      rintro e w2 ⟨rfl, ho2, hcase⟩
      have HPI : Hid (LkPI L (W.heap.size + 1) W1 (.slice a L.length c) base fence follow (⟨fo, fd, fn⟩, er) w2) := by
        rcases hcase with ⟨h, -⟩ | ⟨-, v', h1, h2⟩
        · exact absurd rfl h
        · rw [List.append_nil] at h2
          refine ⟨⟨Lk.turnA s base, partsB s, 0⟩, ⟨v', h1, Row.more h2 fun b hb => ⟨hb.2, by have := hb.1; have := HZ1.out; omega⟩⟩, ho2, Nat.zero_le _, ?_, HST.out, HR.out⟩
          have := HPL.out
          unfold Lk.mu
          dsimp only
          omega
      clear ho2 hcase HTU HST HR HPL
      go_wp2_with fail
      go_loopw [17] (fun _ wr => LkPI L (W.heap.size + 1) W1 (.slice a L.length c) base fence follow (⟨fo, fd, fn⟩, er) wr) (fun _ wr => wkMu (W.heap.size + 1) wr)
      case atStart => exact HPI.out
      case round =>
        clear HPI
        obtain ⟨⟨pos, left, hops⟩, hwk, ho, hh, hmu, hst, hr⟩ := hrel
        dsimp only at hh
        have HMU := wkMu_of hwk
        have HWK : Hid _ := hwk
        have HO : Hid (Only (W.heap.size + 1) W1 wr) := ho
        have HH : Hid (hops ≤ 6) := hh
        have HM : Hid (Lk.mu ⟨pos, left, hops⟩ < 1000) := hmu
        have HSTD : Hid (Lk.Stand L ⟨pos, left, hops⟩) := hst
        have HR : Hid _ := hr
        have HV : Hid (Objs wr S (.slice a L.length c) L) := HV1.out.on (ho.1.less fun b hb => by have := HS.out b hb; have := HZ1.out; omega)
        have hKr : Blk wr W.heap.size #[.int .i64 0, .int .i64 0, .string ⟨#[]⟩] 30 := HK1.out.on ho.1 ⟨HK1.out.lt, by omega⟩
        have HKr : Hid (Blk wr W.heap.size #[.int .i64 0, .int .i64 0, .string ⟨#[]⟩] 30) := hKr
        have HSZ : Hid (W.heap.size + 2 ≤ wr.heap.size) := by unfold Hid; have := ho.2.1; have := HZ1.out; omega
        have HC0 : Hid (wr.cell? ⟨0, 0, none⟩ = some (.int .i64 mm)) := by
          refine H00.out wr ?_
          exact HB1.out.trans ((ho.2.2 W.heap.size (by omega)))
        cases left with
        | nil =>
          obtain ⟨v, hb, hrow⟩ := hwk
          have g5 : wr.cell? ⟨W.heap.size + 1, 5, none⟩ = some v := hb.cell 5
          obtain ⟨a5, c5, rfl, -⟩ := hrow.form
          obtain ⟨m, x, hpx, hx, hxk⟩ := Lk.isK_some (hst.2 rfl)
          dsimp only at hpx
          subst hpx
          have HE : Hid (Calls Tryd.prog 29 #[.pointer (some ⟨W.heap.size + 1, 0, none⟩)] wr fun e w' => e = .returned (.tuple #[.agg #[.int .i64 (m : Int), .int .i64 x.up, .string ⟨#[]⟩], .int .i64 0]) ∧ Below wr.heap.size wr w') := end_dir L (W.heap.size + 1) m x _ _ base hops fence follow S wr hb HV.out (fun b hb => ⟨by have := HS.out b hb; have := HSZ.out; omega, by have := HS.out b hb; omega⟩) hx hxk
          have HRE : Hid (fo = (m : Int) ∧ fd = x.up ∧ fn = ⟨#[]⟩ ∧ er = 0) := by
            have h := HR.out
            have e : Lk.go L base fence follow 1000 ⟨(m : Int), [], hops⟩ = (⟨(m : Int), Lk.upOf L (m : Int), ⟨#[]⟩⟩, 0) := rfl
            rw [e, Lk.upOf_nat hx] at h
            cases h
            exact ⟨rfl, rfl, rfl, rfl⟩
          have hz : ((List.map tS ([] : List ByteArray)).length : Nat) = 0 := rfl
          rw [hz] at g5
          have r0 := hKr.cell 0
          have r1 := hKr.cell 1
          have r2 := hKr.cell 2
          have z0 := hKr.free 0
          have z1 := hKr.free 1
          have z2 := hKr.free 2
          have hltr := hKr.lt
          have HBR : Hid (Below W.heap.size W wr) := HB1.out.trans (HO.out.2.2 W.heap.size (by omega))
          clear ho hh hmu hst hr HMU hb hrow hx hxk hKr hz
          go_wp2_with fail
          refine Calls.mono HE.out ?_
          rintro e w3 ⟨rfl, hb3⟩
          have hK3 := HKr.out.below hb3 HKr.out.lt
          have HB3 : Hid (Below W.heap.size W w3) := HBR.out.trans (hb3.mono (by omega))
          have HK3 : Hid (Blk w3 W.heap.size #[.int .i64 0, .int .i64 0, .string ⟨#[]⟩] 30) := hK3
          clear r0 r1 r2 z0 z1 z2 hltr g5
          have r0 := hK3.cell 0
          have r1 := hK3.cell 1
          have r2 := hK3.cell 2
          have z0 := hK3.free 0
          have z1 := hK3.free 1
          have z2 := hK3.free 2
          have hlt3 := hK3.lt
          clear hb3 hK3 HE
          go_wp2
          generalize hW : ((w3.setCell ⟨W.heap.size, 0, none⟩ (.int .i64 (m : Int))).setCell ⟨W.heap.size, 1, none⟩ (.int .i64 x.up)).setCell ⟨W.heap.size, 2, none⟩ (.string ⟨#[]⟩) = W9
          obtain ⟨hb9, ho9, hs9, hB9⟩ := fd_cells HK3.out (m : Int) x.up ⟨#[]⟩ hW
          have hc9 := hb9.cell
          exact bodyPost_ret (v := .tuple #[.agg #[.int .i64 (m : Int), .int .i64 x.up, .string ⟨#[]⟩], .int .i64 0]) (by simp [results, Tryd.results9, go_sem, hc9]) rfl ⟨by rw [HRE.out.1, HRE.out.2.1, HRE.out.2.2.1, HRE.out.2.2.2], HB3.out.trans (hB9 _ (Nat.le_refl _))⟩
        | cons part rest =>
          have HN : Hid (rest.length ≤ 999) := by
            have := HM.out
            unfold Lk.mu at this
            simp only [List.length_cons] at this
            unfold Hid
            omega
          have hST := step_any L HTr.out (W.heap.size + 1) mm (.slice a L.length c) base pos fence follow part rest hops S wr HWK.out HV.out (fun b hb => ⟨by have := HS.out b hb; have := HSZ.out; omega, by have := HS.out b hb; omega⟩) HC0.out (by omega) HN.out HH.out
          have HONE : ∃ r, r = Lk.one L base fence follow pos part rest hops := ⟨_, rfl⟩
          obtain ⟨r, hone⟩ := HONE
          rw [← hone] at hST
          have H1E : Hid (Lk.one L base fence follow pos part rest hops = r) := hone.symm
          obtain ⟨⟨ro, rd, rn⟩, dn, re, rst⟩ := r
          have HST : Hid (Calls Tryd.prog 28 #[.pointer (some ⟨W.heap.size + 1, 0, none⟩)] wr fun e w' => e = .returned (.tuple #[.agg #[.int .i64 ro, .int .i64 rd, .string rn], .bool dn, .int .i64 re]) ∧ Only (W.heap.size + 1) wr w' ∧ (dn = false → re = 0 → Wk w' (W.heap.size + 1) (fun b => b < w'.heap.size ∧ b ≠ W.heap.size + 1) (.slice a L.length c) base fence follow rst)) := hST
          obtain ⟨v, hb, hrow⟩ := hwk
          have g5 : wr.cell? ⟨W.heap.size + 1, 5, none⟩ = some v := hb.cell 5
          obtain ⟨a5, c5, rfl, -⟩ := hrow.form
          have hz : ((List.map tS (part :: rest)).length : Nat) = rest.length + 1 := by simp
          dsimp only at g5
          rw [hz] at g5
          have hgz : (0 : Int) < (rest.length : Int) + 1 := by omega
          have HBR : Hid (Below W.heap.size W wr) := HB1.out.trans (HO.out.2.2 W.heap.size (by omega))
          have HMU : Hid (wkMu (W.heap.size + 1) wr = Lk.mu ⟨pos, part :: rest, hops⟩) := HMU
          clear ho hh hmu hst hr hb hrow hKr hz hone hST
          go_wp2_with fail
          refine Calls.mono HST.out ?_
          rintro e w3 ⟨rfl, ho3, hnext⟩
          have HO3 : Hid (Only (W.heap.size + 1) W1 w3) := HO.out.trans ho3
          have hsz3 := ho3.2.1
          have HB3 : Hid (Below W.heap.size W w3) := HBR.out.trans (ho3.2.2 _ (by omega))
          have HNX : Hid _ := hnext
          have hK3 : Blk w3 W.heap.size #[.int .i64 0, .int .i64 0, .string ⟨#[]⟩] 30 := HKr.out.on ho3.1 ⟨HKr.out.lt, by omega⟩
          have HK3 : Hid (Blk w3 W.heap.size #[.int .i64 0, .int .i64 0, .string ⟨#[]⟩] 30) := hK3
          have HSZ3 : Hid (wr.heap.size ≤ w3.heap.size) := hsz3
          clear ho3 hnext HST g5 hK3 hsz3
          cases dn with
          | true =>
            have HRE : Hid (fo = ro ∧ fd = rd ∧ fn = rn ∧ er = re) := by
              have h := HR.out
              rw [Lk.go_stop (Or.inl (by rw [H1E.out])), H1E.out] at h
              obtain ⟨hf, h1⟩ := Prod.mk.inj h
              obtain ⟨h2, h3, h4⟩ := Lk.Fd.mk.inj hf
              exact ⟨h2, h3, h4, h1⟩
            have hK10 : Blk (w3.alloc (.cells #[.int .i64 ro, .int .i64 rd, .string rn] 30)) W.heap.size #[.int .i64 0, .int .i64 0, .string ⟨#[]⟩] 30 := HK3.out.alloc _
            have HK10 : Hid (Blk (w3.alloc (.cells #[.int .i64 ro, .int .i64 rd, .string rn] 30)) W.heap.size #[.int .i64 0, .int .i64 0, .string ⟨#[]⟩] 30) := hK10
            have HB10 : Hid (Below W.heap.size W (w3.alloc (.cells #[.int .i64 ro, .int .i64 rd, .string rn] 30))) := HB3.out.alloc (by have := HSZ.out; have := HSZ3.out; omega) _
            have r0 := hK10.cell 0
            have r1 := hK10.cell 1
            have r2 := hK10.cell 2
            have z0 := hK10.free 0
            have z1 := hK10.free 1
            have z2 := hK10.free 2
            have hlt10 := hK10.lt
            have hne10 : ¬ W.heap.size = w3.heap.size := by have := HSZ.out; have := HSZ3.out; omega
            clear hK10
            go_wp2
            generalize (w3.alloc (.cells #[.int .i64 ro, .int .i64 rd, .string rn] 30)) = w10 at *
            generalize hW : ((w10.setCell ⟨W.heap.size, 0, none⟩ (.int .i64 ro)).setCell ⟨W.heap.size, 1, none⟩ (.int .i64 rd)).setCell ⟨W.heap.size, 2, none⟩ (.string rn) = W9
            obtain ⟨hb9, ho9, hs9, hB9⟩ := fd_cells HK10.out ro rd rn hW
            have hc9 := hb9.cell
            exact bodyPost_ret (v := .tuple #[.agg #[.int .i64 ro, .int .i64 rd, .string rn], .int .i64 re]) (by simp [results, Tryd.results9, go_sem, hc9]) rfl ⟨by rw [HRE.out.1, HRE.out.2.1, HRE.out.2.2.1, HRE.out.2.2.2], HB10.out.trans (hB9 _ (Nat.le_refl _))⟩
          | false =>
            by_cases h0 : re = 0
            · subst h0
              have HW3 : Hid (Wk w3 (W.heap.size + 1) (fun b => b < w3.heap.size ∧ b ≠ W.heap.size + 1) (.slice a L.length c) base fence follow rst) := HNX.out rfl rfl
              have HP3 : Hid (LkPI L (W.heap.size + 1) W1 (.slice a L.length c) base fence follow (⟨fo, fd, fn⟩, er) (w3.alloc (.cells #[.int .i64 ro, .int .i64 rd, .string rn] 30)) ∧ wkMu (W.heap.size + 1) (w3.alloc (.cells #[.int .i64 ro, .int .i64 rd, .string rn] 30)) < wkMu (W.heap.size + 1) wr) := by
                have hle := Lk.one_less (L := L) (base := base) (pos := pos) (fence := fence) (follow := follow) (part := part) (rest := rest) HH.out (by rw [H1E.out])
                have hsta := Lk.one_stand HTr.out HSTD.out (base := base) (fence := fence) (follow := follow) (by rw [H1E.out]) (by rw [H1E.out])
                have hgo := Lk.go_step (L := L) (base := base) (pos := pos) (fence := fence) (follow := follow) (part := part) (rest := rest) HH.out HM.out (by rw [H1E.out]) (by rw [H1E.out])
                rw [H1E.out] at hle hsta hgo
                dsimp only at hle hsta hgo
                have hgl3 : W.heap.size + 1 < w3.heap.size := by have := HSZ.out; have := HSZ3.out; omega
                have hwa : Wk (w3.alloc (.cells #[.int .i64 ro, .int .i64 rd, .string rn] 30)) (W.heap.size + 1) (fun b => b < (w3.alloc (.cells #[.int .i64 ro, .int .i64 rd, .string rn] 30)).heap.size ∧ b ≠ W.heap.size + 1) (.slice a L.length c) base fence follow rst := by
                  obtain ⟨v', h1, h2⟩ := HW3.out
                  exact ⟨v', h1.alloc _, Row.more (Row.on h2 ((On.alloc w3 _).less fun b hb => hb.1)) fun b hb => ⟨by simp; omega, hb.2⟩⟩
                refine ⟨⟨rst, hwa, ?_, hle.1, by have := HM.out; omega, hsta, by rw [HR.out, hgo]⟩, ?_⟩
                · have : Only (W.heap.size + 1) w3 (w3.alloc (.cells #[.int .i64 ro, .int .i64 rd, .string rn] 30)) := Only.below hgl3 ((Below.refl _ _).alloc (Nat.le_refl _) _)
                  exact HO3.out.trans this
                · rw [wkMu_of hwa, HMU.out]
                  exact hle.2
              clear HNX HW3
              go_wp2
              go_roundw
              case rel => exact HP3.out.1
              case measure => exact HP3.out.2
            · have h0' : (re != 0) = true := by simpa using h0
              have h00' : (re == 0) = false := by simpa using h0
              have HRE : Hid (fo = ro ∧ fd = rd ∧ fn = rn ∧ er = re) := by
                have h := HR.out
                rw [Lk.go_stop (Or.inr (by rw [H1E.out]; exact h0)), H1E.out] at h
                obtain ⟨hf, h1⟩ := Prod.mk.inj h
                obtain ⟨h2, h3, h4⟩ := Lk.Fd.mk.inj hf
                exact ⟨h2, h3, h4, h1⟩
              clear h0
              have hK10 : Blk (w3.alloc (.cells #[.int .i64 ro, .int .i64 rd, .string rn] 30)) W.heap.size #[.int .i64 0, .int .i64 0, .string ⟨#[]⟩] 30 := HK3.out.alloc _
              have HK10 : Hid (Blk (w3.alloc (.cells #[.int .i64 ro, .int .i64 rd, .string rn] 30)) W.heap.size #[.int .i64 0, .int .i64 0, .string ⟨#[]⟩] 30) := hK10
              have HB10 : Hid (Below W.heap.size W (w3.alloc (.cells #[.int .i64 ro, .int .i64 rd, .string rn] 30))) := HB3.out.alloc (by have := HSZ.out; have := HSZ3.out; omega) _
              have r0 := hK10.cell 0
              have r1 := hK10.cell 1
              have r2 := hK10.cell 2
              have z0 := hK10.free 0
              have z1 := hK10.free 1
              have z2 := hK10.free 2
              have hlt10 := hK10.lt
              have hne10 : ¬ W.heap.size = w3.heap.size := by have := HSZ.out; have := HSZ3.out; omega
              clear hK10
              go_wp2
              generalize (w3.alloc (.cells #[.int .i64 ro, .int .i64 rd, .string rn] 30)) = w10 at *
              generalize hW : ((w10.setCell ⟨W.heap.size, 0, none⟩ (.int .i64 ro)).setCell ⟨W.heap.size, 1, none⟩ (.int .i64 rd)).setCell ⟨W.heap.size, 2, none⟩ (.string rn) = W9
              obtain ⟨hb9, ho9, hs9, hB9⟩ := fd_cells HK10.out ro rd rn hW
              have hc9 := hb9.cell
              exact bodyPost_ret (v := .tuple #[.agg #[.int .i64 ro, .int .i64 rd, .string rn], .int .i64 re]) (by simp [results, Tryd.results9, go_sem, hc9]) rfl ⟨by rw [HRE.out.1, HRE.out.2.1, HRE.out.2.2.1, HRE.out.2.2.2], HB10.out.trans (hB9 _ (Nat.le_refl _))⟩
    · have hte : Lk.path L base s fence follow = (Lk.nilF, Lk.turnE s fence) := Lk.path_turn hn ht
      rw [hte]
      rw [hn] at HNB
      have hB1 : Below W.heap.size W (w0.alloc (.cells (wkC (.slice a L.length c) base fence follow base (.slice none 0 0) 0) 80)) := HB0.out.alloc (by omega) _
      have hK1 : Blk (w0.alloc (.cells (wkC (.slice a L.length c) base fence follow base (.slice none 0 0) 0) 80)) W.heap.size #[.int .i64 0, .int .i64 0, .string ⟨#[]⟩] 30 := HK0.out.alloc _
      have hG1 : Blk (w0.alloc (.cells (wkC (.slice a L.length c) base fence follow base (.slice none 0 0) 0) 80)) w0.heap.size (wkC (.slice a L.length c) base fence follow base (.slice none 0 0) 0) 80 := Blk.new w0 _ _
      have HTU : Hid (Calls Tryd.prog 27 #[.pointer (some ⟨w0.heap.size, 0, none⟩), .string s] (w0.alloc (.cells (wkC (.slice a L.length c) base fence follow base (.slice none 0 0) 0) 80)) fun e w' => e = .returned (.int .i64 (Lk.turnE s fence)) ∧ Only w0.heap.size (w0.alloc (.cells (wkC (.slice a L.length c) base fence follow base (.slice none 0 0) 0) 80)) w') := (turn_any s mm hs w0.heap.size (.slice a L.length c) (.slice none 0 0) base base 0 fence follow [] (fun _ => False) _ hG1 (H00.out _ hB1) (Row.nil _ _ _ _ _) (fun b hb => absurd hb id) (Nat.zero_le _)).mono fun e w' h => ⟨h.1, h.2.1⟩
      rw [hs0] at HTU
      have HB1 : Hid (Below W.heap.size W (w0.alloc (.cells #[.slice a L.length c, .int .i64 base, .bool fence, .bool follow, .int .i64 base, .slice none 0 0, .int .i64 0] 80))) := hB1
      have HK1 : Hid (Blk (w0.alloc (.cells #[.slice a L.length c, .int .i64 base, .bool fence, .bool follow, .int .i64 base, .slice none 0 0, .int .i64 0] 80)) W.heap.size #[.int .i64 0, .int .i64 0, .string ⟨#[]⟩] 30) := hK1
      have HZ1 : Hid ((w0.alloc (.cells #[.slice a L.length c, .int .i64 base, .bool fence, .bool follow, .int .i64 base, .slice none 0 0, .int .i64 0] 80)).heap.size = W.heap.size + 2) := by unfold Hid; simp; omega
      have ht' : (Lk.turnE s fence != 0) = true := by simpa using ht
      clear hB1 hK1 hG1 hte hn ht r0 r1 r2 z0 z1 z2
      unfold wkC at HTU
      unfold fdV
      generalize Lk.turnE s fence = te at *
      go_enter Tryd.func9, Tryd.ntmps9
      go_wp2_with fail
      rw [← HW.out]
      refine Calls.mono HNB.out ?_
      rintro e w1 ⟨rfl, hw1⟩
      rw [hw1]
      clear hw1 HNB
      go_wp2_with fail
      generalize (w0.alloc (.cells #[.slice a L.length c, .int .i64 base, .bool fence, .bool follow, .int .i64 base, .slice none 0 0, .int .i64 0] 80)) = W1 at *
      refine Calls.mono HTU.out ?_
      rintro e w2 ⟨rfl, ho2⟩
      have hK2 : Blk w2 W.heap.size #[.int .i64 0, .int .i64 0, .string ⟨#[]⟩] 30 := HK1.out.on ho2.1 ⟨HK1.out.lt, by omega⟩
      have HK2 : Hid (Blk w2 W.heap.size #[.int .i64 0, .int .i64 0, .string ⟨#[]⟩] 30) := hK2
      have HB2 : Hid (Below W.heap.size W w2) := HB1.out.trans (ho2.2.2 _ (by omega))
      have r0 := hK2.cell 0
      have r1 := hK2.cell 1
      have r2 := hK2.cell 2
      have z0 := hK2.free 0
      have z1 := hK2.free 1
      have z2 := hK2.free 2
      have hlt2 := hK2.lt
      clear ho2 hK2 HTU
      go_wp2
      generalize hW : ((w2.setCell ⟨W.heap.size, 0, none⟩ (.int .i64 0)).setCell ⟨W.heap.size, 1, none⟩ (.int .i64 0)).setCell ⟨W.heap.size, 2, none⟩ (.string ⟨#[]⟩) = W9
      obtain ⟨hb9, ho9, hs9, hB9⟩ := fd_cells HK2.out 0 0 ⟨#[]⟩ hW
      have hc9 := hb9.cell
      exact bodyPost_ret (v := .tuple #[.agg #[.int .i64 0, .int .i64 0, .string ⟨#[]⟩], .int .i64 te]) (by simp [results, Tryd.results9, go_sem, hc9]) rfl ⟨rfl, HB2.out.trans (hB9 _ (Nat.le_refl _))⟩
  · rw [Lk.path_base hn]
    have hn' : (Sp.noDir L base != 0) = true := by simpa using hn
    clear hn
    unfold fdV
    generalize Sp.noDir L base = nd at *
    have hlt0 := HK0.out.lt
    go_enter Tryd.func9, Tryd.ntmps9
    go_wp2_with fail
    rw [← HW.out]
    refine Calls.mono HNB.out ?_
    rintro e w1 ⟨rfl, hw1⟩
    rw [hw1]
    clear hw1 HNB
    go_wp2
    generalize hW : ((w0.setCell ⟨W.heap.size, 0, none⟩ (.int .i64 0)).setCell ⟨W.heap.size, 1, none⟩ (.int .i64 0)).setCell ⟨W.heap.size, 2, none⟩ (.string ⟨#[]⟩) = W9
    obtain ⟨hb9, ho9, hs9, hB9⟩ := fd_cells HK0.out 0 0 ⟨#[]⟩ hW
    have hc9 := hb9.cell
    exact bodyPost_ret (v := .tuple #[.agg #[.int .i64 0, .int .i64 0, .string ⟨#[]⟩], .int .i64 nd]) (by simp [results, Tryd.results9, go_sem, hc9]) rfl ⟨rfl, HB0.out.trans (hB9 _ (Nat.le_refl _))⟩
end Go.Proofs.YtfiiandnopifnaaDoor
/-
  Inside as outside, and nothing leads out: plain facts.
-/
namespace Go.Proofs.YtfiiandnopifnaaDoor
open Go.RowKit
namespace Lk
theorem turnE_same (s : ByteArray) : turnE s true = turnE s false ∨ turnE s true = 14 := by
  unfold turnE
  by_cases h0 : splitE s ≠ 0
  · rw [if_pos h0, if_pos h0]; exact Or.inl rfl
  · rw [if_neg h0, if_neg h0]
    by_cases hr : Pt.root s.data.toList = true
    · rw [if_pos ⟨hr, rfl⟩]; exact Or.inr rfl
    · rw [if_neg (fun h => hr h.1), if_neg (fun h => hr h.1)]; exact Or.inl rfl
theorem through_same (s : ByteArray) (hops : Nat) : throughE s true hops = throughE s false hops ∨ throughE s true hops = 14 := by
  unfold throughE
  by_cases h : 6 ≤ hops
  · rw [if_pos h, if_pos h]; exact Or.inl rfl
  · rw [if_neg h, if_neg h]; exact turnE_same s
theorem one_same (L : List Sp.Ob) (base : Int) (follow : Bool) (pos : Int) (part : ByteArray) (rest : List ByteArray) (hops : Nat) : one L base true follow pos part rest hops = one L base false follow pos part rest hops ∨ (one L base true follow pos part rest hops).err = 14 := by
  unfold one
  by_cases c1 : isK L pos 2 = false
  · rw [if_pos c1, if_pos c1]; exact Or.inl rfl
  · rw [if_neg c1, if_neg c1]
    by_cases c2 : isUp part = true
    · rw [if_pos c2, if_pos c2]
      by_cases hb : pos = base
      · refine Or.inr ?_
        show riseE base true pos = 14
        exact if_pos ⟨rfl, hb⟩
      · refine Or.inl ?_
        unfold riseE riseA
        rw [if_neg (fun h => hb h.2), if_neg (fun h => hb h.2), if_neg (fun h => hb h.2), if_neg (fun h => hb h.2)]
    · rw [if_neg c2, if_neg c2]
      by_cases c3 : isK L (Sp.find L pos part) 3 = true ∧ (follow = true ∨ rest ≠ [])
      · rw [if_pos c3, if_pos c3]
        rcases through_same (trg L (Sp.find L pos part)) hops with h | h
        · rw [h]; exact Or.inl rfl
        · exact Or.inr h
      · rw [if_neg c3, if_neg c3]
        exact Or.inl rfl
theorem go_same (L : List Sp.Ob) (base : Int) (follow : Bool) : ∀ (n : Nat) (st : St), go L base true follow n st = go L base false follow n st ∨ (go L base true follow n st).2 = 14
  | 0, _ => Or.inl rfl
  | n + 1, ⟨pos, [], hops⟩ => Or.inl rfl
  | n + 1, ⟨pos, part :: rest, hops⟩ => by
    unfold go
    dsimp only
    rcases one_same L base follow pos part rest hops with h | h
    · rw [h]
      by_cases c : (one L base false follow pos part rest hops).done = true ∨ (one L base false follow pos part rest hops).err ≠ 0
      · rw [if_pos c, if_pos c]; exact Or.inl rfl
      · rw [if_neg c, if_neg c]; exact go_same L base follow n _
    · refine Or.inr ?_
      rw [if_pos (Or.inr (by rw [h]; decide))]
      exact h
theorem path_same (L : List Sp.Ob) (base : Int) (s : ByteArray) (follow : Bool) : path L base s true follow = path L base s false follow ∨ (path L base s true follow).2 = 14 := by
  by_cases h0 : Sp.noDir L base = 0
  · rcases turnE_same s with h | h
    · by_cases ht : turnE s false = 0
      · rw [path_go h0 (by rw [h]; exact ht), path_go h0 ht]
        exact go_same L base follow _ _
      · rw [path_turn h0 (by rw [h]; exact ht), path_turn h0 ht, h]; exact Or.inl rfl
    · refine Or.inr ?_
      rw [path_turn h0 (by rw [h]; decide)]
      exact h
  · rw [path_base h0, path_base h0]; exact Or.inl rfl
/-- What a path inside a fence comes to lies beneath. -/
def Under (L : List Sp.Ob) (base : Int) (r : Fd × Int) : Prop :=
  (r.2 ≠ 0 → r.1 = nilF) ∧ (r.2 = 0 → ((r.1.name.toList == []) = true ∧ ben L base L.length r.1.obj = true) ∨ ((r.1.name.toList == []) = false ∧ ben L base L.length r.1.dir = true ∧ r.1.obj = Sp.find L r.1.dir r.1.name))
theorem one_err {L : List Sp.Ob} {base pos : Int} {fence follow : Bool} {part : ByteArray} {rest : List ByteArray} {hops : Nat} (h : (one L base fence follow pos part rest hops).err ≠ 0) : (one L base fence follow pos part rest hops).fd = nilF := by
  unfold one at h ⊢
  by_cases c1 : isK L pos 2 = false
  · rw [if_pos c1]
  · rw [if_neg c1] at h ⊢
    by_cases c2 : isUp part = true
    · rw [if_pos c2]
    · rw [if_neg c2] at h ⊢
      by_cases c3 : isK L (Sp.find L pos part) 3 = true ∧ (follow = true ∨ rest ≠ [])
      · rw [if_pos c3]
      · rw [if_neg c3] at h ⊢
        by_cases c4 : rest = []
        · rw [if_pos c4] at h; exact absurd rfl h
        · rw [if_neg c4]
          by_cases c5 : Sp.find L pos part < 0
          · rw [if_pos c5]
          · rw [if_neg c5]
theorem parts_ne (s : ByteArray) : ∀ p ∈ partsB s, (p.toList == []) = false := fun p hp => by
  have h := (List.mem_filter.1 hp).2
  have := (Pt.keep_ne (x := p.data.toList) h).1
  rw [toList_beq, decide_eq_false_iff_not]
  exact this
theorem ben_down {L : List Sp.Ob} (hT : Sp.TOk L) {base : Int} {i : Nat} {o : Sp.Ob} (hx : L[i]? = some o) (hk : o.kind = 2) {name : ByteArray} (hb : ben L base L.length (i : Int) = true) (_hf : 0 ≤ Sp.find L (i : Int) name) (h2 : isK L (Sp.find L (i : Int) name) 2 = true) : ben L base L.length (Sp.find L (i : Int) name) = true := by
  obtain ⟨j, oj, hj, hxj, hkj⟩ := isK_some h2
  rw [hj]
  have hlead : i < j ∧ oj.up = (i : Int) := by
    unfold Sp.find at hj
    rw [objAt_of hx (by rw [hk]; decide)] at hj
    dsimp only at hj
    rw [if_pos hk] at hj
    cases hfd : o.ents.find? (fun e => Sp.eqB e.name name) with
    | none => rw [hfd] at hj; exact absurd hj (by dsimp only; omega)
    | some e =>
      rw [hfd] at hj
      dsimp only at hj
      obtain ⟨j', oj', h1, h3, h4, _, h5, _⟩ := (hT.all i o hx).leads e (List.mem_of_find?_eq_some hfd)
      obtain rfl : j' = j := by omega
      rw [hxj] at h4
      cases h4
      exact ⟨h3, h5 hkj⟩
  by_cases hbs : (j : Int) = base
  · obtain ⟨k, hk'⟩ : ∃ k, L.length = k + 1 := ⟨L.length - 1, by have := (List.getElem?_eq_some_iff.1 hxj).1; omega⟩
    rw [hk', ben_succ hxj hkj, if_pos hbs]
  · rw [ben_step (ups_of hT) hxj hkj hbs (by omega), hlead.2]
    exact hb
theorem go_under {L : List Sp.Ob} (hT : Sp.TOk L) (base : Int) (follow : Bool) : ∀ (n : Nat) (st : St), mu st < n → st.hops ≤ 6 → Stand L st → (isK L st.pos 2 = true → ben L base L.length st.pos = true) → (∀ p ∈ st.left, (p.toList == []) = false) → Under L base (go L base true follow n st)
  | 0, _, h, _, _, _, _ => absurd h (Nat.not_lt_zero _)
  | n + 1, ⟨pos, [], hops⟩, _, _, hs, hb, _ => ⟨fun h => absurd rfl h, fun _ => Or.inl ⟨by show ((⟨#[]⟩ : ByteArray).toList == []) = true; rw [toList_beq]; decide, hb (hs.2 rfl)⟩⟩
  | n + 1, ⟨pos, part :: rest, hops⟩, hm, hh, hs, hb, hp => by
    unfold go
    dsimp only
    by_cases c : (one L base true follow pos part rest hops).done = true ∨ (one L base true follow pos part rest hops).err ≠ 0
    · rw [if_pos c]
      refine ⟨fun h => one_err h, fun h => ?_⟩
      have hd : (one L base true follow pos part rest hops).done = true := by rcases c with c | c; exact c; exact absurd h c
      refine Or.inr ?_
      dsimp only at h ⊢
      unfold one at hd h ⊢
      by_cases c1 : isK L pos 2 = false
      · rw [if_pos c1] at hd; exact absurd hd (show ¬ (false = true) by decide)
      · rw [if_neg c1] at hd ⊢
        by_cases c2 : isUp part = true
        · rw [if_pos c2] at hd; exact absurd hd (show ¬ (false = true) by decide)
        · rw [if_neg c2] at hd ⊢
          by_cases c3 : isK L (Sp.find L pos part) 3 = true ∧ (follow = true ∨ rest ≠ [])
          · rw [if_pos c3] at hd; exact absurd hd (show ¬ (false = true) by decide)
          · rw [if_neg c3] at hd ⊢
            by_cases c4 : rest = []
            · rw [if_pos c4]
              have c1' : isK L pos 2 = true := by cases h : isK L pos 2 with | true => rfl | false => exact absurd h c1
              exact ⟨hp part List.mem_cons_self, hb c1', rfl⟩
            · rw [if_neg c4] at hd
              by_cases c5 : Sp.find L pos part < 0
              · rw [if_pos c5] at hd; exact absurd hd (show ¬ (false = true) by decide)
              · rw [if_neg c5] at hd; exact absurd hd (show ¬ (false = true) by decide)
    · rw [if_neg c]
      have he : (one L base true follow pos part rest hops).err = 0 := Classical.byContradiction fun h => c (Or.inr h)
      have hd : (one L base true follow pos part rest hops).done = false := by
        cases h : (one L base true follow pos part rest hops).done with
        | false => rfl
        | true => exact absurd (Or.inl h) c
      obtain ⟨g1, g2⟩ := one_less hh he
      have hst := one_stand (tree_of hT) hs he hd
      refine go_under hT base follow n _ (Nat.lt_of_lt_of_le g2 (Nat.lt_succ_iff.1 hm)) g1 hst ?_ ?_
      · intro hk2
        unfold one at he hd hk2 ⊢
        by_cases c1 : isK L pos 2 = false
        · rw [if_pos c1] at he; exact absurd he (show ¬ ((11 : Int) = 0) by decide)
        · have c1' : isK L pos 2 = true := by cases h : isK L pos 2 with | true => rfl | false => exact absurd h c1
          obtain ⟨i, o, hi, hx, hk⟩ := isK_some c1'
          rw [if_neg c1] at he hd hk2 ⊢
          by_cases c2 : isUp part = true
          · rw [if_pos c2] at he hd hk2 ⊢
            have hnb : ¬ (true = true ∧ pos = base) := fun h => by
              have : riseE base true pos = 14 := if_pos h
              rw [show riseE base true pos = 0 from he] at this
              exact absurd this (by decide)
            show ben L base L.length (riseA base true pos (upOf L pos)) = true
            unfold riseA
            rw [if_neg hnb]
            have hb' := hb c1'
            dsimp only at hb' hi
            rw [hi] at hb' hnb ⊢
            have hbs : (i : Int) ≠ base := fun h => hnb ⟨rfl, h⟩
            have h0 : (i : Int) ≠ 0 := fun h0 => by
              obtain ⟨k, hk'⟩ : ∃ k, L.length = k + 1 := ⟨L.length - 1, by have := (List.getElem?_eq_some_iff.1 hx).1; omega⟩
              rw [hk', ben_succ hx hk, if_neg hbs, if_pos h0] at hb'
              exact absurd hb' (by decide)
            rw [upOf_nat hx, ← ben_step (ups_of hT) hx hk hbs h0]
            exact hb'
          · rw [if_neg c2] at he hd hk2 ⊢
            by_cases c3 : isK L (Sp.find L pos part) 3 = true ∧ (follow = true ∨ rest ≠ [])
            · rw [if_pos c3] at he hd hk2 ⊢
              have ht := (throughE_zero (show throughE (trg L (Sp.find L pos part)) true hops = 0 from he)).2
              have hnr : Pt.root (trg L (Sp.find L pos part)).data.toList = true → False := fun hr => by
                unfold turnE at ht
                have h0 := turnE_split (s := trg L (Sp.find L pos part)) (fence := true) (by unfold turnE; exact ht)
                rw [if_neg (by rw [h0]; decide), if_pos ⟨hr, rfl⟩] at ht
                exact absurd ht (by decide)
              show ben L base L.length (turnA (trg L (Sp.find L pos part)) pos) = true
              unfold turnA
              rw [if_neg hnr]
              exact hb c1'
            · rw [if_neg c3] at he hd hk2 ⊢
              by_cases c4 : rest = []
              · rw [if_pos c4] at hd; exact absurd hd (show ¬ (true = false) by decide)
              · rw [if_neg c4] at he hd hk2 ⊢
                by_cases c5 : Sp.find L pos part < 0
                · rw [if_pos c5] at he; exact absurd he (show ¬ ((6 : Int) = 0) by decide)
                · rw [if_neg c5] at he hd hk2 ⊢
                  have hb' := hb c1'
                  dsimp only at hb' hi hk2 ⊢
                  rw [hi] at hb' c5 hk2 ⊢
                  exact ben_down hT hx hk hb' (by omega) hk2
      · intro p hp'
        have hrest : ∀ q ∈ rest, (q.toList == []) = false := fun q hq => hp q (List.mem_cons_of_mem _ hq)
        unfold one at hp'
        by_cases c1 : isK L pos 2 = false
        · rw [if_pos c1] at hp'; exact hrest p hp'
        · rw [if_neg c1] at hp'
          by_cases c2 : isUp part = true
          · rw [if_pos c2] at hp'; exact hrest p hp'
          · rw [if_neg c2] at hp'
            by_cases c3 : isK L (Sp.find L pos part) 3 = true ∧ (follow = true ∨ rest ≠ [])
            · rw [if_pos c3] at hp'
              rcases List.mem_append.1 hp' with h | h
              · exact parts_ne _ p h
              · exact hrest p h
            · rw [if_neg c3] at hp'
              by_cases c4 : rest = []
              · rw [if_pos c4] at hp'; exact hrest p hp'
              · rw [if_neg c4] at hp'
                by_cases c5 : Sp.find L pos part < 0
                · rw [if_pos c5] at hp'; exact hrest p hp'
                · rw [if_neg c5] at hp'; exact hrest p hp'
theorem path_under {L : List Sp.Ob} (hT : Sp.TOk L) (base : Int) (s : ByteArray) (follow : Bool) : Under L base (path L base s true follow) := by
  by_cases h0 : Sp.noDir L base = 0
  · by_cases ht : turnE s true = 0
    · rw [path_go h0 ht]
      have hnr : Pt.root s.data.toList = true → False := fun hr => by
        have h1 := turnE_split ht
        unfold turnE at ht
        rw [if_neg (by rw [h1]; decide), if_pos ⟨hr, rfl⟩] at ht
        exact absurd ht (by decide)
      have hta : turnA s base = base := if_neg hnr
      have hpl := partsB_len s (turnE_split ht)
      refine go_under hT base follow 1000 _ (by unfold mu; dsimp only; omega) (Nat.zero_le _) (start_stand (tree_of hT) s h0) ?_ (parts_ne s)
      intro _
      dsimp only
      rw [hta]
      obtain ⟨n, o, rfl, hx, hk, _⟩ := noDir_zero h0
      obtain ⟨k, hk'⟩ : ∃ k, L.length = k + 1 := ⟨L.length - 1, by have := (List.getElem?_eq_some_iff.1 hx).1; omega⟩
      rw [hk', ben_succ hx hk, if_pos rfl]
    · rw [path_turn h0 ht]
      exact ⟨fun _ => rfl, fun h => absurd h ht⟩
  · rw [path_base h0]
    exact ⟨fun _ => rfl, fun h => absurd h h0⟩
end Lk
end Go.Proofs.YtfiiandnopifnaaDoor
/-
  rglaw6.alive, walked.
-/
namespace Go.Proofs.YtfiiandnopifnaaDoor
open Go.RowKit
namespace Lk
theorem parts_of {s : ByteArray} {xs : List ByteArray} (h : Pt.parts s.data.toList = xs.map (·.data.toList)) : partsB s = xs := by
  have h1 := partsB_data s
  rw [h] at h1
  have : ∀ (a b : List ByteArray), a.map (·.data.toList) = b.map (·.data.toList) → a = b := by
    intro a
    induction a with
    | nil => intro b hb; cases b with | nil => rfl | cons y t => simp at hb
    | cons x r ih =>
      intro b hb
      cases b with
      | nil => simp at hb
      | cons y t =>
        rw [List.map_cons, List.map_cons] at hb
        obtain ⟨e1, e2⟩ := List.cons.inj hb
        rw [Pt.bytes_ext e1, ih t e2]
  exact this _ _ h1
def p1 : ByteArray := ⟨#[98, 47, 46, 46, 47, 98, 47, 102]⟩
theorem p1_parts : partsB p1 = [nB, ⟨#[46, 46]⟩, nB, nF] := parts_of (by decide)
theorem nL_parts : partsB nL = [nL] := parts_of (by decide)
theorem tg_parts : partsB ⟨#[46, 46, 47, 120]⟩ = [⟨#[46, 46]⟩, ⟨#[120]⟩] := parts_of (by decide)
theorem t4_path1 : path t4 1 p1 true true = (⟨3, 2, nF⟩, 0) := by
  unfold path
  rw [if_neg (by decide), if_neg (by decide), p1_parts, show turnA p1 1 = 1 by decide]
  kernel_rfl
theorem t4_path2 : path t4 1 nL true true = (nilF, 14) := by
  unfold path
  rw [if_neg (by decide), if_neg (by decide), nL_parts, show turnA nL 1 = 1 by decide]
  kernel_rfl
theorem t4_path3 : path t4 1 nL false true = (⟨-1, 0, ⟨#[120]⟩⟩, 0) := by
  unfold path
  rw [if_neg (by decide), if_neg (by decide), nL_parts, show turnA nL 1 = 1 by decide]
  kernel_rfl
theorem t4_ben : ben t4 1 5 2 = true ∧ ben t4 1 5 0 = false := by decide +kernel
theorem t4_cases {n : Nat} {o : Sp.Ob} (h : t4[n]? = some o) : n < 5 := (List.getElem?_eq_some_iff.1 h).1
theorem t4_tree : Tree t4 := by
  refine ⟨by decide, ?_, ?_, ?_⟩
  · intro n o h hk
    have hn := t4_cases h
    match n, hn, h with
    | 0, _, h => cases h; decide
    | 1, _, h => cases h; decide
    | 2, _, h => cases h; decide
    | 3, _, h => cases h; exact absurd hk (by decide)
    | 4, _, h => cases h; exact absurd hk (by decide)
  · intro n o h hk e he
    have hn := t4_cases h
    match n, hn, h with
    | 0, _, h => cases h; simp [rootA] at he; subst he; exact ⟨1, _, rfl, rfl⟩
    | 1, _, h =>
      cases h
      simp at he
      rcases he with rfl | rfl
      · exact ⟨2, _, rfl, rfl⟩
      · exact ⟨4, _, rfl, rfl⟩
    | 2, _, h => cases h; simp at he; subst he; exact ⟨3, _, rfl, rfl⟩
    | 3, _, h => cases h; exact absurd hk (by decide)
    | 4, _, h => cases h; exact absurd hk (by decide)
  · intro o ho
    have : o.target.size ≤ 4 := by
      simp [t4] at ho
      rcases ho with rfl | rfl | rfl | rfl | rfl <;> decide
    unfold maxLen
    omega
end Lk
set_option maxRecDepth 100000 in
set_option maxHeartbeats 8000000 in
theorem alive6_any (mm : Int) (w : World) (h00 : w.cell? ⟨0, 0, none⟩ = some (.int .i64 mm)) (hw0 : 0 < w.heap.size) :
    Calls Tryd.prog 13 #[] w fun e w' => e = .returned (.bool true) ∧ Below w.heap.size w w' := by
  have HTREE : Hid (∀ w', Below w.heap.size w w' → Calls Tryd.prog 19 #[] w' fun e w'' => ∃ a c, e = .returned (.slice a 5 c) ∧ Objs w'' (fun b => b < w''.heap.size) (.slice a 5 c) Lk.t4 ∧ Below w'.heap.size w' w'' ∧ Below w.heap.size w w'') := fun w' h => (tree_any w').mono fun e w'' ⟨a, c, h1, h2, h3⟩ => ⟨a, c, h1, h2.more fun b hb => hb.2, h3, h.trans (h3.mono h.size)⟩
  have HPATH : Hid (∀ (a : Option Addr) (c : Nat) (s : ByteArray) (fence : Bool) (r : Lk.Fd × Int) (w' : World), s.size ≤ maxLen → Lk.path Lk.t4 1 s fence true = r → Objs w' (fun b => b < w'.heap.size) (.slice a 5 c) Lk.t4 → Below w.heap.size w w' → Calls Tryd.prog 9 #[.slice a 5 c, .int .i64 1, .string s, .bool fence, .bool true] w' fun e w'' => e = .returned (.tuple #[.agg #[.int .i64 r.1.obj, .int .i64 r.1.dir, .string r.1.name], .int .i64 r.2]) ∧ Below w'.heap.size w' w'' ∧ Below w.heap.size w w'') := fun a c s fence r w' hs hr hO h => by
    subst hr
    refine (path_any Lk.t4 Lk.t4_tree s mm hs (.slice a 5 c) 1 fence true _ w' hO (fun b hb => hb) ?_ (Nat.lt_of_lt_of_le hw0 h.size)).mono fun e w'' ⟨h1, h2⟩ => ⟨h1, h2, h.trans (h2.mono h.size)⟩
    rw [h.cell (p := ⟨0, 0, none⟩) hw0]
    exact h00
  have HBEN : Hid (∀ (a : Option Addr) (c : Nat) (d : Int) (w' : World), Objs w' (fun b => b < w'.heap.size) (.slice a 5 c) Lk.t4 → Calls Tryd.prog 11 #[.slice a 5 c, .int .i64 d, .int .i64 1] w' fun e w'' => e = .returned (.bool (Lk.ben Lk.t4 1 5 d)) ∧ w'' = w') := fun a c d w' hO => beneath_any Lk.t4 d 1 _ _ w' hO
  clear h00 hw0
  go_enter Tryd.func13, Tryd.ntmps13
  go_wp2_with fail
  refine Calls.mono (HTREE.out w (Below.refl _ _)) ?_
  rintro e w1 ⟨a1, c1, rfl, hO1, -, hb1⟩
  have HP1 : Hid _ := HPATH.out a1 c1 Lk.p1 true _ w1 (by decide) Lk.t4_path1 hO1 hb1
  clear hO1 hb1
  go_wp2_with fail
  refine Calls.mono HP1.out ?_
  rintro e w2 ⟨rfl, -, hb2⟩
  dsimp only
  have HB2 : Hid (Below w.heap.size w (w2.alloc (.cells #[.int .i64 3, .int .i64 2, .string Lk.nF] 30))) := hb2.alloc hb2.size _
  have HK2 : Hid (Blk (w2.alloc (.cells #[.int .i64 3, .int .i64 2, .string Lk.nF] 30)) w2.heap.size #[.int .i64 3, .int .i64 2, .string Lk.nF] 30) := Blk.new _ _ _
  have hz2 : (w2.alloc (.cells #[.int .i64 3, .int .i64 2, .string Lk.nF] 30)).heap.size = w2.heap.size + 1 := by simp
  clear hb2 HP1
  go_wp2_with fail
  generalize (w2.alloc (.cells #[.int .i64 3, .int .i64 2, .string Lk.nF] 30)) = w3 at *
  refine Calls.mono (HTREE.out w3 HB2.out) ?_
  rintro e w4 ⟨a4, c4, rfl, hO4, hb34, hb4⟩
  have HK4 : Hid (Blk w4 w2.heap.size #[.int .i64 3, .int .i64 2, .string Lk.nF] 30) := HK2.out.below hb34 HK2.out.lt
  have HP4 : Hid _ := HPATH.out a4 c4 Lk.nL true _ w4 (by decide) Lk.t4_path2 hO4 hb4
  clear hO4 hb4 hb34 HK2 HB2
  go_wp2_with fail
  refine Calls.mono HP4.out ?_
  rintro e w5 ⟨rfl, hb45, hb5⟩
  dsimp only
  have HK5 : Hid (Blk w5 w2.heap.size #[.int .i64 3, .int .i64 2, .string Lk.nF] 30) := HK4.out.below hb45 HK4.out.lt
  have HB6 : Hid (Below w.heap.size w (w5.alloc (.cells #[.int .i64 0, .int .i64 0, .string ⟨#[]⟩] 30))) := hb5.alloc hb5.size _
  have HK6 : Hid (Blk (w5.alloc (.cells #[.int .i64 0, .int .i64 0, .string ⟨#[]⟩] 30)) w2.heap.size #[.int .i64 3, .int .i64 2, .string Lk.nF] 30) := HK5.out.alloc _
  clear hb45 hb5 HP4 HK4 HK5
  unfold Lk.nilF
  dsimp only
  go_wp2_with fail
  generalize (w5.alloc (.cells #[.int .i64 0, .int .i64 0, .string ⟨#[]⟩] 30)) = w6 at *
  refine Calls.mono (HTREE.out w6 HB6.out) ?_
  rintro e w7 ⟨a7, c7, rfl, hO7, hb67, hb7⟩
  have HK7 : Hid (Blk w7 w2.heap.size #[.int .i64 3, .int .i64 2, .string Lk.nF] 30) := HK6.out.below hb67 HK6.out.lt
  have HP7 : Hid _ := HPATH.out a7 c7 Lk.nL false _ w7 (by decide) Lk.t4_path3 hO7 hb7
  clear hO7 hb7 hb67 HK6 HB6
  go_wp2_with fail
  refine Calls.mono HP7.out ?_
  rintro e w8 ⟨rfl, hb78, hb8⟩
  dsimp only
  have hK8 : Blk w8 w2.heap.size #[.int .i64 3, .int .i64 2, .string Lk.nF] 30 := HK7.out.below hb78 HK7.out.lt
  have q0 := hK8.cell 0
  have q2 := hK8.cell 2
  have hl8 := hK8.lt
  have HB9 : Hid (Below w.heap.size w (w8.alloc (.cells #[.int .i64 (-1), .int .i64 0, .string ⟨#[120]⟩] 30))) := hb8.alloc hb8.size _
  have hnf : (Lk.nF.toList == [102]) = true := by decide +kernel
  clear hb78 hb8 HP7 HK7 hK8
  go_wp2_with fail
  generalize (w8.alloc (.cells #[.int .i64 (-1), .int .i64 0, .string ⟨#[120]⟩] 30)) = w9 at *
  refine Calls.mono (HTREE.out w9 HB9.out) ?_
  rintro e w10 ⟨a10, c10, rfl, hO10, -, hb10⟩
  have HB10 : Hid (Below w.heap.size w w10) := hb10
  have HBN : Hid _ := HBEN.out a10 c10 2 w10 hO10
  clear hO10 hb10
  go_wp2_with fail
  refine Calls.mono HBN.out ?_
  rintro e w11 ⟨rfl, hw⟩
  rw [hw, Lk.t4_ben.1]
  clear hw HBN
  go_wp2_with fail
  refine Calls.mono (HTREE.out w10 HB10.out) ?_
  rintro e w12 ⟨a12, c12, rfl, hO12, -, hb12⟩
  have HB12 : Hid (Below w.heap.size w w12) := hb12
  have HBN : Hid _ := HBEN.out a12 c12 0 w12 hO12
  clear hO12 hb12
  go_wp2_with fail
  refine Calls.mono HBN.out ?_
  rintro e w13 ⟨rfl, hw⟩
  rw [hw, Lk.t4_ben.2]
  clear hw HBN
  go_wp2
  go_ret
  exact ⟨rfl, HB12.out⟩
end Go.Proofs.YtfiiandnopifnaaDoor
/-
  LookSame, walked.
-/
namespace Go.Proofs.YtfiiandnopifnaaDoor
open Go.RowKit
theorem partFd_0 (a b : Int) (n : ByteArray) (w : World) : (part 3 #[.int .i64 a, .int .i64 b, .string n] 0).run Tryd.prog w = .ok (.int .i64 a) w := by kernel_rfl
theorem partFd_1 (a b : Int) (n : ByteArray) (w : World) : (part 3 #[.int .i64 a, .int .i64 b, .string n] 1).run Tryd.prog w = .ok (.int .i64 b) w := by kernel_rfl
theorem partFd_2 (a b : Int) (n : ByteArray) (w : World) : (part 9 #[.int .i64 a, .int .i64 b, .string n] 2).run Tryd.prog w = .ok (.string n) w := by kernel_rfl
theorem fieldsFd : Tryd.prog.underlying 30 = some (.struct (Tryd.prog.fieldsOf 30)) := by unfold Program.fieldsOf; rw [Tryd.underlying30]
theorem eqFound' (k : Nat) (a b : Int) (n : ByteArray) (w : World) : (Op.equalIn (k + 2) 30 (.agg #[.int .i64 a, .int .i64 b, .string n]) (.agg #[.int .i64 a, .int .i64 b, .string n])).run Tryd.prog w = .ok true w := by
  rw [run_equalIn_struct w (k + 1) 30 _ _ fieldsFd (by kernel_rfl)]
  unfold Program.fieldsOf
  rw [Tryd.underlying30]
  have q := fun (x y : Int) (w : World) => run_equalIn_int (P := Tryd.prog) w k 3 .i64 .i64 x y Tryd.underlying3
  have q' := fun (x y : ByteArray) (w : World) => run_equalIn_string (P := Tryd.prog) w k 9 x y Tryd.underlying9
  simp [Op.eqFields, partFd_0, partFd_1, partFd_2, q, q']
theorem eqFound (a b : Int) (n : ByteArray) (w : World) : (Op.equalIn 10000 30 (.agg #[.int .i64 a, .int .i64 b, .string n]) (.agg #[.int .i64 a, .int .i64 b, .string n])).run Tryd.prog w = .ok true w := eqFound' 9998 a b n w
theorem guardFd : Tryd.prog.eqGuardType Tryd.prog.depth 30 = false := by kernel_rfl
set_option maxRecDepth 100000 in
set_option maxHeartbeats 8000000 in
theorem lsame_any (l : List UInt8) (base : Int) (s : ByteArray) (follow : Bool) (mm : Int) (v : Value) (w : World) (hv : Bytes w (fun b => b < w.heap.size) v l) (hs : s.size ≤ maxLen) (h00 : w.cell? ⟨0, 0, none⟩ = some (.int .i64 mm)) (hw0 : 0 < w.heap.size) :
    Calls Tryd.prog 5 #[v, .int .i64 base, .string s, .bool follow] w fun e w' => e = .returned (.bool true) ∧ Below w.heap.size w w' := by
  obtain ⟨va, vc, rfl, -⟩ := Row.form hv
  rw [List.length_map] at hv ⊢
  have HV : Hid (Bytes w (fun b => b < w.heap.size) (.slice va l.length vc) l) := hv
  have HN : Hid (s.size ≤ maxLen) := hs
  have H00 : Hid (∀ w', Below w.heap.size w w' → w'.cell? ⟨0, 0, none⟩ = some (.int .i64 mm)) := fun w' h => by rw [h.cell (p := ⟨0, 0, none⟩) hw0]; exact h00
  have HW0 : Hid (0 < w.heap.size) := hw0
  have HAL : Hid (Calls Tryd.prog 13 #[] w fun e w' => e = .returned (.bool true) ∧ Below w.heap.size w w') := alive6_any mm w h00 hw0
  clear hv hs h00 hw0
  go_enter Tryd.func5, Tryd.ntmps5
  go_wp2_with fail
  refine Calls.mono HAL.out ?_
  rintro e w1 ⟨rfl, hb1⟩
  have HB1 : Hid (Below w.heap.size w w1) := hb1
  clear HAL hb1
  go_wp2_with fail
  refine (build_objs l (.slice va l.length vc) w1 ((Row.on HV.out (On.of HB1.out)).more fun b hb => Nat.lt_of_lt_of_le hb HB1.out.size)).mono ?_
  rintro e w2 ⟨a2, a3, a4, n3, n4, c2, c3, c4, L, rfl, hO, hT, hL, hb2⟩
  have hfk := fun (w : World) => fieldKL a2 a3 a4 L.length n3 n4 c2 c3 c4 w
  have HO2 : Hid (Objs w2 (fun b => b < w2.heap.size) (.slice a2 L.length c2) L) := hO
  have HT : Hid (Sp.TOk L) := hT
  have HB2 : Hid (Below w.heap.size w w2) := HB1.out.trans (hb2.mono HB1.out.size)
  have HSM := Lk.path_same L base s follow
  obtain ⟨R, hR⟩ : ∃ R, Lk.path L base s true follow = R := ⟨_, rfl⟩
  obtain ⟨R', hR'⟩ : ∃ R, Lk.path L base s false follow = R := ⟨_, rfl⟩
  have HP : ∀ (fence : Bool) w', Below w2.heap.size w2 w' → Calls Tryd.prog 9 #[.slice a2 L.length c2, .int .i64 base, .string s, .bool fence, .bool follow] w' fun e w'' => e = .returned (.tuple #[fdV (Lk.path L base s fence follow).1.obj (Lk.path L base s fence follow).1.dir (Lk.path L base s fence follow).1.name, .int .i64 (Lk.path L base s fence follow).2]) ∧ Below w'.heap.size w' w'' := fun fence w' h => path_any L (Lk.tree_of hT) s mm HN.out _ base fence follow _ w' (hO.on (On.of h)) (fun b hb => Nat.lt_of_lt_of_le hb h.size) (H00.out w' (HB2.out.trans (h.mono HB2.out.size))) (Nat.lt_of_lt_of_le HW0.out (Nat.le_trans HB2.out.size h.size))
  have HPT := HP true
  have HPF := HP false
  rw [hR] at HPT HSM
  rw [hR'] at HPF HSM
  obtain ⟨⟨fo, fd, fn⟩, er⟩ := R
  obtain ⟨⟨go', gd, gn⟩, er'⟩ := R'
  unfold fdV at HPT HPF
  have HPT : Hid _ := HPT
  have HPF : Hid _ := HPF
  have HSM : Hid _ := HSM
  clear hO hT hL hb2 HV hR hR' HP HB1
  go_wp2_with fail
  refine Calls.mono (HPT.out w2 (Below.refl _ _)) ?_
  rintro e w3 ⟨rfl, hb3⟩
  have HB3 : Hid (Below w2.heap.size w2 (w3.alloc (.cells #[.int .i64 fo, .int .i64 fd, .string fn] 30))) := hb3.alloc hb3.size _
  have hK4 : Blk (w3.alloc (.cells #[.int .i64 fo, .int .i64 fd, .string fn] 30)) w3.heap.size #[.int .i64 fo, .int .i64 fd, .string fn] 30 := Blk.new _ _ _
  have HK4 : Hid (Blk (w3.alloc (.cells #[.int .i64 fo, .int .i64 fd, .string fn] 30)) w3.heap.size #[.int .i64 fo, .int .i64 fd, .string fn] 30) := hK4
  have hz4 : (w3.alloc (.cells #[.int .i64 fo, .int .i64 fd, .string fn] 30)).heap.size = w3.heap.size + 1 := by simp
  clear hb3 hK4 hfk HPT
  dsimp only
  go_wp2_with fail
  generalize (w3.alloc (.cells #[.int .i64 fo, .int .i64 fd, .string fn] 30)) = w4 at *
  refine Calls.mono (HPF.out w4 HB3.out) ?_
  rintro e w5 ⟨rfl, hb5⟩
  dsimp only
  have hK5 : Blk w5 w3.heap.size #[.int .i64 fo, .int .i64 fd, .string fn] 30 := HK4.out.below hb5 HK4.out.lt
  have h50 := hK5.cell 0
  have h51 := hK5.cell 1
  have h52 := hK5.cell 2
  have hl5 := hK5.lt
  have HB5 : Hid (Below w2.heap.size w2 w5) := HB3.out.trans (hb5.mono HB3.out.size)
  have HB6 : Hid (Below w.heap.size w (w5.alloc (.cells #[.int .i64 go', .int .i64 gd, .string gn] 30))) := HB2.out.trans ((HB5.out.alloc HB5.out.size _).mono HB2.out.size)
  clear hb5 hK5 HPF HK4
  by_cases he : er = 0
  · have h1 : fo = go' ∧ fd = gd ∧ fn = gn ∧ er' = 0 := by
      rcases HSM.out with h | h
      · cases h; exact ⟨rfl, rfl, rfl, he⟩
      · exact absurd (show er = 14 from h) (by omega)
    obtain ⟨rfl, rfl, rfl, rfl⟩ := h1
    subst he
    have heq := fun (w : World) => eqFound fo fd fn w
    have hgq := guardFd
    clear HSM
    go_wp2
    go_ret
    exact ⟨by simp, HB6.out⟩
  · have he' : (er == 0) = false := by simpa using he
    have h1 : (er == 14) = true ∨ ((er == 14) = false ∧ (er == er') = true) := by
      by_cases h : er = 14
      · exact Or.inl (by simpa using h)
      · refine Or.inr ⟨by simpa using h, ?_⟩
        rcases HSM.out with h2 | h2
        · cases h2; simp
        · exact absurd (show er = 14 from h2) h
    clear HSM he
    rcases h1 with h1 | ⟨h1, h2⟩
    · go_wp2
      go_ret
      exact ⟨by simp, HB6.out⟩
    · go_wp2
      go_ret
      exact ⟨by simp, HB6.out⟩
end Go.Proofs.YtfiiandnopifnaaDoor
/-
  LookBeneath, walked.
-/
namespace Go.Proofs.YtfiiandnopifnaaDoor
open Go.RowKit
set_option maxRecDepth 100000 in
set_option maxHeartbeats 8000000 in
theorem lben_any (l : List UInt8) (base : Int) (s : ByteArray) (follow : Bool) (mm : Int) (v : Value) (w : World) (hv : Bytes w (fun b => b < w.heap.size) v l) (hs : s.size ≤ maxLen) (h00 : w.cell? ⟨0, 0, none⟩ = some (.int .i64 mm)) (hw0 : 0 < w.heap.size) :
    Calls Tryd.prog 4 #[v, .int .i64 base, .string s, .bool follow] w fun e w' => e = .returned (.bool true) ∧ Below w.heap.size w w' := by
  obtain ⟨va, vc, rfl, -⟩ := Row.form hv
  rw [List.length_map] at hv ⊢
  have HV : Hid (Bytes w (fun b => b < w.heap.size) (.slice va l.length vc) l) := hv
  have HN : Hid (s.size ≤ maxLen) := hs
  have H00 : Hid (∀ w', Below w.heap.size w w' → w'.cell? ⟨0, 0, none⟩ = some (.int .i64 mm)) := fun w' h => by rw [h.cell (p := ⟨0, 0, none⟩) hw0]; exact h00
  have HW0 : Hid (0 < w.heap.size) := hw0
  have HAL : Hid (Calls Tryd.prog 13 #[] w fun e w' => e = .returned (.bool true) ∧ Below w.heap.size w w') := alive6_any mm w h00 hw0
  clear hv hs h00 hw0
  go_enter Tryd.func4, Tryd.ntmps4
  go_wp2_with fail
  refine Calls.mono HAL.out ?_
  rintro e w1 ⟨rfl, hb1⟩
  have HB1 : Hid (Below w.heap.size w w1) := hb1
  clear HAL hb1
  go_wp2_with fail
  refine (build_objs l (.slice va l.length vc) w1 ((Row.on HV.out (On.of HB1.out)).more fun b hb => Nat.lt_of_lt_of_le hb HB1.out.size)).mono ?_
  rintro e w2 ⟨a2, a3, a4, n3, n4, c2, c3, c4, L, rfl, hO, hT, hL, hb2⟩
  have hfk := fun (w : World) => fieldKL a2 a3 a4 L.length n3 n4 c2 c3 c4 w
  have HO2 : Hid (Objs w2 (fun b => b < w2.heap.size) (.slice a2 L.length c2) L) := hO
  have HT : Hid (Sp.TOk L) := hT
  have HB2 : Hid (Below w.heap.size w w2) := HB1.out.trans (hb2.mono HB1.out.size)
  have HL : Hid (L.length ≤ 14) := hL
  have HUN := Lk.path_under hT base s follow
  have HRBEN : Hid (∀ (d : Int) w', Below w2.heap.size w2 w' → Calls Tryd.prog 12 #[.slice a2 L.length c2, .int .i64 d, .int .i64 base] w' fun e w'' => e = .returned (.bool (Lk.ben L base L.length d)) ∧ Below w'.heap.size w' w'') := fun d w' h => rben_any L (Lk.ups_of HT.out) (by have := HL.out; omega) d base _ _ w' (HO2.out.on (On.of h)) (fun b hb => Nat.lt_of_lt_of_le hb h.size)
  have HFIND : Hid (∀ (d : Int) (nm : ByteArray) w', Below w2.heap.size w2 w' → Calls Tryd.prog 14 #[.slice a2 L.length c2, .int .i64 d, .string nm] w' fun e w'' => e = .returned (.int .i64 (Sp.find L d nm)) ∧ Below w'.heap.size w' w'') := fun d nm w' h => rfind_any L d nm _ _ w' (HO2.out.on (On.of h)) (fun b hb => Nat.lt_of_lt_of_le hb h.size)
  obtain ⟨R, hR⟩ : ∃ R, Lk.path L base s true follow = R := ⟨_, rfl⟩
  have HPT := path_any L (Lk.tree_of hT) s mm HN.out (.slice a2 L.length c2) base true follow _ w2 HO2.out (fun b hb => hb) (H00.out w2 HB2.out) (Nat.lt_of_lt_of_le HW0.out HB2.out.size)
  rw [hR] at HPT HUN
  obtain ⟨⟨fo, fd, fn⟩, er⟩ := R
  unfold fdV at HPT
  unfold Lk.Under at HUN
  dsimp only at HUN
  have HPT : Hid _ := HPT
  have HUN : Hid ((er ≠ 0 → (⟨fo, fd, fn⟩ : Lk.Fd) = Lk.nilF) ∧ (er = 0 → ((fn.toList == []) = true ∧ Lk.ben L base L.length fo = true) ∨ ((fn.toList == []) = false ∧ Lk.ben L base L.length fd = true ∧ fo = Sp.find L fd fn))) := HUN
  clear hO hT hL hb2 HV hR HB1
  go_wp2_with fail
  refine Calls.mono HPT.out ?_
  rintro e w3 ⟨rfl, hb3⟩
  have HB4 : Hid (Below w2.heap.size w2 (w3.alloc (.cells #[.int .i64 fo, .int .i64 fd, .string fn] 30))) := hb3.alloc hb3.size _
  have HBW : Hid (Below w.heap.size w (w3.alloc (.cells #[.int .i64 fo, .int .i64 fd, .string fn] 30))) := HB2.out.trans (HB4.out.mono HB2.out.size)
  have hK4 : Blk (w3.alloc (.cells #[.int .i64 fo, .int .i64 fd, .string fn] 30)) w3.heap.size #[.int .i64 fo, .int .i64 fd, .string fn] 30 := Blk.new _ _ _
  have HK4 : Hid (Blk (w3.alloc (.cells #[.int .i64 fo, .int .i64 fd, .string fn] 30)) w3.heap.size #[.int .i64 fo, .int .i64 fd, .string fn] 30) := hK4
  clear hb3 hK4 hfk HPT
  dsimp only
  by_cases he : er = 0
  · subst he
    rcases HUN.out.2 rfl with ⟨hn, hb⟩ | ⟨hn, hb, hfo⟩
    · have HB : Hid (Lk.ben L base L.length fo = true) := hb
      clear hb HUN
      go_wp2_with fail
      refine Calls.mono (HRBEN.out fo _ HB4.out) ?_
      rintro e w5 ⟨rfl, hb5⟩
      have HB5 : Hid (Below w.heap.size w w5) := HBW.out.trans (hb5.mono HBW.out.size)
      rw [HB.out]
      clear hb5
      go_wp2
      go_ret
      exact ⟨rfl, HB5.out⟩
    · have HFO : Hid (fo = Sp.find L fd fn) := hfo
      have HRB : Hid (∀ w', Below w2.heap.size w2 w' → Calls Tryd.prog 12 #[.slice a2 L.length c2, .int .i64 fd, .int .i64 base] w' fun e w'' => e = .returned (.bool true) ∧ Below w'.heap.size w' w'') := fun w' h => by
        have := HRBEN.out fd w' h
        rw [hb] at this
        exact this
      have HFN : Hid (∀ w', Below w2.heap.size w2 w' → Calls Tryd.prog 14 #[.slice a2 L.length c2, .int .i64 fd, .string fn] w' fun e w'' => e = .returned (.int .i64 fo) ∧ Below w'.heap.size w' w'') := fun w' h => by
        have := HFIND.out fd fn w' h
        rw [← hfo] at this
        exact this
      have c0 := HK4.out.cell 0
      have c1 := HK4.out.cell 1
      have c2' := HK4.out.cell 2
      have hl4 := HK4.out.lt
      clear hb hfo HUN HRBEN HFIND
      go_wp2_with fail
      generalize (w3.alloc (.cells #[.int .i64 fo, .int .i64 fd, .string fn] 30)) = w4 at *
      have HS4 : Hid (∀ w', Below w4.heap.size w4 w' → w'.cell? ⟨w3.heap.size, 0, none⟩ = some (.int .i64 fo) ∧ w'.cell? ⟨w3.heap.size, 1, none⟩ = some (.int .i64 fd) ∧ w'.cell? ⟨w3.heap.size, 2, none⟩ = some (.string fn) ∧ Below w2.heap.size w2 w' ∧ Below w4.heap.size w4 w') := fun w' h => ⟨(h.cell (p := ⟨_, 0, none⟩) hl4).trans c0, (h.cell (p := ⟨_, 1, none⟩) hl4).trans c1, (h.cell (p := ⟨_, 2, none⟩) hl4).trans c2', HB4.out.trans (h.mono HB4.out.size), h⟩
      have HS0 := HS4.out w4.drew (Below.refl _ _).drew
      have HD4 : Hid (Below w4.heap.size w4 w4.drew) := (Below.refl _ _).drew
      have HRB4 : Hid (∀ w', Below w4.heap.size w4 w' → Calls Tryd.prog 12 #[.slice a2 L.length c2, .int .i64 fd, .int .i64 base] w' fun e w'' => e = .returned (.bool true) ∧ Below w4.heap.size w4 w'') := fun w' h => (HRB.out w' (HB4.out.trans (h.mono HB4.out.size))).mono fun e w'' h' => ⟨h'.1, h.trans (h'.2.mono h.size)⟩
      have HFN4 : Hid (∀ w', Below w4.heap.size w4 w' → Calls Tryd.prog 14 #[.slice a2 L.length c2, .int .i64 fd, .string fn] w' fun e w'' => e = .returned (.int .i64 fo) ∧ Below w4.heap.size w4 w'') := fun w' h => (HFN.out w' (HB4.out.trans (h.mono HB4.out.size))).mono fun e w'' h' => ⟨h'.1, h.trans (h'.2.mono h.size)⟩
      clear HRB HFN
      go_region_held3 (fun w' => w'.cell? ⟨w3.heap.size, 0, none⟩ = some (.int .i64 fo) ∧ w'.cell? ⟨w3.heap.size, 1, none⟩ = some (.int .i64 fd) ∧ w'.cell? ⟨w3.heap.size, 2, none⟩ = some (.string fn) ∧ Below w2.heap.size w2 w' ∧ Below w4.heap.size w4 w') (first | exact HS0 | exact HS4.out _ hb6 | exact HS4.out _ hb5) (first | (go_at_call 12; refine Calls.mono (HRB4.out _ HD4.out) ?_; rintro e w5 ⟨rfl, hb5⟩; go_wp2_with fail) | (go_at_call 14; refine Calls.mono (HFN4.out _ hb5) ?_; rintro e w6 ⟨rfl, hb6⟩; go_wp2_with fail))
      have HB6 : Hid (Below w.heap.size w w6) := HBW.out.trans (hb6.mono HBW.out.size)
      clear hb5 hb6 HS0 HS4
      go_wp2
      go_ret
      exact ⟨by simp, HB6.out⟩
  · obtain ⟨rfl, rfl, rfl⟩ := Lk.Fd.mk.inj (HUN.out.1 he)
    have he' : (er != 0) = true := by simpa using he
    have heq := fun (w : World) => eqFound 0 0 ⟨#[]⟩ w
    have hgq := guardFd
    clear he HUN
    go_wp2
    go_ret
    exact ⟨rfl, HBW.out⟩
end Go.Proofs.YtfiiandnopifnaaDoor
