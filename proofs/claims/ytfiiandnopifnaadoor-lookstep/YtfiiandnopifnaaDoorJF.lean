import Derived.Test.YtfiiandnopifnaaDoorJA
import Derived.Test.YtfiiandnopifnaaDoorLTree
import Derived.Lib.Join
import Derived.Test.YtfiiandnopifnaaDoorRFind
import Derived.Test.YtfiiandnopifnaaDoorRName
import Derived.Deep.Strs
/-
  look's walk: step.
-/
namespace Go.Proofs.YtfiiandnopifnaaDoor
open Go.RowKit
/-- What is left behind the first. -/
theorem row_tail {w : World} {S : Nat → Prop} {lb lo lc : Nat} {x : ByteArray} {rest : List ByteArray} (h : Row w S 1 (.slice (some ⟨lb, lo, none⟩) (rest.length + 1) lc) ((x :: rest).map tS)) : Row w S 1 (.slice (if lc = 1 then some ⟨lb, lo, none⟩ else some ⟨lb, lo + 1, none⟩) rest.length (lc - 1)) (rest.map tS) := by
  obtain ⟨b', o', c', h1, h2, h3, h4, h5⟩ := h.some (by simp)
  obtain ⟨e1, -, rfl⟩ := Value.slice.inj h1
  cases e1
  rw [List.length_map, List.length_cons] at h3
  cases rest with
  | nil => exact Row.nil _ _ _ _ _
  | cons y t =>
    rw [if_neg (by simp at h3; omega)]
    refine Or.inr ⟨lb, lo + 1, lc - 1, by simp, h2, by simp at h3 ⊢; omega, by omega, fun i cs hi j u hj => ?_⟩
    have := h5 (i + 1) cs (by rw [List.map_cons, List.getElem?_cons_succ]; exact hi) j u hj
    rw [show lo + 1 + i * 1 + j = lo + (i + 1) * 1 + j by omega]
    exact this
set_option maxRecDepth 100000 in
set_option maxHeartbeats 8000000 in
theorem step_nodir (L : List Sp.Ob) (g : Nat) (vl : Value) (base at_ hops : Int) (fence follow : Bool) (lb lo lc : Nat) (part : ByteArray) (rest : List ByteArray) (S T : Nat → Prop) (W : World) (hg : Blk W g (wkC vl base fence follow at_ (.slice (some ⟨lb, lo, none⟩) (rest.length + 1) lc) hops) 80) (hv : Objs W S vl L) (hS : ∀ b, S b → b < W.heap.size ∧ b ≠ g) (hl : Row W T 1 (.slice (some ⟨lb, lo, none⟩) (rest.length + 1) lc) ((part :: rest).map tS)) (hT : ∀ b, T b → b < W.heap.size ∧ b ≠ g) (hk : Lk.isK L at_ 2 = false) :
    Calls Tryd.prog 28 #[.pointer (some ⟨g, 0, none⟩)] W fun e w' => e = .returned (.tuple #[fdV 0 0 ⟨#[]⟩, .bool false, .int .i64 11]) ∧ Below W.heap.size W w' := by
  have HD : Hid (∀ W', Below W.heap.size W W' → Calls Tryd.prog 31 #[vl, .int .i64 at_] W' fun e w' => e = .returned (.bool false) ∧ w' = W') := fun W' hW => by
    have := isDir_any L at_ vl S W' (hv.on ((On.of hW).less fun b hb => (hS b hb).1))
    rw [hk] at this
    exact this
  have hgl := hg.lt
  have HG : Hid (Blk W g (wkC vl base fence follow at_ (.slice (some ⟨lb, lo, none⟩) (rest.length + 1) lc) hops) 80) := hg
  have HV : Hid (Objs W S vl L) := hv
  have HS : Hid (∀ b, S b → b < W.heap.size ∧ b ≠ g) := hS
  have HLf : Hid (Row W T 1 (.slice (some ⟨lb, lo, none⟩) (rest.length + 1) lc) ((part :: rest).map tS)) := hl
  have HTf : Hid (∀ b, T b → b < W.heap.size ∧ b ≠ g) := hT
  obtain ⟨a, c, rfl, -⟩ := hv.form
  have g0 : W.cell? ⟨g, 0, none⟩ = some (.slice a L.length c) := hg.cell 0
  have g4 : W.cell? ⟨g, 4, none⟩ = some (.int .i64 at_) := hg.cell 4
  have HB0 : Hid (Below W.heap.size W (W.alloc (.cells #[.int .i64 0, .int .i64 0, .string ⟨#[]⟩] 30))) := (Below.refl _ _).alloc (Nat.le_refl _) _
  have hK0 : Blk (W.alloc (.cells #[.int .i64 0, .int .i64 0, .string ⟨#[]⟩] 30)) W.heap.size #[.int .i64 0, .int .i64 0, .string ⟨#[]⟩] 30 := Blk.new W _ _
  have HK0 : Hid (Blk (W.alloc (.cells #[.int .i64 0, .int .i64 0, .string ⟨#[]⟩] 30)) W.heap.size #[.int .i64 0, .int .i64 0, .string ⟨#[]⟩] 30) := hK0
  have c0 : (W.alloc (.cells #[.int .i64 0, .int .i64 0, .string ⟨#[]⟩] 30)).cell? ⟨g, 0, none⟩ = some (.slice a L.length c) := by rw [(On.alloc W _).cell hgl]; exact g0
  have c4 : (W.alloc (.cells #[.int .i64 0, .int .i64 0, .string ⟨#[]⟩] 30)).cell? ⟨g, 4, none⟩ = some (.int .i64 at_) := by rw [(On.alloc W _).cell hgl]; exact g4
  have r0 := hK0.cell 0
  have r1 := hK0.cell 1
  have r2 := hK0.cell 2
  have q0 := hK0.free 0
  have q1 := hK0.free 1
  have q2 := hK0.free 2
  have hlt0 := hK0.lt
  clear hg hv hS hl hT g0 g4 hk hK0 HG HV HS HLf HTf
  unfold fdV
  go_enter Tryd.func28, Tryd.ntmps28
  go_wp2_with fail
  generalize (W.alloc (.cells #[.int .i64 0, .int .i64 0, .string ⟨#[]⟩] 30)) = w0 at *
  go_region_held3 (fun w' => w'.cell? ⟨g, 0, none⟩ = some (.slice a L.length c) ∧ w'.cell? ⟨g, 4, none⟩ = some (.int .i64 at_)) (go_keep) (first | (refine Calls.mono (HD.out _ HB0.out.drew) ?_; rintro e w2 ⟨rfl, rfl⟩; go_wp2_with fail))
  go_wp2
  generalize hW : (((w0.setCell ⟨W.heap.size, 0, none⟩ (.int .i64 0)).setCell ⟨W.heap.size, 1, none⟩ (.int .i64 0)).setCell ⟨W.heap.size, 2, none⟩ (.string ⟨#[]⟩)).drew = W9
  have hb9 : Blk W9 W.heap.size #[.int .i64 0, .int .i64 0, .string ⟨#[]⟩] 30 := by
    rw [← hW]
    exact ((HK0.out.set 0 _).set 1 _).set 2 _
  have hc9 := hb9.cell
  have hB9 : Below W.heap.size W W9 := by
    rw [← hW]
    exact (((HB0.out.setCell (Nat.le_refl _) _).setCell (Nat.le_refl _) _).setCell (Nat.le_refl _) _).drew
  exact bodyPost_ret (v := .tuple #[.agg #[.int .i64 0, .int .i64 0, .string ⟨#[]⟩], .bool false, .int .i64 11]) (by simp [results, Tryd.results28, go_sem, hc9]) rfl ⟨rfl, hB9⟩
set_option maxRecDepth 100000 in
set_option maxHeartbeats 8000000 in
theorem step_up (L : List Sp.Ob) (g m : Nat) (x : Sp.Ob) (vl : Value) (base hops : Int) (fence follow : Bool) (lb lo lc : Nat) (part : ByteArray) (rest : List ByteArray) (S T : Nat → Prop) (W : World) (hg : Blk W g (wkC vl base fence follow (m : Int) (.slice (some ⟨lb, lo, none⟩) (rest.length + 1) lc) hops) 80) (hv : Objs W S vl L) (hS : ∀ b, S b → b < W.heap.size ∧ b ≠ g) (hl : Row W T 1 (.slice (some ⟨lb, lo, none⟩) (rest.length + 1) lc) ((part :: rest).map tS)) (hT : ∀ b, T b → b < W.heap.size ∧ b ≠ g) (hx : L[m]? = some x) (hk : x.kind = 2) (hp : (part.toList == [46, 46]) = true) :
    Calls Tryd.prog 28 #[.pointer (some ⟨g, 0, none⟩)] W fun e w' => e = .returned (.tuple #[fdV 0 0 ⟨#[]⟩, .bool false, .int .i64 (riseE base fence (m : Int))]) ∧ Only g W w' ∧ ∃ v5, Blk w' g (wkC vl base fence follow (riseA base fence (m : Int) x.up) v5 hops) 80 ∧ Row w' T 1 v5 (rest.map tS) := by
  have hK : Lk.isK L (m : Int) 2 = true := by rw [Lk.isK_nat hx, hk]; rfl
  have HD : Hid (∀ W', Below W.heap.size W W' → Calls Tryd.prog 31 #[vl, .int .i64 (m : Int)] W' fun e w' => e = .returned (.bool true) ∧ w' = W') := fun W' hW => by
    have := isDir_any L (m : Int) vl S W' (hv.on ((On.of hW).less fun b hb => (hS b hb).1))
    rw [hK] at this
    exact this
  have hgl := hg.lt
  have HG : Hid (Blk W g (wkC vl base fence follow (m : Int) (.slice (some ⟨lb, lo, none⟩) (rest.length + 1) lc) hops) 80) := hg
  have HV : Hid (Objs W S vl L) := hv
  have HS : Hid (∀ b, S b → b < W.heap.size ∧ b ≠ g) := hS
  have HLf : Hid (Row W T 1 (.slice (some ⟨lb, lo, none⟩) (rest.length + 1) lc) ((part :: rest).map tS)) := hl
  have HTf : Hid (∀ b, T b → b < W.heap.size ∧ b ≠ g) := hT
  have HX : Hid (L[m]? = some x) := hx
  obtain ⟨a, c, rfl, -⟩ := hv.form
  obtain ⟨b', o', c', he, hTb, hc3, hc4, h5⟩ := hl.some (by simp)
  obtain ⟨e1, -, rfl⟩ := Value.slice.inj he
  cases e1
  rw [List.length_map, List.length_cons] at hc3
  have l0 := h5 0 (tS part) rfl 0 _ rfl
  rw [Nat.zero_mul, Nat.add_zero] at l0
  have hlbl := (hT lb hTb).1
  have hlbg := (hT lb hTb).2
  have hlbg' : ¬ g = lb := fun h => hlbg h.symm
  unfold maxLen at hc4
  have g0 : W.cell? ⟨g, 0, none⟩ = some (.slice a L.length c) := hg.cell 0
  have g4 : W.cell? ⟨g, 4, none⟩ = some (.int .i64 (m : Int)) := hg.cell 4
  have g5 : W.cell? ⟨g, 5, none⟩ = some (.slice (some ⟨lb, lo, none⟩) (rest.length + 1) lc) := hg.cell 5
  have f5 : W.frozen? ⟨g, 5, none⟩ = false := hg.free 5
  have hcz : (1 : Int) ≤ (lc : Int) := by omega
  obtain ⟨A5, hA5⟩ : ∃ A5 : Addr, (if lc = 1 then some (⟨lb, lo, none⟩ : Addr) else some ⟨lb, lo + 1, none⟩) = some A5 := by split <;> exact ⟨_, rfl⟩
  have HTL : Hid (Row W T 1 (.slice (some A5) rest.length (lc - 1)) (rest.map tS)) := by
    have := row_tail hl
    rw [hA5] at this
    exact this
  have HB0 : Hid (Below W.heap.size W (W.alloc (.cells #[.int .i64 0, .int .i64 0, .string ⟨#[]⟩] 30))) := (Below.refl _ _).alloc (Nat.le_refl _) _
  have HK0 : Hid (Blk (W.alloc (.cells #[.int .i64 0, .int .i64 0, .string ⟨#[]⟩] 30)) W.heap.size #[.int .i64 0, .int .i64 0, .string ⟨#[]⟩] 30) := Blk.new W _ _
  have HG0 : Hid (Blk (W.alloc (.cells #[.int .i64 0, .int .i64 0, .string ⟨#[]⟩] 30)) g (wkC (.slice a L.length c) base fence follow (m : Int) (.slice (some ⟨lb, lo, none⟩) (rest.length + 1) lc) hops) 80) := hg.alloc _
  have c0 : (W.alloc (.cells #[.int .i64 0, .int .i64 0, .string ⟨#[]⟩] 30)).cell? ⟨g, 0, none⟩ = some (.slice a L.length c) := by rw [(On.alloc W _).cell hgl]; exact g0
  have c4 : (W.alloc (.cells #[.int .i64 0, .int .i64 0, .string ⟨#[]⟩] 30)).cell? ⟨g, 4, none⟩ = some (.int .i64 (m : Int)) := by rw [(On.alloc W _).cell hgl]; exact g4
  have c5 : (W.alloc (.cells #[.int .i64 0, .int .i64 0, .string ⟨#[]⟩] 30)).cell? ⟨g, 5, none⟩ = some (.slice (some ⟨lb, lo, none⟩) (rest.length + 1) lc) := by rw [(On.alloc W _).cell hgl]; exact g5
  have d0 : (W.alloc (.cells #[.int .i64 0, .int .i64 0, .string ⟨#[]⟩] 30)).cell? ⟨lb, lo, none⟩ = some (.string part) := by rw [(On.alloc W _).cell hlbl]; exact l0
  have u5 : (W.alloc (.cells #[.int .i64 0, .int .i64 0, .string ⟨#[]⟩] 30)).frozen? ⟨g, 5, none⟩ = false := HG0.out.free 5
  clear hg hv hS hl hT g0 g4 g5 f5 l0 h5 he hTb hK hx hk
  go_enter Tryd.func28, Tryd.ntmps28
  go_wp2_with fail
  generalize (W.alloc (.cells #[.int .i64 0, .int .i64 0, .string ⟨#[]⟩] 30)) = w0 at *
  go_region_held3 (fun w' => w'.cell? ⟨g, 0, none⟩ = some (.slice a L.length c) ∧ w'.cell? ⟨g, 4, none⟩ = some (.int .i64 (m : Int))) (go_keep) (first | (refine Calls.mono (HD.out _ HB0.out.drew) ?_; rintro e w2 ⟨rfl, rfl⟩; go_wp2_with fail))
  go_wp2_with fail
  go_region_held3 (fun w' => w'.cell? ⟨g, 5, none⟩ = some (.slice (some ⟨lb, lo, none⟩) (rest.length + 1) lc) ∧ w'.cell? ⟨lb, lo, none⟩ = some (.string part)) (go_keep) (fail)
  go_wp2_with fail
  clear hA5
  have hlt0 := HK0.out.lt
  have HG3 : Hid (Blk (w0.setCell ⟨g, 5, none⟩ (.slice (some A5) rest.length (lc - 1))).drew.drew g (wkC (.slice a L.length c) base fence follow (m : Int) (.slice (some A5) rest.length (lc - 1)) hops) 80) := HG0.out.set 5 _
  have HO3 : Hid (Only g W (w0.setCell ⟨g, 5, none⟩ (.slice (some A5) rest.length (lc - 1))).drew.drew) := ((Only.below hgl HB0.out).set 5 _).drew.drew
  have hK3 : Blk (w0.setCell ⟨g, 5, none⟩ (.slice (some A5) rest.length (lc - 1))).drew.drew W.heap.size #[.int .i64 0, .int .i64 0, .string ⟨#[]⟩] 30 := HK0.out.other (a := ⟨g, 5, none⟩) (by show W.heap.size ≠ g; omega) _
  have HK3 : Hid (Blk (w0.setCell ⟨g, 5, none⟩ (.slice (some A5) rest.length (lc - 1))).drew.drew W.heap.size #[.int .i64 0, .int .i64 0, .string ⟨#[]⟩] 30) := hK3
  clear c0 c4 c5 d0 u5 HG0 HB0 HK0 hK3
  generalize (w0.setCell ⟨g, 5, none⟩ (.slice (some A5) rest.length (lc - 1))).drew.drew = w3 at *
  refine Calls.mono (rise_any L g m x (.slice a L.length c) _ base hops fence follow S w3 HG3.out (HV.out.on (HO3.out.1.less HS.out)) (fun b hb => ⟨by have := (HS.out b hb).1; have := HO3.out.2.1; omega, (HS.out b hb).2⟩) HX.out) ?_
  rintro e w4 ⟨rfl, hB4, hO4⟩
  have hgl3 := HG3.out.lt
  have hK4 : Blk w4 W.heap.size #[.int .i64 0, .int .i64 0, .string ⟨#[]⟩] 30 := HK3.out.on hO4.1 ⟨HK3.out.lt, by omega⟩
  have HK4 : Hid (Blk w4 W.heap.size #[.int .i64 0, .int .i64 0, .string ⟨#[]⟩] 30) := hK4
  have HB4 : Hid (Blk w4 g (wkC (.slice a L.length c) base fence follow (riseA base fence (m : Int) x.up) (.slice (some A5) rest.length (lc - 1)) hops) 80) := hB4
  have HO4 : Hid (Only g W w4) := HO3.out.trans hO4
  have r0 := hK4.cell 0
  have r1 := hK4.cell 1
  have r2 := hK4.cell 2
  have q0 := hK4.free 0
  have q1 := hK4.free 1
  have q2 := hK4.free 2
  have hlt4 := hK4.lt
  clear hB4 hO4 hK4 HG3 HO3 HK3
  go_wp2
  generalize hW : ((w4.setCell ⟨W.heap.size, 0, none⟩ (.int .i64 0)).setCell ⟨W.heap.size, 1, none⟩ (.int .i64 0)).setCell ⟨W.heap.size, 2, none⟩ (.string ⟨#[]⟩) = W9
  have hb9 : Blk W9 W.heap.size #[.int .i64 0, .int .i64 0, .string ⟨#[]⟩] 30 := by
    rw [← hW]
    exact ((HK4.out.set 0 _).set 1 _).set 2 _
  have hc9 := hb9.cell
  have ho9 : On (fun b => b ≠ W.heap.size) w4 W9 := by
    rw [← hW]
    exact ((On.set w4 ⟨W.heap.size, 0, none⟩ _).trans (On.set _ ⟨W.heap.size, 1, none⟩ _)).trans (On.set _ ⟨W.heap.size, 2, none⟩ _)
  have hs9 : W9.heap.size = w4.heap.size := by rw [← hW]; simp
  have hO9 : Only g W W9 := by
    refine ⟨HO4.out.1.trans (ho9.less fun b hb => by omega), by have := HO4.out.2.1; omega, fun B hB => ?_⟩
    rw [← hW]
    exact (((HO4.out.2.2 B hB).setCell (by show B ≤ W.heap.size; omega) _).setCell (by show B ≤ W.heap.size; omega) _).setCell (by show B ≤ W.heap.size; omega) _
  exact bodyPost_ret (v := .tuple #[.agg #[.int .i64 0, .int .i64 0, .string ⟨#[]⟩], .bool false, .int .i64 (riseE base fence (m : Int))]) (by simp [results, Tryd.results28, go_sem, hc9]) rfl ⟨rfl, hO9, _, HB4.out.on ho9 (by show g ≠ W.heap.size; omega), Row.on HTL.out ((HO4.out.1.less HTf.out).trans (ho9.less fun b hb => by have := (HTf.out b hb).1; omega))⟩
end Go.Proofs.YtfiiandnopifnaaDoor
/-
  look's walk: step, behind the part that was found.
-/
namespace Go.Proofs.YtfiiandnopifnaaDoor
open Go.RowKit
namespace Lk
theorem one_link {L : List Sp.Ob} {base pos : Int} {fence follow : Bool} {part : ByteArray} {rest : List ByteArray} {hops : Nat} (h1 : isK L pos 2 = true) (h2 : isUp part = false) (h3 : isK L (Sp.find L pos part) 3 = true) (h4 : follow = true ∨ rest ≠ []) : one L base fence follow pos part rest hops = ⟨nilF, false, throughE (trg L (Sp.find L pos part)) fence hops, ⟨turnA (trg L (Sp.find L pos part)) pos, partsB (trg L (Sp.find L pos part)) ++ rest, hops + 1⟩⟩ := by
  unfold one
  rw [if_neg (by rw [h1]; decide), if_neg (by rw [h2]; decide), if_pos ⟨h3, h4⟩]
theorem one_last {L : List Sp.Ob} {base pos : Int} {fence follow : Bool} {part : ByteArray} {hops : Nat} (h1 : isK L pos 2 = true) (h2 : isUp part = false) (h3 : isK L (Sp.find L pos part) 3 = false ∨ follow = false) : one L base fence follow pos part [] hops = ⟨⟨Sp.find L pos part, pos, part⟩, true, 0, ⟨pos, [], hops⟩⟩ := by
  unfold one
  rw [if_neg (by rw [h1]; decide), if_neg (by rw [h2]; decide), if_neg (by rcases h3 with h | h <;> simp [h]), if_pos rfl]
theorem one_none {L : List Sp.Ob} {base pos : Int} {fence follow : Bool} {part : ByteArray} {rest : List ByteArray} {hops : Nat} (h1 : isK L pos 2 = true) (h2 : isUp part = false) (h3 : isK L (Sp.find L pos part) 3 = false) (h4 : rest ≠ []) (h5 : Sp.find L pos part < 0) : one L base fence follow pos part rest hops = ⟨nilF, false, 6, ⟨pos, rest, hops⟩⟩ := by
  unfold one
  rw [if_neg (by rw [h1]; decide), if_neg (by rw [h2]; decide), if_neg (by simp [h3]), if_neg h4, if_pos h5]
theorem one_go {L : List Sp.Ob} {base pos : Int} {fence follow : Bool} {part : ByteArray} {rest : List ByteArray} {hops : Nat} (h1 : isK L pos 2 = true) (h2 : isUp part = false) (h3 : isK L (Sp.find L pos part) 3 = false) (h4 : rest ≠ []) (h5 : ¬ Sp.find L pos part < 0) : one L base fence follow pos part rest hops = ⟨nilF, false, 0, ⟨Sp.find L pos part, rest, hops⟩⟩ := by
  unfold one
  rw [if_neg (by rw [h1]; decide), if_neg (by rw [h2]; decide), if_neg (by simp [h3]), if_neg h4, if_neg h5]
end Lk
/-- What is found is laid into its cells, and handed back. -/
theorem fd_cells {w W9 : World} {b : Nat} {x y z : Value} {t : TypeId} (h : Blk w b #[x, y, z] t) (o d : Int) (nm : ByteArray) (hW : ((w.setCell ⟨b, 0, none⟩ (.int .i64 o)).setCell ⟨b, 1, none⟩ (.int .i64 d)).setCell ⟨b, 2, none⟩ (.string nm) = W9) : Blk W9 b #[.int .i64 o, .int .i64 d, .string nm] t ∧ On (fun c => c ≠ b) w W9 ∧ W9.heap.size = w.heap.size ∧ ∀ B, B ≤ b → Below B w W9 := by
  subst hW
  refine ⟨((h.set 0 _).set 1 _).set 2 _, ((On.set w ⟨b, 0, none⟩ _).trans (On.set _ ⟨b, 1, none⟩ _)).trans (On.set _ ⟨b, 2, none⟩ _), by simp, fun B hB => ?_⟩
  exact ((((Below.refl B w).setCell (p := ⟨b, 0, none⟩) hB _).setCell (p := ⟨b, 1, none⟩) hB _).setCell (p := ⟨b, 2, none⟩) hB _)
theorem Only.with {g b : Nat} {W w w' : World} (h : Only g W w) (hb : W.heap.size ≤ b) (ho : On (fun c => c ≠ b) w w') (hs : w'.heap.size = w.heap.size) (hB : ∀ B, B ≤ b → Below B w w') (hg : g < W.heap.size) : Only g W w' :=
  ⟨h.1.trans (ho.less fun c hc => by omega), by have := h.2.1; omega, fun B h2 => (h.2.2 B h2).trans (hB B (by omega))⟩
set_option maxRecDepth 100000 in
set_option maxHeartbeats 8000000 in
theorem step_find (L : List Sp.Ob) (g m : Nat) (x : Sp.Ob) (mm : Int) (vl : Value) (base : Int) (hops : Nat) (fence follow : Bool) (lb lo lc : Nat) (part : ByteArray) (rest : List ByteArray) (S T : Nat → Prop) (W : World) (hg : Blk W g (wkC vl base fence follow (m : Int) (.slice (some ⟨lb, lo, none⟩) (rest.length + 1) lc) hops) 80) (hv : Objs W S vl L) (hS : ∀ b, S b → b < W.heap.size ∧ b ≠ g) (hl : Row W T 1 (.slice (some ⟨lb, lo, none⟩) (rest.length + 1) lc) ((part :: rest).map tS)) (hT : ∀ b, T b → b < W.heap.size ∧ b ≠ g) (hx : L[m]? = some x) (hk : x.kind = 2) (hp : (part.toList == [46, 46]) = false) (h00 : W.cell? ⟨0, 0, none⟩ = some (.int .i64 mm)) (hg0 : g ≠ 0) (hn : rest.length ≤ 999) (hh : hops ≤ 6) (hsm : ∀ o ∈ L, o.target.size ≤ maxLen) (fd : Lk.Fd) (done : Bool) (err : Int) (st : Lk.St) (hres : Lk.one L base fence follow (m : Int) part rest hops = ⟨fd, done, err, st⟩) :
    Calls Tryd.prog 28 #[.pointer (some ⟨g, 0, none⟩)] W fun e w' => e = .returned (.tuple #[fdV fd.obj fd.dir fd.name, .bool done, .int .i64 err]) ∧ Only g W w' ∧ (done = false → err = 0 → ∃ v', Blk w' g (wkC vl base fence follow st.pos v' st.hops) 80 ∧ Row w' (fun b => b < w'.heap.size ∧ b ≠ g) 1 v' (st.left.map tS)) := by
  have HRES : Hid (Lk.one L base fence follow (m : Int) part rest hops = ⟨fd, done, err, st⟩) := hres
  have HUP : Hid (Lk.isUp part = false) := hp
  have HKK : Hid (Lk.isK L (m : Int) 2 = true) := by unfold Hid; rw [Lk.isK_nat hx, hk]; rfl
  have HSM : Hid (∀ o ∈ L, o.target.size ≤ maxLen) := hsm
  have H00 : Hid (∀ w', Only g W w' → w'.cell? ⟨0, 0, none⟩ = some (.int .i64 mm)) := fun w' h => by
    rw [h.1.cell (b := 0) ⟨by have := hg.lt; omega, fun e => hg0 e.symm⟩]; exact h00
  clear hres hsm h00
  have hK : Lk.isK L (m : Int) 2 = true := by rw [Lk.isK_nat hx, hk]; rfl
  have HD : Hid (∀ W', Below W.heap.size W W' → Calls Tryd.prog 31 #[vl, .int .i64 (m : Int)] W' fun e w' => e = .returned (.bool true) ∧ w' = W') := fun W' hW => by
    have := isDir_any L (m : Int) vl S W' (hv.on ((On.of hW).less fun b hb => (hS b hb).1))
    rw [hK] at this
    exact this
  have hgl := hg.lt
  have HG : Hid (Blk W g (wkC vl base fence follow (m : Int) (.slice (some ⟨lb, lo, none⟩) (rest.length + 1) lc) hops) 80) := hg
  have HV : Hid (Objs W S vl L) := hv
  have HS : Hid (∀ b, S b → b < W.heap.size ∧ b ≠ g) := hS
  have HLf : Hid (Row W T 1 (.slice (some ⟨lb, lo, none⟩) (rest.length + 1) lc) ((part :: rest).map tS)) := hl
  have HTf : Hid (∀ b, T b → b < W.heap.size ∧ b ≠ g) := hT
  have HX : Hid (L[m]? = some x) := hx
  obtain ⟨a, c, rfl, -⟩ := hv.form
  obtain ⟨b', o', c', he, hTb, hc3, hc4, h5⟩ := hl.some (by simp)
  obtain ⟨e1, -, rfl⟩ := Value.slice.inj he
  cases e1
  rw [List.length_map, List.length_cons] at hc3
  have l0 := h5 0 (tS part) rfl 0 _ rfl
  rw [Nat.zero_mul, Nat.add_zero] at l0
  have hlbl := (hT lb hTb).1
  have hlbg := (hT lb hTb).2
  have hlbg' : ¬ g = lb := fun h => hlbg h.symm
  unfold maxLen at hc4
  have g0 : W.cell? ⟨g, 0, none⟩ = some (.slice a L.length c) := hg.cell 0
  have g4 : W.cell? ⟨g, 4, none⟩ = some (.int .i64 (m : Int)) := hg.cell 4
  have g5 : W.cell? ⟨g, 5, none⟩ = some (.slice (some ⟨lb, lo, none⟩) (rest.length + 1) lc) := hg.cell 5
  have f5 : W.frozen? ⟨g, 5, none⟩ = false := hg.free 5
  have hcz : (1 : Int) ≤ (lc : Int) := by omega
  obtain ⟨A5, hA5⟩ : ∃ A5 : Addr, (if lc = 1 then some (⟨lb, lo, none⟩ : Addr) else some ⟨lb, lo + 1, none⟩) = some A5 := by split <;> exact ⟨_, rfl⟩
  have HTL : Hid (Row W T 1 (.slice (some A5) rest.length (lc - 1)) (rest.map tS)) := by
    have := row_tail hl
    rw [hA5] at this
    exact this
  have HB0 : Hid (Below W.heap.size W (W.alloc (.cells #[.int .i64 0, .int .i64 0, .string ⟨#[]⟩] 30))) := (Below.refl _ _).alloc (Nat.le_refl _) _
  have HK0 : Hid (Blk (W.alloc (.cells #[.int .i64 0, .int .i64 0, .string ⟨#[]⟩] 30)) W.heap.size #[.int .i64 0, .int .i64 0, .string ⟨#[]⟩] 30) := Blk.new W _ _
  have HG0 : Hid (Blk (W.alloc (.cells #[.int .i64 0, .int .i64 0, .string ⟨#[]⟩] 30)) g (wkC (.slice a L.length c) base fence follow (m : Int) (.slice (some ⟨lb, lo, none⟩) (rest.length + 1) lc) hops) 80) := hg.alloc _
  have c0 : (W.alloc (.cells #[.int .i64 0, .int .i64 0, .string ⟨#[]⟩] 30)).cell? ⟨g, 0, none⟩ = some (.slice a L.length c) := by rw [(On.alloc W _).cell hgl]; exact g0
  have c4 : (W.alloc (.cells #[.int .i64 0, .int .i64 0, .string ⟨#[]⟩] 30)).cell? ⟨g, 4, none⟩ = some (.int .i64 (m : Int)) := by rw [(On.alloc W _).cell hgl]; exact g4
  have c5 : (W.alloc (.cells #[.int .i64 0, .int .i64 0, .string ⟨#[]⟩] 30)).cell? ⟨g, 5, none⟩ = some (.slice (some ⟨lb, lo, none⟩) (rest.length + 1) lc) := by rw [(On.alloc W _).cell hgl]; exact g5
  have d0 : (W.alloc (.cells #[.int .i64 0, .int .i64 0, .string ⟨#[]⟩] 30)).cell? ⟨lb, lo, none⟩ = some (.string part) := by rw [(On.alloc W _).cell hlbl]; exact l0
  have u5 : (W.alloc (.cells #[.int .i64 0, .int .i64 0, .string ⟨#[]⟩] 30)).frozen? ⟨g, 5, none⟩ = false := HG0.out.free 5
  clear hg hv hS hl hT g0 g4 g5 f5 l0 h5 he hTb hK hx hk
  go_enter Tryd.func28, Tryd.ntmps28
  go_wp2_with fail
  generalize (W.alloc (.cells #[.int .i64 0, .int .i64 0, .string ⟨#[]⟩] 30)) = w0 at *
  go_region_held3 (fun w' => w'.cell? ⟨g, 0, none⟩ = some (.slice a L.length c) ∧ w'.cell? ⟨g, 4, none⟩ = some (.int .i64 (m : Int))) (go_keep) (first | (refine Calls.mono (HD.out _ HB0.out.drew) ?_; rintro e w2 ⟨rfl, rfl⟩; go_wp2_with fail))
  go_wp2_with fail
  go_region_held3 (fun w' => w'.cell? ⟨g, 5, none⟩ = some (.slice (some ⟨lb, lo, none⟩) (rest.length + 1) lc) ∧ w'.cell? ⟨lb, lo, none⟩ = some (.string part)) (go_keep) (fail)
  go_wp2_with fail
  clear hA5
  have hlt0 := HK0.out.lt
  have HG3 : Hid (Blk (w0.setCell ⟨g, 5, none⟩ (.slice (some A5) rest.length (lc - 1))).drew.drew g (wkC (.slice a L.length c) base fence follow (m : Int) (.slice (some A5) rest.length (lc - 1)) hops) 80) := HG0.out.set 5 _
  have HO3 : Hid (Only g W (w0.setCell ⟨g, 5, none⟩ (.slice (some A5) rest.length (lc - 1))).drew.drew) := ((Only.below hgl HB0.out).set 5 _).drew.drew
  have hK3 : Blk (w0.setCell ⟨g, 5, none⟩ (.slice (some A5) rest.length (lc - 1))).drew.drew W.heap.size #[.int .i64 0, .int .i64 0, .string ⟨#[]⟩] 30 := HK0.out.other (a := ⟨g, 5, none⟩) (by show W.heap.size ≠ g; omega) _
  have HK3 : Hid (Blk (w0.setCell ⟨g, 5, none⟩ (.slice (some A5) rest.length (lc - 1))).drew.drew W.heap.size #[.int .i64 0, .int .i64 0, .string ⟨#[]⟩] 30) := hK3
  clear c0 c4 c5 d0 u5 HG0 HB0 HK0 hK3
  generalize (w0.setCell ⟨g, 5, none⟩ (.slice (some A5) rest.length (lc - 1))).drew.drew = w3 at *
  have hB3 := HG3.out
  have m0 : w3.cell? ⟨g, 0, none⟩ = some (.slice a L.length c) := hB3.cell 0
  have m3 : w3.cell? ⟨g, 3, none⟩ = some (.bool follow) := hB3.cell 3
  have m4 : w3.cell? ⟨g, 4, none⟩ = some (.int .i64 (m : Int)) := hB3.cell 4
  have hgl3 := hB3.lt
  have HV3 : Hid (Objs w3 S (.slice a L.length c) L) := HV.out.on (HO3.out.1.less HS.out)
  have HS3 : Hid (∀ b, S b → b < w3.heap.size) := fun b hb => by have := (HS.out b hb).1; have := HO3.out.2.1; omega
  have HF : Hid (∀ W', Below w3.heap.size w3 W' → Calls Tryd.prog 35 #[.slice a L.length c, .int .i64 (m : Int), .string part] W' fun e w' => e = .returned (.int .i64 (Sp.find L (m : Int) part)) ∧ Below w3.heap.size w3 w' ∧ (w'.cell? ⟨g, 0, none⟩ = some (.slice a L.length c) ∧ w'.cell? ⟨g, 4, none⟩ = some (.int .i64 (m : Int)))) := fun W' hW' => by
    have h3 : Objs W' S (.slice a L.length c) L := HV3.out.on ((On.of hW').less HS3.out)
    refine (find_any L (m : Int) part (.slice a L.length c) S W' h3 (fun b hb => Nat.lt_of_lt_of_le (HS3.out b hb) hW'.size)).mono ?_
    rintro e w' ⟨rfl, hb⟩
    have hb' : Below w3.heap.size w3 w' := hW'.trans (hb.mono hW'.size)
    exact ⟨rfl, hb', by rw [hb'.cell hgl3]; exact m0, by rw [hb'.cell hgl3]; exact m4⟩
  have HB33 : Hid (Below w3.heap.size w3 w3.drew) := (Below.refl _ _).drew
  clear hB3
  go_region_held3 (fun w' => w'.cell? ⟨g, 0, none⟩ = some (.slice a L.length c) ∧ w'.cell? ⟨g, 4, none⟩ = some (.int .i64 (m : Int))) (go_keep) (first | (go_at_call 35; refine Calls.mono (HF.out _ HB33.out) ?_; rintro e w4 ⟨rfl, hb4, ⟨n0, n4⟩⟩; go_wp2_with fail))
  have hO4 : Only g W w4 := HO3.out.trans (Only.below hgl3 hb4)
  have HO4 : Hid (Only g W w4) := hO4
  have hB4 : Blk w4 g (wkC (.slice a L.length c) base fence follow (m : Int) (.slice (some A5) rest.length (lc - 1)) hops) 80 := HG3.out.below hb4 hgl3
  have HB4 : Hid (Blk w4 g (wkC (.slice a L.length c) base fence follow (m : Int) (.slice (some A5) rest.length (lc - 1)) hops) 80) := hB4
  have HV4 : Hid (Objs w4 S (.slice a L.length c) L) := HV.out.on (hO4.1.less HS.out)
  have HT4 : Hid (Row w4 T 1 (.slice (some A5) rest.length (lc - 1)) (rest.map tS)) := Row.on HTL.out (hO4.1.less HTf.out)
  have hK4 : Blk w4 W.heap.size #[.int .i64 0, .int .i64 0, .string ⟨#[]⟩] 30 := HK3.out.below hb4 HK3.out.lt
  have HK4 : Hid (Blk w4 W.heap.size #[.int .i64 0, .int .i64 0, .string ⟨#[]⟩] 30) := hK4
  have q3 : w4.cell? ⟨g, 3, none⟩ = some (.bool follow) := hB4.cell 3
  have f4 : w4.frozen? ⟨g, 4, none⟩ = false := hB4.free 4
  have r0 := hK4.cell 0
  have r1 := hK4.cell 1
  have r2 := hK4.cell 2
  have z0 := hK4.free 0
  have z1 := hK4.free 1
  have z2 := hK4.free 2
  have hlt4 := hK4.lt
  have hgl4 := hB4.lt
  have HNG : Hid (W.heap.size ≠ g) := by unfold Hid; omega
  clear hb4 hO4 hB4 hK4 HB33 HF HG3 HO3 HK3 HV3 HS3 m0 m3 m4 HTL HG HD hgl3
  have HIK : Hid (∀ k, Calls Tryd.prog 36 #[.slice a L.length c, .int .i64 k, .int .i64 3] w4 fun e w' => e = .returned (.bool (Lk.isK L k 3)) ∧ w' = w4) := fun k => isKind_any L k 3 _ S w4 HV4.out
  have HEQ : Hid (((rest.length : Int) + 1 == 1) = decide (rest = [])) := by
    cases rest with
    | nil => rfl
    | cons y t => simp [Hid]; omega
  cases hk3 : Lk.isK L (Sp.find L (m : Int) part) 3 with
  | false =>
    have HIK' : Hid (Calls Tryd.prog 36 #[.slice a L.length c, .int .i64 (Sp.find L (m : Int) part), .int .i64 3] w4 fun e w' => e = .returned (.bool false) ∧ w' = w4) := by have := HIK.out (Sp.find L (m : Int) part); rw [hk3] at this; exact this
    have HK3 : Hid (Lk.isK L (Sp.find L (m : Int) part) 3 = false) := hk3
    clear HIK hk3
    by_cases hr : rest = []
    · subst hr
      have h := HRES.out
      rw [Lk.one_last HKK.out HUP.out (Or.inl HK3.out)] at h
      obtain ⟨rfl, rfl, rfl, rfl⟩ := Lk.Res.mk.inj h
      clear h HRES
      go_wp2_with fail
      refine Calls.mono HIK'.out ?_
      rintro e w5 ⟨rfl, hw5⟩
      rw [hw5]
      clear hw5
      go_wp2
      generalize hW : ((w4.setCell ⟨W.heap.size, 0, none⟩ (.int .i64 (Sp.find L (m : Int) part))).setCell ⟨W.heap.size, 1, none⟩ (.int .i64 (m : Int))).setCell ⟨W.heap.size, 2, none⟩ (.string part) = W9
      obtain ⟨hb9, ho9, hs9, hB9⟩ := fd_cells HK4.out (Sp.find L (m : Int) part) (m : Int) part hW
      have hc9 := hb9.cell
      exact bodyPost_ret (v := .tuple #[.agg #[.int .i64 (Sp.find L (m : Int) part), .int .i64 (m : Int), .string part], .bool true, .int .i64 0]) (by simp [results, Tryd.results28, go_sem, hc9]) rfl ⟨rfl, HO4.out.with (Nat.le_refl _) ho9 hs9 hB9 hgl⟩
    · have hne : ((rest.length : Int) + 1 == 1) = false := by rw [HEQ.out]; simp [hr]
      by_cases hlt : Sp.find L (m : Int) part < 0
      · have h := HRES.out
        rw [Lk.one_none HKK.out HUP.out HK3.out hr hlt] at h
        obtain ⟨rfl, rfl, rfl, rfl⟩ := Lk.Res.mk.inj h
        clear h HRES hr
        go_wp2_with fail
        refine Calls.mono HIK'.out ?_
        rintro e w5 ⟨rfl, hw5⟩
        rw [hw5]
        clear hw5
        go_wp2
        generalize hW : ((w4.setCell ⟨W.heap.size, 0, none⟩ (.int .i64 0)).setCell ⟨W.heap.size, 1, none⟩ (.int .i64 0)).setCell ⟨W.heap.size, 2, none⟩ (.string ⟨#[]⟩) = W9
        obtain ⟨hb9, ho9, hs9, hB9⟩ := fd_cells HK4.out 0 0 ⟨#[]⟩ hW
        have hc9 := hb9.cell
        exact bodyPost_ret (v := .tuple #[.agg #[.int .i64 0, .int .i64 0, .string ⟨#[]⟩], .bool false, .int .i64 6]) (by simp [results, Tryd.results28, go_sem, hc9]) rfl ⟨rfl, HO4.out.with (Nat.le_refl _) ho9 hs9 hB9 hgl⟩
      · have h := HRES.out
        rw [Lk.one_go HKK.out HUP.out HK3.out hr hlt] at h
        obtain ⟨rfl, rfl, rfl, rfl⟩ := Lk.Res.mk.inj h
        clear h HRES hr
        have HB5 : Hid (Blk (w4.setCell ⟨g, 4, none⟩ (.int .i64 (Sp.find L (m : Int) part))) g (wkC (.slice a L.length c) base fence follow (Sp.find L (m : Int) part) (.slice (some A5) rest.length (lc - 1)) hops) 80) := HB4.out.set 4 _
        have HO5 : Hid (Only g W (w4.setCell ⟨g, 4, none⟩ (.int .i64 (Sp.find L (m : Int) part)))) := HO4.out.set 4 _
        have hK5 : Blk (w4.setCell ⟨g, 4, none⟩ (.int .i64 (Sp.find L (m : Int) part))) W.heap.size #[.int .i64 0, .int .i64 0, .string ⟨#[]⟩] 30 := HK4.out.other (a := ⟨g, 4, none⟩) HNG.out _
        have HK5 : Hid (Blk (w4.setCell ⟨g, 4, none⟩ (.int .i64 (Sp.find L (m : Int) part))) W.heap.size #[.int .i64 0, .int .i64 0, .string ⟨#[]⟩] 30) := hK5
        clear hK5
        go_wp2_with fail
        refine Calls.mono HIK'.out ?_
        rintro e w5 ⟨rfl, hw5⟩
        rw [hw5]
        clear hw5
        go_wp2
        generalize hW5 : w4.setCell ⟨g, 4, none⟩ (.int .i64 (Sp.find L (m : Int) part)) = w5 at *
        generalize hW : ((w5.setCell ⟨W.heap.size, 0, none⟩ (.int .i64 0)).setCell ⟨W.heap.size, 1, none⟩ (.int .i64 0)).setCell ⟨W.heap.size, 2, none⟩ (.string ⟨#[]⟩) = W9
        obtain ⟨hb9, ho9, hs9, hB9⟩ := fd_cells HK5.out 0 0 ⟨#[]⟩ hW
        have hc9 := hb9.cell
        exact bodyPost_ret (v := .tuple #[.agg #[.int .i64 0, .int .i64 0, .string ⟨#[]⟩], .bool false, .int .i64 0]) (by simp [results, Tryd.results28, go_sem, hc9]) rfl ⟨rfl, HO5.out.with (Nat.le_refl _) ho9 hs9 hB9 hgl, ⟨_, HB5.out.on ho9 HNG.out.symm, Row.more (Row.on HT4.out (On.trans (by rw [← hW5]; exact (On.set w4 ⟨g, 4, none⟩ _).less fun b hb => (HTf.out b hb).2) (ho9.less fun b hb => by have := (HTf.out b hb).1; omega))) fun b hb => ⟨by have := (HTf.out b hb).1; have := HO5.out.2.1; omega, (HTf.out b hb).2⟩⟩⟩
  | true =>
    obtain ⟨n, y, hkn, hy, hyk⟩ := Lk.isK_some hk3
    have HIK' : Hid (Calls Tryd.prog 36 #[.slice a L.length c, .int .i64 (n : Int), .int .i64 3] w4 fun e w' => e = .returned (.bool true) ∧ w' = w4) := by have := HIK.out (Sp.find L (m : Int) part); rw [hk3, hkn] at this; exact this
    have HK3 : Hid (Lk.isK L (Sp.find L (m : Int) part) 3 = true) := hk3
    have HTG : Hid (Lk.trg L (Sp.find L (m : Int) part) = y.target) := by unfold Hid Lk.trg; rw [hkn, Int.toNat_natCast, hy]
    by_cases hlk : follow = true ∨ rest ≠ []
    · have h := HRES.out
      rw [Lk.one_link HKK.out HUP.out HK3.out hlk, HTG.out] at h
      obtain ⟨rfl, rfl, rfl, rfl⟩ := Lk.Res.mk.inj h
      have HTH : Hid (Calls Tryd.prog 37 #[.pointer (some ⟨g, 0, none⟩), .string y.target] w4 _) := through_any y.target mm (HSM.out y (List.mem_of_getElem? hy)) g (.slice a L.length c) (.slice (some A5) rest.length (lc - 1)) base (m : Int) hops fence follow rest T w4 HB4.out (H00.out w4 HO4.out) hg0 HT4.out (fun b hb => ⟨by have := (HTf.out b hb).1; have := HO4.out.2.1; omega, (HTf.out b hb).2⟩) (by omega) hh
      obtain ⟨vb, vo, vc, vs, he, hVb, hc1, hcm, -, -, -, -, k3t, -⟩ := HV4.out.open hy
      obtain ⟨rfl, -, rfl⟩ := Value.slice.inj he
      have hnl := (List.getElem?_eq_some_iff.1 hy).1
      unfold maxLen at hcm
      have q0 : w4.cell? ⟨g, 0, none⟩ = some (.slice (some ⟨vb, vo, none⟩) L.length c) := n0
      have f0 := HTH
      clear h HRES he hy hyk hk3 HIK n0 f0
      rw [hkn]
      clear hkn
      cases follow with
      | true =>
        go_wp2_with fail
        refine Calls.mono HIK'.out ?_
        rintro e w5 ⟨rfl, hw5⟩
        rw [hw5]
        clear hw5
        go_wp2_with fail
        refine Calls.mono HTH.out ?_
        rintro e w6 ⟨rfl, ho6, hcase⟩
        have HO6 : Hid (Only g W w6) := HO4.out.trans ho6
        have hK6 : Blk w6 W.heap.size #[.int .i64 0, .int .i64 0, .string ⟨#[]⟩] 30 := HK4.out.on ho6.1 ⟨HK4.out.lt, HNG.out⟩
        have HK6 : Hid (Blk w6 W.heap.size #[.int .i64 0, .int .i64 0, .string ⟨#[]⟩] 30) := hK6
        have HC6 : Hid _ := hcase
        have HL4 : Hid (W.heap.size < w4.heap.size) := hlt4
        clear r0 r1 r2 z0 z1 z2 hlt4
        have r0 := hK6.cell 0
        have r1 := hK6.cell 1
        have r2 := hK6.cell 2
        have z0 := hK6.free 0
        have z1 := hK6.free 1
        have z2 := hK6.free 2
        have hlt6 := hK6.lt
        clear ho6 hcase hK6 HTH HIK' q0 q3 f4 k3t
        go_wp2
        generalize hW : ((w6.setCell ⟨W.heap.size, 0, none⟩ (.int .i64 0)).setCell ⟨W.heap.size, 1, none⟩ (.int .i64 0)).setCell ⟨W.heap.size, 2, none⟩ (.string ⟨#[]⟩) = W9
        obtain ⟨hb9, ho9, hs9, hB9⟩ := fd_cells HK6.out 0 0 ⟨#[]⟩ hW
        have hc9 := hb9.cell
        refine bodyPost_ret (v := .tuple #[.agg #[.int .i64 0, .int .i64 0, .string ⟨#[]⟩], .bool false, .int .i64 (Lk.throughE y.target fence hops)]) (by simp [results, Tryd.results28, go_sem, hc9]) rfl ⟨rfl, HO6.out.with (Nat.le_refl _) ho9 hs9 hB9 hgl, fun h => ?_⟩
        obtain ⟨v', h1, h2⟩ := HC6.out h
        rw [List.map_append] at h2
        exact ⟨v', h1.on ho9 HNG.out.symm, Row.more (Row.on h2 (ho9.less fun b hb => by have := hb.1; have := HL4.out; omega)) fun b hb => ⟨by have := hb.2; omega, by have := hb.1; have := HO4.out.2.1; have := HL4.out; omega⟩⟩
      | false =>
        have hr : rest ≠ [] := by rcases hlk with h | h; exact absurd h (by decide); exact h
        have hne : ((rest.length : Int) + 1 == 1) = false := by rw [HEQ.out]; simp [hr]
        clear hlk hr
        go_wp2_with fail
        refine Calls.mono HIK'.out ?_
        rintro e w5 ⟨rfl, hw5⟩
        rw [hw5]
        clear hw5
        go_wp2_with fail
        refine Calls.mono HTH.out ?_
        rintro e w6 ⟨rfl, ho6, hcase⟩
        have HO6 : Hid (Only g W w6) := HO4.out.trans ho6
        have hK6 : Blk w6 W.heap.size #[.int .i64 0, .int .i64 0, .string ⟨#[]⟩] 30 := HK4.out.on ho6.1 ⟨HK4.out.lt, HNG.out⟩
        have HK6 : Hid (Blk w6 W.heap.size #[.int .i64 0, .int .i64 0, .string ⟨#[]⟩] 30) := hK6
        have HC6 : Hid _ := hcase
        have HL4 : Hid (W.heap.size < w4.heap.size) := hlt4
        clear r0 r1 r2 z0 z1 z2 hlt4
        have r0 := hK6.cell 0
        have r1 := hK6.cell 1
        have r2 := hK6.cell 2
        have z0 := hK6.free 0
        have z1 := hK6.free 1
        have z2 := hK6.free 2
        have hlt6 := hK6.lt
        clear ho6 hcase hK6 HTH HIK' q0 q3 f4 k3t
        go_wp2
        generalize hW : ((w6.setCell ⟨W.heap.size, 0, none⟩ (.int .i64 0)).setCell ⟨W.heap.size, 1, none⟩ (.int .i64 0)).setCell ⟨W.heap.size, 2, none⟩ (.string ⟨#[]⟩) = W9
        obtain ⟨hb9, ho9, hs9, hB9⟩ := fd_cells HK6.out 0 0 ⟨#[]⟩ hW
        have hc9 := hb9.cell
        refine bodyPost_ret (v := .tuple #[.agg #[.int .i64 0, .int .i64 0, .string ⟨#[]⟩], .bool false, .int .i64 (Lk.throughE y.target fence hops)]) (by simp [results, Tryd.results28, go_sem, hc9]) rfl ⟨rfl, HO6.out.with (Nat.le_refl _) ho9 hs9 hB9 hgl, fun h => ?_⟩
        obtain ⟨v', h1, h2⟩ := HC6.out h
        rw [List.map_append] at h2
        exact ⟨v', h1.on ho9 HNG.out.symm, Row.more (Row.on h2 (ho9.less fun b hb => by have := hb.1; have := HL4.out; omega)) fun b hb => ⟨by have := hb.2; omega, by have := hb.1; have := HO4.out.2.1; have := HL4.out; omega⟩⟩
    · have hf : follow = false := by cases follow with | false => rfl | true => exact absurd (Or.inl rfl) hlk
      have hr : rest = [] := Classical.byContradiction fun h => hlk (Or.inr h)
      subst hr
      subst hf
      have h := HRES.out
      rw [Lk.one_last HKK.out HUP.out (Or.inr rfl)] at h
      obtain ⟨rfl, rfl, rfl, rfl⟩ := Lk.Res.mk.inj h
      clear h HRES hk3 hlk HTG HK3
      have HKN : Hid (Sp.find L (m : Int) part = (n : Int)) := hkn
      rw [hkn]
      clear hkn
      go_wp2_with fail
      refine Calls.mono HIK'.out ?_
      rintro e w5 ⟨rfl, hw5⟩
      rw [hw5]
      clear hw5
      go_wp2
      generalize hW : ((w4.setCell ⟨W.heap.size, 0, none⟩ (.int .i64 (n : Int))).setCell ⟨W.heap.size, 1, none⟩ (.int .i64 (m : Int))).setCell ⟨W.heap.size, 2, none⟩ (.string part) = W9
      obtain ⟨hb9, ho9, hs9, hB9⟩ := fd_cells HK4.out (n : Int) (m : Int) part hW
      have hc9 := hb9.cell
      exact bodyPost_ret (v := .tuple #[.agg #[.int .i64 (n : Int), .int .i64 (m : Int), .string part], .bool true, .int .i64 0]) (by simp [results, Tryd.results28, go_sem, hc9]) rfl ⟨by rw [HKN.out]; rfl, HO4.out.with (Nat.le_refl _) ho9 hs9 hB9 hgl⟩
end Go.Proofs.YtfiiandnopifnaaDoor
/-
  look's walk: step, in all cases.
-/
namespace Go.Proofs.YtfiiandnopifnaaDoor
open Go.RowKit
/-- A walk lies there: where it stands, what is left. -/
def Wk (w : World) (g : Nat) (T : Nat → Prop) (vl : Value) (base : Int) (fence follow : Bool) (st : Lk.St) : Prop :=
  ∃ v, Blk w g (wkC vl base fence follow st.pos v st.hops) 80 ∧ Row w T 1 v (st.left.map tS)
theorem step_any (L : List Sp.Ob) (hTr : Lk.Tree L) (g : Nat) (mm : Int) (vl : Value) (base pos : Int) (fence follow : Bool) (part : ByteArray) (rest : List ByteArray) (hops : Nat) (S : Nat → Prop) (W : World) (hg : Wk W g (fun b => b < W.heap.size ∧ b ≠ g) vl base fence follow ⟨pos, part :: rest, hops⟩) (hv : Objs W S vl L) (hS : ∀ b, S b → b < W.heap.size ∧ b ≠ g) (h00 : W.cell? ⟨0, 0, none⟩ = some (.int .i64 mm)) (hg0 : g ≠ 0) (hn : rest.length ≤ 999) (hh : hops ≤ 6) :
    Calls Tryd.prog 28 #[.pointer (some ⟨g, 0, none⟩)] W fun e w' => e = .returned (.tuple #[fdV (Lk.one L base fence follow pos part rest hops).fd.obj (Lk.one L base fence follow pos part rest hops).fd.dir (Lk.one L base fence follow pos part rest hops).fd.name, .bool (Lk.one L base fence follow pos part rest hops).done, .int .i64 (Lk.one L base fence follow pos part rest hops).err]) ∧ Only g W w' ∧ ((Lk.one L base fence follow pos part rest hops).done = false → (Lk.one L base fence follow pos part rest hops).err = 0 → Wk w' g (fun b => b < w'.heap.size ∧ b ≠ g) vl base fence follow (Lk.one L base fence follow pos part rest hops).st) := by
  obtain ⟨v, hb, hr⟩ := hg
  dsimp only at hb hr
  obtain ⟨lb, lo, lc, rfl, hlT, -, -, -⟩ := hr.some (by simp)
  rw [List.length_map, List.length_cons] at hb hr
  have hgl := hb.lt
  by_cases c1 : Lk.isK L pos 2 = false
  · have e1 : Lk.one L base fence follow pos part rest hops = ⟨Lk.nilF, false, 11, ⟨pos, rest, hops⟩⟩ := if_pos c1
    rw [e1]
    refine (step_nodir L g vl base pos hops fence follow lb lo lc part rest S _ W hb hv hS hr (fun b h => h) c1).mono ?_
    rintro e w' ⟨rfl, hB⟩
    exact ⟨rfl, Only.below hgl hB, fun _ h => absurd h (show ¬ ((11 : Int) = 0) by decide)⟩
  · have c1' : Lk.isK L pos 2 = true := by cases h : Lk.isK L pos 2 with | true => rfl | false => exact absurd h c1
    obtain ⟨m, x, rfl, hx, hk⟩ := Lk.isK_some c1'
    by_cases c2 : Lk.isUp part = true
    · have e1 : Lk.one L base fence follow (m : Int) part rest hops = ⟨Lk.nilF, false, riseE base fence (m : Int), ⟨riseA base fence (m : Int) x.up, rest, hops⟩⟩ := by
        unfold Lk.one
        rw [if_neg c1, if_pos c2, Lk.upOf_nat hx]
      rw [e1]
      refine (step_up L g m x vl base hops fence follow lb lo lc part rest S _ W hb hv hS hr (fun b h => h) hx hk c2).mono ?_
      rintro e w' ⟨rfl, ho, v5, hb5, hr5⟩
      exact ⟨rfl, ho, fun _ _ => ⟨v5, hb5, Row.more hr5 fun b h => ⟨by have := ho.2.1; omega, h.2⟩⟩⟩
    · have c2' : (part.toList == [46, 46]) = false := by cases h : (part.toList == [46, 46]) with | false => rfl | true => exact absurd h c2
      refine (step_find L g m x mm vl base hops fence follow lb lo lc part rest S _ W hb hv hS hr (fun b h => h) hx hk c2' h00 hg0 hn hh hTr.small _ _ _ _ rfl).mono ?_
      rintro e w' ⟨rfl, ho, h⟩
      exact ⟨rfl, ho, h⟩
end Go.Proofs.YtfiiandnopifnaaDoor
/-
  look.Path, walked.
-/
namespace Go.Proofs.YtfiiandnopifnaaDoor
open Go.RowKit
/-- What is left to go, as it lies in the walk's cells. -/
def wkMu (g : Nat) (w : World) : Nat := match w.cell? ⟨g, 6, none⟩, w.cell? ⟨g, 5, none⟩ with
  | some (.int _ h), some (.slice _ n _) => (6 - h.toNat) * 62 + n
  | _, _ => 0
theorem wkMu_of {w : World} {g : Nat} {T : Nat → Prop} {vl : Value} {base : Int} {fence follow : Bool} {st : Lk.St} (h : Wk w g T vl base fence follow st) : wkMu g w = Lk.mu st := by
  obtain ⟨v, hb, hr⟩ := h
  obtain ⟨a, c, rfl, _⟩ := hr.form
  have h6 : w.cell? ⟨g, 6, none⟩ = some (.int .i64 (st.hops : Int)) := hb.cell 6
  have h5 : w.cell? ⟨g, 5, none⟩ = some (.slice a (st.left.map tS).length c) := hb.cell 5
  unfold wkMu Lk.mu
  rw [h6, h5, List.length_map]
  rfl
namespace Lk
theorem go_step {L : List Sp.Ob} {base : Int} {fence follow : Bool} {pos : Int} {part : ByteArray} {rest : List ByteArray} {hops : Nat} (hh : hops ≤ 6) (hm : mu ⟨pos, part :: rest, hops⟩ < 1000) (hd : (one L base fence follow pos part rest hops).done = false) (he : (one L base fence follow pos part rest hops).err = 0) : go L base fence follow 1000 ⟨pos, part :: rest, hops⟩ = go L base fence follow 1000 (one L base fence follow pos part rest hops).st := by
  obtain ⟨h1, h2⟩ := one_less hh he
  have e : go L base fence follow 1000 ⟨pos, part :: rest, hops⟩ = go L base fence follow 999 (one L base fence follow pos part rest hops).st := by
    show (if _ then _ else _) = _
    exact if_neg (by rw [hd, he]; decide)
  rw [e]
  exact go_more _ _ _ h1 (by omega) (by omega)
theorem go_stop {L : List Sp.Ob} {base : Int} {fence follow : Bool} {pos : Int} {part : ByteArray} {rest : List ByteArray} {hops : Nat} (h : (one L base fence follow pos part rest hops).done = true ∨ (one L base fence follow pos part rest hops).err ≠ 0) : go L base fence follow 1000 ⟨pos, part :: rest, hops⟩ = ((one L base fence follow pos part rest hops).fd, (one L base fence follow pos part rest hops).err) := if_pos h
theorem path_base {L : List Sp.Ob} {base : Int} {s : ByteArray} {fence follow : Bool} (h : Sp.noDir L base ≠ 0) : path L base s fence follow = (nilF, Sp.noDir L base) := if_pos h
theorem path_turn {L : List Sp.Ob} {base : Int} {s : ByteArray} {fence follow : Bool} (h : Sp.noDir L base = 0) (h2 : turnE s fence ≠ 0) : path L base s fence follow = (nilF, turnE s fence) := by
  unfold path
  rw [if_neg (by rw [h]; decide), if_pos h2]
theorem path_go {L : List Sp.Ob} {base : Int} {s : ByteArray} {fence follow : Bool} (h : Sp.noDir L base = 0) (h2 : turnE s fence = 0) : path L base s fence follow = go L base fence follow 1000 ⟨turnA s base, partsB s, 0⟩ := by
  unfold path
  rw [if_neg (by rw [h]; decide), if_neg (by rw [h2]; decide)]
theorem start_stand {L : List Sp.Ob} (hT : Tree L) {base : Int} (s : ByteArray) (h : Sp.noDir L base = 0) : Stand L ⟨turnA s base, partsB s, 0⟩ := by
  obtain ⟨n, o, rfl, hx, hk, _⟩ := noDir_zero h
  have hu : isK L (turnA s (n : Int)) 2 = true := by
    unfold turnA
    split
    · exact hT.root
    · rw [isK_nat hx, hk]; rfl
  exact ⟨isK_stand hu, fun _ => hu⟩
end Lk
/-- Where Path stands in its loop. -/
def LkPI (L : List Sp.Ob) (g : Nat) (W1 : World) (vl : Value) (base : Int) (fence follow : Bool) (r : Lk.Fd × Int) (wr : World) : Prop :=
  ∃ st : Lk.St, Wk wr g (fun b => b < wr.heap.size ∧ b ≠ g) vl base fence follow st ∧ Only g W1 wr ∧ st.hops ≤ 6 ∧ Lk.mu st < 1000 ∧ Lk.Stand L st ∧ r = Lk.go L base fence follow 1000 st
set_option maxRecDepth 100000 in
set_option maxHeartbeats 8000000 in
theorem path_any (L : List Sp.Ob) (hTr : Lk.Tree L) (s : ByteArray) (mm : Int) (hs : s.size ≤ maxLen) (vl : Value) (base : Int) (fence follow : Bool) (S : Nat → Prop) (W : World) (hv : Objs W S vl L) (hS : ∀ b, S b → b < W.heap.size) (h00 : W.cell? ⟨0, 0, none⟩ = some (.int .i64 mm)) (hW0 : 0 < W.heap.size) :
    Calls Tryd.prog 9 #[vl, .int .i64 base, .string s, .bool fence, .bool follow] W fun e w' => e = .returned (.tuple #[fdV (Lk.path L base s fence follow).1.obj (Lk.path L base s fence follow).1.dir (Lk.path L base s fence follow).1.name, .int .i64 (Lk.path L base s fence follow).2]) ∧ Below W.heap.size W w' := by
  have hB0 : Below W.heap.size W (W.alloc (.cells #[.int .i64 0, .int .i64 0, .string ⟨#[]⟩] 30)) := (Below.refl _ _).alloc (Nat.le_refl _) _
  have hK0 : Blk (W.alloc (.cells #[.int .i64 0, .int .i64 0, .string ⟨#[]⟩] 30)) W.heap.size #[.int .i64 0, .int .i64 0, .string ⟨#[]⟩] 30 := Blk.new W _ _
  obtain ⟨w0, hw0⟩ : ∃ w0, w0 = (W.alloc (.cells #[.int .i64 0, .int .i64 0, .string ⟨#[]⟩] 30)) := ⟨_, rfl⟩
  rw [← hw0] at hB0 hK0
  have hs0 : w0.heap.size = W.heap.size + 1 := by rw [hw0]; simp
  have HW : Hid (w0 = (W.alloc (.cells #[.int .i64 0, .int .i64 0, .string ⟨#[]⟩] 30))) := hw0
  clear hw0
  have hv0 : Objs w0 S vl L := hv.on ((On.of hB0).less hS)
  have HNB : Hid (Calls Tryd.prog 26 #[vl, .int .i64 base] w0 fun e w' => e = .returned (.int .i64 (Sp.noDir L base)) ∧ w' = w0) := noBase_any L base vl S w0 hv0
  have HB0 : Hid (Below W.heap.size W w0) := hB0
  have HK0 : Hid (Blk w0 W.heap.size #[.int .i64 0, .int .i64 0, .string ⟨#[]⟩] 30) := hK0
  have HV0 : Hid (Objs w0 S vl L) := hv0
  have HS : Hid (∀ b, S b → b < W.heap.size) := hS
  have H00 : Hid (∀ w', Below W.heap.size W w' → w'.cell? ⟨0, 0, none⟩ = some (.int .i64 mm)) := fun w' h => by rw [h.cell (p := ⟨0, 0, none⟩) hW0]; exact h00
  have HTr : Hid (Lk.Tree L) := hTr
  have HW0 : Hid (0 < W.heap.size) := hW0
  obtain ⟨a, c, rfl, -⟩ := hv.form
  have r0 := hK0.cell 0
  have r1 := hK0.cell 1
  have r2 := hK0.cell 2
  have z0 := hK0.free 0
  have z1 := hK0.free 1
  have z2 := hK0.free 2
  clear hB0 hK0 hv hv0 hS h00 hTr hW0
  by_cases hn : Sp.noDir L base = 0
  · by_cases ht : Lk.turnE s fence = 0
    · have hRR : ∃ R, R = Lk.path L base s fence follow := ⟨_, rfl⟩
      obtain ⟨R, hR⟩ := hRR
      rw [← hR]
      have HR : Hid (R = Lk.go L base fence follow 1000 ⟨Lk.turnA s base, partsB s, 0⟩) := hR.trans (Lk.path_go hn ht)
      have HST : Hid (Lk.Stand L ⟨Lk.turnA s base, partsB s, 0⟩) := Lk.start_stand HTr.out s hn
      rw [hn] at HNB
      obtain ⟨⟨fo, fd, fn⟩, er⟩ := R
      have HPL : Hid ((partsB s).length ≤ 61) := partsB_len s (Lk.turnE_split ht)
      have hB1 : Below W.heap.size W (w0.alloc (.cells (wkC (.slice a L.length c) base fence follow base (.slice none 0 0) 0) 80)) := HB0.out.alloc (by omega) _
      have hK1 : Blk (w0.alloc (.cells (wkC (.slice a L.length c) base fence follow base (.slice none 0 0) 0) 80)) W.heap.size #[.int .i64 0, .int .i64 0, .string ⟨#[]⟩] 30 := HK0.out.alloc _
      have hG1 : Blk (w0.alloc (.cells (wkC (.slice a L.length c) base fence follow base (.slice none 0 0) 0) 80)) w0.heap.size (wkC (.slice a L.length c) base fence follow base (.slice none 0 0) 0) 80 := Blk.new w0 _ _
      have HTU : Hid (Calls Tryd.prog 27 #[.pointer (some ⟨w0.heap.size, 0, none⟩), .string s] (w0.alloc (.cells (wkC (.slice a L.length c) base fence follow base (.slice none 0 0) 0) 80)) _) := turn_any s mm hs w0.heap.size (.slice a L.length c) (.slice none 0 0) base base 0 fence follow [] (fun _ => False) _ hG1 (H00.out _ hB1) (Row.nil _ _ _ _ _) (fun b hb => absurd hb id) (Nat.zero_le _)
      have HT0 : Hid (Lk.turnE s fence = 0) := ht
      rw [ht, hs0] at HTU
      rw [hs0] at hG1
      have HB1 : Hid (Below W.heap.size W (w0.alloc (.cells #[.slice a L.length c, .int .i64 base, .bool fence, .bool follow, .int .i64 base, .slice none 0 0, .int .i64 0] 80))) := hB1
      have HK1 : Hid (Blk (w0.alloc (.cells #[.slice a L.length c, .int .i64 base, .bool fence, .bool follow, .int .i64 base, .slice none 0 0, .int .i64 0] 80)) W.heap.size #[.int .i64 0, .int .i64 0, .string ⟨#[]⟩] 30) := hK1
      have HZ1 : Hid ((w0.alloc (.cells #[.slice a L.length c, .int .i64 base, .bool fence, .bool follow, .int .i64 base, .slice none 0 0, .int .i64 0] 80)).heap.size = W.heap.size + 2) := by unfold Hid; simp; omega
      have HV1 : Hid (Objs (w0.alloc (.cells #[.slice a L.length c, .int .i64 base, .bool fence, .bool follow, .int .i64 base, .slice none 0 0, .int .i64 0] 80)) S (.slice a L.length c) L) := HV0.out.on ((On.alloc w0 _).less fun b hb => by have := HS.out b hb; omega)
      clear hB1 hK1 hG1 hR hn ht r0 r1 r2 z0 z1 z2
      unfold wkC at HTU
      unfold fdV
      go_enter Tryd.func9, Tryd.ntmps9
      go_wp2_with fail
      rw [← HW.out]
      refine Calls.mono HNB.out ?_
      rintro e w1 ⟨rfl, hw1⟩
      rw [hw1]
      clear hw1 HNB
      go_wp2_with fail
      generalize (w0.alloc (.cells #[.slice a L.length c, .int .i64 base, .bool fence, .bool follow, .int .i64 base, .slice none 0 0, .int .i64 0] 80)) = W1 at *
      refine Calls.mono HTU.out ?_
      rintro e w2 ⟨rfl, ho2, hcase⟩
      have HPI : Hid (LkPI L (W.heap.size + 1) W1 (.slice a L.length c) base fence follow (⟨fo, fd, fn⟩, er) w2) := by
        rcases hcase with ⟨h, -⟩ | ⟨-, v', h1, h2⟩
        · exact absurd rfl h
        · rw [List.append_nil] at h2
          refine ⟨⟨Lk.turnA s base, partsB s, 0⟩, ⟨v', h1, Row.more h2 fun b hb => ⟨hb.2, by have := hb.1; have := HZ1.out; omega⟩⟩, ho2, Nat.zero_le _, ?_, HST.out, HR.out⟩
          have := HPL.out
          unfold Lk.mu
          dsimp only
          omega
      clear ho2 hcase HTU HST HR HPL
      go_wp2_with fail
      go_loopw [17] (fun _ wr => LkPI L (W.heap.size + 1) W1 (.slice a L.length c) base fence follow (⟨fo, fd, fn⟩, er) wr) (fun _ wr => wkMu (W.heap.size + 1) wr)
      case atStart => exact HPI.out
      case round =>
        clear HPI
        obtain ⟨⟨pos, left, hops⟩, hwk, ho, hh, hmu, hst, hr⟩ := hrel
        dsimp only at hh
        have HMU := wkMu_of hwk
        have HWK : Hid _ := hwk
        have HO : Hid (Only (W.heap.size + 1) W1 wr) := ho
        have HH : Hid (hops ≤ 6) := hh
        have HM : Hid (Lk.mu ⟨pos, left, hops⟩ < 1000) := hmu
        have HSTD : Hid (Lk.Stand L ⟨pos, left, hops⟩) := hst
        have HR : Hid _ := hr
        have HV : Hid (Objs wr S (.slice a L.length c) L) := HV1.out.on (ho.1.less fun b hb => by have := HS.out b hb; have := HZ1.out; omega)
        have hKr : Blk wr W.heap.size #[.int .i64 0, .int .i64 0, .string ⟨#[]⟩] 30 := HK1.out.on ho.1 ⟨HK1.out.lt, by omega⟩
        have HKr : Hid (Blk wr W.heap.size #[.int .i64 0, .int .i64 0, .string ⟨#[]⟩] 30) := hKr
        have HSZ : Hid (W.heap.size + 2 ≤ wr.heap.size) := by unfold Hid; have := ho.2.1; have := HZ1.out; omega
        have HC0 : Hid (wr.cell? ⟨0, 0, none⟩ = some (.int .i64 mm)) := by
          refine H00.out wr ?_
          exact HB1.out.trans ((ho.2.2 W.heap.size (by omega)))
        cases left with
        | nil =>
          obtain ⟨v, hb, hrow⟩ := hwk
          have g5 : wr.cell? ⟨W.heap.size + 1, 5, none⟩ = some v := hb.cell 5
          obtain ⟨a5, c5, rfl, -⟩ := hrow.form
          obtain ⟨m, x, hpx, hx, hxk⟩ := Lk.isK_some (hst.2 rfl)
          dsimp only at hpx
          subst hpx
          have HE : Hid (Calls Tryd.prog 29 #[.pointer (some ⟨W.heap.size + 1, 0, none⟩)] wr fun e w' => e = .returned (.tuple #[.agg #[.int .i64 (m : Int), .int .i64 x.up, .string ⟨#[]⟩], .int .i64 0]) ∧ Below wr.heap.size wr w') := end_dir L (W.heap.size + 1) m x _ _ base hops fence follow S wr hb HV.out (fun b hb => ⟨by have := HS.out b hb; have := HSZ.out; omega, by have := HS.out b hb; omega⟩) hx hxk
          have HRE : Hid (fo = (m : Int) ∧ fd = x.up ∧ fn = ⟨#[]⟩ ∧ er = 0) := by
            have h := HR.out
            have e : Lk.go L base fence follow 1000 ⟨(m : Int), [], hops⟩ = (⟨(m : Int), Lk.upOf L (m : Int), ⟨#[]⟩⟩, 0) := rfl
            rw [e, Lk.upOf_nat hx] at h
            cases h
            exact ⟨rfl, rfl, rfl, rfl⟩
          have hz : ((List.map tS ([] : List ByteArray)).length : Nat) = 0 := rfl
          rw [hz] at g5
          have r0 := hKr.cell 0
          have r1 := hKr.cell 1
          have r2 := hKr.cell 2
          have z0 := hKr.free 0
          have z1 := hKr.free 1
          have z2 := hKr.free 2
          have hltr := hKr.lt
          have HBR : Hid (Below W.heap.size W wr) := HB1.out.trans (HO.out.2.2 W.heap.size (by omega))
          clear ho hh hmu hst hr HMU hb hrow hx hxk hKr hz
          go_wp2_with fail
          refine Calls.mono HE.out ?_
          rintro e w3 ⟨rfl, hb3⟩
          have hK3 := HKr.out.below hb3 HKr.out.lt
          have HB3 : Hid (Below W.heap.size W w3) := HBR.out.trans (hb3.mono (by omega))
          have HK3 : Hid (Blk w3 W.heap.size #[.int .i64 0, .int .i64 0, .string ⟨#[]⟩] 30) := hK3
          clear r0 r1 r2 z0 z1 z2 hltr g5
          have r0 := hK3.cell 0
          have r1 := hK3.cell 1
          have r2 := hK3.cell 2
          have z0 := hK3.free 0
          have z1 := hK3.free 1
          have z2 := hK3.free 2
          have hlt3 := hK3.lt
          clear hb3 hK3 HE
          go_wp2
          generalize hW : ((w3.setCell ⟨W.heap.size, 0, none⟩ (.int .i64 (m : Int))).setCell ⟨W.heap.size, 1, none⟩ (.int .i64 x.up)).setCell ⟨W.heap.size, 2, none⟩ (.string ⟨#[]⟩) = W9
          obtain ⟨hb9, ho9, hs9, hB9⟩ := fd_cells HK3.out (m : Int) x.up ⟨#[]⟩ hW
          have hc9 := hb9.cell
          exact bodyPost_ret (v := .tuple #[.agg #[.int .i64 (m : Int), .int .i64 x.up, .string ⟨#[]⟩], .int .i64 0]) (by simp [results, Tryd.results9, go_sem, hc9]) rfl ⟨by rw [HRE.out.1, HRE.out.2.1, HRE.out.2.2.1, HRE.out.2.2.2], HB3.out.trans (hB9 _ (Nat.le_refl _))⟩
        | cons part rest =>
          have HN : Hid (rest.length ≤ 999) := by
            have := HM.out
            unfold Lk.mu at this
            simp only [List.length_cons] at this
            unfold Hid
            omega
          have hST := step_any L HTr.out (W.heap.size + 1) mm (.slice a L.length c) base pos fence follow part rest hops S wr HWK.out HV.out (fun b hb => ⟨by have := HS.out b hb; have := HSZ.out; omega, by have := HS.out b hb; omega⟩) HC0.out (by omega) HN.out HH.out
          have HONE : ∃ r, r = Lk.one L base fence follow pos part rest hops := ⟨_, rfl⟩
          obtain ⟨r, hone⟩ := HONE
          rw [← hone] at hST
          have H1E : Hid (Lk.one L base fence follow pos part rest hops = r) := hone.symm
          obtain ⟨⟨ro, rd, rn⟩, dn, re, rst⟩ := r
          have HST : Hid (Calls Tryd.prog 28 #[.pointer (some ⟨W.heap.size + 1, 0, none⟩)] wr fun e w' => e = .returned (.tuple #[.agg #[.int .i64 ro, .int .i64 rd, .string rn], .bool dn, .int .i64 re]) ∧ Only (W.heap.size + 1) wr w' ∧ (dn = false → re = 0 → Wk w' (W.heap.size + 1) (fun b => b < w'.heap.size ∧ b ≠ W.heap.size + 1) (.slice a L.length c) base fence follow rst)) := hST
          obtain ⟨v, hb, hrow⟩ := hwk
          have g5 : wr.cell? ⟨W.heap.size + 1, 5, none⟩ = some v := hb.cell 5
          obtain ⟨a5, c5, rfl, -⟩ := hrow.form
          have hz : ((List.map tS (part :: rest)).length : Nat) = rest.length + 1 := by simp
          dsimp only at g5
          rw [hz] at g5
          have hgz : (0 : Int) < (rest.length : Int) + 1 := by omega
          have HBR : Hid (Below W.heap.size W wr) := HB1.out.trans (HO.out.2.2 W.heap.size (by omega))
          have HMU : Hid (wkMu (W.heap.size + 1) wr = Lk.mu ⟨pos, part :: rest, hops⟩) := HMU
          clear ho hh hmu hst hr hb hrow hKr hz hone hST
          go_wp2_with fail
          refine Calls.mono HST.out ?_
          rintro e w3 ⟨rfl, ho3, hnext⟩
          have HO3 : Hid (Only (W.heap.size + 1) W1 w3) := HO.out.trans ho3
          have hsz3 := ho3.2.1
          have HB3 : Hid (Below W.heap.size W w3) := HBR.out.trans (ho3.2.2 _ (by omega))
          have HNX : Hid _ := hnext
          have hK3 : Blk w3 W.heap.size #[.int .i64 0, .int .i64 0, .string ⟨#[]⟩] 30 := HKr.out.on ho3.1 ⟨HKr.out.lt, by omega⟩
          have HK3 : Hid (Blk w3 W.heap.size #[.int .i64 0, .int .i64 0, .string ⟨#[]⟩] 30) := hK3
          have HSZ3 : Hid (wr.heap.size ≤ w3.heap.size) := hsz3
          clear ho3 hnext HST g5 hK3 hsz3
          cases dn with
          | true =>
            have HRE : Hid (fo = ro ∧ fd = rd ∧ fn = rn ∧ er = re) := by
              have h := HR.out
              rw [Lk.go_stop (Or.inl (by rw [H1E.out])), H1E.out] at h
              obtain ⟨hf, h1⟩ := Prod.mk.inj h
              obtain ⟨h2, h3, h4⟩ := Lk.Fd.mk.inj hf
              exact ⟨h2, h3, h4, h1⟩
            have hK10 : Blk (w3.alloc (.cells #[.int .i64 ro, .int .i64 rd, .string rn] 30)) W.heap.size #[.int .i64 0, .int .i64 0, .string ⟨#[]⟩] 30 := HK3.out.alloc _
            have HK10 : Hid (Blk (w3.alloc (.cells #[.int .i64 ro, .int .i64 rd, .string rn] 30)) W.heap.size #[.int .i64 0, .int .i64 0, .string ⟨#[]⟩] 30) := hK10
            have HB10 : Hid (Below W.heap.size W (w3.alloc (.cells #[.int .i64 ro, .int .i64 rd, .string rn] 30))) := HB3.out.alloc (by have := HSZ.out; have := HSZ3.out; omega) _
            have r0 := hK10.cell 0
            have r1 := hK10.cell 1
            have r2 := hK10.cell 2
            have z0 := hK10.free 0
            have z1 := hK10.free 1
            have z2 := hK10.free 2
            have hlt10 := hK10.lt
            have hne10 : ¬ W.heap.size = w3.heap.size := by have := HSZ.out; have := HSZ3.out; omega
            clear hK10
            go_wp2
            generalize (w3.alloc (.cells #[.int .i64 ro, .int .i64 rd, .string rn] 30)) = w10 at *
            generalize hW : ((w10.setCell ⟨W.heap.size, 0, none⟩ (.int .i64 ro)).setCell ⟨W.heap.size, 1, none⟩ (.int .i64 rd)).setCell ⟨W.heap.size, 2, none⟩ (.string rn) = W9
            obtain ⟨hb9, ho9, hs9, hB9⟩ := fd_cells HK10.out ro rd rn hW
            have hc9 := hb9.cell
            exact bodyPost_ret (v := .tuple #[.agg #[.int .i64 ro, .int .i64 rd, .string rn], .int .i64 re]) (by simp [results, Tryd.results9, go_sem, hc9]) rfl ⟨by rw [HRE.out.1, HRE.out.2.1, HRE.out.2.2.1, HRE.out.2.2.2], HB10.out.trans (hB9 _ (Nat.le_refl _))⟩
          | false =>
            by_cases h0 : re = 0
            · subst h0
              have HW3 : Hid (Wk w3 (W.heap.size + 1) (fun b => b < w3.heap.size ∧ b ≠ W.heap.size + 1) (.slice a L.length c) base fence follow rst) := HNX.out rfl rfl
              have HP3 : Hid (LkPI L (W.heap.size + 1) W1 (.slice a L.length c) base fence follow (⟨fo, fd, fn⟩, er) (w3.alloc (.cells #[.int .i64 ro, .int .i64 rd, .string rn] 30)) ∧ wkMu (W.heap.size + 1) (w3.alloc (.cells #[.int .i64 ro, .int .i64 rd, .string rn] 30)) < wkMu (W.heap.size + 1) wr) := by
                have hle := Lk.one_less (L := L) (base := base) (pos := pos) (fence := fence) (follow := follow) (part := part) (rest := rest) HH.out (by rw [H1E.out])
                have hsta := Lk.one_stand HTr.out HSTD.out (base := base) (fence := fence) (follow := follow) (by rw [H1E.out]) (by rw [H1E.out])
                have hgo := Lk.go_step (L := L) (base := base) (pos := pos) (fence := fence) (follow := follow) (part := part) (rest := rest) HH.out HM.out (by rw [H1E.out]) (by rw [H1E.out])
                rw [H1E.out] at hle hsta hgo
                dsimp only at hle hsta hgo
                have hgl3 : W.heap.size + 1 < w3.heap.size := by have := HSZ.out; have := HSZ3.out; omega
                have hwa : Wk (w3.alloc (.cells #[.int .i64 ro, .int .i64 rd, .string rn] 30)) (W.heap.size + 1) (fun b => b < (w3.alloc (.cells #[.int .i64 ro, .int .i64 rd, .string rn] 30)).heap.size ∧ b ≠ W.heap.size + 1) (.slice a L.length c) base fence follow rst := by
                  obtain ⟨v', h1, h2⟩ := HW3.out
                  exact ⟨v', h1.alloc _, Row.more (Row.on h2 ((On.alloc w3 _).less fun b hb => hb.1)) fun b hb => ⟨by simp; omega, hb.2⟩⟩
                refine ⟨⟨rst, hwa, ?_, hle.1, by have := HM.out; omega, hsta, by rw [HR.out, hgo]⟩, ?_⟩
                · have : Only (W.heap.size + 1) w3 (w3.alloc (.cells #[.int .i64 ro, .int .i64 rd, .string rn] 30)) := Only.below hgl3 ((Below.refl _ _).alloc (Nat.le_refl _) _)
                  exact HO3.out.trans this
                · rw [wkMu_of hwa, HMU.out]
                  exact hle.2
              clear HNX HW3
              go_wp2
              go_roundw
              case rel => exact HP3.out.1
              case measure => exact HP3.out.2
            · have h0' : (re != 0) = true := by simpa using h0
              have h00' : (re == 0) = false := by simpa using h0
              have HRE : Hid (fo = ro ∧ fd = rd ∧ fn = rn ∧ er = re) := by
                have h := HR.out
                rw [Lk.go_stop (Or.inr (by rw [H1E.out]; exact h0)), H1E.out] at h
                obtain ⟨hf, h1⟩ := Prod.mk.inj h
                obtain ⟨h2, h3, h4⟩ := Lk.Fd.mk.inj hf
                exact ⟨h2, h3, h4, h1⟩
              clear h0
              have hK10 : Blk (w3.alloc (.cells #[.int .i64 ro, .int .i64 rd, .string rn] 30)) W.heap.size #[.int .i64 0, .int .i64 0, .string ⟨#[]⟩] 30 := HK3.out.alloc _
              have HK10 : Hid (Blk (w3.alloc (.cells #[.int .i64 ro, .int .i64 rd, .string rn] 30)) W.heap.size #[.int .i64 0, .int .i64 0, .string ⟨#[]⟩] 30) := hK10
              have HB10 : Hid (Below W.heap.size W (w3.alloc (.cells #[.int .i64 ro, .int .i64 rd, .string rn] 30))) := HB3.out.alloc (by have := HSZ.out; have := HSZ3.out; omega) _
              have r0 := hK10.cell 0
              have r1 := hK10.cell 1
              have r2 := hK10.cell 2
              have z0 := hK10.free 0
              have z1 := hK10.free 1
              have z2 := hK10.free 2
              have hlt10 := hK10.lt
              have hne10 : ¬ W.heap.size = w3.heap.size := by have := HSZ.out; have := HSZ3.out; omega
              clear hK10
              go_wp2
              generalize (w3.alloc (.cells #[.int .i64 ro, .int .i64 rd, .string rn] 30)) = w10 at *
              generalize hW : ((w10.setCell ⟨W.heap.size, 0, none⟩ (.int .i64 ro)).setCell ⟨W.heap.size, 1, none⟩ (.int .i64 rd)).setCell ⟨W.heap.size, 2, none⟩ (.string rn) = W9
              obtain ⟨hb9, ho9, hs9, hB9⟩ := fd_cells HK10.out ro rd rn hW
              have hc9 := hb9.cell
              exact bodyPost_ret (v := .tuple #[.agg #[.int .i64 ro, .int .i64 rd, .string rn], .int .i64 re]) (by simp [results, Tryd.results9, go_sem, hc9]) rfl ⟨by rw [HRE.out.1, HRE.out.2.1, HRE.out.2.2.1, HRE.out.2.2.2], HB10.out.trans (hB9 _ (Nat.le_refl _))⟩
    · have hte : Lk.path L base s fence follow = (Lk.nilF, Lk.turnE s fence) := Lk.path_turn hn ht
      rw [hte]
      rw [hn] at HNB
      have hB1 : Below W.heap.size W (w0.alloc (.cells (wkC (.slice a L.length c) base fence follow base (.slice none 0 0) 0) 80)) := HB0.out.alloc (by omega) _
      have hK1 : Blk (w0.alloc (.cells (wkC (.slice a L.length c) base fence follow base (.slice none 0 0) 0) 80)) W.heap.size #[.int .i64 0, .int .i64 0, .string ⟨#[]⟩] 30 := HK0.out.alloc _
      have hG1 : Blk (w0.alloc (.cells (wkC (.slice a L.length c) base fence follow base (.slice none 0 0) 0) 80)) w0.heap.size (wkC (.slice a L.length c) base fence follow base (.slice none 0 0) 0) 80 := Blk.new w0 _ _
      have HTU : Hid (Calls Tryd.prog 27 #[.pointer (some ⟨w0.heap.size, 0, none⟩), .string s] (w0.alloc (.cells (wkC (.slice a L.length c) base fence follow base (.slice none 0 0) 0) 80)) fun e w' => e = .returned (.int .i64 (Lk.turnE s fence)) ∧ Only w0.heap.size (w0.alloc (.cells (wkC (.slice a L.length c) base fence follow base (.slice none 0 0) 0) 80)) w') := (turn_any s mm hs w0.heap.size (.slice a L.length c) (.slice none 0 0) base base 0 fence follow [] (fun _ => False) _ hG1 (H00.out _ hB1) (Row.nil _ _ _ _ _) (fun b hb => absurd hb id) (Nat.zero_le _)).mono fun e w' h => ⟨h.1, h.2.1⟩
      rw [hs0] at HTU
      have HB1 : Hid (Below W.heap.size W (w0.alloc (.cells #[.slice a L.length c, .int .i64 base, .bool fence, .bool follow, .int .i64 base, .slice none 0 0, .int .i64 0] 80))) := hB1
      have HK1 : Hid (Blk (w0.alloc (.cells #[.slice a L.length c, .int .i64 base, .bool fence, .bool follow, .int .i64 base, .slice none 0 0, .int .i64 0] 80)) W.heap.size #[.int .i64 0, .int .i64 0, .string ⟨#[]⟩] 30) := hK1
      have HZ1 : Hid ((w0.alloc (.cells #[.slice a L.length c, .int .i64 base, .bool fence, .bool follow, .int .i64 base, .slice none 0 0, .int .i64 0] 80)).heap.size = W.heap.size + 2) := by unfold Hid; simp; omega
      have ht' : (Lk.turnE s fence != 0) = true := by simpa using ht
      clear hB1 hK1 hG1 hte hn ht r0 r1 r2 z0 z1 z2
      unfold wkC at HTU
      unfold fdV
      generalize Lk.turnE s fence = te at *
      go_enter Tryd.func9, Tryd.ntmps9
      go_wp2_with fail
      rw [← HW.out]
      refine Calls.mono HNB.out ?_
      rintro e w1 ⟨rfl, hw1⟩
      rw [hw1]
      clear hw1 HNB
      go_wp2_with fail
      generalize (w0.alloc (.cells #[.slice a L.length c, .int .i64 base, .bool fence, .bool follow, .int .i64 base, .slice none 0 0, .int .i64 0] 80)) = W1 at *
      refine Calls.mono HTU.out ?_
      rintro e w2 ⟨rfl, ho2⟩
      have hK2 : Blk w2 W.heap.size #[.int .i64 0, .int .i64 0, .string ⟨#[]⟩] 30 := HK1.out.on ho2.1 ⟨HK1.out.lt, by omega⟩
      have HK2 : Hid (Blk w2 W.heap.size #[.int .i64 0, .int .i64 0, .string ⟨#[]⟩] 30) := hK2
      have HB2 : Hid (Below W.heap.size W w2) := HB1.out.trans (ho2.2.2 _ (by omega))
      have r0 := hK2.cell 0
      have r1 := hK2.cell 1
      have r2 := hK2.cell 2
      have z0 := hK2.free 0
      have z1 := hK2.free 1
      have z2 := hK2.free 2
      have hlt2 := hK2.lt
      clear ho2 hK2 HTU
      go_wp2
      generalize hW : ((w2.setCell ⟨W.heap.size, 0, none⟩ (.int .i64 0)).setCell ⟨W.heap.size, 1, none⟩ (.int .i64 0)).setCell ⟨W.heap.size, 2, none⟩ (.string ⟨#[]⟩) = W9
      obtain ⟨hb9, ho9, hs9, hB9⟩ := fd_cells HK2.out 0 0 ⟨#[]⟩ hW
      have hc9 := hb9.cell
      exact bodyPost_ret (v := .tuple #[.agg #[.int .i64 0, .int .i64 0, .string ⟨#[]⟩], .int .i64 te]) (by simp [results, Tryd.results9, go_sem, hc9]) rfl ⟨rfl, HB2.out.trans (hB9 _ (Nat.le_refl _))⟩
  · rw [Lk.path_base hn]
    have hn' : (Sp.noDir L base != 0) = true := by simpa using hn
    clear hn
    unfold fdV
    generalize Sp.noDir L base = nd at *
    have hlt0 := HK0.out.lt
    go_enter Tryd.func9, Tryd.ntmps9
    go_wp2_with fail
    rw [← HW.out]
    refine Calls.mono HNB.out ?_
    rintro e w1 ⟨rfl, hw1⟩
    rw [hw1]
    clear hw1 HNB
    go_wp2
    generalize hW : ((w0.setCell ⟨W.heap.size, 0, none⟩ (.int .i64 0)).setCell ⟨W.heap.size, 1, none⟩ (.int .i64 0)).setCell ⟨W.heap.size, 2, none⟩ (.string ⟨#[]⟩) = W9
    obtain ⟨hb9, ho9, hs9, hB9⟩ := fd_cells HK0.out 0 0 ⟨#[]⟩ hW
    have hc9 := hb9.cell
    exact bodyPost_ret (v := .tuple #[.agg #[.int .i64 0, .int .i64 0, .string ⟨#[]⟩], .int .i64 nd]) (by simp [results, Tryd.results9, go_sem, hc9]) rfl ⟨rfl, HB0.out.trans (hB9 _ (Nat.le_refl _))⟩
end Go.Proofs.YtfiiandnopifnaaDoor
/-
  rglaw6.alive, walked.
-/
namespace Go.Proofs.YtfiiandnopifnaaDoor
open Go.RowKit
namespace Lk
theorem parts_of {s : ByteArray} {xs : List ByteArray} (h : Pt.parts s.data.toList = xs.map (·.data.toList)) : partsB s = xs := by
  have h1 := partsB_data s
  rw [h] at h1
  have : ∀ (a b : List ByteArray), a.map (·.data.toList) = b.map (·.data.toList) → a = b := by
    intro a
    induction a with
    | nil => intro b hb; cases b with | nil => rfl | cons y t => simp at hb
    | cons x r ih =>
      intro b hb
      cases b with
      | nil => simp at hb
      | cons y t =>
        rw [List.map_cons, List.map_cons] at hb
        obtain ⟨e1, e2⟩ := List.cons.inj hb
        rw [Pt.bytes_ext e1, ih t e2]
  exact this _ _ h1
def p1 : ByteArray := ⟨#[98, 47, 46, 46, 47, 98, 47, 102]⟩
theorem p1_parts : partsB p1 = [nB, ⟨#[46, 46]⟩, nB, nF] := parts_of (by decide)
theorem nL_parts : partsB nL = [nL] := parts_of (by decide)
theorem tg_parts : partsB ⟨#[46, 46, 47, 120]⟩ = [⟨#[46, 46]⟩, ⟨#[120]⟩] := parts_of (by decide)
theorem t4_path1 : path t4 1 p1 true true = (⟨3, 2, nF⟩, 0) := by
  unfold path
  rw [if_neg (by decide), if_neg (by decide), p1_parts, show turnA p1 1 = 1 by decide]
  kernel_rfl
theorem t4_path2 : path t4 1 nL true true = (nilF, 14) := by
  unfold path
  rw [if_neg (by decide), if_neg (by decide), nL_parts, show turnA nL 1 = 1 by decide]
  kernel_rfl
theorem t4_path3 : path t4 1 nL false true = (⟨-1, 0, ⟨#[120]⟩⟩, 0) := by
  unfold path
  rw [if_neg (by decide), if_neg (by decide), nL_parts, show turnA nL 1 = 1 by decide]
  kernel_rfl
theorem t4_ben : ben t4 1 5 2 = true ∧ ben t4 1 5 0 = false := by decide +kernel
theorem t4_cases {n : Nat} {o : Sp.Ob} (h : t4[n]? = some o) : n < 5 := (List.getElem?_eq_some_iff.1 h).1
theorem t4_tree : Tree t4 := by
  refine ⟨by decide, ?_, ?_, ?_⟩
  · intro n o h hk
    have hn := t4_cases h
    match n, hn, h with
    | 0, _, h => cases h; decide
    | 1, _, h => cases h; decide
    | 2, _, h => cases h; decide
    | 3, _, h => cases h; exact absurd hk (by decide)
    | 4, _, h => cases h; exact absurd hk (by decide)
  · intro n o h hk e he
    have hn := t4_cases h
    match n, hn, h with
    | 0, _, h => cases h; simp [rootA] at he; subst he; exact ⟨1, _, rfl, rfl⟩
    | 1, _, h =>
      cases h
      simp at he
      rcases he with rfl | rfl
      · exact ⟨2, _, rfl, rfl⟩
      · exact ⟨4, _, rfl, rfl⟩
    | 2, _, h => cases h; simp at he; subst he; exact ⟨3, _, rfl, rfl⟩
    | 3, _, h => cases h; exact absurd hk (by decide)
    | 4, _, h => cases h; exact absurd hk (by decide)
  · intro o ho
    have : o.target.size ≤ 4 := by
      simp [t4] at ho
      rcases ho with rfl | rfl | rfl | rfl | rfl <;> decide
    unfold maxLen
    omega
end Lk
set_option maxRecDepth 100000 in
set_option maxHeartbeats 8000000 in
theorem alive6_any (mm : Int) (w : World) (h00 : w.cell? ⟨0, 0, none⟩ = some (.int .i64 mm)) (hw0 : 0 < w.heap.size) :
    Calls Tryd.prog 13 #[] w fun e w' => e = .returned (.bool true) ∧ Below w.heap.size w w' := by
  have HTREE : Hid (∀ w', Below w.heap.size w w' → Calls Tryd.prog 19 #[] w' fun e w'' => ∃ a c, e = .returned (.slice a 5 c) ∧ Objs w'' (fun b => b < w''.heap.size) (.slice a 5 c) Lk.t4 ∧ Below w'.heap.size w' w'' ∧ Below w.heap.size w w'') := fun w' h => (tree_any w').mono fun e w'' ⟨a, c, h1, h2, h3⟩ => ⟨a, c, h1, h2.more fun b hb => hb.2, h3, h.trans (h3.mono h.size)⟩
  have HPATH : Hid (∀ (a : Option Addr) (c : Nat) (s : ByteArray) (fence : Bool) (r : Lk.Fd × Int) (w' : World), s.size ≤ maxLen → Lk.path Lk.t4 1 s fence true = r → Objs w' (fun b => b < w'.heap.size) (.slice a 5 c) Lk.t4 → Below w.heap.size w w' → Calls Tryd.prog 9 #[.slice a 5 c, .int .i64 1, .string s, .bool fence, .bool true] w' fun e w'' => e = .returned (.tuple #[.agg #[.int .i64 r.1.obj, .int .i64 r.1.dir, .string r.1.name], .int .i64 r.2]) ∧ Below w'.heap.size w' w'' ∧ Below w.heap.size w w'') := fun a c s fence r w' hs hr hO h => by
    subst hr
    refine (path_any Lk.t4 Lk.t4_tree s mm hs (.slice a 5 c) 1 fence true _ w' hO (fun b hb => hb) ?_ (Nat.lt_of_lt_of_le hw0 h.size)).mono fun e w'' ⟨h1, h2⟩ => ⟨h1, h2, h.trans (h2.mono h.size)⟩
    rw [h.cell (p := ⟨0, 0, none⟩) hw0]
    exact h00
  have HBEN : Hid (∀ (a : Option Addr) (c : Nat) (d : Int) (w' : World), Objs w' (fun b => b < w'.heap.size) (.slice a 5 c) Lk.t4 → Calls Tryd.prog 11 #[.slice a 5 c, .int .i64 d, .int .i64 1] w' fun e w'' => e = .returned (.bool (Lk.ben Lk.t4 1 5 d)) ∧ w'' = w') := fun a c d w' hO => beneath_any Lk.t4 d 1 _ _ w' hO
  clear h00 hw0
  go_enter Tryd.func13, Tryd.ntmps13
  go_wp2_with fail
  refine Calls.mono (HTREE.out w (Below.refl _ _)) ?_
  rintro e w1 ⟨a1, c1, rfl, hO1, -, hb1⟩
  have HP1 : Hid _ := HPATH.out a1 c1 Lk.p1 true _ w1 (by decide) Lk.t4_path1 hO1 hb1
  clear hO1 hb1
  go_wp2_with fail
  refine Calls.mono HP1.out ?_
  rintro e w2 ⟨rfl, -, hb2⟩
  dsimp only
  have HB2 : Hid (Below w.heap.size w (w2.alloc (.cells #[.int .i64 3, .int .i64 2, .string Lk.nF] 30))) := hb2.alloc hb2.size _
  have HK2 : Hid (Blk (w2.alloc (.cells #[.int .i64 3, .int .i64 2, .string Lk.nF] 30)) w2.heap.size #[.int .i64 3, .int .i64 2, .string Lk.nF] 30) := Blk.new _ _ _
  have hz2 : (w2.alloc (.cells #[.int .i64 3, .int .i64 2, .string Lk.nF] 30)).heap.size = w2.heap.size + 1 := by simp
  clear hb2 HP1
  go_wp2_with fail
  generalize (w2.alloc (.cells #[.int .i64 3, .int .i64 2, .string Lk.nF] 30)) = w3 at *
  refine Calls.mono (HTREE.out w3 HB2.out) ?_
  rintro e w4 ⟨a4, c4, rfl, hO4, hb34, hb4⟩
  have HK4 : Hid (Blk w4 w2.heap.size #[.int .i64 3, .int .i64 2, .string Lk.nF] 30) := HK2.out.below hb34 HK2.out.lt
  have HP4 : Hid _ := HPATH.out a4 c4 Lk.nL true _ w4 (by decide) Lk.t4_path2 hO4 hb4
  clear hO4 hb4 hb34 HK2 HB2
  go_wp2_with fail
  refine Calls.mono HP4.out ?_
  rintro e w5 ⟨rfl, hb45, hb5⟩
  dsimp only
  have HK5 : Hid (Blk w5 w2.heap.size #[.int .i64 3, .int .i64 2, .string Lk.nF] 30) := HK4.out.below hb45 HK4.out.lt
  have HB6 : Hid (Below w.heap.size w (w5.alloc (.cells #[.int .i64 0, .int .i64 0, .string ⟨#[]⟩] 30))) := hb5.alloc hb5.size _
  have HK6 : Hid (Blk (w5.alloc (.cells #[.int .i64 0, .int .i64 0, .string ⟨#[]⟩] 30)) w2.heap.size #[.int .i64 3, .int .i64 2, .string Lk.nF] 30) := HK5.out.alloc _
  clear hb45 hb5 HP4 HK4 HK5
  unfold Lk.nilF
  dsimp only
  go_wp2_with fail
  generalize (w5.alloc (.cells #[.int .i64 0, .int .i64 0, .string ⟨#[]⟩] 30)) = w6 at *
  refine Calls.mono (HTREE.out w6 HB6.out) ?_
  rintro e w7 ⟨a7, c7, rfl, hO7, hb67, hb7⟩
  have HK7 : Hid (Blk w7 w2.heap.size #[.int .i64 3, .int .i64 2, .string Lk.nF] 30) := HK6.out.below hb67 HK6.out.lt
  have HP7 : Hid _ := HPATH.out a7 c7 Lk.nL false _ w7 (by decide) Lk.t4_path3 hO7 hb7
  clear hO7 hb7 hb67 HK6 HB6
  go_wp2_with fail
  refine Calls.mono HP7.out ?_
  rintro e w8 ⟨rfl, hb78, hb8⟩
  dsimp only
  have hK8 : Blk w8 w2.heap.size #[.int .i64 3, .int .i64 2, .string Lk.nF] 30 := HK7.out.below hb78 HK7.out.lt
  have q0 := hK8.cell 0
  have q2 := hK8.cell 2
  have hl8 := hK8.lt
  have HB9 : Hid (Below w.heap.size w (w8.alloc (.cells #[.int .i64 (-1), .int .i64 0, .string ⟨#[120]⟩] 30))) := hb8.alloc hb8.size _
  have hnf : (Lk.nF.toList == [102]) = true := by decide +kernel
  clear hb78 hb8 HP7 HK7 hK8
  go_wp2_with fail
  generalize (w8.alloc (.cells #[.int .i64 (-1), .int .i64 0, .string ⟨#[120]⟩] 30)) = w9 at *
  refine Calls.mono (HTREE.out w9 HB9.out) ?_
  rintro e w10 ⟨a10, c10, rfl, hO10, -, hb10⟩
  have HB10 : Hid (Below w.heap.size w w10) := hb10
  have HBN : Hid _ := HBEN.out a10 c10 2 w10 hO10
  clear hO10 hb10
  go_wp2_with fail
  refine Calls.mono HBN.out ?_
  rintro e w11 ⟨rfl, hw⟩
  rw [hw, Lk.t4_ben.1]
  clear hw HBN
  go_wp2_with fail
  refine Calls.mono (HTREE.out w10 HB10.out) ?_
  rintro e w12 ⟨a12, c12, rfl, hO12, -, hb12⟩
  have HB12 : Hid (Below w.heap.size w w12) := hb12
  have HBN : Hid _ := HBEN.out a12 c12 0 w12 hO12
  clear hO12 hb12
  go_wp2_with fail
  refine Calls.mono HBN.out ?_
  rintro e w13 ⟨rfl, hw⟩
  rw [hw, Lk.t4_ben.2]
  clear hw HBN
  go_wp2
  go_ret
  exact ⟨rfl, HB12.out⟩
end Go.Proofs.YtfiiandnopifnaaDoor
/-
  A link that leads to itself ends: plain facts.
-/
namespace Go.Proofs.YtfiiandnopifnaaDoor
open Go.RowKit
namespace Lk
def oT (T : ByteArray) : Sp.Ob := ⟨3, [], [], T, 0, [], 0, 0, 0⟩
def LL (name T : ByteArray) : List Sp.Ob := [{ rootA with ents := insE ⟨name, 5⟩ [⟨nA, 1⟩] }, { oDir with links := 1, ents := [⟨nB, 2⟩, ⟨nL, 4⟩] }, { oDir with links := 1, up := 1, ents := [⟨nF, 3⟩] }, { oFile with links := 1 }, { oLink with links := 1 }, { oT T with links := 1 }]
theorem LL_entered (name T : ByteArray) : Sp.entered (t4 ++ [oT T]) 0 5 rootA ⟨name, ((5 : Nat) : Int)⟩ = LL name T := rfl
theorem insE_one (x e : Sp.Ent) : insE x [e] = [x, e] ∨ insE x [e] = [e, x] := by
  unfold insE
  by_cases h : 0 < cmpE e x
  · rw [if_pos h]; exact Or.inl rfl
  · rw [if_neg h]; exact Or.inr rfl
theorem eqB_self (a : ByteArray) : Sp.eqB a a = true := by unfold Sp.eqB; simp
theorem eqB_ne {a b : ByteArray} (h : a ≠ b) : Sp.eqB a b = false := by
  unfold Sp.eqB
  rw [beq_eq_false_iff_ne]
  intro e
  refine h (Pt.bytes_ext ?_)
  have h1 := toList_beq a b.toList
  have h2 := toList_beq b b.toList
  rw [beq_self_eq_true] at h2
  rw [e, beq_self_eq_true] at h1
  have h3 : a.data.toList = b.toList := of_decide_eq_true h1.symm
  have h4 : b.data.toList = b.toList := of_decide_eq_true h2.symm
  rw [h3, h4]
theorem LL_find {name : ByteArray} (T : ByteArray) (hn : nA ≠ name) : Sp.find (LL name T) 0 name = 5 := by
  have h1 : Sp.objAt (LL name T) 0 = some { rootA with ents := insE ⟨name, 5⟩ [⟨nA, 1⟩] } := rfl
  unfold Sp.find
  rw [h1]
  have he := eqB_ne hn
  have hs := eqB_self name
  show (if (2 : Int) = 2 then _ else _) = _
  rw [if_pos rfl]
  show (match List.find? (fun e => Sp.eqB e.name name) (insE ⟨name, 5⟩ [⟨nA, 1⟩]) with | none => -1 | some e => e.obj) = 5
  rcases insE_one ⟨name, 5⟩ ⟨nA, 1⟩ with h | h <;> rw [h] <;> simp [he, hs]
theorem LL_tree (name T : ByteArray) (hT : T.size ≤ maxLen) : Tree (LL name T) := by
  refine ⟨rfl, ?_, ?_, ?_⟩
  · intro n o h hk
    have hn : n < 6 := (List.getElem?_eq_some_iff.1 h).1
    match n, hn, h with
    | 0, _, h => cases h; rfl
    | 1, _, h => cases h; rfl
    | 2, _, h => cases h; rfl
    | 3, _, h => cases h; exact absurd hk (by decide)
    | 4, _, h => cases h; exact absurd hk (by decide)
    | 5, _, h => cases h; exact absurd hk (show ¬ ((3 : Int) = 2) by decide)
  · intro n o h hk e he
    have hn : n < 6 := (List.getElem?_eq_some_iff.1 h).1
    match n, hn, h with
    | 0, _, h =>
      cases h
      have hm : e = ⟨name, 5⟩ ∨ e = ⟨nA, 1⟩ := by
        have he' : e ∈ insE ⟨name, 5⟩ [⟨nA, 1⟩] := he
        rcases insE_one ⟨name, 5⟩ ⟨nA, 1⟩ with h | h <;> rw [h] at he' <;> simp at he' <;> rcases he' with h | h <;> simp [h]
      rcases hm with rfl | rfl
      · exact ⟨5, _, rfl, rfl⟩
      · exact ⟨1, _, rfl, rfl⟩
    | 1, _, h =>
      cases h
      simp at he
      rcases he with rfl | rfl
      · exact ⟨2, _, rfl, rfl⟩
      · exact ⟨4, _, rfl, rfl⟩
    | 2, _, h => cases h; simp at he; subst he; exact ⟨3, _, rfl, rfl⟩
    | 3, _, h => cases h; exact absurd hk (by decide)
    | 4, _, h => cases h; exact absurd hk (by decide)
    | 5, _, h => cases h; exact absurd hk (show ¬ ((3 : Int) = 2) by decide)
  · intro o ho
    have : o.target.size ≤ 4 ∨ o.target = T := by
      simp [LL] at ho
      rcases ho with rfl | rfl | rfl | rfl | rfl | rfl
      · exact Or.inl (show rootA.target.size ≤ 4 by decide)
      · exact Or.inl (by decide)
      · exact Or.inl (by decide)
      · exact Or.inl (by decide)
      · exact Or.inl (by decide)
      · exact Or.inr rfl
    unfold maxLen at *
    rcases this with h | h
    · omega
    · rw [h]; exact hT
/-- What holds of names. -/
theorem name_facts {name : ByteArray} (h : Pt.isName name.data.toList = true) : name.data.toList ≠ [] ∧ name.size ≤ 12 ∧ name.data.toList ≠ [46] ∧ name.data.toList ≠ [46, 46] ∧ (47 : UInt8) ∉ name.data.toList := by
  have hf : Pt.fit name.data.toList = true := by unfold Pt.fit; rw [h]; simp
  have hp := Pt.fit_plain hf
  unfold Pt.isName at h
  rw [Bool.and_eq_true] at h
  obtain ⟨h1, h2, h3, h4⟩ := of_decide_eq_true h.1
  exact ⟨h1, by rw [size_list]; exact h2, h3, h4, hp⟩
theorem name_parts {name : ByteArray} (h : Pt.isName name.data.toList = true) : partsB name = [name] := by
  obtain ⟨h1, _, h3, _, h5⟩ := name_facts h
  refine parts_of ?_
  unfold Pt.parts
  rw [Pt.cut_no _ h5]
  have : Pt.keep name.data.toList = true := by unfold Pt.keep Pt.idle; simp [h1, h3]
  simp [this]
theorem name_root {name : ByteArray} (h : Pt.isName name.data.toList = true) (r : List UInt8) : Pt.root (name.data.toList ++ r) = false := by
  obtain ⟨h1, _, _, _, h5⟩ := name_facts h
  unfold Pt.root
  rw [decide_eq_false_iff_not]
  intro e
  cases hl : name.data.toList with
  | nil => exact h1 hl
  | cons c t =>
    rw [hl] at e h5
    simp at e
    exact h5 (by rw [e]; exact List.mem_cons_self)
theorem name_fine {name : ByteArray} (h : Pt.isName name.data.toList = true) : Pt.fine name.data.toList = true := by
  rw [fine_all, name_parts h]
  simp [fitB, Pt.fit, h]
theorem name_turn {name : ByteArray} (h : Pt.isName name.data.toList = true) (fence : Bool) : turnE name fence = 0 := by
  obtain ⟨h1, h2, _⟩ := name_facts h
  have hs : splitE name = 0 := by
    unfold splitE
    rw [if_neg h1, if_neg (by omega), if_neg (by rw [name_fine h]; decide)]
  have hr := name_root h []
  rw [List.append_nil] at hr
  unfold turnE
  rw [if_neg (by rw [hs]; decide), if_neg (by rw [hr]; simp)]
def tOf (name target : ByteArray) : ByteArray := name ++ ⟨#[47]⟩ ++ target
theorem tOf_data (name target : ByteArray) : (tOf name target).data.toList = name.data.toList ++ 47 :: target.data.toList := by
  unfold tOf
  rw [ByteArray.data_append, ByteArray.data_append, Array.toList_append, Array.toList_append]
  simp
theorem tOf_parts {name : ByteArray} (h : Pt.isName name.data.toList = true) (target : ByteArray) : partsB (tOf name target) = name :: partsB target := by
  obtain ⟨h1, _, h3, _, h5⟩ := name_facts h
  refine parts_of ?_
  rw [List.map_cons, partsB_data, tOf_data]
  unfold Pt.parts
  rw [Pt.cut_at _ _ h5]
  have : Pt.keep name.data.toList = true := by unfold Pt.keep Pt.idle; simp [h1, h3]
  rw [List.filter_cons_of_pos this]
theorem one_self {name target : ByteArray} (h : Pt.isName name.data.toList = true) (hn : nA ≠ name) (fence : Bool) (rest : List ByteArray) (hops : Nat) : one (LL name (tOf name target)) 0 fence true 0 name rest hops = ⟨nilF, false, throughE (tOf name target) fence hops, ⟨0, name :: (partsB target ++ rest), hops + 1⟩⟩ := by
  have hf := LL_find (tOf name target) hn
  have h2 : isUp name = false := by
    unfold isUp
    rw [toList_beq, decide_eq_false_iff_not]
    exact (name_facts h).2.2.2.1
  have h3 : isK (LL name (tOf name target)) (Sp.find (LL name (tOf name target)) 0 name) 3 = true := by rw [hf]; rfl
  rw [one_link rfl h2 h3 (Or.inl rfl), hf]
  have ht : trg (LL name (tOf name target)) 5 = tOf name target := rfl
  have hta : turnA (tOf name target) 0 = 0 := by unfold turnA; split <;> rfl
  rw [ht, hta, tOf_parts h]
  rfl
theorem go_self {name target : ByteArray} (h : Pt.isName name.data.toList = true) (hn : nA ≠ name) (fence : Bool) (ht : turnE (tOf name target) fence = 0) : ∀ (d hops : Nat), hops + d = 6 → ∀ (n : Nat) (rest : List ByteArray), d < n → go (LL name (tOf name target)) 0 fence true n ⟨0, name :: rest, hops⟩ = (nilF, 13)
  | 0, hops, hd, n + 1, rest, _ => by
    unfold go
    dsimp only
    rw [one_self h hn]
    have : throughE (tOf name target) fence hops = 13 := if_pos (by omega)
    rw [this, if_pos (Or.inr (show ¬ ((13 : Int) = 0) by decide))]
  | d + 1, hops, hd, n + 1, rest, hlt => by
    unfold go
    dsimp only
    rw [one_self h hn]
    have : throughE (tOf name target) fence hops = 0 := by unfold throughE; rw [if_neg (by omega)]; exact ht
    rw [this, if_neg (by simp)]
    exact go_self h hn fence ht d (hops + 1) (by omega) n _ (by omega)
  | _, _, _, 0, _, hlt => absurd hlt (Nat.not_lt_zero _)
theorem tOf_turn {name : ByteArray} (h : Pt.isName name.data.toList = true) (target : ByteArray) (fence : Bool) : turnE (tOf name target) fence = splitE (tOf name target) := by
  have hr : Pt.root (tOf name target).data.toList = false := by rw [tOf_data]; exact name_root h _
  unfold turnE
  by_cases h0 : splitE (tOf name target) ≠ 0
  · rw [if_pos h0]
  · rw [if_neg h0, if_neg (by rw [hr]; simp)]
    exact (Classical.byContradiction fun h1 => h0 fun h2 => h1 h2.symm)
theorem path_self {name target : ByteArray} (h : Pt.isName name.data.toList = true) (hn : nA ≠ name) (fence : Bool) : path (LL name (tOf name target)) 0 name fence true = (nilF, if splitE (tOf name target) = 0 then 13 else splitE (tOf name target)) := by
  have h0 : Sp.noDir (LL name (tOf name target)) 0 = 0 := rfl
  have hta : turnA name 0 = 0 := by unfold turnA; split <;> rfl
  rw [path_go h0 (name_turn h fence), name_parts h, hta]
  by_cases hs : splitE (tOf name target) = 0
  · rw [if_pos hs]
    exact go_self h hn fence (by rw [tOf_turn h]; exact hs) 6 0 rfl 1000 [] (by omega)
  · rw [if_neg hs]
    have e : throughE (tOf name target) fence 0 = splitE (tOf name target) := by unfold throughE; rw [if_neg (by omega), tOf_turn h]
    rw [go_stop (Or.inr (by rw [one_self h hn, e]; exact hs)), one_self h hn]
    show (nilF, throughE (tOf name target) fence 0) = _
    rw [e]
end Lk
end Go.Proofs.YtfiiandnopifnaaDoor
/-
  The document's own answer, chapter 4: rgref1.Join, of some texts of one sign each.
-/
namespace Go.Proofs.YtfiiandnopifnaaDoor
open Go.RowKit
def jnL (xs : List ByteArray) : List UInt8 := Lib.join (xs.map (·.data.toList)) [47]
def jnB (xs : List ByteArray) : ByteArray := ⟨(jnL xs).toArray⟩
theorem jnB_data (xs : List ByteArray) : (jnB xs).data.toList = jnL xs := by unfold jnB; simp
theorem jnL_snoc (xs : List ByteArray) (x : ByteArray) : jnL (xs ++ [x]) = if xs = [] then x.data.toList else jnL xs ++ 47 :: x.data.toList := by
  unfold jnL
  cases xs with
  | nil => simp [Lib.join_one]
  | cons y r =>
    rw [if_neg (by simp), List.cons_append, List.map_cons, List.map_cons, Lib.join_cons, Lib.join_cons, List.map_append]
    simp [Lib.joinTail]
theorem jnL_len : ∀ (xs : List ByteArray), (∀ x ∈ xs, x.size = 1) → (jnL xs).length ≤ 2 * xs.length
  | [], _ => by simp [jnL, Lib.join_nil]
  | x :: r, h => by
    have hx := h x List.mem_cons_self
    rw [size_list] at hx
    have hr : ∀ (r : List ByteArray), (∀ x ∈ r, x.size = 1) → (Lib.joinTail [47] (r.map (·.data.toList))).length = 2 * r.length := by
      intro r
      induction r with
      | nil => intro _; rfl
      | cons y t ih =>
        intro hy
        have h1 := hy y List.mem_cons_self
        rw [size_list] at h1
        have h2 := ih (fun z hz => hy z (List.mem_cons_of_mem _ hz))
        unfold Lib.joinTail at h2 ⊢
        simp only [List.map_cons, List.flatten_cons, List.length_append, List.length_cons, List.length_nil]
        simp only [List.map_map] at h2 ⊢
        omega
    unfold jnL
    rw [List.map_cons, Lib.join_cons, List.length_append, hr r (fun z hz => h z (List.mem_cons_of_mem _ hz)), List.length_cons]
    omega
set_option maxRecDepth 100000 in
set_option maxHeartbeats 4000000 in
theorem rjoin_any (xs : List ByteArray) (hne : xs ≠ []) (hx : ∀ x ∈ xs, x.size = 1) (hn : xs.length ≤ 6) (v : Value) (S : Nat → Prop) (w : World) (hv : Row w S 1 v (xs.map tS)) :
    Calls Tryd.prog 17 #[v, .bool false] w fun e w' => e = .returned (.string (jnB xs)) ∧ w' = w := by
  have hpos := List.length_pos_iff.2 hne
  obtain ⟨b, o, c, rfl, -, hc, hm, h5⟩ := hv.some (by rw [List.length_map]; omega)
  rw [List.length_map] at hc
  rw [List.length_map]
  unfold maxLen at hm
  have HC : Hid (∀ (k : Nat) x, xs[k]? = some x → w.cell? ⟨b, o + k, none⟩ = some (.string x)) := fun k x hk => by
    have := h5 k (tS x) (by rw [List.getElem?_map, hk]; rfl) 0 (.string x) rfl
    rw [Nat.mul_one, Nat.add_zero] at this
    exact this
  have HX : Hid (∀ x ∈ xs, x.size = 1) := hx
  clear hv hne hx h5
  go_enter Tryd.func17, Tryd.ntmps17
  go_wp2
  go_loop [5, 10] (fun s i => ∃ k : Nat, k ≤ xs.length ∧ i = .int .i64 k ∧ s = .string (jnB (xs.take k))) (fun _ i => xs.length - (intOf i).toNat)
  case atStart => exact ⟨0, Nat.zero_le _, rfl, rfl⟩
  case round =>
    obtain ⟨k, hk, rfl, rfl⟩ := hrel
    have hsz : (jnB (xs.take k)).size ≤ 12 := by
      rw [size_list, jnB_data]
      have := jnL_len (xs.take k) (fun x hx => HX.out x (List.mem_of_mem_take hx))
      have := List.length_take_le k xs
      omega
    by_cases hlt : k < xs.length
    · obtain ⟨x, hxk⟩ : ∃ x, xs[k]? = some x := ⟨_, List.getElem?_eq_getElem hlt⟩
      have hcx := HC.out k x hxk
      have hx1 := HX.out x (List.mem_of_getElem? hxk)
      have hT : jnL (xs.take (k + 1)) = if k = 0 then x.data.toList else jnL (xs.take k) ++ 47 :: x.data.toList := by
        rw [List.take_add_one, hxk, Option.toList_some, jnL_snoc]
        by_cases h0 : k = 0
        · subst h0; simp
        · rw [if_neg (by intro e; rw [List.take_eq_nil_iff] at e; rcases e with e | e; exact h0 e; rw [e] at hlt; simp at hlt), if_neg h0]
      by_cases h0 : k = 0
      · subst h0
        rw [Nat.add_zero] at hcx
        have HJ : Hid ((⟨#[]⟩ : ByteArray) ++ x = jnB (xs.take 1)) := by
          refine Pt.bytes_ext ?_
          rw [jnB_data, hT, if_pos rfl, ByteArray.data_append]
          simp
        have hj0 : jnB (xs.take 0) = ⟨#[]⟩ := rfl
        rw [hj0]
        have hle : ¬ 9223372036854775807 < 0 + x.size := by omega
        have hle' : ¬ 9223372036854775807 < x.size := by omega
        clear hT hxk hj0 hsz
        go_wp2
        go_round
        case rel => exact ⟨1, by omega, rfl, by first | rw [← HJ.out] | (rw [← HJ.out]; rfl) | (congr 1; rw [← HJ.out]; simp)⟩
        case measure => simp [intOf]; omega
      · have HJ : Hid (jnB (xs.take k) ++ ⟨#[47]⟩ ++ x = jnB (xs.take (k + 1))) := by
          refine Pt.bytes_ext ?_
          rw [jnB_data, hT, if_neg h0, ByteArray.data_append, ByteArray.data_append, Array.toList_append, Array.toList_append, jnB_data]
          simp
        have hk0 : (0 : Int) < (k : Int) := by omega
        clear hT hxk h0
        generalize jnB (xs.take k) = J at *
        have h1 : (J ++ ⟨#[47]⟩ : ByteArray).size = J.size + 1 := by rw [ByteArray.size_append]; rfl
        have hle1 : ¬ 9223372036854775807 < J.size + 1 := by omega
        have hle2 : ¬ 9223372036854775807 < J.size + 1 + x.size := by omega
        have hle3 : ¬ 9223372036854775807 < (J ++ ⟨#[47]⟩ : ByteArray).size + x.size := by omega
        go_wp2
        go_round
        case rel => exact ⟨k + 1, by omega, by go_num, by rw [← HJ.out]⟩
        case measure => simp [intOf]; omega
    · obtain rfl : k = xs.length := by omega
      rw [List.take_length]
      have hnn : ((jnB xs).toList == []) = false := by
        rw [toList_beq, decide_eq_false_iff_not, jnB_data]
        intro e
        obtain ⟨y, r, rfl⟩ := List.exists_cons_of_length_pos hpos
        have h1 := HX.out y List.mem_cons_self
        rw [size_list] at h1
        unfold jnL at e
        rw [List.map_cons, Lib.join_cons] at e
        have := congrArg List.length e
        rw [List.length_append, List.length_nil] at this
        omega
      clear hsz
      go_wp2
      go_ret
      exact ⟨rfl, rfl⟩
end Go.Proofs.YtfiiandnopifnaaDoor
/-
  Step by step: plain facts.
-/
namespace Go.Proofs.YtfiiandnopifnaaDoor
open Go.RowKit
namespace Lk
theorem find_size {L : List Sp.Ob} (hT : Sp.TOk L) {pos : Int} {name : ByteArray} (h : 0 ≤ Sp.find L pos name) : name.size = 1 := by
  unfold Sp.find at h
  cases ho : Sp.objAt L pos with
  | none => rw [ho] at h; exact absurd h (show ¬ ((0 : Int) ≤ -1) by decide)
  | some o =>
    rw [ho] at h
    dsimp only at h
    by_cases h2 : o.kind = 2
    · rw [if_pos h2] at h
      cases hf : o.ents.find? (fun e => Sp.eqB e.name name) with
      | none => rw [hf] at h; exact absurd h (show ¬ ((0 : Int) ≤ -1) by decide)
      | some e =>
        obtain ⟨n, _, hx, _⟩ := objAt_some ho
        have h3 := ((hT.all n o hx).names e (List.mem_of_find?_eq_some hf)).2
        have h4 : Sp.eqB e.name name = true := List.find?_some (p := fun e : Sp.Ent => Sp.eqB e.name name) hf
        have h5 : e.name = name := (Classical.byContradiction fun hc => by rw [eqB_ne hc] at h4; cases h4)
        rw [← h5]
        exact h3
    · rw [if_neg h2] at h; exact absurd h (show ¬ ((0 : Int) ≤ -1) by decide)
def Go0 (L : List Sp.Ob) (base : Int) (parts : List ByteArray) : Fd × Int := go L base true true 1000 ⟨base, parts, 0⟩
/-- So many parts lead there. -/
structure Chain (L : List Sp.Ob) (base : Int) (parts : List ByteArray) (i : Nat) (pos : Int) : Prop where
  names : ∀ x ∈ parts.take i, x.size = 1 ∧ Pt.isName x.data.toList = true
  more : i < parts.length → isK L pos 2 = true ∧ Go0 L base parts = go L base true true 1000 ⟨pos, parts.drop i, 0⟩
  last : i = parts.length → ∃ (d : Int) (x : ByteArray), parts[i - 1]? = some x ∧ Go0 L base parts = (⟨pos, d, x⟩, 0)
theorem Chain.start {L : List Sp.Ob} {base : Int} {parts : List ByteArray} (h1 : 1 ≤ parts.length) (hb : isK L base 2 = true) : Chain L base parts 0 base :=
  ⟨fun x hx => by simp at hx, fun _ => ⟨hb, rfl⟩, fun h => by omega⟩
theorem Chain.next {L : List Sp.Ob} (hT : Sp.TOk L) {base pos : Int} {parts : List ByteArray} {i : Nat} {x : ByteArray} (h : Chain L base parts i pos) (h6 : parts.length ≤ 6) (hx : parts[i]? = some x) (hn : Pt.isName x.data.toList = true) (hf : ¬ Sp.find L pos x < 0) (h3 : isK L (Sp.find L pos x) 3 = false) (hd : i + 1 < parts.length → isK L (Sp.find L pos x) 2 = true) : Chain L base parts (i + 1) (Sp.find L pos x) := by
  have hlt := (List.getElem?_eq_some_iff.1 hx).1
  obtain ⟨c1, hgo⟩ := h.more hlt
  have hdr : parts.drop i = x :: parts.drop (i + 1) := by
    rw [List.drop_eq_getElem_cons hlt]
    rw [List.getElem?_eq_getElem hlt] at hx
    cases hx
    rfl
  have hup : isUp x = false := by
    unfold isUp
    rw [toList_beq, decide_eq_false_iff_not]
    exact (name_facts hn).2.2.2.1
  rw [hdr] at hgo
  refine ⟨?_, ?_, ?_⟩
  · intro y hy
    rw [List.take_add_one, hx] at hy
    rcases List.mem_append.1 hy with h1 | h1
    · exact h.names y h1
    · simp at h1
      subst h1
      exact ⟨find_size hT (pos := pos) (by omega), hn⟩
  · intro hl
    have hr : parts.drop (i + 1) ≠ [] := by
      intro e
      have := congrArg List.length e
      rw [List.length_drop, List.length_nil] at this
      omega
    have e1 := one_go (L := L) (base := base) (fence := true) (follow := true) (hops := 0) c1 hup h3 hr hf
    refine ⟨hd hl, ?_⟩
    rw [hgo, go_step (Nat.zero_le _) (by unfold mu; dsimp only; rw [List.length_cons, List.length_drop]; omega) (by rw [e1]) (by rw [e1]), e1]
  · intro hl
    have hr : parts.drop (i + 1) = [] := List.drop_eq_nil_of_le (by omega)
    rw [hr] at hgo
    have e1 := one_last (L := L) (base := base) (fence := true) (follow := true) (hops := 0) c1 hup (Or.inl h3)
    refine ⟨pos, x, by rw [Nat.add_sub_cancel]; exact hx, ?_⟩
    rw [hgo, go_stop (Or.inl (by rw [e1])), e1]
theorem joined_parts {parts : List ByteArray} (hne : parts ≠ []) (h : ∀ x ∈ parts, x.size = 1 ∧ Pt.isName x.data.toList = true) : partsB (jnB parts) = parts := by
  refine parts_of ?_
  rw [jnB_data]
  unfold Pt.parts jnL
  rw [Pt.cut_join _ (by simpa using hne) (fun y hy => by
    obtain ⟨x, hx, rfl⟩ := List.mem_map.1 hy
    exact (name_facts (h x hx).2).2.2.2.2)]
  refine List.filter_eq_self.2 fun y hy => ?_
  obtain ⟨x, hx, rfl⟩ := List.mem_map.1 hy
  obtain ⟨h1, _, h3, _⟩ := name_facts (h x hx).2
  unfold Pt.keep Pt.idle
  simp [h1, h3]
theorem joined_turn {parts : List ByteArray} (hne : parts ≠ []) (h6 : parts.length ≤ 6) (h : ∀ x ∈ parts, x.size = 1 ∧ Pt.isName x.data.toList = true) : turnE (jnB parts) true = 0 ∧ ∀ b, turnA (jnB parts) b = b := by
  obtain ⟨y, r, rfl⟩ := List.exists_cons_of_ne_nil hne
  have hy := name_facts (h y List.mem_cons_self).2
  have hd : ∃ t, (jnB (y :: r)).data.toList = y.data.toList ++ t := by
    rw [jnB_data]
    unfold jnL
    rw [List.map_cons, Lib.join_cons]
    exact ⟨_, rfl⟩
  obtain ⟨t, ht⟩ := hd
  have hr : Pt.root (jnB (y :: r)).data.toList = false := by rw [ht]; exact name_root (h y List.mem_cons_self).2 t
  have hs : splitE (jnB (y :: r)) = 0 := by
    unfold splitE
    rw [if_neg (by rw [ht]; intro e; exact hy.1 (List.append_eq_nil_iff.1 e).1)]
    rw [if_neg (by
      have := jnL_len (y :: r) (fun x hx => (h x hx).1)
      rw [size_list, jnB_data]
      omega)]
    rw [if_neg]
    rw [fine_all, joined_parts (by simp) h]
    have : (y :: r).all fitB = true := List.all_eq_true.2 fun x hx => by
      unfold fitB Pt.fit
      rw [(h x hx).2]
      simp
    rw [this]
    decide
  refine ⟨?_, fun b => ?_⟩
  · unfold turnE
    rw [if_neg (by rw [hs]; decide), if_neg (by rw [hr]; simp)]
  · unfold turnA
    rw [if_neg (by rw [hr]; decide)]
theorem chain_path {L : List Sp.Ob} {base pos : Int} {parts : List ByteArray} (h : Chain L base parts parts.length pos) (h1 : 1 ≤ parts.length) (h6 : parts.length ≤ 6) (hb : isK L base 2 = true) : ∃ (d : Int) (x : ByteArray), parts[parts.length - 1]? = some x ∧ path L base (jnB parts) true true = (⟨pos, d, x⟩, 0) := by
  have hnm : ∀ x ∈ parts, x.size = 1 ∧ Pt.isName x.data.toList = true := fun x hx => h.names x (by rw [List.take_length]; exact hx)
  have hne : parts ≠ [] := by intro e; rw [e] at h1; simp at h1
  obtain ⟨d, x, hx, hgo⟩ := h.last rfl
  refine ⟨d, x, hx, ?_⟩
  obtain ⟨ht, hta⟩ := joined_turn hne h6 hnm
  have h0 : Sp.noDir L base = 0 := by
    obtain ⟨n, o, rfl, ho, hk⟩ := isK_some hb
    unfold Sp.noDir
    rw [objAt_of ho (by rw [hk]; decide)]
    exact if_pos hk
  rw [path_go h0 ht, joined_parts hne hnm, hta]
  exact hgo
end Lk
end Go.Proofs.YtfiiandnopifnaaDoor
/-
  LookStep, walked.
-/
namespace Go.Proofs.YtfiiandnopifnaaDoor
open Go.RowKit
/-- Where LookStep stands in its loop. -/
def LsI (L : List Sp.Ob) (base : Int) (parts : List ByteArray) (W : World) (s8 s36 : Value) (wr : World) : Prop :=
  ∃ (i : Nat) (pos : Int), i ≤ parts.length ∧ s36 = .int .i64 i ∧ s8 = .int .i64 pos ∧ Lk.Chain L base parts i pos ∧ Below W.heap.size W wr
set_option maxRecDepth 100000 in
set_option maxHeartbeats 8000000 in
theorem lstep_any (l : List UInt8) (base : Int) (parts : List ByteArray) (mm : Int) (v vp : Value) (w : World) (hv : Bytes w (fun b => b < w.heap.size) v l) (hp : Row w (fun b => b < w.heap.size) 1 vp (parts.map tS)) (hps : ∀ x ∈ parts, x.size ≤ maxLen) (h00 : w.cell? ⟨0, 0, none⟩ = some (.int .i64 mm)) (hw0 : 0 < w.heap.size) :
    Calls Tryd.prog 6 #[v, .int .i64 base, vp] w fun e w' => e = .returned (.bool true) ∧ Below w.heap.size w w' := by
  obtain ⟨va, vc, rfl, -⟩ := Row.form hv
  rw [List.length_map] at hv ⊢
  obtain ⟨pa, pc, rfl, hpm⟩ := Row.form hp
  rw [List.length_map] at hp hpm ⊢
  unfold maxLen at hpm
  have HV : Hid (Bytes w (fun b => b < w.heap.size) (.slice va l.length vc) l) := hv
  have HPR : Hid (Row w (fun b => b < w.heap.size) 1 (.slice pa parts.length pc) (parts.map tS)) := hp
  have HPS : Hid (∀ x ∈ parts, x.size ≤ maxLen) := hps
  have H00 : Hid (∀ w', Below w.heap.size w w' → w'.cell? ⟨0, 0, none⟩ = some (.int .i64 mm)) := fun w' h => by rw [h.cell (p := ⟨0, 0, none⟩) hw0]; exact h00
  have HW0 : Hid (0 < w.heap.size) := hw0
  have HAL : Hid (Calls Tryd.prog 13 #[] w fun e w' => e = .returned (.bool true) ∧ Below w.heap.size w w') := alive6_any mm w h00 hw0
  clear hv hp hps h00 hw0
  go_enter Tryd.func6, Tryd.ntmps6
  go_wp2_with fail
  refine Calls.mono HAL.out ?_
  rintro e w1 ⟨rfl, hb1⟩
  have HB1 : Hid (Below w.heap.size w w1) := hb1
  clear HAL hb1
  go_wp2_with fail
  refine (build_objs l (.slice va l.length vc) w1 ((Row.on HV.out (On.of HB1.out)).more fun b hb => Nat.lt_of_lt_of_le hb HB1.out.size)).mono ?_
  rintro e w2 ⟨a2, a3, a4, n3, n4, c2, c3, c4, L, rfl, hO, hT, hL, hb2⟩
  have hfk := fun (w : World) => fieldKL a2 a3 a4 L.length n3 n4 c2 c3 c4 w
  have HO2 : Hid (Objs w2 (fun b => b < w2.heap.size) (.slice a2 L.length c2) L) := hO
  have HT : Hid (Sp.TOk L) := hT
  have HL : Hid (L.length ≤ 14) := hL
  have HB2 : Hid (Below w.heap.size w w2) := HB1.out.trans (hb2.mono HB1.out.size)
  have HIS : Hid (Calls Tryd.prog 15 #[.slice a2 L.length c2, .int .i64 base, .int .i64 2] w2 fun e w' => e = .returned (.bool (Lk.isK L base 2)) ∧ w' = w2) := by
    have := is_any L base 2 (.slice a2 L.length c2) _ w2 hO
    rw [is_isK] at this
    exact this
  clear hO hT hL hb2 HV HB1
  by_cases h1 : 1 ≤ parts.length
  · have g1 : ¬ (parts.length : Int) < 1 := by omega
    by_cases h6 : parts.length ≤ 6
    · have g6 : ¬ (6 : Int) < (parts.length : Int) := by omega
      cases hb : Lk.isK L base 2 with
      | false =>
        rw [hb] at HIS
        clear hb
        go_wp2_with fail
        refine Calls.mono HIS.out ?_
        rintro e w3 ⟨rfl, hw⟩
        rw [hw]
        clear hw
        go_wp2
        go_ret
        exact ⟨rfl, HB2.out⟩
      | true =>
        rw [hb] at HIS
        have HBK : Hid (Lk.isK L base 2 = true) := hb
        have HST : Hid (Lk.Chain L base parts 0 base) := Lk.Chain.start h1 hb
        clear hb
        go_wp2_with fail
        refine Calls.mono HIS.out ?_
        rintro e w3 ⟨rfl, hw⟩
        rw [hw]
        clear hw HIS
        go_wp2_with fail
        go_loopw [8, 36] (fun s8 s36 wr => LsI L base parts w2 s8 s36 wr) (fun _ s36 _ => parts.length - (intOf s36).toNat)
        case atStart => exact ⟨0, base, Nat.zero_le _, rfl, rfl, HST.out, Below.refl _ _⟩
        case round =>
          obtain ⟨i, pos, hi, rfl, rfl, hch, hbr⟩ := hrel
          have HCH : Hid (Lk.Chain L base parts i pos) := hch
          have HBR : Hid (Below w2.heap.size w2 wr) := hbr
          clear hch hbr HST hfk
          by_cases hlt : i < parts.length
          · obtain ⟨x, hx⟩ : ∃ x, parts[i]? = some x := ⟨_, List.getElem?_eq_getElem hlt⟩
            have HX : Hid (parts[i]? = some x) := hx
            obtain ⟨pb, po, pc', he, hpb, hpc, hpm', h5⟩ := HPR.out.some (by rw [List.length_map]; omega)
            obtain ⟨rfl, -, rfl⟩ := Value.slice.inj he
            rw [List.length_map] at hpc
            have hcx : wr.cell? ⟨pb, po + i, none⟩ = some (.string x) := by
              have := h5 i (tS x) (by rw [List.getElem?_map, hx]; rfl) 0 (.string x) rfl
              rw [Nat.mul_one, Nat.add_zero] at this
              rw [(HB2.out.trans (HBR.out.mono HB2.out.size)).cell (p := ⟨pb, po + i, none⟩) hpb]
              exact this
            have HOr : Hid (Objs wr (fun b => b < w2.heap.size) (.slice a2 L.length c2) L) := HO2.out.on (On.of HBR.out)
            have HFI : Hid (Calls Tryd.prog 14 #[.slice a2 L.length c2, .int .i64 pos, .string x] wr fun e w' => e = .returned (.int .i64 (Sp.find L pos x)) ∧ Below wr.heap.size wr w') := rfind_any L pos x _ _ wr HOr.out (fun b hb => Nat.lt_of_lt_of_le hb HBR.out.size)
            have HNM : Hid (∀ w', Calls Tryd.prog 16 #[.string x] w' fun e w'' => e = .returned (.bool (Pt.isName x.data.toList)) ∧ w'' = w') := fun w' => rname_any x (HPS.out x (List.mem_of_getElem? hx)) w'
            unfold maxLen at hpm'
            clear he h5 hx
            go_wp2_with fail
            refine Calls.mono HFI.out ?_
            rintro e w4 ⟨rfl, hb4⟩
            have HB4 : Hid (Below w2.heap.size w2 w4) := HBR.out.trans (hb4.mono HBR.out.size)
            have HBW : Hid (Below w.heap.size w w4) := HB2.out.trans (HB4.out.mono HB2.out.size)
            clear hb4 HFI hcx
            go_wp2_with fail
            cases hn : Pt.isName x.data.toList with
            | false =>
              have h := HNM.out w4
              rw [hn] at h
              clear hn
              refine Calls.mono h ?_
              rintro e w5 ⟨rfl, hw⟩
              rw [hw]
              clear hw h
              go_wp2
              go_ret
              exact ⟨rfl, HBW.out⟩
            | true =>
              have h := HNM.out w4
              rw [hn] at h
              have HISN : Hid (Pt.isName x.data.toList = true) := hn
              clear hn
              refine Calls.mono h ?_
              rintro e w5 ⟨rfl, hw⟩
              rw [hw]
              clear hw h HNM
              by_cases hneg : Sp.find L pos x < 0
              · go_wp2
                go_ret
                exact ⟨rfl, HBW.out⟩
              · obtain ⟨j, y, hkj, hy⟩ := Lk.find_stand (Lk.tree_of HT.out) (by omega : 0 ≤ Sp.find L pos x)
                have HKJ : Hid (Sp.find L pos x = (j : Int)) := hkj
                have HY : Hid (L[j]? = some y) := hy
                have hjl := (List.getElem?_eq_some_iff.1 hy).1
                obtain ⟨vb, vo, vc', vs, he, hvb, hvc, hvm, -, y0, -⟩ := (HO2.out.on (On.of HB4.out)).open hy
                obtain ⟨rfl, -, rfl⟩ := Value.slice.inj he
                unfold maxLen at hvm
                rw [hkj]
                clear hkj hy he hneg
                by_cases hk3 : y.kind = 3
                · rw [hk3] at y0
                  go_wp2
                  go_ret
                  exact ⟨rfl, HBW.out⟩
                · have hk3' : (y.kind == 3) = false := by simpa using hk3
                  by_cases hk2 : y.kind = 2
                  · rw [hk2] at y0
                    have HNX : Hid (LsI L base parts w2 (.int .i64 (j : Int)) (.int .i64 ((i + 1 : Nat) : Int)) w4) := by
                      refine ⟨i + 1, (j : Int), by omega, rfl, rfl, ?_, HB4.out⟩
                      rw [← HKJ.out]
                      exact HCH.out.next HT.out h6 HX.out HISN.out (by rw [HKJ.out]; omega) (by rw [HKJ.out, Lk.isK_nat HY.out, hk2]; rfl) (fun _ => by rw [HKJ.out, Lk.isK_nat HY.out, hk2]; rfl)
                    clear hk3 hk3' hk2
                    go_wp2
                    go_roundw
                    case rel => exact HNX.out
                    case measure => simp [intOf]; omega
                  · have hk2' : (y.kind != 2) = true := by simpa using hk2
                    by_cases hil : i + 1 < parts.length
                    · have hg : (i : Int) < (parts.length : Int) - 1 := by omega
                      clear hk3 hk2
                      go_wp2
                      go_ret
                      exact ⟨rfl, HBW.out⟩
                    · have hg : ¬ (i : Int) < (parts.length : Int) - 1 := by omega
                      have HNX : Hid (LsI L base parts w2 (.int .i64 (j : Int)) (.int .i64 ((i + 1 : Nat) : Int)) w4) := by
                        refine ⟨i + 1, (j : Int), by omega, rfl, rfl, ?_, HB4.out⟩
                        rw [← HKJ.out]
                        exact HCH.out.next HT.out h6 HX.out HISN.out (by rw [HKJ.out]; omega) (by rw [HKJ.out, Lk.isK_nat HY.out, hk3']) (fun h => absurd h hil)
                      clear hk3 hk2
                      go_wp2
                      go_roundw
                      case rel => exact HNX.out
                      case measure => simp [intOf]; omega
          · obtain rfl : i = parts.length := by omega
            obtain ⟨d, x, hx, hpa⟩ := Lk.chain_path HCH.out h1 h6 HBK.out
            have HNMS : Hid (∀ x ∈ parts, x.size = 1) := fun y hy => (HCH.out.names y (by rw [List.take_length]; exact hy)).1
            have HJ : Hid (Calls Tryd.prog 17 #[.slice pa parts.length pc, .bool false] wr fun e w' => e = .returned (.string (jnB parts)) ∧ w' = wr) := rjoin_any parts (by intro e; rw [e] at h1; simp at h1) HNMS.out h6 _ (fun b => b < w.heap.size) wr (Row.on HPR.out (On.of (HB2.out.trans (HBR.out.mono HB2.out.size))))
            have hszj : (jnB parts).size ≤ maxLen := by
              rw [size_list, jnB_data]
              have := jnL_len parts HNMS.out
              unfold maxLen
              omega
            have hPA := path_any L (Lk.tree_of HT.out) (jnB parts) mm hszj (.slice a2 L.length c2) base true true _ wr (HO2.out.on (On.of HBR.out)) (fun b hb => Nat.lt_of_lt_of_le hb HBR.out.size) (H00.out wr (HB2.out.trans (HBR.out.mono HB2.out.size))) (Nat.lt_of_lt_of_le HW0.out (Nat.le_trans HB2.out.size HBR.out.size))
            rw [hpa] at hPA
            unfold fdV at hPA
            have HPA : Hid _ := hPA
            obtain ⟨n, hn⟩ : ∃ n, parts.length = n + 1 := ⟨parts.length - 1, by omega⟩
            obtain ⟨pb, po, pc', he, hpb, hpc, hpm', h5⟩ := HPR.out.some (by rw [List.length_map]; omega)
            obtain ⟨rfl, -, rfl⟩ := Value.slice.inj he
            rw [List.length_map] at hpc
            unfold maxLen at hpm'
            have HCX : Hid (∀ w', Below w2.heap.size w2 w' → w'.cell? ⟨pb, po + n, none⟩ = some (.string x)) := fun w' h => by
              rw [hn, Nat.add_sub_cancel] at hx
              have := h5 n (tS x) (by rw [List.getElem?_map, hx]; rfl) 0 (.string x) rfl
              rw [Nat.mul_one, Nat.add_zero] at this
              rw [(HB2.out.trans (h.mono HB2.out.size)).cell (p := ⟨pb, po + n, none⟩) hpb]
              exact this
            have HNN : Hid (parts.length = n + 1) := hn
            clear hx hpa hPA hszj he h5 h1 hn
            go_wp2_with fail
            refine Calls.mono HJ.out ?_
            rintro e w5 ⟨rfl, hw⟩
            rw [hw]
            clear hw HJ
            go_wp2_with fail
            refine Calls.mono HPA.out ?_
            rintro e w6 ⟨rfl, hb6⟩
            have HB6 : Hid (Below w2.heap.size w2 w6) := HBR.out.trans (hb6.mono HBR.out.size)
            have HB7 : Hid (Below w2.heap.size w2 (w6.alloc (.cells #[.int .i64 pos, .int .i64 d, .string x] 30))) := HB6.out.alloc HB6.out.size _
            have HBW7 : Hid (Below w.heap.size w (w6.alloc (.cells #[.int .i64 pos, .int .i64 d, .string x] 30))) := HB2.out.trans (HB7.out.mono HB2.out.size)
            have hK7 : Blk (w6.alloc (.cells #[.int .i64 pos, .int .i64 d, .string x] 30)) w6.heap.size #[.int .i64 pos, .int .i64 d, .string x] 30 := Blk.new _ _ _
            have q0 := hK7.cell 0
            have q2 := hK7.cell 2
            have hcx := HCX.out _ HB7.out
            have hn := HNN.out
            have hpcn : n + 1 ≤ pc := by omega
            clear hb6 HPA hK7 hpc
            rw [hn]
            dsimp only
            go_wp2_with fail
            generalize (w6.alloc (.cells #[.int .i64 pos, .int .i64 d, .string x] 30)) = w7 at *
            have e1 : ((n : Int) + 1) - 1 = (n : Int) := by omega
            have e3 : (0 : Int) ≤ (n : Int) := by omega
            have e4 : (n : Int) < (n : Int) + 1 := by omega
            go_quiet (fail)
            go_wp2
            go_ret
            exact ⟨by simp, below_drewN HBW7.out _⟩
    · have g6 : (6 : Int) < (parts.length : Int) := by omega
      go_wp2
      go_ret
      exact ⟨rfl, HB2.out⟩
  · have g1 : (parts.length : Int) < 1 := by omega
    go_wp2
    go_ret
    exact ⟨rfl, HB2.out⟩
end Go.Proofs.YtfiiandnopifnaaDoor
/-
  Arguments opened: texts, as they lie there.
-/
namespace Go.Proofs.YtfiiandnopifnaaDoor
open Go.ChangeShapes Go.WideShapes Go.ChangeAt Go.RowKit Go.Deep
theorem Tryd.cellsS : Tryd.prog.cellsOf 9 = 1 := by kernel_rfl
section
variable {H : Type} {enc : TypeId × Value → H} {W : World}
set_option maxRecDepth 100000 in
theorem open_texts {base b0 : Nat} {held : Bool} {r : Reach} {v : Value} {d : DataW H} {q : List MemPlace} {sp : Nat → Bool}
    (hv : Value.okWide Tryd.prog W r b0 42 v) (h : DataW.Trod enc Tryd.prog W base sp held 42 v d q) :
    ∃ xs : List ByteArray, Row W (fun x => x < W.heap.size) 1 v (xs.map tS) ∧ ∀ x ∈ xs, x.size ≤ maxLen := by
  obtain ⟨a1, len1, cap1, rfl⟩ := okWide_slice Tryd.underlying42 hv
  obtain ⟨fuel, hf⟩ := h
  rcases open_strs Tryd.underlying42 Tryd.underlying9 Tryd.cellsS hf with ⟨hcs, hx⟩ | ⟨a, len, cap, m, S, hcs, _, hl, hm, hmm, hx, hel⟩
  · simp [Value.cells] at hcs
    obtain ⟨rfl, rfl, rfl⟩ := hcs
    exact ⟨[], Row.nil _ _ _ _ _, fun x hx => by simp at hx⟩
  · simp [Value.cells] at hcs
    obtain ⟨rfl, rfl, rfl⟩ := hcs
    have hlm : len1 ≤ m := by rw [hmm]; split <;> omega
    by_cases h0 : len1 = 0
    · subst h0; exact ⟨[], Row.nil _ _ _ _ _, fun x hx => by simp at hx⟩
    have hcell : ∀ i, i < len1 → W.cell? (a.add i) = some (.string (S i)) := fun i hi => (hel i (by omega)).1
    obtain ⟨ab, ao, spot⟩ := a
    have hspot : spot = none := by simpa [Addr.add] using World.cell?_spot (hcell 0 (by omega))
    subst hspot
    simp only [Addr.add_lit] at hcell
    have hlt : ab < W.heap.size := block_lt (hcell 0 (by omega))
    refine ⟨(List.range len1).map S, Or.inr ⟨ab, ao, cap1, by simp, hlt, by simp; omega, hm, ?_⟩, ?_⟩
    · intro i cs hi j u hj
      rw [List.map_map, List.getElem?_map] at hi
      by_cases hil : i < len1
      · rw [List.getElem?_range hil] at hi
        simp at hi
        subst hi
        match j, hj with
        | 0, hj =>
          simp [tS] at hj
          subst hj
          rw [Nat.mul_one, Nat.add_zero]
          exact hcell i hil
        | j + 1, hj => simp [tS] at hj
      · rw [List.getElem?_eq_none (by simp; omega)] at hi
        cases hi
    · intro x hx
      obtain ⟨i, hi, rfl⟩ := List.mem_map.1 hx
      exact (hel i (by have := List.mem_range.1 hi; omega)).2
end
end Go.Proofs.YtfiiandnopifnaaDoor
