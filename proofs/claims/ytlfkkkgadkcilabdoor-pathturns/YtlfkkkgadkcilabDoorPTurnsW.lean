/-
  rglaw4.PathTurns answers true.
-/
import Derived.Test.YtlfkkkgadkcilabDoorPSame
namespace Go.Proofs.YtlfkkkgadkcilabDoor
open Go.RowKit
theorem errs_end (s : ByteArray) (r : Int) (hr : (r != 0) = true) (m : Int) (w : World) (hm : w.cell? ⟨0, 0, none⟩ = some (.int .i64 m))
    (hs : ∀ w1, Below w.heap.size w w1 → Calls Tryd.prog 5 #[.string s] w1 fun e w' => e = .returned (.tuple #[.slice none 0 0, .bool false, .int .i64 r]) ∧ Below w1.heap.size w1 w') :
    Calls Tryd.prog 3 #[.string s] w fun e w' => e = .returned (.bool true) ∧ Below w.heap.size w w' := by
  have HM : Hid (w.cell? ⟨0, 0, none⟩ = some (.int .i64 m)) := hm
  have HS : Hid (∀ w1, Below w.heap.size w w1 → Calls Tryd.prog 5 #[.string s] w1 fun e w' => e = .returned (.tuple #[.slice none 0 0, .bool false, .int .i64 r]) ∧ Below w1.heap.size w1 w') := hs
  clear hm hs
  go_enter Tryd.func3, Tryd.ntmps3
  go_wp2_with fail
  refine (alive_any m w HM.out).mono ?_
  rintro e w1 ⟨rfl, hb1⟩
  have HB1 : Hid (Below w.heap.size w w1) := hb1
  clear hb1
  go_wp2_with fail
  refine Calls.mono (HS.out w1 HB1.out) ?_
  rintro e w2 ⟨rfl, hb2⟩
  have HB2 : Hid (Below w.heap.size w w2) := HB1.out.trans (hb2.mono HB1.out.size)
  clear hb2 HS
  go_wp2
  go_ret
  exact ⟨rfl, HB2.out⟩
/-- What parts, joined, are. -/
def tB (s : ByteArray) : ByteArray := ⟨(Pt.joined (dataL (partsB s)) (Pt.root s.data.toList)).toArray⟩
theorem tB_data (s : ByteArray) : (tB s).data.toList = Pt.joined (Pt.parts s.data.toList) (Pt.root s.data.toList) := by
  unfold tB dataL
  rw [partsB_data]
theorem tB_parts (s : ByteArray) (hf : Pt.fine s.data.toList = true) : partsB (tB s) = partsB s := by
  apply dataL_inj
  unfold dataL
  rw [partsB_data, partsB_data, tB_data]
  exact (Pt.turn _ hf).1
theorem tB_root (s : ByteArray) (hf : Pt.fine s.data.toList = true) : Pt.root (tB s).data.toList = Pt.root s.data.toList := by
  rw [tB_data]; exact (Pt.turn _ hf).2.1
theorem tB_fine (s : ByteArray) (hf : Pt.fine s.data.toList = true) : Pt.fine (tB s).data.toList = true := by
  rw [tB_data]; exact Pt.fine_again _ hf
theorem tB_ne (s : ByteArray) (hf : Pt.fine s.data.toList = true) : (tB s).data.toList ≠ [] := by
  rw [tB_data]; exact (Pt.turn _ hf).2.2.1
theorem tB_size (s : ByteArray) (hf : Pt.fine s.data.toList = true) : (tB s).size ≤ max s.size 1 := by
  rw [size_list, size_list, tB_data]; exact (Pt.turn _ hf).2.2.2
theorem tB_again (s : ByteArray) (hf : Pt.fine s.data.toList = true) : (⟨(Pt.joined (dataL (partsB (tB s))) (Pt.root (tB s).data.toList)).toArray⟩ : ByteArray) = tB s := by
  rw [tB_parts s hf, tB_root s hf]; rfl
theorem parts_join_le (s : ByteArray) : (Lib.join (dataL (partsB s)) [47]).length ≤ s.size + 1 := by
  have h1 := Pt.join_le (dataL (partsB s))
  have h2 : Pt.wide (dataL (partsB s)) ≤ s.size + 1 := by
    unfold dataL
    rw [partsB_data, size_list, ← Pt.wide_cut]
    exact Pt.wide_filter Pt.keep _
  omega
theorem parts_le (s : ByteArray) : (partsB s).length ≤ s.size + 1 := Nat.le_trans (List.length_filter_le _ _) (pcs_le s)
set_option maxHeartbeats 2000000 in
theorem turns_fine (s : ByteArray) (m : Int) (h0 : s.data.toList ≠ []) (hs : s.size ≤ 60) (hf : Pt.fine s.data.toList = true) (w : World) (hm : w.cell? ⟨0, 0, none⟩ = some (.int .i64 m)) :
    Calls Tryd.prog 3 #[.string s] w fun e w' => e = .returned (.bool true) ∧ Below w.heap.size w w' := by
  have HM : Hid (w.cell? ⟨0, 0, none⟩ = some (.int .i64 m)) := hm
  have hblk : 0 < w.heap.size := World.block_lt_of_cell? _ _ hm
  have H0 : Hid (s.data.toList ≠ []) := h0
  have HF : Hid (Pt.fine s.data.toList = true) := hf
  have hp := parts_le s
  have hj := parts_join_le s
  have ht := tB_size s hf
  have HR : Hid (Pt.root (tB s).data.toList = Pt.root s.data.toList) := tB_root s hf
  have HP : Hid (partsB (tB s) = partsB s) := tB_parts s hf
  clear hm h0 hf
  go_enter Tryd.func3, Tryd.ntmps3
  go_wp2_with fail
  refine (alive_any m w HM.out).mono ?_
  rintro e w1 ⟨rfl, hb1⟩
  have HB1 : Hid (Below w.heap.size w w1) := hb1
  have HM1 : Hid (w1.cell? ⟨0, 0, none⟩ = some (.int .i64 m)) := (hb1.cell (p := ⟨0, 0, none⟩) hblk).trans HM.out
  clear hb1 HM
  go_wp2_with fail
  refine (split_some s m H0.out hs w1 HM1.out).mono ?_
  rintro e w2 ⟨hb2, ⟨hbad, -⟩ | ⟨-, v, rfl, hown⟩⟩
  · rw [HF.out] at hbad; cases hbad
  have HB2 : Hid (Below w.heap.size w w2) := HB1.out.trans (hb2.mono HB1.out.size)
  have HM2 : Hid (w2.cell? ⟨0, 0, none⟩ = some (.int .i64 m)) := (hb2.cell (p := ⟨0, 0, none⟩) (by have := HB1.out.size; show 0 < w1.heap.size; omega)).trans HM1.out
  have HT2 : Hid (TL w2 w2.heap.size v (partsB s)) := TL.own hown
  obtain ⟨va, vc, rfl⟩ := HT2.out.form
  clear hb2 hown HB1 HM1
  have HTB : Hid ((⟨(Pt.joined (dataL (partsB s)) (Pt.root s.data.toList)).toArray⟩ : ByteArray) = tB s) := rfl
  have hq : ¬ max (s.size : Int) 1 < ((tB s).size : Int) := by omega
  generalize Pt.root s.data.toList = rt at *
  go_wp2_with fail
  refine (join_any rt (partsB s) _ w2 HT2.out (by omega) (by omega)).mono ?_
  rintro e w3 ⟨rfl, hb3⟩
  rw [HTB.out]
  have HB3 : Hid (Below w.heap.size w w3) := HB2.out.trans (hb3.mono HB2.out.size)
  have HM3 : Hid (w3.cell? ⟨0, 0, none⟩ = some (.int .i64 m)) := (hb3.cell (p := ⟨0, 0, none⟩) (by have := HB2.out.size; show 0 < w2.heap.size; omega)).trans HM2.out
  have HT3 : Hid (TL w3 w2.heap.size (.slice va (partsB s).length vc) (partsB s)) := HT2.out.on hb3 (Nat.le_refl _)
  have HZ3 : Hid (w2.heap.size ≤ w3.heap.size) := hb3.size
  clear hb3 HB2 HM2 HT2
  go_wp2_with fail
  refine (split_some (tB s) m (tB_ne s HF.out) (by omega) w3 HM3.out).mono ?_
  rintro e w4 ⟨hb4, ⟨hbad, -⟩ | ⟨-, v', rfl, hown⟩⟩
  · rw [tB_fine s HF.out] at hbad; cases hbad
  rw [HR.out]
  rw [HP.out] at hown
  have HB4 : Hid (Below w.heap.size w w4) := HB3.out.trans (hb4.mono HB3.out.size)
  have HT4 : Hid (TL w4 w4.heap.size v' (partsB s)) := TL.own hown
  have HT4' : Hid (TL w4 w2.heap.size (.slice va (partsB s).length vc) (partsB s)) := HT3.out.on hb4 HZ3.out
  obtain ⟨va', vc', rfl⟩ := HT4.out.form
  clear hb4 hown HB3 HM3 HT3 HZ3
  go_wp2_with fail
  refine (same_any (partsB s) _ _ w4 _ _ HT4'.out HT4.out (by omega)).mono ?_
  rintro e w5 ⟨rfl, n, hw⟩
  rw [hw]
  have HB5 : Hid (Below w.heap.size w (w4.drewN n)) := below_drewN HB4.out n
  have HT5 : Hid (TL (w4.drewN n) (w4.drewN n).heap.size (.slice va' (partsB s).length vc') (partsB s)) := HT4.out
  clear hw HB4 HT4 HT4'
  generalize w4.drewN n = W5 at *
  go_wp2_with fail
  refine (join_any rt (partsB s) _ W5 HT5.out (by omega) (by omega)).mono ?_
  rintro e w6 ⟨rfl, hb6⟩
  rw [HTB.out]
  have HB6 : Hid (Below w.heap.size w w6) := HB5.out.trans (hb6.mono HB5.out.size)
  clear hb6 HB5 HT5
  go_wp2
  go_ret
  exact ⟨rfl, HB6.out⟩
theorem turns_any (s : ByteArray) (hs : s.size ≤ maxLen) (m : Int) (w : World) (hm : w.cell? ⟨0, 0, none⟩ = some (.int .i64 m)) :
    Calls Tryd.prog 3 #[.string s] w fun e w' => e = .returned (.bool true) ∧ Below w.heap.size w w' := by
  have hblk : 0 < w.heap.size := World.block_lt_of_cell? _ _ hm
  by_cases h0 : s.data.toList = []
  · refine errs_end s 2 (by decide) m w hm fun w1 _ => (split_form s h0 w1).mono ?_
    rintro e w' ⟨rfl, rfl⟩
    exact ⟨rfl, Below.refl _ _⟩
  by_cases h1 : 60 < s.size
  · refine errs_end s 4 (by decide) m w hm fun w1 _ => (split_much s hs h1 w1).mono ?_
    rintro e w' ⟨rfl, rfl⟩
    exact ⟨rfl, Below.refl _ _⟩
  cases hf : Pt.fine s.data.toList with
  | true => exact turns_fine s m h0 (by omega) hf w hm
  | false =>
    refine errs_end s 7 (by decide) m w hm fun w1 hb1 => (split_some s m h0 (by omega) w1 ((hb1.cell (p := ⟨0, 0, none⟩) hblk).trans hm)).mono ?_
    rintro e w' ⟨hb, ⟨-, rfl⟩ | ⟨ht, -⟩⟩
    · exact ⟨rfl, hb⟩
    · rw [hf] at ht; cases ht
end Go.Proofs.YtlfkkkgadkcilabDoor
