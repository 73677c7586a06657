/-
  rglaw4.alive answers true.
-/
import Derived.Test.YtlfkkkgadkcilabDoorPWalkD
namespace Go.Proofs.YtlfkkkgadkcilabDoor
open Go.RowKit
def aliveS : ByteArray := ⟨#[47, 97, 47, 47, 46, 47, 98, 47, 46, 46, 47, 99]⟩
theorem dataL_inj : ∀ {xs ys : List ByteArray}, dataL xs = dataL ys → xs = ys
  | [], [], _ => rfl
  | [], y :: ys, h => by simp [dataL] at h
  | x :: xs, [], h => by simp [dataL] at h
  | x :: xs, y :: ys, h => by
    have h' : x.data.toList :: dataL xs = y.data.toList :: dataL ys := h
    injection h' with h1 h2
    rw [Pt.bytes_ext h1, dataL_inj h2]
theorem alive_parts : partsB aliveS = [⟨#[97]⟩, ⟨#[98]⟩, ⟨#[46, 46]⟩, ⟨#[99]⟩] := by
  apply dataL_inj
  unfold dataL
  rw [partsB_data]
  decide
theorem alive_fine : Pt.fine aliveS.data.toList = true := by decide
theorem alive_root : Pt.root aliveS.data.toList = true := by decide
theorem alive_joined : Pt.joined (dataL [⟨#[97]⟩, ⟨#[98]⟩, ⟨#[46, 46]⟩, ⟨#[99]⟩]) true = [47, 97, 47, 98, 47, 46, 46, 47, 99] := by decide
def alive_ups : List ByteArray := [⟨#[46, 46]⟩, ⟨#[97]⟩, ⟨#[46, 46]⟩, ⟨#[46, 46]⟩]
theorem alive_depth : (Pt.climb (dataL alive_ups)).2 = 2 := by decide
theorem alive_name : Pt.isName (⟨#[97, 46, 98]⟩ : ByteArray).data.toList = true := by decide
theorem alive_noname : Pt.isName (⟨#[46, 46]⟩ : ByteArray).data.toList = false := by decide
set_option maxHeartbeats 1000000 in
theorem alive_any (m : Int) (w : World) (hm : w.cell? ⟨0, 0, none⟩ = some (.int .i64 m)) :
    Calls Tryd.prog 4 #[] w fun e w' => e = .returned (.bool true) ∧ Below w.heap.size w w' := by
  have HM : Hid (w.cell? ⟨0, 0, none⟩ = some (.int .i64 m)) := hm
  clear hm
  go_enter Tryd.func4, Tryd.ntmps4
  go_wp2_with fail
  refine (split_some aliveS m (by decide) (by decide) w HM.out).mono ?_
  rintro e w1 ⟨hb1, ⟨hf, -⟩ | ⟨-, v, rfl, hown⟩⟩
  · rw [alive_fine] at hf; cases hf
  rw [alive_root]
  rw [alive_parts] at hown
  have htl := TL.own (xs := [⟨#[97]⟩, ⟨#[98]⟩, ⟨#[46, 46]⟩, ⟨#[99]⟩]) hown
  have HTL : Hid _ := htl
  obtain ⟨a, c, e0⟩ | ⟨b, o, c, e0, h2, h3, h4⟩ := htl
  · cases e0.2
  have c2 := h4 2 _ rfl
  subst e0
  clear h4 hown
  have HB1 : Hid (Below w.heap.size w w1) := hb1
  clear hb1
  go_wp2_with fail
  refine (join_any true [⟨#[97]⟩, ⟨#[98]⟩, ⟨#[46, 46]⟩, ⟨#[99]⟩] _ w1 HTL.out (by decide) (by decide)).mono ?_
  rintro e w2 ⟨rfl, hb2⟩
  rw [alive_joined]
  have HB2 : Hid (Below w.heap.size w w2) := HB1.out.trans (hb2.mono HB1.out.size)
  clear hb2 HTL c2 h2 h3
  go_wp2_with fail
  refine (depth_any alive_ups _ _ (Or.inr ⟨w2.heap.size, 0, 4, rfl, by simp, by decide, fun j x hj => ?_⟩) (by decide)).mono ?_
  · match j, hj with
    | 0, hj | 1, hj | 2, hj | 3, hj => simp [alive_ups] at hj; subst hj; simp
    | j + 4, hj => simp [alive_ups] at hj
  rintro e w3 ⟨rfl, rfl⟩
  rw [alive_depth]
  go_wp2_with fail
  refine (name_any ⟨#[97, 46, 98]⟩ (by decide) _).mono ?_
  rintro e w3 ⟨rfl, rfl⟩
  rw [alive_name]
  go_wp2_with fail
  refine (name_any ⟨#[46, 46]⟩ (by decide) _).mono ?_
  rintro e w3 ⟨rfl, rfl⟩
  rw [alive_noname]
  go_wp2
  go_ret
  exact ⟨rfl, HB2.out.alloc HB2.out.size _⟩
end Go.Proofs.YtlfkkkgadkcilabDoor
