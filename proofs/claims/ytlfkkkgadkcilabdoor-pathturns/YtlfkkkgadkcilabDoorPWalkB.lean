/-
  What path.Split answers.
-/
import Derived.Test.YtlfkkkgadkcilabDoorPWalkA
import Derived.Test.YtlfkkkgadkcilabDoorPShelf
import Derived.WalkSmall
import Derived.OwnWalk
import Derived.BigQuiet
import Derived.Deep.QuietTactic
namespace Go.Proofs.YtlfkkkgadkcilabDoor
open Go.RowKit
theorem Tryd.infoS : (Tryd.prog.info? 9).map (fun i => (i.zero, i.size, i.bytes)) = some (some (.string ByteArray.empty), 1, 16) := by kernel_rfl
def keepB (x : ByteArray) : Bool := Pt.keep x.data.toList
def fitB (x : ByteArray) : Bool := Pt.fit x.data.toList
/-- The parts of a path. -/
def partsB (s : ByteArray) : List ByteArray := (Pt.pcs s).filter keepB
theorem filter_data (l : List ByteArray) : (l.filter keepB).map (·.data.toList) = (l.map (·.data.toList)).filter Pt.keep := by
  rw [List.filter_map]; rfl
theorem partsB_data (s : ByteArray) : (partsB s).map (·.data.toList) = Pt.parts s.data.toList := by
  unfold partsB Pt.parts
  rw [filter_data, Pt.pcs_cut]
theorem fine_all (s : ByteArray) : Pt.fine s.data.toList = (partsB s).all fitB := by
  unfold Pt.fine
  rw [← partsB_data, List.all_map]; rfl
theorem wide_mem : ∀ (xs : List (List UInt8)) (x : List UInt8), x ∈ xs → x.length + 1 ≤ Pt.wide xs
  | [], x, h => by simp at h
  | y :: r, x, h => by
    unfold Pt.wide
    rw [List.map_cons, List.sum_cons]
    rcases List.mem_cons.1 h with rfl | h
    · omega
    · have := wide_mem r x h
      unfold Pt.wide at this
      omega
theorem pcs_small (s : ByteArray) (x : ByteArray) (h : x ∈ Pt.pcs s) : x.size ≤ s.size := by
  have h1 : x.data.toList ∈ Pt.cut s.data.toList := by rw [← Pt.pcs_cut]; exact List.mem_map_of_mem h
  have h2 := wide_mem _ _ h1
  rw [Pt.wide_cut] at h2
  rw [size_list, size_list]
  omega
theorem split_form (s : ByteArray) (h : s.data.toList = []) (w : World) :
    Calls Tryd.prog 5 #[.string s] w fun e w' => e = .returned (.tuple #[.slice none 0 0, .bool false, .int .i64 2]) ∧ w' = w := by
  have e1 : (s.toList == []) = true := by rw [toList_beq]; simp [h]
  clear h
  go_enter Tryd.func5, Tryd.ntmps5
  go_wp2
  exact bodyPost_ret (v := .tuple #[.slice none 0 0, .bool false, .int .i64 2]) (by simp [results, Tryd.results5, go_sem]) rfl ⟨rfl, rfl⟩
theorem split_much (s : ByteArray) (hs : s.size ≤ maxLen) (h : 60 < s.size) (w : World) :
    Calls Tryd.prog 5 #[.string s] w fun e w' => e = .returned (.tuple #[.slice none 0 0, .bool false, .int .i64 4]) ∧ w' = w := by
  have e1 : (s.toList == []) = false := by
    rw [toList_beq, decide_eq_false_iff_not]; intro e; rw [size_list, e] at h; simp at h
  unfold maxLen at hs
  have h' : (60 : Int) < s.size := by omega
  go_enter Tryd.func5, Tryd.ntmps5
  go_wp2
  exact bodyPost_ret (v := .tuple #[.slice none 0 0, .bool false, .int .i64 4]) (by simp [results, Tryd.results5, go_sem]) rfl ⟨rfl, rfl⟩
def SRel (w w1 : World) (s : ByteArray) (v i : Value) (wr : World) : Prop :=
  ∃ k : Nat, k ≤ (Pt.pcs s).length ∧ i = .int .i64 k ∧ Hid ((((Pt.pcs s).take k).filter keepB).all fitB = true) ∧ wr.ownsRow (w.heap.size + 1) 9 1 v (((Pt.pcs s).take k).filter keepB).length ((((Pt.pcs s).take k).filter keepB).map Value.string) ∧ Below (w.heap.size + 1) w1 wr
theorem take_keep (l : List ByteArray) (k : Nat) (x : ByteArray) (hx : l[k]? = some x) : (l.take (k + 1)).filter keepB = (l.take k).filter keepB ++ if keepB x then [x] else [] := by
  rw [List.take_add_one, hx, List.filter_append, Option.toList_some, List.filter_cons, List.filter_nil]
theorem keepB_eq (x : ByteArray) : keepB x = !((x.toList == []) || (x.toList == [46])) := by
  unfold keepB Pt.keep Pt.idle
  rw [toList_beq, toList_beq]
  by_cases h1 : x.data.toList = [] <;> by_cases h2 : x.data.toList = [46] <;> simp [h1, h2]
theorem fitB_eq (x : ByteArray) : fitB x = ((x.toList == [46, 46]) || Pt.isName x.data.toList) := by
  unfold fitB Pt.fit
  rw [toList_beq]
theorem bad_fine {s x : ByteArray} {k : Nat} (hx : (Pt.pcs s)[k]? = some x) (hf : fitB x = false) (hk : keepB x = true) : Pt.fine s.data.toList = false := by
  cases e : Pt.fine s.data.toList with
  | false => rfl
  | true =>
    rw [fine_all] at e
    have := List.all_eq_true.1 e x (List.mem_filter.2 ⟨List.mem_of_getElem? hx, hk⟩)
    rw [hf] at this; cases this
theorem root_at (s : ByteArray) (h : 0 < s.size) : (((s[0].toNat : Nat) : Int) == 47) = Pt.root s.data.toList := by
  have e : s.data.toList.head? = some s[0] := by
    rw [List.head?_eq_getElem?]; exact List.getElem?_eq_getElem (by rw [← size_list]; exact h)
  unfold Pt.root
  rw [e, Bool.eq_iff_iff, beq_iff_eq, decide_eq_true_eq]
  constructor
  · intro h2; congr 1; exact UInt8.toNat_inj.1 (by show s[0].toNat = 47; omega)
  · intro h2; simp at h2; rw [h2]; rfl
theorem pcs_le (s : ByteArray) : (Pt.pcs s).length ≤ s.size + 1 := by
  rw [Pt.pcs_length]
  have := Lib.countB_le ⟨#[47]⟩ (by decide) s.size s (Nat.le_refl _)
  omega
set_option maxHeartbeats 1000000 in
theorem split_some (s : ByteArray) (m : Int) (h0 : s.data.toList ≠ []) (hs : s.size ≤ 60) (w : World) (hm : w.cell? ⟨0, 0, none⟩ = some (.int .i64 m)) :
    Calls Tryd.prog 5 #[.string s] w fun e w' => Below w.heap.size w w' ∧
      ((Pt.fine s.data.toList = false ∧ e = .returned (.tuple #[.slice none 0 0, .bool false, .int .i64 7])) ∨
       (Pt.fine s.data.toList = true ∧ ∃ v, e = .returned (.tuple #[v, .bool (Pt.root s.data.toList), .int .i64 0]) ∧ w'.ownsRow (w.heap.size + 1) 9 1 v (partsB s).length ((partsB s).map Value.string))) := by
  obtain ⟨i0, hi, hz0, hz1, hz2⟩ := info_parts Tryd.infoS
  have e1 : (s.toList == []) = false := by rw [toList_beq]; simp [h0]
  have g2 : ¬ (60 : Int) < s.size := by omega
  have HM : Hid (w.cell? ⟨0, 0, none⟩ = some (.int .i64 m)) := hm
  have H0 : Hid (s.data.toList ≠ []) := h0
  have hlen := pcs_le s
  have HL : Hid (Lib.countB s ⟨#[47]⟩ + 1 = (Pt.pcs s).length) := (Pt.pcs_length s).symm
  have HP : Hid (∀ x ∈ Pt.pcs s, x.size ≤ s.size) := pcs_small s
  have hgen : Lib.splitB ⟨#[47]⟩ 0 (Lib.countB s ⟨#[47]⟩) s = Pt.pcs s := rfl
  have HG : Hid (Lib.splitB ⟨#[47]⟩ 0 (Lib.countB s ⟨#[47]⟩) s = Pt.pcs s) := hgen
  clear hm h0 hgen
  go_enter Tryd.func5, Tryd.ntmps5
  go_wp2_with (go_at_call 10; refine (Tryd.strings_Split _ _ m _ (by omega) HM.out (by decide)).mono ?_; rintro e w1 ⟨rfl, rfl⟩; rw [HG.out, HL.out])
  go_loopw [5, 16] (fun v i wr => SRel w (w.alloc (.cells ((Pt.pcs s).map Value.string).toArray 9)) s v i wr) (fun _ i _ => (Pt.pcs s).length - (intOf i).toNat)
  case atStart => exact ⟨0, Nat.zero_le _, rfl, rfl, World.ownsRow_nil _ _ _ _, Below.refl _ _⟩
  case round =>
    obtain ⟨k, hk, rfl, hall, hown, hb⟩ := hrel
    have hz : w.heap.size + 1 ≤ wr.heap.size := by have := hb.size; simpa using this
    have hbw : Below w.heap.size w wr := ((Below.refl _ _).alloc (Nat.le_refl _) _).trans (hb.mono (by omega))
    have HBW : Hid (Below w.heap.size w wr) := hbw
    have hl2 : (((Pt.pcs s).take k).filter keepB).length ≤ k := Nat.le_trans (List.length_filter_le _ _) (List.length_take_le _ _)
    clear hbw
    by_cases hlt : k < (Pt.pcs s).length
    · obtain ⟨x, hx⟩ : ∃ x, (Pt.pcs s)[k]? = some x := ⟨_, List.getElem?_eq_getElem hlt⟩
      have hcx : wr.cell? ⟨w.heap.size, k, none⟩ = some (.string x) := by
        rw [hb.cell (p := ⟨w.heap.size, k, none⟩) (Nat.lt_succ_self _), World.cell?_alloc_at _ _ _ _ rfl, List.getElem?_toArray, List.getElem?_map, hx]; rfl
      have HT : Hid (((Pt.pcs s).take (k + 1)).filter keepB = ((Pt.pcs s).take k).filter keepB ++ if keepB x then [x] else []) := take_keep _ _ _ hx
      have HK : Hid (keepB x = !((x.toList == []) || (x.toList == [46]))) := keepB_eq x
      have hxs : x.size ≤ 60 := Nat.le_trans (HP.out x (List.mem_of_getElem? hx)) hs
      have HX : Hid ((Pt.pcs s)[k]? = some x) := hx
      clear hx
      have HU : Hid (fitB x = ((x.toList == [46, 46]) || Pt.isName x.data.toList)) := fitB_eq x
      cases h1 : (x.toList == []) with
      | true =>
        have HF : Hid (((Pt.pcs s).take (k + 1)).filter keepB = ((Pt.pcs s).take k).filter keepB) := by unfold Hid; rw [HT.out, HK.out, h1]; simp
        go_wp2
        go_roundw
        case rel => exact ⟨k + 1, by omega, by go_num, by unfold Hid; rw [HF.out]; exact hall.out, by rw [HF.out]; exact hown, hb⟩
        case measure => simp [intOf]; omega
      | false =>
        cases h2 : (x.toList == [46]) with
        | true =>
          have HF : Hid (((Pt.pcs s).take (k + 1)).filter keepB = ((Pt.pcs s).take k).filter keepB) := by unfold Hid; rw [HT.out, HK.out, h2]; simp
          go_wp2
          go_roundw
          case rel => exact ⟨k + 1, by omega, by go_num, by unfold Hid; rw [HF.out]; exact hall.out, by rw [HF.out]; exact hown, hb⟩
          case measure => simp [intOf]; omega
        | false =>
          have HF : Hid (((Pt.pcs s).take (k + 1)).filter keepB = ((Pt.pcs s).take k).filter keepB ++ [x]) := by unfold Hid; rw [HT.out, HK.out, h1, h2]; rfl
          cases h3 : (x.toList == [46, 46]) with
          | true =>
            have h4 : (x.toList != [46, 46]) = false := by rw [bne, h3]; rfl
            have HFit : Hid (fitB x = true) := by unfold Hid; rw [HU.out, h3]; rfl
            go_wp2_with (at_builtin; refine wpList_append_own _ rfl _ _ 23 rfl (w.heap.size + 1) 9 i0 (.string ByteArray.empty) 1 16 Tryd.underlying23 hi hz0 hz1 hz2 rfl (by decide) _ _ _ rfl (hown.alloc _) ⟨wr.heap.size, 0, none⟩ 1 1 [.string x] rfl rfl ?c1 ?c2 ?c3 ?c4 ?c5 ?_)
            case c1 =>
              intro j u hj
              match j, hj with
              | 0, hj => simp at hj; subst hj; simp [Addr.add]
            case c2 => intro u hu; simp at hu; subst hu; rfl
            case c3 => unfold maxLen; omega
            case c4 => omega
            case c5 => simp; omega
            intro v' w2 hown' hgrow _
            have hb2 : Below (w.heap.size + 1) (w.alloc (.cells ((Pt.pcs s).map Value.string).toArray 9)) w2 := (hb.alloc hz _).grown hgrow (by simp; omega) (fun j hj => (hown.lt j hj).1)
            have hown2 : Hid (w2.ownsRow (w.heap.size + 1) 9 1 v' (((Pt.pcs s).take (k + 1)).filter keepB).length ((((Pt.pcs s).take (k + 1)).filter keepB).map Value.string)) := by unfold Hid; rw [HF.out]; simpa using hown'
            have HB2 : Hid (Below (w.heap.size + 1) (w.alloc (.cells ((Pt.pcs s).map Value.string).toArray 9)) w2) := hb2
            clear hown' hgrow hown hb hcx hb2
            go_wp2
            go_roundw
            case rel => exact ⟨k + 1, by omega, by go_num, by unfold Hid; rw [HF.out, List.all_append, hall.out]; simp [HFit.out], hown2.out, HB2.out⟩
            case measure => simp [intOf]; omega
          | false =>
            have h4 : (x.toList != [46, 46]) = true := by rw [bne, h3]; rfl
            cases hn : Pt.isName x.data.toList with
            | true =>
              have HN : Hid (Pt.isName x.data.toList = true) := hn
              have HFit : Hid (fitB x = true) := by unfold Hid; rw [HU.out, hn]; simp
              clear hn
              go_wp2_with (first | (go_at_call 9; refine (name_any _ (by unfold maxLen; omega) _).mono ?_; rintro e w' ⟨rfl, hw⟩; rw [hw, HN.out]; clear hw) | (at_builtin; refine wpList_append_own _ rfl _ _ 23 rfl (w.heap.size + 1) 9 i0 (.string ByteArray.empty) 1 16 Tryd.underlying23 hi hz0 hz1 hz2 rfl (by decide) _ _ _ rfl (hown.alloc _) ⟨wr.heap.size, 0, none⟩ 1 1 [.string x] rfl rfl ?c1 ?c2 ?c3 ?c4 ?c5 ?_))
              case c1 =>
                intro j u hj
                match j, hj with
                | 0, hj => simp at hj; subst hj; simp [Addr.add]
              case c2 => intro u hu; simp at hu; subst hu; rfl
              case c3 => unfold maxLen; omega
              case c4 => omega
              case c5 => simp; omega
              intro v' w2 hown' hgrow _
              have hb2 : Below (w.heap.size + 1) (w.alloc (.cells ((Pt.pcs s).map Value.string).toArray 9)) w2 := (hb.alloc hz _).grown hgrow (by simp; omega) (fun j hj => (hown.lt j hj).1)
              have hown2 : Hid (w2.ownsRow (w.heap.size + 1) 9 1 v' (((Pt.pcs s).take (k + 1)).filter keepB).length ((((Pt.pcs s).take (k + 1)).filter keepB).map Value.string)) := by unfold Hid; rw [HF.out]; simpa using hown'
              have HB2 : Hid (Below (w.heap.size + 1) (w.alloc (.cells ((Pt.pcs s).map Value.string).toArray 9)) w2) := hb2
              clear hown' hgrow hown hb hcx hb2
              go_wp2
              go_roundw
              case rel => exact ⟨k + 1, by omega, by go_num, by unfold Hid; rw [HF.out, List.all_append, hall.out]; simp [HFit.out], hown2.out, HB2.out⟩
              case measure => simp [intOf]; omega
            | false =>
              have HN : Hid (Pt.isName x.data.toList = false) := hn
              have HFit : Hid (fitB x = false) := by unfold Hid; rw [HU.out, hn, h3]; rfl
              have HBad : Hid (Pt.fine s.data.toList = false) := bad_fine HX.out HFit.out (by rw [HK.out, h1, h2]; rfl)
              clear hn
              go_wp2_with (go_at_call 9; refine (name_any _ (by unfold maxLen; omega) _).mono ?_; rintro e w' ⟨rfl, rfl⟩; rw [HN.out])
              go_ret3
              exact ⟨HBW.out, Or.inl ⟨HBad.out, rfl⟩⟩
    · obtain rfl : k = (Pt.pcs s).length := by omega
      have hi0 : 0 < s.size := by
        rcases Nat.eq_zero_or_pos s.size with h | h
        · rw [size_list] at h; exact absurd (List.length_eq_zero_iff.1 h) H0.out
        · exact h
      have hr : (((s[0].toNat : Nat) : Int) == 47) = Pt.root s.data.toList := root_at s hi0
      go_wp2_with fail
      go_region
      go_wp2
      go_ret3
      refine ⟨below_drewN HBW.out 1, Or.inr ⟨?_, u5, ?_, ?_⟩⟩
      · rw [fine_all]; have := hall.out; rw [List.take_length] at this; exact this
      · rfl
      · rw [List.take_length] at hown; exact hown
end Go.Proofs.YtlfkkkgadkcilabDoor
