/-
  The document's own answer: rgref1.Allows.
-/
import Derived.Test.YtkikghdcnejjfabGPlain
import Derived.BigQuiet
import Derived.Deep.QuietTactic
import Derived.Deep.RegionWith
import Derived.Handy
namespace Go.Proofs.Ytkikghdcnejjfab
open Go.RowKit
def ARel (w : World) (r : Nat → Int) (l : List Gp.Pol) (i : Value) (wr : World) : Prop :=
  ∃ k : Nat, k ≤ l.length ∧ i = .int .i64 k ∧ Below (w.heap.size + 1) (withRec w r) wr ∧ Gp.allows r l = Gp.allows r (l.drop k)
def AMRel (w : World) (r : Nat → Int) (ms : List (Int × Int)) (i : Value) (wr : World) : Prop :=
  ∃ k : Nat, k ≤ ms.length ∧ i = .int .i64 k ∧ Below (w.heap.size + 1) (withRec w r) wr ∧ Gp.anyHit r ms = Gp.anyHit r (ms.drop k)
set_option maxHeartbeats 4000000 in
theorem rallows_some (l : List Gp.Pol) (r : Nat → Int) (hw : Gp.Worded l) (b o cap : Nat) (w : World) (hb : b < w.heap.size) (hl : PLies w w.heap.size b o l) (hm : l.length ≤ maxLen) :
    Calls Try.prog 13 #[.slice (some ⟨b, o, none⟩) l.length cap, recV r] w fun e w' => e = .returned (.bool (Gp.allows r l)) ∧ Below w.heap.size w w' := by
  have HW : Hid (Gp.Worded l) := hw
  have HL : Hid (PLies (withRec w r) w.heap.size b o l) := hl.on (withRec_below w r) hb (Nat.le_refl _)
  unfold maxLen at hm
  clear hw hl
  generalize hres : Gp.allows r l = res
  have HR : Hid (Gp.allows r l = res) := hres
  clear hres
  unfold recV
  go_enter Try.func13, Try.ntmps13
  go_wp2
  go_loopw [11] (fun i wr => ARel w r l i wr) (fun i _ => l.length - (intOf i).toNat)
  case atStart => exact ⟨0, Nat.zero_le _, rfl, Below.refl _ _, by simp⟩
  case round =>
    obtain ⟨k, hk, rfl, hB, hF⟩ := hrel
    have HF : Hid (Gp.allows r l = Gp.allows r (l.drop k)) := hF
    clear hF
    have hsz : w.heap.size < wr.heap.size := by have := hB.size; rw [withRec_size] at this; omega
    have r0 := rec_cell hB 0 (by omega)
    by_cases hlt : k < l.length
    · have hx : l[k]? = some l[k] := List.getElem?_eq_getElem hlt
      obtain ⟨c0, mv, c1, hM⟩ := (HL.out.on hB (by omega) (by omega)) k _ hx
      have HD : Hid (Gp.allows r (l.drop k) = _) := allows_drop r l k _ hx
      have HWP : Hid (∀ m ∈ l[k].masks, 0 ≤ m.1 ∧ m.1 < 6) := fun m hm => HW.out _ (List.getElem_mem hlt) m hm
      clear hx
      generalize l[k] = P at *
      obtain ⟨call, ms⟩ := P
      dsimp only at c0 hM HD HWP
      obtain ⟨am, capm, rfl, hmm⟩ := hM.form
      unfold maxLen at hmm
      by_cases hc : call = r 0
      · subst hc
        have hres : res = !(Gp.anyHit r ms) := by rw [← HR.out, HF.out, HD.out, if_pos rfl]
        subst hres
        clear HD HF HR
        have hM1 := hM.on ((Below.refl w.heap.size wr).alloc (by omega) (.cells #[.int .i64 (r 0), .slice am ms.length capm] 41)) (Nat.le_refl _)
        have hB1 := hB.alloc (by omega) (.cells #[.int .i64 (r 0), .slice am ms.length capm] 41)
        have HM : Hid (MHolds (wr.alloc (.cells #[.int .i64 (r 0), .slice am ms.length capm] 41)) w.heap.size (.slice am ms.length capm) ms) := hM1
        clear hM hM1
        go_wp2_with fail
        go_loopw [23] (fun i W => AMRel w r ms i W ∧ MHolds W w.heap.size (.slice am ms.length capm) ms) (fun i _ => ms.length - (intOf i).toNat)
        case atStart => exact ⟨⟨0, Nat.zero_le _, rfl, hB1, by simp⟩, HM.out⟩
        case round =>
          clear HM hB1
          obtain ⟨⟨j, hj, rfl, hB2, hF⟩, hM⟩ := hrel
          have HF : Hid (Gp.anyHit r ms = Gp.anyHit r (ms.drop j)) := hF
          have HM : Hid (MHolds wr w.heap.size (.slice am ms.length capm) ms) := hM
          clear hF
          by_cases hjl : j < ms.length
          · have hx : ms[j]? = some ms[j] := List.getElem?_eq_getElem hjl
            have hM' := hM
            rcases hM' with ⟨_, _, _, rfl⟩ | ⟨b', o', cap', he, hlt', _, hml⟩
            · simp at hjl
            simp only [Value.slice.injEq, true_and] at he
            obtain ⟨rfl, rfl⟩ := he
            obtain ⟨m0, m1⟩ := hml j _ hx
            have HD : Hid (Gp.anyHit r (ms.drop j) = _) := anyHit_drop r ms j _ hx
            obtain ⟨w0, w6⟩ := HWP.out _ (List.getElem_mem hjl)
            clear hx hml
            generalize ms[j] = m at *
            obtain ⟨mw, mb⟩ := m
            dsimp only at m0 m1 w0 w6
            obtain ⟨mn, rfl⟩ := Int.eq_ofNat_of_zero_le w0
            have hsz2 : w.heap.size < wr.heap.size := by have := hB2.size; rw [withRec_size] at this; omega
            have rr := rec_cell hB2 mn (by omega)
            cases hh : (bits .and .i64 (r mn) mb != 0)
            · have HN : Hid (Gp.anyHit r ms = Gp.anyHit r (ms.drop (j + 1))) := by
                unfold Hid; rw [HF.out, HD.out]
                have : Gp.hit r ((mn : Int), mb) = false := hh
                rw [this]; rfl
              clear HF HD hM
              go_wp2
              go_region
              all_goals (try go_wp2)
              exact ⟨⟨⟨j + 1, by omega, by go_num, (hB2.alloc (by omega) _).drew, HN.out⟩, HM.out.on (((Below.refl w.heap.size wr).alloc (by omega) _).drew) (Nat.le_refl _)⟩, by simp [intOf]; omega⟩
            · have hT : Gp.anyHit r ms = true := by
                rw [HF.out, HD.out]
                have : Gp.hit r ((mn : Int), mb) = true := hh
                rw [this]; rfl
              clear HF HD hM
              go_wp2
              go_region
              all_goals (try go_wp2)
              go_ret
              exact ⟨by rw [hT]; rfl, rec_below ((hB2.alloc (by omega) _).drew)⟩
          · obtain rfl : j = ms.length := by omega
            have hT : Gp.anyHit r ms = false := by rw [HF.out, List.drop_length]; rfl
            clear HF hM
            go_wp2
            go_ret
            exact ⟨by rw [hT]; rfl, rec_below hB2⟩
      · have hc' : (call != r 0) = true := by simpa using hc
        have HN : Hid (Gp.allows r l = Gp.allows r (l.drop (k + 1))) := by unfold Hid; rw [HF.out, HD.out, if_neg hc]
        clear HD HF hc hM HWP
        go_wp2
        exact ⟨⟨k + 1, by omega, by go_num, hB.alloc (by omega) _, HN.out⟩, by simp [intOf]; omega⟩
    · obtain rfl : k = l.length := by omega
      have hF := HF.out
      rw [List.drop_length, Gp.allows, HR.out] at hF
      subst hF
      clear HF HR
      go_wp2
      go_ret
      exact ⟨rfl, rec_below hB⟩
theorem rallows_any (l : List Gp.Pol) (r : Nat → Int) (hw : Gp.Worded l) (v : Value) (w : World) (hv : PHolds w w.heap.size v l) :
    Calls Try.prog 13 #[v, recV r] w fun e w' => e = .returned (.bool (Gp.allows r l)) ∧ Below w.heap.size w w' := by
  rcases hv with ⟨a, cap, rfl, rfl⟩ | ⟨b, o, cap, rfl, hlt, h1, h2, hl⟩
  · unfold recV Gp.allows
    go_enter Try.func13, Try.ntmps13
    go_wp2
    refine wp_loop_rounds 1 ?_
    rw [rounds_succ]
    go_wp2
    go_ret
    exact ⟨rfl, withRec_below w r⟩
  · exact rallows_some l r hw b o cap w hlt hl (by omega)
end Go.Proofs.Ytkikghdcnejjfab
