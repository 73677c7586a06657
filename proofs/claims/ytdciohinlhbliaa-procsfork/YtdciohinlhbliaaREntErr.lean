
/-
  rgref5.Enter refused.
-/
import Derived.Test.YtdciohinlhbliaaSErr
import Derived.Test.YtdciohinlhbliaaRName
namespace Go.Proofs.Ytdciohinlhbliaa
open Go.RowKit
set_option maxRecDepth 100000 in
set_option maxHeartbeats 4000000 in
/-- rgref5.Enter: the directory has gone, or the name is none, or taken. -/
theorem renter_err (L : List Sp.Ob) (d j : Nat) (name : ByteArray) (od oj : Sp.Ob) (v : Value) (S : Nat → Prop) (w : World) (hv : Objs w S v L) (hS : ∀ b, S b → b < w.heap.size) (hs : name.size ≤ maxLen) (hd : L[d]? = some od) (hj : L[j]? = some oj) (hkd : od.kind = 2) (hkj : oj.kind ≠ 0) (her : od.links = 0 ∨ (Pt.isName name.data.toList = true ∧ 0 ≤ Sp.find L d name)) :
    Calls Try.prog 30 #[v, .int .i64 d, .string name, .int .i64 j] w fun e w' => e = .returned (.tuple #[.slice none 0 0, .int .i64 (if od.links = 0 then 6 else 7)]) ∧ Below w.heap.size w w' := by
  have HI1 : Hid (Calls Try.prog 22 #[v, .int .i64 d, .int .i64 0] w fun e w' => e = .returned (.bool true) ∧ w' = w) := by
    have := is_any L d 0 v S w hv
    have e : Sp.is L d 0 = true := by unfold Sp.is; rw [objAt_of hd (by omega)]; rfl
    rw [e] at this
    exact this
  have HI2 : Hid (Calls Try.prog 22 #[v, .int .i64 j, .int .i64 0] w fun e w' => e = .returned (.bool true) ∧ w' = w) := by
    have := is_any L j 0 v S w hv
    have e : Sp.is L j 0 = true := by unfold Sp.is; rw [objAt_of hj hkj]; rfl
    rw [e] at this
    exact this
  have HNM : Hid (Calls Try.prog 59 #[.string name] w fun e w' => e = .returned (.bool (Pt.isName name.data.toList)) ∧ w' = w) := rname_any name hs w
  have HFI : Hid (Calls Try.prog 60 #[v, .int .i64 d, .string name] w fun e w' => e = .returned (.int .i64 (Sp.find L d name)) ∧ Below w.heap.size w w') := rfind_any L d name v S w hv hS
  have hdl : d < L.length := (List.getElem?_eq_some_iff.1 hd).1
  obtain ⟨b, of, c, s, rfl, hb, hc, hm, -, k0, -, -, -, -, -, -, k7, -⟩ := hv.open hd
  unfold maxLen at hm
  rw [hkd] at k0
  clear hv hS hs hd hj hkd hkj
  by_cases hl0 : od.links = 0
  · rw [if_pos hl0]
    rw [hl0] at k7
    clear her hl0
    go_enter Try.func30, Try.ntmps30
    go_wp2_with fail
    refine Calls.mono HI1.out ?_
    rintro e w1 ⟨rfl, hw⟩
    rw [hw]
    clear hw HI1
    go_wp2_with fail
    refine Calls.mono HI2.out ?_
    rintro e w1 ⟨rfl, hw⟩
    rw [hw]
    clear hw HI2
    go_wp2
    go_ret2
    exact ⟨rfl, Below.refl _ _⟩
  · rw [if_neg hl0]
    obtain ⟨h1, h2⟩ := her.resolve_left hl0
    rw [h1] at HNM
    have hlz : (od.links == 0) = false := by simpa using hl0
    generalize Sp.find L d name = fi at *
    clear her hl0 h1
    go_enter Try.func30, Try.ntmps30
    go_wp2_with fail
    refine Calls.mono HI1.out ?_
    rintro e w1 ⟨rfl, hw⟩
    rw [hw]
    clear hw HI1
    go_wp2_with fail
    refine Calls.mono HI2.out ?_
    rintro e w1 ⟨rfl, hw⟩
    rw [hw]
    clear hw HI2
    go_wp2_with fail
    refine Calls.mono HNM.out ?_
    rintro e w1 ⟨rfl, hw⟩
    rw [hw]
    clear hw HNM
    go_wp2_with fail
    refine Calls.mono HFI.out ?_
    rintro e w2 ⟨rfl, hb2⟩
    go_wp2
    go_ret2
    exact ⟨rfl, hb2⟩
end Go.Proofs.Ytdciohinlhbliaa
