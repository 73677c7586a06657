/-
  Lists of texts as they lie; what path.Join and path.Depth answer.
-/
import Derived.Test.YtlfkkkgadkcilabDoorPWalkB
namespace Go.Proofs.YtlfkkkgadkcilabDoor
open Go.RowKit
/-- A list of texts lies there. -/
def TL (w : World) (B : Nat) (v : Value) (xs : List ByteArray) : Prop :=
  (∃ a c, v = .slice a 0 c ∧ xs = []) ∨ ∃ b o c, v = .slice (some ⟨b, o, none⟩) xs.length c ∧ b < B ∧ xs.length ≤ c ∧ ∀ (j : Nat) x, xs[j]? = some x → w.cell? ⟨b, o + j, none⟩ = some (.string x)
theorem TL.on {w w' : World} {B C : Nat} {v : Value} {xs : List ByteArray} (h : TL w B v xs) (hb : Below C w w') (hB : B ≤ C) : TL w' B v xs := by
  rcases h with h | ⟨b, o, c, h1, h2, h3, h4⟩
  · exact Or.inl h
  · exact Or.inr ⟨b, o, c, h1, h2, h3, fun j x hj => (hb.cell (p := ⟨b, o + j, none⟩) (by show b < C; omega)).trans (h4 j x hj)⟩
theorem TL.up {w : World} {B C : Nat} {v : Value} {xs : List ByteArray} (h : TL w B v xs) (hB : B ≤ C) : TL w C v xs := by
  rcases h with h | ⟨b, o, c, h1, h2, h3, h4⟩
  · exact Or.inl h
  · exact Or.inr ⟨b, o, c, h1, by omega, h3, h4⟩
theorem TL.form {w : World} {B : Nat} {v : Value} {xs : List ByteArray} (h : TL w B v xs) : ∃ a c, v = .slice a xs.length c := by
  rcases h with ⟨a, c, rfl, rfl⟩ | ⟨b, o, c, h1, _⟩
  · exact ⟨a, c, rfl⟩
  · exact ⟨_, c, h1⟩
theorem TL.own {w : World} {base : Nat} {v : Value} {xs : List ByteArray} (h : w.ownsRow base 9 1 v xs.length (xs.map Value.string)) : TL w w.heap.size v xs := by
  have hlt := h.lt
  have hc := fun g hg => h.cells (g := g) hg
  rcases h.2 with ⟨rfl, h0⟩ | ⟨g, cap, cur, rfl, _, _, h1, h2, _, _⟩
  · exact Or.inl ⟨none, 0, rfl, List.length_eq_zero_iff.1 h0⟩
  · refine Or.inr ⟨g, 0, cap, rfl, (hlt g rfl).2, by omega, fun j x hx => ?_⟩
    have := hc g rfl j (.string x) (by rw [List.getElem?_map, hx]; rfl)
    rw [Addr.add_lit] at this
    exact this
def dataL (xs : List ByteArray) : List (List UInt8) := xs.map (·.data.toList)
theorem cons_bytes (l : List UInt8) : (⟨#[47]⟩ : ByteArray) ++ ⟨l.toArray⟩ = ⟨(47 :: l).toArray⟩ := by
  apply Pt.bytes_ext
  simp
theorem join_any (r : Bool) (xs : List ByteArray) (v : Value) (w : World) (hv : TL w w.heap.size v xs) (hN : xs.length ≤ 140737488355328) (hlen : (Lib.join (dataL xs) [47]).length ≤ 140737488355327) :
    Calls Tryd.prog 6 #[v, .bool r] w fun e w' => e = .returned (.string ⟨(Pt.joined (dataL xs) r).toArray⟩) ∧ Below w.heap.size w w' := by
  have HL : Hid ((Lib.join (dataL xs) [47]).length ≤ 140737488355327) := hlen
  clear hlen
  rcases hv with ⟨a, c, rfl, rfl⟩ | ⟨b, o, c, rfl, h2, h3, h4⟩
  · cases r
    · go_enter Tryd.func6, Tryd.ntmps6
      go_wp2
      go_ret
      exact ⟨rfl, Below.refl _ _⟩
    · go_enter Tryd.func6, Tryd.ntmps6
      go_wp2_with (go_at_call 11; refine (Tryd.strings_Join_none _ _ _ _).mono ?_; rintro e w' ⟨rfl, rfl⟩)
      go_ret
      exact ⟨rfl, Below.refl _ _⟩
  · have H4 : Hid (∀ (j : Nat) x, xs[j]? = some x → w.cell? ⟨b, o + j, none⟩ = some (.string x)) := h4
    clear h4
    cases r
    · by_cases h0 : xs.length = 0
      · have hx := List.length_eq_zero_iff.1 h0
        subst hx
        go_enter Tryd.func6, Tryd.ntmps6
        go_wp2
        go_ret
        exact ⟨rfl, Below.refl _ _⟩
      · have h0' : ((xs.length : Int) == 0) = false := by rw [beq_eq_false_iff_ne]; omega
        have HJ : Hid (Pt.joined (dataL xs) false = Lib.join (dataL xs) [47]) := by
          unfold Hid Pt.joined
          rw [if_neg (by simp), if_neg (fun e => h0 (by unfold dataL at e; rw [List.map_eq_nil_iff] at e; rw [e]; rfl))]
        go_enter Tryd.func6, Tryd.ntmps6
        go_wp2_with (go_at_call 11; refine (Tryd.strings_Join b o c xs ⟨#[47]⟩ _ H4.out h2 hN h3 (Nat.le_trans HL.out (by decide))).mono ?_; rintro e w' ⟨rfl, hb⟩)
        go_ret
        exact ⟨by rw [HJ.out]; rfl, hb⟩
    · have hle : ¬ 9223372036854775807 < 1 + (Lib.join (List.map (fun x => x.data.toList) xs) [47]).length := by have := HL.out; unfold dataL at this; omega
      go_enter Tryd.func6, Tryd.ntmps6
      go_wp2_with (go_at_call 11; refine (Tryd.strings_Join b o c xs ⟨#[47]⟩ _ H4.out h2 hN h3 (Nat.le_trans HL.out (by decide))).mono ?_; rintro e w' ⟨rfl, hb⟩)
      go_ret
      refine ⟨?_, hb⟩
      show Ending.returned (Value.string (_ ++ _)) = _
      rw [cons_bytes]
      rfl
end Go.Proofs.YtlfkkkgadkcilabDoor
