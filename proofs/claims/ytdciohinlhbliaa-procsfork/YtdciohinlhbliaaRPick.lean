
/-
  rgref5's Maker: pick, walked.
-/
import Derived.Test.YtdciohinlhbliaaRWith
namespace Go.Proofs.Ytdciohinlhbliaa
open Go.RowKit
/-- A maker of kernels: bytes that are left, in block g. -/
def MK (w : World) (g : Nat) (S : Nat → Prop) : Prop := ∃ a n c l, Blk w g #[.slice a n c] 69 ∧ Bytes w S (.slice a n c) l
theorem MK.on {w w' : World} {g : Nat} {S T : Nat → Prop} (h : MK w g S) (ho : On T w w') (hg : T g) (hS : ∀ b, S b → T b) : MK w' g S := by
  obtain ⟨a, n, c, l, h1, h2⟩ := h
  exact ⟨a, n, c, l, h1.on ho hg, Row.on h2 (ho.less hS)⟩
theorem MK.cut {w : World} {g b o c : Nat} {S : Nat → Prop} {l : List UInt8} {v : Value} (h1 : Blk w g #[v] 69) (h2 : Bytes w S (.slice (some ⟨b, o, none⟩) l.length c) l) (hS : ∀ b, S b → b ≠ g) (hl : 1 ≤ l.length) (hc : l.length ≤ c) (hcm : c ≤ maxLen) (a' : Option Addr) (n' c' : Nat) (h : (a' = some ⟨b, o + 1, none⟩ ∧ n' = l.length - 1 ∧ c' = c - 1) ∨ n' = 0) : MK (w.setCell ⟨g, 0, none⟩ (.slice a' n' c')) g S := by
  have hon := On.set w ⟨g, 0, none⟩ (.slice a' n' c')
  rcases h with ⟨rfl, rfl, rfl⟩ | rfl
  · refine ⟨_, _, _, l.drop 1, h1.set 0 _, ?_⟩
    have := (Bytes.sub h2 1 l.length (l.length - 1) (c - 1) (by rw [List.length_take, List.length_drop]; omega) (by omega) (by omega)).on (hon.less fun b hb => hS b hb)
    rw [List.take_of_length_le (by rw [List.length_drop]; omega)] at this
    exact this
  · exact ⟨_, _, _, [], h1.set 0 _, Row.nil _ _ _ _ _⟩
set_option maxRecDepth 100000 in
set_option maxHeartbeats 2000000 in
theorem pick_any (g : Nat) (S : Nat → Prop) (n : Nat) (hn : 1 ≤ n) (hn2 : n ≤ 1000000) (w : World) (h : MK w g S) (hS : ∀ b, S b → b ≠ g) :
    Calls Try.prog 28 #[.pointer (some ⟨g, 0, none⟩), .int .i64 n] w fun e w' => ∃ x : Nat, e = .returned (.int .i64 x) ∧ x < n ∧ MK w' g S ∧ On (fun b => b ≠ g) w w' ∧ w'.heap.size = w.heap.size ∧ ∀ B, B ≤ g → Below B w w' := by
  obtain ⟨a, m, c, l, h1, h2⟩ := h
  have hm := Row.eqNil h2
  rw [List.length_map] at hm
  subst hm
  have HS : Hid (∀ b, S b → b ≠ g) := hS
  have H1 : Hid (Blk w g #[.slice a l.length c] 69) := h1
  have H2 : Hid (Bytes w S (.slice a l.length c) l) := h2
  have hcl := h1.cell
  have hfz := h1.free
  have hlt := h1.lt
  by_cases h0 : l.length = 0
  · have hl0 := List.length_eq_zero_iff.1 h0
    have hz : ((l.length : Int) == 0) = true := by simp [h0]
    clear h1 h2 hS
    subst hl0
    go_enter Try.func28, Try.ntmps28
    go_wp2
    go_ret
    exact ⟨0, rfl, by omega, ⟨a, 0, c, [], H1.out, H2.out⟩, fun _ _ => rfl, rfl, fun B _ => Below.refl B w⟩
  · obtain ⟨b, o, c', he, hSb, h3, h4, h5⟩ := Row.some h2 (by rw [List.length_map]; omega)
    rw [List.length_map] at he h3
    obtain ⟨rfl, -, rfl⟩ := Value.slice.inj he
    obtain ⟨x, hx⟩ : ∃ x, l[0]? = some x := ⟨l[0]'(by omega), List.getElem?_eq_getElem _⟩
    have c0 := h5 0 (byteC x) (by rw [List.getElem?_map, hx]; rfl) 0 _ rfl
    simp only [Nat.zero_mul, Nat.add_zero] at c0
    have hbg := hS b hSb
    unfold maxLen at h4
    have HCM : Hid (c ≤ maxLen) := by unfold Hid maxLen; omega
    have hxb : (x.toNat : Int) < 256 := by have := x.toNat_lt; omega
    have hx0 : (0 : Int) ≤ (x.toNat : Int) := by omega
    have hl0 : ((l.length : Int) == 0) = false := by simpa using h0
    have hl1 : (1 : Int) ≤ (l.length : Int) := by omega
    have hlc : (l.length : Int) ≤ (c : Int) := by omega
    clear h1 h2 hS he h5 hx
    go_enter Try.func28, Try.ntmps28
    go_wp2
    all_goals
      go_ret
      refine ⟨x.toNat % n, ?_, Nat.mod_lt _ (by omega), MK.cut H1.out H2.out HS.out (by omega) (by omega) HCM.out _ _ _ ?_, On.set w ⟨g, 0, none⟩ _, by simp, fun B hB => (Below.refl B w).setCell hB _⟩
      · rw [Int.natCast_emod]; rfl
      · first | exact Or.inl ⟨rfl, rfl, rfl⟩ | exact Or.inr (by omega)
end Go.Proofs.Ytdciohinlhbliaa
