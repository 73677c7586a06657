/-
  What chapter 3 says of policies, as plain functions over lists; how policies lie in memory.
-/
import Derived.Test.YtkikghdcnejjfabWalkC
namespace Go.Proofs.Ytkikghdcnejjfab
open Go.RowKit
namespace Gp
/-- A policy: a call, and masks (a word's number, bits). -/
structure Pol where
  call : Int
  masks : List (Int × Int)
/-- Does a mask have a bit of its word? -/
def hit (r : Nat → Int) (m : Int × Int) : Bool := bits .and .i64 (r m.1.toNat) m.2 != 0
def anyHit (r : Nat → Int) : List (Int × Int) → Bool
  | [] => false
  | m :: t => hit r m || anyHit r t
def allows (r : Nat → Int) : List Pol → Bool
  | [] => false
  | P :: t => if P.call = r 0 then !(anyHit r P.masks) else allows r t
/-- Each mask names a word of a record. -/
def Worded (l : List Pol) : Prop := ∀ P ∈ l, ∀ m ∈ P.masks, 0 ≤ m.1 ∧ m.1 < 6
end Gp
namespace Gp
def badMask (m : Int × Int) : Bool := decide (m.1 < 1 ∨ 5 < m.1 ∨ m.2 < 1 ∨ 2147483648 ≤ m.2)
def anyBad : List (Int × Int) → Bool
  | [] => false
  | m :: t => badMask m || anyBad t
def polErr (ahead : List Int) (P : Pol) : Int :=
  if P.call < 0 ∨ 2147483648 ≤ P.call then 3 else if P.call ∈ ahead then 7 else if 3 < P.masks.length then 5 else if anyBad P.masks = true then 3 else 0
def firstP : List Pol → List Int → Nat → Option (Int × Nat)
  | [], _, _ => none
  | P :: t, ah, a => if polErr ah P ≠ 0 then some (polErr ah P, a) else firstP t (P.call :: ah) (a + 1)
def wrongP (l : List Pol) : Int × Nat := if 30 < l.length then (5, 0) else (firstP l [] 0).getD (0, 0)
theorem firstP_drop (l : List Pol) (ks : List Int) (k : Nat) (P : Pol) (hP : l[k]? = some P) : firstP (l.drop k) ks k = if polErr ks P ≠ 0 then some (polErr ks P, k) else firstP (l.drop (k + 1)) (P.call :: ks) (k + 1) := by
  obtain ⟨hk, rfl⟩ := List.getElem?_eq_some_iff.1 hP
  rw [List.drop_eq_getElem_cons hk, firstP]
theorem anyBad_drop (ms : List (Int × Int)) (k : Nat) (m : Int × Int) (hm : ms[k]? = some m) : anyBad (ms.drop k) = (badMask m || anyBad (ms.drop (k + 1))) := by
  obtain ⟨hk, rfl⟩ := List.getElem?_eq_some_iff.1 hm
  rw [List.drop_eq_getElem_cons hk, anyBad]
end Gp
theorem allows_drop (r : Nat → Int) (l : List Gp.Pol) (k : Nat) (P : Gp.Pol) (hP : l[k]? = some P) : Gp.allows r (l.drop k) = if P.call = r 0 then !(Gp.anyHit r P.masks) else Gp.allows r (l.drop (k + 1)) := by
  obtain ⟨hk, rfl⟩ := List.getElem?_eq_some_iff.1 hP
  rw [List.drop_eq_getElem_cons hk, Gp.allows]
theorem anyHit_drop (r : Nat → Int) (ms : List (Int × Int)) (k : Nat) (m : Int × Int) (hm : ms[k]? = some m) : Gp.anyHit r (ms.drop k) = (Gp.hit r m || Gp.anyHit r (ms.drop (k + 1))) := by
  obtain ⟨hk, rfl⟩ := List.getElem?_eq_some_iff.1 hm
  rw [List.drop_eq_getElem_cons hk, Gp.anyHit]
/-- Masks lie in block b, from cell o on. -/
def MLies (w : World) (b o : Nat) (ms : List (Int × Int)) : Prop :=
  ∀ (i : Nat) (m : Int × Int), ms[i]? = some m → w.cell? ⟨b, o + i * 2, none⟩ = some (.int .i64 m.1) ∧ w.cell? ⟨b, o + i * 2 + 1, none⟩ = some (.int .i64 m.2)
def MHolds (w : World) (B : Nat) (v : Value) (ms : List (Int × Int)) : Prop :=
  (∃ a cap, v = .slice a 0 cap ∧ ms = []) ∨ ∃ b o cap, v = .slice (some ⟨b, o, none⟩) ms.length cap ∧ b < B ∧ ms.length ≤ maxLen ∧ MLies w b o ms
theorem MLies.on {w w' : World} {b o B : Nat} {ms : List (Int × Int)} (h : MLies w b o ms) (hb : Below B w w') (hB : b < B) : MLies w' b o ms := by
  intro i m hm
  have := h i m hm
  rw [hb.cell (p := ⟨b, _, none⟩) hB, hb.cell (p := ⟨b, _, none⟩) hB]
  exact this
theorem MHolds.on {w w' : World} {B B' : Nat} {v : Value} {ms : List (Int × Int)} (h : MHolds w B v ms) (hb : Below B' w w') (hB : B ≤ B') : MHolds w' B v ms := by
  rcases h with h | ⟨b, o, cap, hv, hlt, hlen, hl⟩
  · exact Or.inl h
  · exact Or.inr ⟨b, o, cap, hv, hlt, hlen, hl.on hb (by omega)⟩
theorem MHolds.form {w : World} {B : Nat} {v : Value} {ms : List (Int × Int)} (h : MHolds w B v ms) : ∃ a cap, v = .slice a ms.length cap ∧ ms.length ≤ maxLen := by
  rcases h with ⟨a, cap, rfl, rfl⟩ | ⟨b, o, cap, rfl, _, hm, _⟩
  · exact ⟨a, cap, rfl, Nat.zero_le _⟩
  · exact ⟨_, cap, rfl, hm⟩
/-- Policies lie in block b, from cell o on; their masks below block number B. -/
def PLies (w : World) (B b o : Nat) (l : List Gp.Pol) : Prop :=
  ∀ (i : Nat) (P : Gp.Pol), l[i]? = some P → w.cell? ⟨b, o + i * 2, none⟩ = some (.int .i64 P.call) ∧ ∃ mv, w.cell? ⟨b, o + i * 2 + 1, none⟩ = some mv ∧ MHolds w B mv P.masks
def PHolds (w : World) (B : Nat) (v : Value) (l : List Gp.Pol) : Prop :=
  (∃ a cap, v = .slice a 0 cap ∧ l = []) ∨ ∃ b o cap, v = .slice (some ⟨b, o, none⟩) l.length cap ∧ b < B ∧ l.length ≤ cap ∧ cap ≤ maxLen ∧ PLies w B b o l
theorem PLies.on {w w' : World} {b o B B' : Nat} {l : List Gp.Pol} (h : PLies w B b o l) (hb : Below B' w w') (hB : b < B') (hBB : B ≤ B') : PLies w' B b o l := by
  intro i P hP
  obtain ⟨h1, mv, h2, h3⟩ := h i P hP
  rw [hb.cell (p := ⟨b, _, none⟩) hB, hb.cell (p := ⟨b, _, none⟩) hB]
  exact ⟨h1, mv, h2, h3.on hb hBB⟩
theorem PHolds.on {w w' : World} {B B' : Nat} {v : Value} {l : List Gp.Pol} (h : PHolds w B v l) (hb : Below B' w w') (hB : B ≤ B') : PHolds w' B v l := by
  rcases h with h | ⟨b, o, cap, hv, hlt, h1, h2, hl⟩
  · exact Or.inl h
  · exact Or.inr ⟨b, o, cap, hv, hlt, h1, h2, hl.on hb (by omega) hB⟩
end Go.Proofs.Ytkikghdcnejjfab
