/-
  What ChannelTurns makes of its texts, plainly; bytes of a text.
-/
import Derived.Test.YthoacakdmnijcaaCAlive
import Derived.Test.YthoacakdmnijcaaCArgs
import Derived.Laws.IdiomStrings
namespace Go.Proofs.Ythoacakdmnijcaa
open Go.RowKit
namespace Ch
def mS (s : ByteArray) : Sp.Msg := ⟨s.data.toList, false, 0, 0⟩
def turnQ (ms back : List ByteArray) (i j : Nat) : Bool → List Sp.Msg := fun x => if x = true then (ms.take i).map mS else (back.take j).map mS
theorem turn_ms {ms : List ByteArray} (back : List ByteArray) {i : Nat} (j : Nat) {s : ByteArray} (h : ms[i]? = some s) : upd (turnQ ms back i j) true (turnQ ms back i j true ++ [mS s]) = turnQ ms back (i + 1) j := by
  funext z
  unfold upd turnQ
  cases z with
  | true => simp [List.take_add_one, h]
  | false => simp
theorem turn_back (ms : List ByteArray) {back : List ByteArray} (i : Nat) {j : Nat} {s : ByteArray} (h : back[j]? = some s) : upd (turnQ ms back i j) false (turnQ ms back i j false ++ [mS s]) = turnQ ms back i (j + 1) := by
  funext z
  unfold upd turnQ
  cases z with
  | true => simp
  | false => simp [List.take_add_one, h]
theorem turn_ms_end {ms : List ByteArray} (back : List ByteArray) {i : Nat} (j : Nat) (h : ms.length ≤ i) : turnQ ms back (i + 1) j = turnQ ms back i j := by
  unfold turnQ
  rw [List.take_of_length_le h, List.take_of_length_le (by omega)]
theorem turn_back_end (ms : List ByteArray) {back : List ByteArray} (i : Nat) {j : Nat} (h : back.length ≤ j) : turnQ ms back i (j + 1) = turnQ ms back i j := by
  unfold turnQ
  rw [List.take_of_length_le (show back.length ≤ j + 1 by omega), List.take_of_length_le h]
def sizes (l : List ByteArray) : Prop := ∀ s ∈ l, s.size ≤ 60
theorem sizes_next {l : List ByteArray} {i : Nat} {s : ByteArray} (h : sizes (l.take i)) (hs : l[i]? = some s) (h60 : s.size ≤ 60) : sizes (l.take (i + 1)) := by
  intro x hx
  rw [List.take_add_one, hs] at hx
  rcases List.mem_append.1 hx with h1 | h1
  · exact h x h1
  · simp at h1; rw [h1]; exact h60
theorem sizes_end {l : List ByteArray} {i : Nat} (h : sizes (l.take i)) (hl : l.length ≤ i) : sizes (l.take (i + 1)) := by
  rw [List.take_of_length_le (by omega)]
  rw [List.take_of_length_le hl] at h
  exact h
theorem mS_len (s : ByteArray) : (mS s).data.length = s.size := by
  unfold mS
  simp
theorem okQ_map {l : List ByteArray} (hl : l.length ≤ 4) (h : sizes l) : (l.map mS).length ≤ 4 ∧ ∀ m ∈ l.map mS, m.data.length ≤ 60 := by
  refine ⟨by rw [List.length_map]; exact hl, fun m hm => ?_⟩
  obtain ⟨s, hs, rfl⟩ := List.mem_map.1 hm
  rw [mS_len]
  exact h s hs
theorem turn_ok {ms back : List ByteArray} {i j : Nat} (h1 : ms.length ≤ 4) (h2 : back.length ≤ 4) (h3 : sizes (ms.take i)) (h4 : sizes (back.take j)) : okQ (turnQ ms back i j) := by
  intro x
  unfold turnQ
  split
  · exact okQ_map (by rw [List.length_take]; omega) h3
  · exact okQ_map (by rw [List.length_take]; omega) h4
theorem turn_room_ms {ms back : List ByteArray} {i j : Nat} (h1 : ms.length ≤ 4) (hi : i < ms.length) : (turnQ ms back i j true).length < 4 := by
  unfold turnQ
  rw [if_pos rfl, List.length_map, List.length_take]
  omega
theorem turn_room_back {ms back : List ByteArray} {i j : Nat} (h1 : back.length ≤ 4) (hi : j < back.length) : (turnQ ms back i j false).length < 4 := by
  unfold turnQ
  rw [if_neg (by decide), List.length_map, List.length_take]
  omega
/-- What is left while it is taken: t ends have been emptied, j messages taken of the next one. -/
def drainQ (ms back : List ByteArray) (t j : Nat) : Bool → List Sp.Msg := fun y => if y = true then (if t = 0 then ms.map mS else if t = 1 then (ms.drop j).map mS else []) else (if t = 0 then (back.drop j).map mS else [])
def endX (t : Nat) : Bool := t == 1
def wantW (ms back : List ByteArray) (t : Nat) : List ByteArray := if t = 0 then back else ms
theorem drain_at (ms back : List ByteArray) {t : Nat} (ht : t < 2) (j : Nat) : drainQ ms back t j (endX t) = ((wantW ms back t).drop j).map mS := by
  match t, ht with
  | 0, _ => rfl
  | 1, _ => rfl
theorem drain_next (ms back : List ByteArray) {t : Nat} (ht : t < 2) (j : Nat) : upd (drainQ ms back t j) (endX t) (((wantW ms back t).drop (j + 1)).map mS) = drainQ ms back t (j + 1) := by
  match t, ht with
  | 0, _ => funext y; cases y <;> rfl
  | 1, _ => funext y; cases y <;> rfl
theorem drain_end (ms back : List ByteArray) {t : Nat} (ht : t < 2) : drainQ ms back t (wantW ms back t).length = drainQ ms back (t + 1) 0 := by
  match t, ht with
  | 0, _ => funext y; cases y <;> simp [drainQ, wantW]
  | 1, _ => funext y; cases y <;> simp [drainQ, wantW]
theorem turn_drain {ms back : List ByteArray} {i j : Nat} (h1 : ms.length ≤ i) (h2 : back.length ≤ j) : turnQ ms back i j = drainQ ms back 0 0 := by
  funext y
  unfold turnQ drainQ
  rw [List.take_of_length_le h1, List.take_of_length_le h2]
  rfl
theorem drain_ok {ms back : List ByteArray} (t j : Nat) (h1 : ms.length ≤ 4) (h2 : back.length ≤ 4) (h3 : sizes ms) (h4 : sizes back) : okQ (drainQ ms back t j) := by
  have hd : ∀ (l : List ByteArray), l.length ≤ 4 → sizes l → ((l.drop j).map mS).length ≤ 4 ∧ ∀ m ∈ (l.drop j).map mS, m.data.length ≤ 60 := fun l hl hs => okQ_map (by rw [List.length_drop]; omega) fun s hs' => hs s (List.mem_of_mem_drop hs')
  intro y
  unfold drainQ
  split
  · split
    · exact okQ_map h1 h3
    · split
      · exact hd ms h1 h3
      · exact ⟨Nat.zero_le _, fun m hm => by simp at hm⟩
  · split
    · exact hd back h2 h4
    · exact ⟨Nat.zero_le _, fun m hm => by simp at hm⟩
end Ch
/-- A text, as bytes. -/
theorem text_bytes (W : World) (s : ByteArray) (cap : Nat) (h1 : s.size ≤ cap) (h2 : cap ≤ maxLen) (fr : Nat × Nat) : Bytes (W.alloc (.cells (bytesRow s cap) 5 fr)) (fun b => b = W.heap.size) (.slice (some ⟨W.heap.size, 0, none⟩) s.size cap) s.data.toList := by
  have hl : s.data.toList.length = s.size := by simp
  refine Or.inr ⟨W.heap.size, 0, cap, by rw [List.length_map, hl], rfl, by rw [List.length_map, hl]; exact h1, h2, fun i cs hi j u hj => ?_⟩
  rw [List.getElem?_map] at hi
  cases hx : s.data.toList[i]? with
  | none => rw [hx] at hi; cases hi
  | some x =>
    rw [hx] at hi
    simp [byteC] at hi
    subst hi
    match j, hj with
    | 0, hj =>
      simp at hj
      subst hj
      have hil := (List.getElem?_eq_some_iff.1 hx).1
      rw [World.cell?_alloc_mark, Nat.zero_add, Nat.mul_one, Nat.add_zero]
      unfold bytesRow
      rw [Array.getElem?_append_left (by simpa using hil), Array.getElem?_map, ← Array.getElem?_toList, hx]
      rfl
    | j + 1, hj => simp at hj
end Go.Proofs.Ythoacakdmnijcaa
