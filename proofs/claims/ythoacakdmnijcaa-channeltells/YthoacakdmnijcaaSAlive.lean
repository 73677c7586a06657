
/-
  rglaw5.alive answers true.
-/
import Derived.Test.YthoacakdmnijcaaSNames
import Derived.Lib.SlBytesConst
import Derived.Lib.SmallJoins
import Derived.Laws.BytesString
namespace Go.Proofs.Ythoacakdmnijcaa
open Go.RowKit
def nameF : ByteArray := ⟨#[102]⟩
def obR : Sp.Ob := ⟨2, [], [], ⟨#[]⟩, -1, [], -1, 1, 0⟩
def obF : Sp.Ob := ⟨1, [97, 98], [], ⟨#[]⟩, -1, [], -1, 0, 0⟩
def obR' : Sp.Ob := ⟨2, [], [⟨nameF, 1⟩], ⟨#[]⟩, -1, [], -1, 1, 0⟩
def obF' : Sp.Ob := ⟨1, [97, 98], [], ⟨#[]⟩, -1, [], -1, 1, 0⟩
theorem sorted_one [Inhabited Sp.Ent] (x : Sp.Ent) : sorted [x] = [x] := List.perm_singleton.1 (sorted_perm [x]).2.1
theorem eqB_self (a : ByteArray) : Sp.eqB a a = true := by unfold Sp.eqB; simp
theorem alive_no : Sp.noEnter [obR, obF] ((0 : Nat) : Int) nameF ((1 : Nat) : Int) = 0 := by decide
theorem alive_two [Inhabited Sp.Ent] : Sp.relinked (Sp.withEnts [obR, obF] 0 (sorted (obR.ents ++ [⟨nameF, ((1 : Nat) : Int)⟩]))) 1 1 ((0 : Nat) : Int) = [obR', obF'] := by
  rw [show obR.ents ++ [⟨nameF, ((1 : Nat) : Int)⟩] = [(⟨nameF, 1⟩ : Sp.Ent)] from rfl, sorted_one]
  rfl
theorem alive_place : Sp.place obR'.ents nameF = ((0 : Nat) : Int) := by
  show (if Sp.eqB nameF nameF = true then ((0 : Nat) : Int) else _) = _
  rw [if_pos (eqB_self _)]
theorem alive_three : Sp.relinked (Sp.withEnts [obR', obF'] 0 (obR'.ents.take 0 ++ obR'.ents.drop (0 + 1))) 1 (-1) ((1 : Nat) : Int) = [obR, obF] := rfl
theorem alive_find2 : Sp.find [obR', obF'] 0 nameF = 1 := by
  have e : Sp.find [obR', obF'] 0 nameF = match [(⟨nameF, 1⟩ : Sp.Ent)].find? (fun e => Sp.eqB e.name nameF) with | none => -1 | some e => e.obj := rfl
  rw [e, List.find?_cons, eqB_self]
theorem alive_find3 : Sp.find [obR, obF] 0 nameF = -1 := rfl
theorem fits_small (o : Sp.Ob) (h1 : o.data.length ≤ 4) (h2 : o.ents.length ≤ 8) (h3 : o.queue = []) : Fits o := ⟨by omega, by omega, by rw [h3]; simp, by rw [h3]; simp⟩
theorem fits2 : ∀ o ∈ [obR, obF], Fits o := by
  intro o ho
  simp at ho
  rcases ho with rfl | rfl <;> exact fits_small _ (by decide) (by decide) rfl
theorem fits2' : ∀ o ∈ [obR', obF'], Fits o := by
  intro o ho
  simp at ho
  rcases ho with rfl | rfl <;> exact fits_small _ (by decide) (by decide) rfl
theorem links2 : ∀ o ∈ [obR, obF], -4611686018427387904 ≤ o.links ∧ o.links ≤ 4611686018427387904 := by
  intro o ho
  simp at ho
  rcases ho with rfl | rfl <;> exact ⟨by decide, by decide⟩
theorem links2' : ∀ o ∈ [obR', obF'], -4611686018427387904 ≤ o.links ∧ o.links ≤ 4611686018427387904 := by
  intro o ho
  simp at ho
  rcases ho with rfl | rfl <;> exact ⟨by decide, by decide⟩
theorem lit_bytes (w : World) (l : List UInt8) (fr : Nat × Nat) (hl : l.length ≤ maxLen) : Bytes (w.alloc (.cells (cellsB l).toArray 5 fr)) (fun b => b = w.heap.size) (.slice (some ⟨w.heap.size, 0, none⟩) l.length l.length) l := by
  refine Or.inr ⟨w.heap.size, 0, l.length, by rw [List.length_map], rfl, by rw [List.length_map]; exact Nat.le_refl _, hl, fun i cs hi j u hj => ?_⟩
  have hf := flatten_at (even_byte l) i cs hi j u hj
  rw [cellsB_flat] at hf
  rw [World.cell?_alloc_mark, Nat.zero_add]
  simpa using hf
theorem conv_any (l : List UInt8) (v : Value) (w : World) (S : Nat → Prop) (hv : Bytes w S v l) : (convert 22 9 v).run Try.prog w = .ok (.string ⟨l.toArray⟩) w := by
  rcases hv with ⟨a, cap, rfl, hl⟩ | ⟨b, o, cap, rfl, hS, h1, h2, h5⟩
  · rw [List.map_eq_nil_iff.1 hl]
    cases a with
    | none => rw [run_convert_bytes_string w 22 9 5 none 0 cap Try.underlying22 Try.underlying5 Try.underlying9]; rfl
    | some a => exact run_convert_bytes_back (P := Try.prog) w 22 9 5 a cap [] Try.underlying22 Try.underlying5 Try.underlying9 (fun j hj => by simp at hj)
  · rw [List.length_map]
    exact run_convert_bytes_back (P := Try.prog) w 22 9 5 ⟨b, o, none⟩ cap l Try.underlying22 Try.underlying5 Try.underlying9 (fun j hj => by
      have := h5 j (byteC l[j]) (by rw [List.getElem?_map, List.getElem?_eq_getElem hj]; rfl) 0 _ rfl
      rw [Addr.add_lit]
      rwa [Nat.mul_one, Nat.add_zero] at this)
end Go.Proofs.Ythoacakdmnijcaa
