
/-
  store.ownList: copies of lists.
-/
import Derived.Test.YtdciohinlhbliaaSObj
namespace Go.Proofs.Ytdciohinlhbliaa
open Go.RowKit
theorem Try.infoByte : (Try.prog.info? 5).map (fun i => (i.zero, i.size, i.bytes)) = some (some (.int .u8 0), 1, 1) := by kernel_rfl
theorem Try.infoEnt : (Try.prog.info? 89).map (fun i => (i.zero, i.size, i.bytes)) = some (some (.agg #[.string ⟨#[]⟩, .int .i64 0]), 2, 24) := by kernel_rfl
theorem Try.infoMsg : (Try.prog.info? 83).map (fun i => (i.zero, i.size, i.bytes)) = some (some (.agg #[.slice none 0 0, .bool false, .int .i64 0, .int .i64 0]), 4, 48) := by kernel_rfl
theorem Try.infoObj : (Try.prog.info? 40).map (fun i => (i.zero, i.size, i.bytes)) = some (some (.agg #[.int .i64 0, .slice none 0 0, .slice none 0 0, .string ⟨#[]⟩, .int .i64 0, .slice none 0 0, .int .i64 0, .int .i64 0, .int .i64 0]), 9, 128) := by kernel_rfl
theorem below_none {w w' : World} (h : w.grownBy w' none) : Below w.heap.size w w' := (Below.refl _ _).grown h (Nat.le_refl _) (fun j hj => by cases hj)
theorem Mine.sl {w : World} {base k : Nat} {e : TypeId} {v : Value} {css : List (List Value)} (h : Mine w base e k v css) : ∃ s : Sl, v = .slice s.a s.n s.c := by
  obtain ⟨a, c, e, _⟩ := h.form
  exact ⟨⟨a, _, c⟩, e⟩
theorem ownBytes_any (l : List UInt8) (v : Value) (S : Nat → Prop) (w : World) (hv : Bytes w S v l) (hl : l.length ≤ 140737488355328) :
    Calls Try.prog 82 #[v] w fun e w' => ∃ s : Sl, e = .returned (.slice s.a s.n s.c) ∧ Mine w' w.heap.size 5 1 (.slice s.a s.n s.c) (l.map byteC) ∧ Below w.heap.size w w' := by
  obtain ⟨i0, hi, hz0, hz1, hz2⟩ := info_parts Try.infoByte
  obtain ⟨a, c, rfl, hm⟩ := Row.form hv
  have HV : Hid (Bytes w S (.slice a (l.map byteC).length c) l) := hv
  rw [List.length_map] at HV ⊢
  clear hv hm
  go_enter Try.func82, Try.ntmps82
  go_wp2_with (at_builtin; refine wpList_append_row rfl _ _ _ rfl w.heap.size 5 i0 (.int .u8 0) 1 1 Try.underlying22 hi hz0 hz1 hz2 rfl (by decide) (.slice none 0 0) [] rfl (Mine.nil _ _ _ _) (.slice a l.length c) S (l.map byteC) rfl HV.out (even_byte l) (ones_byte l) ?a1 (by decide) (Nat.le_refl _) ?_)
  case a1 => simp; omega
  intro v' w' ho hg
  obtain ⟨s, rfl⟩ := ho.sl
  go_wp2
  go_ret
  exact ⟨s, rfl, ho, below_none hg⟩
theorem ownEnts_any (l : List Sp.Ent) (v : Value) (S : Nat → Prop) (w : World) (hv : Ents w S v l) (hl : l.length ≤ 1000000) :
    Calls Try.prog 83 #[v] w fun e w' => ∃ s : Sl, e = .returned (.slice s.a s.n s.c) ∧ Mine w' w.heap.size 89 2 (.slice s.a s.n s.c) (l.map entC) ∧ Below w.heap.size w w' := by
  obtain ⟨i0, hi, hz0, hz1, hz2⟩ := info_parts Try.infoEnt
  obtain ⟨a, c, rfl, hm⟩ := Row.form hv
  have HV : Hid (Ents w S (.slice a (l.map entC).length c) l) := hv
  rw [List.length_map] at HV ⊢
  clear hv hm
  go_enter Try.func83, Try.ntmps83
  go_wp2_with (at_builtin; refine wpList_append_row rfl _ _ _ rfl w.heap.size 89 i0 (.agg #[.string ⟨#[]⟩, .int .i64 0]) 2 24 Try.underlying37 hi hz0 hz1 hz2 rfl (by decide) (.slice none 0 0) [] rfl (Mine.nil _ _ _ _) (.slice a l.length c) S (l.map entC) rfl HV.out (even_ent l) (ones_ent l) ?a1 (by decide) (Nat.le_refl _) ?_)
  case a1 => simp; omega
  intro v' w' ho hg
  obtain ⟨s, rfl⟩ := ho.sl
  go_wp2
  go_ret
  exact ⟨s, rfl, ho, below_none hg⟩
theorem ownMsgs_any (l : List (Sl × Sp.Msg)) (v : Value) (S : Nat → Prop) (w : World) (hv : Row w S 4 v (l.map msgC)) (hl : l.length ≤ 1000000) :
    Calls Try.prog 84 #[v] w fun e w' => ∃ s : Sl, e = .returned (.slice s.a s.n s.c) ∧ Mine w' w.heap.size 83 4 (.slice s.a s.n s.c) (l.map msgC) ∧ Below w.heap.size w w' := by
  obtain ⟨i0, hi, hz0, hz1, hz2⟩ := info_parts Try.infoMsg
  obtain ⟨a, c, rfl, hm⟩ := Row.form hv
  have HV : Hid (Row w S 4 (.slice a (l.map msgC).length c) (l.map msgC)) := hv
  rw [List.length_map] at HV ⊢
  clear hv hm
  go_enter Try.func84, Try.ntmps84
  go_wp2_with (at_builtin; refine wpList_append_row rfl _ _ _ rfl w.heap.size 83 i0 (.agg #[.slice none 0 0, .bool false, .int .i64 0, .int .i64 0]) 4 48 Try.underlying38 hi hz0 hz1 hz2 rfl (by decide) (.slice none 0 0) [] rfl (Mine.nil _ _ _ _) (.slice a l.length c) S (l.map msgC) rfl HV.out (even_msg l) (ones_msg l) ?a1 (by decide) (Nat.le_refl _) ?_)
  case a1 => simp; omega
  intro v' w' ho hg
  obtain ⟨s, rfl⟩ := ho.sl
  go_wp2
  go_ret
  exact ⟨s, rfl, ho, below_none hg⟩
end Go.Proofs.Ytdciohinlhbliaa
