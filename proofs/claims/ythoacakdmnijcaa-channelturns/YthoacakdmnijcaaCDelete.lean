/-
  slices.Delete at messages, walked.
-/
import Derived.Test.YthoacakdmnijcaaCSend
import Derived.Test.YthoacakdmnijcaaSDelete
namespace Go.Proofs.Ythoacakdmnijcaa
open Go.RowKit
set_option maxHeartbeats 4000000 in
theorem mdelete_walk (i n c g : Nat) (w W1 : World) (news : List Value) (A : Addr) (hA : (if c = i + 1 then some (⟨g, 0, none⟩ : Addr) else some ⟨g, (i + 1) * 4, none⟩) = some A) (hsrc : Hid (∀ t u, news[t]? = some u → w.drew.cell? (A.add t) = some u)) (s1 : Hid (news.length = (n - (i + 1)) * 4)) (s2 : Hid (∀ u ∈ news, u.oneCell' = true))
    (s3 : Hid (∀ t, t < news.length → (w.drew.cell? ⟨g, 0 + i * 4 + t, none⟩).isSome = true ∧ w.drew.frozen? ⟨g, 0 + i * 4 + t, none⟩ = false)) (hW : Hid (W1 = w.drew.setCells g (0 + i * 4) news)) (hin : i < n) (hnc : n ≤ c) (_hcm : c ≤ 9223372036854775807)
    (W2 : World) (hcl : ∀ ty, (Builtin.clear_ #[38] ty #[.slice (some ⟨g, (i + (n - (i + 1))) * 4, none⟩) (n - (i + (n - (i + 1)))) (c - (i + (n - (i + 1))))]).run Try.prog W1 = .ok (.tuple #[]) W2) :
    Calls Try.prog 52 #[.slice (some ⟨g, 0, none⟩) n c, .int .i64 i, .int .i64 ((i : Int) + 1)] w fun e w' => e = .returned (.slice (some ⟨g, 0, none⟩) (i + (n - (i + 1))) c) ∧ w' = W2 := by
  have hic : i ≤ c := by omega
  have hjc : i + 1 ≤ c := by omega
  have hp1 : (0 : Int) ≤ (i : Int) + 1 := by omega
  have hp2 : (i : Int) + 1 ≤ (n : Int) := by omega
  have hp3 : (i : Int) + 1 ≤ (c : Int) := by omega
  go_enter Try.func52, Try.ntmps52
  go_wp2_with fail
  go_region_law (obtain ⟨i0, hti, -, hz1, -⟩ := info_parts Try.infoMsg; refine step_append_room rfl (.tmp 22) (.tmp 25) 38 rfl 49 i0 4 Try.underlying38 hti hz1 g 0 i c (by simp [Act.eval, Act.put]) A (n - (i + 1)) (c - (i + 1)) news (by simp [Act.eval, Act.put]) s1.out hsrc.out s2.out (by omega) s3.out ?_; clear hti hz1; rw [← hW.out])
  go_wp2
  go_ret
  exact ⟨rfl, rfl⟩
set_option maxHeartbeats 4000000 in
theorem mdelete_any (es : List (Sl × Sp.Msg)) (i base g n c : Nat) (w : World) (hM : Mine w base 49 4 (.slice (some ⟨g, 0, none⟩) n c) (es.map msgC)) (hi : i < es.length) :
    Calls Try.prog 52 #[.slice (some ⟨g, 0, none⟩) n c, .int .i64 i, .int .i64 ((i : Int) + 1)] w fun e w' => e = .returned (.slice (some ⟨g, 0, none⟩) (n - 1) c) ∧ Mine w' base 49 4 (.slice (some ⟨g, 0, none⟩) (n - 1) c) ((es.take i ++ es.drop (i + 1)).map msgC) ∧ On (fun b => b ≠ g) w w' ∧ w'.heap.size = w.heap.size ∧ ∀ B, B ≤ g → Below B w w' := by
  have hE := (even_msg es).flatten
  rcases hM.2 with ⟨hn', _⟩ | ⟨g', cap, cur, hv, hbg, hg, hnc, hcm, hcs, htake⟩
  · cases hn'
  rw [List.length_map] at hv hnc htake hE
  obtain ⟨q1, rfl, rfl⟩ := Value.slice.inj hv
  obtain ⟨rfl, -, -⟩ := Addr.mk.inj (Option.some.inj q1)
  have hblk : Blk w g cur.toList.toArray 49 := by rw [Array.toArray_toList]; exact hg
  obtain ⟨l, hl⟩ : ∃ l, l = cur.toList := ⟨_, rfl⟩
  rw [← hl] at hblk htake
  have hll : l.length = c * 4 := by rw [hl, Array.length_toList, hcs]
  have hlt : ∀ j u, (es.map msgC).flatten[j]? = some u → l[j]? = some u := fun j u hj => by
    rw [← htake, List.getElem?_take] at hj
    split at hj
    · exact hj
    · cases hj
  obtain ⟨news, hnews⟩ : ∃ news, news = ((es.drop (i + 1)).map msgC).flatten := ⟨_, rfl⟩
  have hnl : news.length = (es.length - (i + 1)) * 4 := by rw [hnews, (even_msg _).flatten, List.length_map, List.length_drop]
  have hnat : ∀ t u, news[t]? = some u → l[(i + 1) * 4 + t]? = some u := fun t u hu => by
    refine hlt _ u ?_
    have h2 : (es.map msgC).flatten = ((es.take (i + 1)).map msgC).flatten ++ news := by rw [hnews, ← List.flatten_append, ← List.map_append, List.take_append_drop]
    have h3 : ((es.take (i + 1)).map msgC).flatten.length = (i + 1) * 4 := by rw [(even_msg _).flatten, List.length_map, List.length_take, Nat.min_eq_left hi]
    rw [h2, List.getElem?_append_right (by omega), h3, Nat.add_sub_cancel_left]
    exact hu
  unfold maxLen at hcm
  obtain ⟨A, hA, hsrc⟩ : ∃ A : Addr, (if c = i + 1 then some (⟨g, 0, none⟩ : Addr) else some ⟨g, (i + 1) * 4, none⟩) = some A ∧ Hid (∀ t u, news[t]? = some u → w.drew.cell? (A.add t) = some u) := by
    by_cases h : c = i + 1
    · refine ⟨⟨g, 0, none⟩, by simp [h], fun t u hu => ?_⟩
      have h0 : news.length = 0 := by rw [hnl]; omega
      rw [List.length_eq_zero_iff.1 h0] at hu
      simp at hu
    · refine ⟨⟨g, (i + 1) * 4, none⟩, by simp [h], fun t u hu => ?_⟩
      rw [Addr.add_lit]
      show w.cell? _ = _
      rw [hblk.cell]
      simpa using hnat t u hu
  have s1 : Hid (news.length = (es.length - (i + 1)) * 4) := hnl
  have s2 : Hid (∀ u ∈ news, u.oneCell' = true) := by rw [hnews]; exact (ones_msg _).flatten
  have s3 : Hid (∀ t, t < news.length → (w.drew.cell? ⟨g, 0 + i * 4 + t, none⟩).isSome = true ∧ w.drew.frozen? ⟨g, 0 + i * 4 + t, none⟩ = false) := by
    intro t ht
    refine ⟨?_, hblk.free _⟩
    show (w.cell? _).isSome = true
    rw [hblk.cell]
    simp
    omega
  obtain ⟨W1, hW1⟩ : ∃ W1, W1 = w.drew.setCells g (0 + i * 4) news := ⟨_, rfl⟩
  have hB1 : Blk W1 g (setL l (i * 4) news).toArray 49 := by
    rw [hW1, Nat.zero_add]
    exact Blk.sets news (i * 4) (w := w.drew) hblk
  have hl1 : (setL l (i * 4) news).length = c * 4 := by rw [setL_length, hll]
  have hcl : ∀ ty, (Builtin.clear_ #[38] ty #[.slice (some ⟨g, (i + (es.length - (i + 1))) * 4, none⟩) (es.length - (i + (es.length - (i + 1)))) (c - (i + (es.length - (i + 1))))]).run Try.prog W1 = .ok (.tuple #[]) (W1.setCells g ((i + (es.length - (i + 1))) * 4) [.slice none 0 0, .bool false, .int .i64 0, .int .i64 0]) := by
    intro ty
    have e1 : es.length - (i + (es.length - (i + 1))) = 1 := by omega
    rw [e1]
    have hst := run_storeCells_cells (P := Try.prog) g ((i + (es.length - (i + 1))) * 4) [.slice none 0 0, .bool false, .int .i64 0, .int .i64 0] 0 W1 (fun j hj => by
      simp only [List.length_cons, List.length_nil] at hj
      rw [hB1.cell]
      simp [setL_length, hll]
      omega) (fun j hj => hB1.free _) (by intro v hv'; simp at hv'; rcases hv' with rfl | rfl | rfl | rfl <;> rfl)
    simp only [Nat.add_zero] at hst
    have hzv := Try.zeroValue49
    have hzc : (Builtin.zeroCells (Value.agg #[.slice none 0 0, .bool false, .int .i64 0, .int .i64 0]).cells 1).toList = [.slice none 0 0, .bool false, .int .i64 0, .int .i64 0] := by simp [Builtin.zeroCells, Value.cells, Array.range_succ]
    simp [Builtin.clear_, run_underlying Try.underlying38, hzv, hzc, hst]
  have hwalk := mdelete_walk i es.length c g w W1 news A hA hsrc s1 s2 s3 hW1 hi hnc hcm _ hcl
  have e1 : i + (es.length - (i + 1)) = es.length - 1 := by omega
  rw [e1] at hwalk
  refine Calls.mono hwalk ?_
  rintro e w' ⟨rfl, rfl⟩
  have hB2 := Blk.sets [.slice none 0 0, .bool false, .int .i64 0, .int .i64 0] ((es.length - 1) * 4) hB1
  have hon : On (fun b => b ≠ g) w (W1.setCells g ((es.length - 1) * 4) [.slice none 0 0, .bool false, .int .i64 0, .int .i64 0]) := by
    have h1 : On (fun b => b ≠ g) w.drew W1 := by rw [hW1]; exact On.sets _ _ _ _
    exact (show On (fun b => b ≠ g) w w.drew from fun _ _ => rfl).trans (h1.trans (On.sets _ _ _ _))
  have hsz : (W1.setCells g ((es.length - 1) * 4) [.slice none 0 0, .bool false, .int .i64 0, .int .i64 0]).heap.size = w.heap.size := by
    rw [size_sets, hW1, size_sets]; rfl
  have hlen : (es.take i ++ es.drop (i + 1)).length = es.length - 1 := by rw [List.length_append, List.length_take, List.length_drop]; omega
  refine ⟨rfl, ⟨?_, Or.inr ⟨g, c, _, ?_, hbg, hB2, ?_, ?_, ?_, ?_⟩⟩, hon, hsz, fun B hB => ?_⟩
  · exact (even_msg _).flatten
  · rw [List.length_map, hlen]
  · rw [List.length_map, hlen]; omega
  · unfold maxLen; omega
  · simp [setL_length, hll]
  · rw [List.length_map, hlen]
    apply List.ext_getElem?
    intro j
    rw [List.getElem?_take]
    have h3 : ((es.take i).map msgC).flatten.length = i * 4 := by rw [(even_msg _).flatten, List.length_map, List.length_take, Nat.min_eq_left (Nat.le_of_lt hi)]
    have h4 : ((es.take i ++ es.drop (i + 1)).map msgC).flatten = ((es.take i).map msgC).flatten ++ news := by rw [hnews, List.map_append, List.flatten_append]
    split
    · rename_i hj
      simp only
      rw [setL_at _ _ _ _ (by rw [setL_length, hll]; simp; omega), if_neg (by omega), setL_at _ _ _ _ (by rw [hll, hnl]; omega), h4]
      by_cases hji : j < i * 4
      · rw [if_neg (by omega), List.getElem?_append_left (by omega)]
        have h5 : (es.map msgC).flatten = ((es.take i).map msgC).flatten ++ ((es.drop i).map msgC).flatten := by rw [← List.flatten_append, ← List.map_append, List.take_append_drop]
        have hx : ((es.take i).map msgC).flatten[j]? = some (((es.take i).map msgC).flatten[j]'(by omega)) := List.getElem?_eq_getElem _
        rw [hx]
        exact hlt j _ (by rw [h5, List.getElem?_append_left (by omega)]; exact hx)
      · rw [if_pos (by rw [hnl]; omega), List.getElem?_append_right (by omega), h3]
    · rename_i hj
      rw [h4, List.getElem?_eq_none (by rw [List.length_append, h3, hnl]; omega)]
  · rw [hW1]
    exact Below.sets _ _ (Below.sets _ _ (show Below B w w.drew from ⟨rfl, rfl, rfl, Nat.le_refl _, fun _ _ => rfl⟩) hB) hB
end Go.Proofs.Ythoacakdmnijcaa
