/-
  store.laidOver, walked.
-/
import Derived.Test.YtaobjpajbpoamaaSWalkH
import Derived.Laws.CopyOwn
namespace Go.Proofs.Ytaobjpajbpoamaa
open Go.RowKit
def cellsB (l : List UInt8) : List Value := l.map fun x => .int .u8 (x.toNat : Int)
theorem cellsB_flat (l : List UInt8) : (l.map byteC).flatten = cellsB l := by
  unfold cellsB
  induction l with
  | nil => rfl
  | cons a t ih => rw [List.map_cons, List.flatten_cons, ih]; rfl
theorem cellsB_one (l : List UInt8) : ∀ v ∈ cellsB l, v.oneCell' = true := by
  intro v hv
  obtain ⟨x, _, rfl⟩ := List.mem_map.1 hv
  rfl
theorem cellsB_length (l : List UInt8) : (cellsB l).length = l.length := List.length_map ..
theorem Bytes.cells {w : World} {S : Nat → Prop} {b o c n : Nat} {l : List UInt8} (h : Bytes w S (.slice (some ⟨b, o, none⟩) n c) l) : ∀ j v, (cellsB l)[j]? = some v → w.cell? ((⟨b, o, none⟩ : Addr).add j) = some v := by
  intro j v hj
  rcases h with ⟨a, c, e, hn⟩ | ⟨b', o', c0, e, hS, h3, h4, h5⟩
  · rw [List.map_eq_nil_iff.1 hn] at hj; simp [cellsB] at hj
  · obtain ⟨h1, -, -⟩ := Value.slice.inj e
    obtain ⟨rfl, rfl, -⟩ := Addr.mk.inj (Option.some.inj h1)
    rw [← cellsB_flat] at hj
    exact Row.src (by decide) (even_byte l) h5 j v hj
theorem own_block {w : World} {base g n : Nat} {e : TypeId} {xs : List Value} (h : w.ownsRow base e 1 (.slice (some ⟨g, 0, none⟩) n n) n xs) : w.heap[g]? = some (.cells xs.toArray e (0, 0)) := by
  rcases h.2 with ⟨hn, _⟩ | ⟨g', cap, cur, hv, hb, hg, h1, h2, h3, h4⟩
  · cases hn
  · cases hv
    rw [← h4, List.take_of_length_le (by rw [Array.length_toList]; omega), Array.toArray_toList]
    exact hg
theorem bytes_block {w : World} {g : Nat} {e : TypeId} {l : List UInt8} (h : w.heap[g]? = some (.cells (cellsB l).toArray e (0, 0))) (hl : l.length ≤ maxLen) (S : Nat → Prop) (hS : S g) : Bytes w S (.slice (some ⟨g, 0, none⟩) l.length l.length) l := by
  refine Or.inr ⟨g, 0, l.length, by rw [List.length_map], hS, by rw [List.length_map]; exact Nat.le_refl _, hl, fun i cs hi j u hj => ?_⟩
  have hf := flatten_at (even_byte l) i cs hi j u hj
  rw [cellsB_flat] at hf
  have : Blk w g (cellsB l).toArray e := h
  rw [this.cell, Nat.zero_add]
  simpa using hf
theorem made_bytes (n : Nat) : (madeCells #[Value.int .u8 0] n).toList = cellsB (List.replicate n 0) := by
  rw [show n = n * 1 by omega, made_rows _ 1 n (by decide) rfl, Nat.mul_one]
  unfold cellsB
  rw [List.map_replicate]
  induction n with
  | zero => rfl
  | succ n ih => rw [List.replicate_succ, List.flatten_cons, ih, List.replicate_succ]; rfl
theorem splice_bytes (L : List UInt8) (off : Nat) (b : List UInt8) : splice (cellsB L) off (cellsB b) = cellsB (splice L off b) := by
  unfold splice cellsB
  simp [List.map_take, List.map_drop]
/-- b, laid over d from k on. -/
def lay (d : List UInt8) (k : Nat) (b : List UInt8) : List UInt8 := splice (splice (List.replicate (max d.length (k + b.length)) 0) 0 d) k b
theorem lay_length (d : List UInt8) (k : Nat) (b : List UInt8) : (lay d k b).length = max d.length (k + b.length) := by
  unfold lay
  have h1 : (splice (List.replicate (max d.length (k + b.length)) (0 : UInt8)) 0 d).length = max d.length (k + b.length) := by rw [length_splice _ _ _ (by rw [List.length_replicate]; omega), List.length_replicate]
  rw [length_splice _ _ _ (by rw [h1]; omega), h1]
set_option maxHeartbeats 1000000 in
theorem laidOver_any (d : List UInt8) (k : Nat) (b : List UInt8) (vd vb : Value) (S : Nat → Prop) (w : World) (hd : Bytes w S vd d) (hb : Bytes w S vb b) (hS : ∀ b, S b → b < w.heap.size) (hb0 : 0 < b.length) (hkb : k + b.length ≤ 60) (hdl : d.length ≤ 140737488355328) :
    Calls Try.prog 59 #[vd, .int .i64 k, vb] w fun e w' => e = .returned (.slice (some ⟨w.heap.size, 0, none⟩) (lay d k b).length (lay d k b).length) ∧ Bytes w' (fun x => x = w.heap.size) (.slice (some ⟨w.heap.size, 0, none⟩) (lay d k b).length (lay d k b).length) (lay d k b) ∧ w.heap.size < w'.heap.size ∧ Below w.heap.size w w' := by
  obtain ⟨i0, hi, hz0, hz1, hz2⟩ := info_parts Try.infoByte
  have hsz : (Try.prog.info? 5).map (·.size) = some 1 := by rw [hi]; simp [hz1]
  have HSZ : Hid _ := hsz
  clear hsz
  obtain ⟨da, dc, rfl, -⟩ := Row.form hd
  obtain ⟨ba, bc, rfl, -⟩ := Row.form hb
  rw [List.length_map] at hd hb ⊢
  rw [List.length_map]
  have HD : Hid (Bytes w S (.slice da d.length dc) d) := hd
  have HB : Hid (Bytes w S (.slice ba b.length bc) b) := hb
  have HS : Hid (∀ b, S b → b < w.heap.size) := hS
  have HLL : Hid ((lay d k b).length = max d.length (k + b.length)) := lay_length d k b
  have HLY : Hid (lay d k b = splice (splice (List.replicate (max d.length (k + b.length)) 0) 0 d) k b) := rfl
  clear hd hb hS
  generalize lay d k b = R at *
  obtain ⟨N, hN⟩ : ∃ N, N = max d.length (k + b.length) := ⟨_, rfl⟩
  rw [← hN] at HLL HLY
  have hNd : d.length ≤ N := by omega
  have hNk : k + b.length ≤ N := by omega
  have hNm : N ≤ 140737488355328 := by omega
  have HN : Hid (N = max d.length (k + b.length)) := hN
  clear hN
  have HDP : Hid (∀ W : World, Below w.heap.size w W → 0 < (cellsB d).length → ∃ ad, da = some ad ∧ ∀ j v, (cellsB d)[j]? = some v → W.cell? (ad.add j) = some v) := by
    intro W hW h0
    rw [cellsB_length] at h0
    have hr := Row.on HD.out ((On.of hW).less HS.out)
    obtain ⟨x, o, c, he, -⟩ := Row.some hr (by rw [List.length_map]; omega)
    obtain ⟨rfl, -, -⟩ := Value.slice.inj he
    exact ⟨_, rfl, Bytes.cells hr⟩
  have HBP : Hid (∀ W : World, Below w.heap.size w W → 0 < (cellsB b).length → ∃ ad, ba = some ad ∧ ∀ j v, (cellsB b)[j]? = some v → W.cell? (ad.add j) = some v) := by
    intro W hW h0
    rw [cellsB_length] at h0
    have hr := Row.on HB.out ((On.of hW).less HS.out)
    obtain ⟨x, o, c, he, -⟩ := Row.some hr (by rw [List.length_map]; omega)
    obtain ⟨rfl, -, -⟩ := Value.slice.inj he
    exact ⟨_, rfl, Bytes.cells hr⟩
  by_cases hc : d.length < k + b.length
  · have hcz : (d.length : Int) < (k : Int) + (b.length : Int) := by omega
    go_enter Try.func59, Try.ntmps59
    go_wp2_with (refine wpList_make_full _ rfl _ _ _ rfl w.heap.size 5 i0 (.int .u8 0) 1 Try.underlying22 hi hz0 hz1 .i64 .i64 _ _ N rfl rfl ?a0 ?a0' ?a1 ?a2 (Nat.le_refl _) ?_)
    case a0 => have := HN.out; omega
    case a0' => have := HN.out; omega
    case a1 => rw [hz2]; omega
    case a2 => unfold maxLen; omega
    intro w1 ho hg
    rw [made_bytes] at ho
    have HH : Hid (w1.heap[w.heap.size]? = some (.cells (cellsB (List.replicate N 0)).toArray 5 (0, 0))) := own_block ho
    have HB1 : Hid (Below w.heap.size w w1) := below_none hg
    have hz1 : w.heap.size < w1.heap.size := lt_of_block HH.out
    have e1 : Hid ((cellsB d).length = Nat.min d.length N) := by unfold Hid; rw [cellsB_length]; show _ = min _ _; omega
    have e2 : Hid (0 + (cellsB d).length ≤ (cellsB (List.replicate N 0)).length) := by unfold Hid; rw [cellsB_length, cellsB_length, List.length_replicate]; omega
    clear ho hg
    generalize hL0 : cellsB (List.replicate N 0) = L0 at HH e2
    generalize hC0 : cellsB d = C0 at e1 e2 HDP
    have HL0 : Hid (cellsB (List.replicate N 0) = L0) := hL0
    have HC0 : Hid (cellsB d = C0) := hC0
    have HC1 : Hid (∀ v ∈ C0, v.oneCell' = true) := by rw [← hC0]; exact cellsB_one d
    clear hL0 hC0
    go_wp2_with (refine wpList_copy_splice rfl _ _ _ _ rfl 5 Try.underlying22 HSZ.out (some ⟨w.heap.size, 0, none⟩) da N N d.length dc rfl rfl w.heap.size 0 L0 5 HH.out C0 e1.out (fun h => ⟨rfl, HDP.out w1 HB1.out h⟩) e2.out HC1.out w.heap.size w HB1.out (Nat.le_refl _) ?_)
    intro w2 HH2 hb2
    generalize hL1 : splice L0 0 C0 = L1 at HH2
    have HL1 : Hid (splice L0 0 C0 = L1) := hL1
    have HB2 : Hid (Below w.heap.size w w2) := hb2
    have hl1 : L1.length = N := by
      rw [← hL1, length_splice _ _ _ e2.out, ← HL0.out, cellsB_length, List.length_replicate]
    have f1 : Hid ((cellsB b).length = Nat.min b.length (N - k)) := by unfold Hid; rw [cellsB_length]; show _ = min _ _; omega
    have f2 : Hid (k + (cellsB b).length ≤ L1.length) := by unfold Hid; rw [cellsB_length]; omega
    generalize hC1 : cellsB b = C1 at f1 f2 HBP
    have HCB : Hid (cellsB b = C1) := hC1
    have HCO : Hid (∀ v ∈ C1, v.oneCell' = true) := by rw [← hC1]; exact cellsB_one b
    clear hL1 hb2 hl1 hC1 HH HDP e1
    have hkN : k < N := by omega
    go_wp2_with (refine wpList_copy_splice rfl _ _ _ _ rfl 5 Try.underlying22 HSZ.out (some ⟨w.heap.size, k, none⟩) ba (N - k) (N - k) b.length bc rfl rfl w.heap.size k L1 5 HH2.out C1 f1.out (fun h => ⟨rfl, HBP.out w2 HB2.out h⟩) f2.out HCO.out w.heap.size w HB2.out (Nat.le_refl _) ?_)
    intro w3 HH3 hb3
    have HF : Hid (w3.heap[w.heap.size]? = some (.cells (cellsB R).toArray 5 (0, 0))) := by
      unfold Hid
      rw [HH3.out, HLY.out, ← splice_bytes, ← splice_bytes, HL0.out, HC0.out, HL1.out, HCB.out]
    clear HH3 HH2 HL1 HL0 HC0 HCB
    go_wp2
    go_ret
    have hB := bytes_block HF.out (by rw [HLL.out]; unfold maxLen; omega) (fun x => x = w.heap.size) rfl
    rw [HLL.out] at hB ⊢
    exact ⟨rfl, hB, lt_of_block HF.out, hb3⟩
  · have hcz : (k : Int) + (b.length : Int) ≤ (d.length : Int) := by omega
    go_enter Try.func59, Try.ntmps59
    go_wp2_with (refine wpList_make_full _ rfl _ _ _ rfl w.heap.size 5 i0 (.int .u8 0) 1 Try.underlying22 hi hz0 hz1 .i64 .i64 _ _ N rfl rfl ?a0 ?a0' ?a1 ?a2 (Nat.le_refl _) ?_)
    case a0 => have := HN.out; omega
    case a0' => have := HN.out; omega
    case a1 => rw [hz2]; omega
    case a2 => unfold maxLen; omega
    intro w1 ho hg
    rw [made_bytes] at ho
    have HH : Hid (w1.heap[w.heap.size]? = some (.cells (cellsB (List.replicate N 0)).toArray 5 (0, 0))) := own_block ho
    have HB1 : Hid (Below w.heap.size w w1) := below_none hg
    have hz1 : w.heap.size < w1.heap.size := lt_of_block HH.out
    have e1 : Hid ((cellsB d).length = Nat.min d.length N) := by unfold Hid; rw [cellsB_length]; show _ = min _ _; omega
    have e2 : Hid (0 + (cellsB d).length ≤ (cellsB (List.replicate N 0)).length) := by unfold Hid; rw [cellsB_length, cellsB_length, List.length_replicate]; omega
    clear ho hg
    generalize hL0 : cellsB (List.replicate N 0) = L0 at HH e2
    generalize hC0 : cellsB d = C0 at e1 e2 HDP
    have HL0 : Hid (cellsB (List.replicate N 0) = L0) := hL0
    have HC0 : Hid (cellsB d = C0) := hC0
    have HC1 : Hid (∀ v ∈ C0, v.oneCell' = true) := by rw [← hC0]; exact cellsB_one d
    clear hL0 hC0
    go_wp2_with (refine wpList_copy_splice rfl _ _ _ _ rfl 5 Try.underlying22 HSZ.out (some ⟨w.heap.size, 0, none⟩) da N N d.length dc rfl rfl w.heap.size 0 L0 5 HH.out C0 e1.out (fun h => ⟨rfl, HDP.out w1 HB1.out h⟩) e2.out HC1.out w.heap.size w HB1.out (Nat.le_refl _) ?_)
    intro w2 HH2 hb2
    generalize hL1 : splice L0 0 C0 = L1 at HH2
    have HL1 : Hid (splice L0 0 C0 = L1) := hL1
    have HB2 : Hid (Below w.heap.size w w2) := hb2
    have hl1 : L1.length = N := by
      rw [← hL1, length_splice _ _ _ e2.out, ← HL0.out, cellsB_length, List.length_replicate]
    have f1 : Hid ((cellsB b).length = Nat.min b.length (N - k)) := by unfold Hid; rw [cellsB_length]; show _ = min _ _; omega
    have f2 : Hid (k + (cellsB b).length ≤ L1.length) := by unfold Hid; rw [cellsB_length]; omega
    generalize hC1 : cellsB b = C1 at f1 f2 HBP
    have HCB : Hid (cellsB b = C1) := hC1
    have HCO : Hid (∀ v ∈ C1, v.oneCell' = true) := by rw [← hC1]; exact cellsB_one b
    clear hL1 hb2 hl1 hC1 HH HDP e1
    have hkN : k < N := by omega
    go_wp2_with (refine wpList_copy_splice rfl _ _ _ _ rfl 5 Try.underlying22 HSZ.out (some ⟨w.heap.size, k, none⟩) ba (N - k) (N - k) b.length bc rfl rfl w.heap.size k L1 5 HH2.out C1 f1.out (fun h => ⟨rfl, HBP.out w2 HB2.out h⟩) f2.out HCO.out w.heap.size w HB2.out (Nat.le_refl _) ?_)
    intro w3 HH3 hb3
    have HF : Hid (w3.heap[w.heap.size]? = some (.cells (cellsB R).toArray 5 (0, 0))) := by
      unfold Hid
      rw [HH3.out, HLY.out, ← splice_bytes, ← splice_bytes, HL0.out, HC0.out, HL1.out, HCB.out]
    clear HH3 HH2 HL1 HL0 HC0 HCB
    go_wp2
    go_ret
    have hB := bytes_block HF.out (by rw [HLL.out]; unfold maxLen; omega) (fun x => x = w.heap.size) rfl
    rw [HLL.out] at hB ⊢
    exact ⟨rfl, hB, lt_of_block HF.out, hb3⟩
end Go.Proofs.Ytaobjpajbpoamaa
