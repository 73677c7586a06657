
/-
  store.Own, walked.
-/
import Derived.Test.YtdciohinlhbliaaSWalkD
namespace Go.Proofs.Ytdciohinlhbliaa
open Go.RowKit
set_option maxHeartbeats 4000000 in
theorem own_any (L : List Sp.Ob) (v : Value) (S : Nat → Prop) (w : World) (hv : Objs w S v L) (hS : ∀ b, S b → b < w.heap.size) (hf : ∀ o ∈ L, Fits o) (hn : L.length ≤ 1000000) :
    Calls Try.prog 37 #[v] w fun e w' => e = .returned (.slice (some ⟨w.heap.size, 0, none⟩) L.length L.length) ∧ ∃ (ts : List (Sls × Sp.Ob)) (m : Nat → Nat), L = ts.map Prod.snd ∧ Mine w' w.heap.size 40 9 (.slice (some ⟨w.heap.size, 0, none⟩) L.length L.length) (ts.map objC) ∧ OwnAll w' (w.heap.size + 1) ts m ∧ Below w.heap.size w w' := by
  obtain ⟨i0, hi, hz0, hz1, hz2⟩ := info_parts Try.infoObj
  obtain ⟨ts, hL, hr, hl⟩ := hv
  obtain ⟨a, c, rfl, hm⟩ := hr.form
  rw [List.length_map] at hr hm ⊢
  subst hL
  rw [List.length_map] at hn
  have HP : Hid (∀ w', OInv w ts ts.length w' → ∃ (us : List (Sls × Sp.Ob)) (m : Nat → Nat), ts.map Prod.snd = us.map Prod.snd ∧ Mine w' w.heap.size 40 9 (.slice (some ⟨w.heap.size, 0, none⟩) (ts.map Prod.snd).length (ts.map Prod.snd).length) (us.map objC) ∧ OwnAll w' (w.heap.size + 1) us m ∧ Below w.heap.size w w') := by
    rintro w' ⟨us, m, h1, h2, h3, h4, h5⟩
    refine ⟨us, m, ?_, ?_, h5, h4⟩
    · rw [h2, List.take_of_length_le (by rw [List.length_map]; exact Nat.le_refl _)]
    · rw [Nat.sub_self, List.replicate_zero, List.append_nil] at h3
      rw [List.length_map]
      exact h3
  rw [List.length_map] at HP ⊢
  have HR : Hid (Row w S 9 (.slice a ts.length c) (ts.map objC)) := hr
  have HL : Hid (∀ t ∈ ts, Lists w S t) := hl
  have HF : Hid (∀ o ∈ ts.map Prod.snd, Fits o) := hf
  have HS : Hid (∀ b, S b → b < w.heap.size) := hS
  clear hr hl hf hm hS
  go_enter Try.func37, Try.ntmps37
  go_wp2_with (refine wpList_make_full _ rfl _ _ _ rfl w.heap.size 40 i0 (.agg #[.int .i64 0, .slice none 0 0, .slice none 0 0, .string ⟨#[]⟩, .int .i64 0, .slice none 0 0, .int .i64 0, .int .i64 0, .int .i64 0]) 9 Try.underlying23 hi hz0 hz1 .i64 .i64 _ _ ts.length rfl rfl rfl rfl ?a1 ?a2 (Nat.le_refl _) ?_)
  case a1 => rw [hz2]; omega
  case a2 => unfold maxLen; omega
  intro w1 ho hg
  have HM1 : Hid (Mine w1 w.heap.size 40 9 (.slice (some ⟨w.heap.size, 0, none⟩) ts.length ts.length) (List.replicate ts.length zeroC)) := Mine.made (by decide) rfl ho
  have HB1 : Hid (Below w.heap.size w w1) := below_none hg
  have hz1' : w.heap.size < w1.heap.size := (HM1.out.lt _ rfl).2
  clear ho hg
  go_wp2
  go_loopw [11] (fun i wr => ∃ k : Nat, k ≤ ts.length ∧ i = .int .i64 k ∧ OInv w ts k wr) (fun i _ => ts.length - (intOf i).toNat)
  case atStart => exact ⟨0, Nat.zero_le _, rfl, [], fun _ => w.heap.size + 1, rfl, by simp, HM1.out, HB1.out, ⟨Nat.le_refl _, fun _ => Nat.le_refl _, hz1', fun i t ht => by simp at ht⟩⟩
  case round =>
    obtain ⟨k, hk, rfl, hI⟩ := hrel
    by_cases hlt : k < ts.length
    · obtain ⟨ts', m, hlen, hsnd, hM, hB, hA⟩ := hI
      have hx : ts[k]? = some ts[k] := List.getElem?_eq_getElem hlt
      generalize ts[k] = t at hx
      obtain ⟨⟨⟨da, dn, dc⟩, ⟨ea, en, ec⟩, ⟨qa, qn, qc⟩⟩, ⟨kd, dd, es, tg, pe, qu, pr, li, up⟩⟩ := t
      have HX : Hid _ := hx
      have hzr := hB.size
      have HLI : Hid (Lists wr S (⟨⟨da, dn, dc⟩, ⟨ea, en, ec⟩, ⟨qa, qn, qc⟩⟩, ⟨kd, dd, es, tg, pe, qu, pr, li, up⟩)) := (HL.out _ (List.mem_of_getElem? hx)).on ((On.of hB).less HS.out)
      have HFI : Hid (Fits ⟨kd, dd, es, tg, pe, qu, pr, li, up⟩) := HF.out _ (List.mem_map_of_mem (List.mem_of_getElem? hx))
      obtain ⟨b, o, c', he, hSb, h3, h4, h5⟩ := (HR.out.on ((On.of hB).less HS.out)).some (by rw [List.length_map]; omega)
      rw [List.length_map] at he h3
      obtain ⟨rfl, -, rfl⟩ := Value.slice.inj he
      obtain ⟨k0, k1, k2, k3, k4, k5, k6, k7, k8⟩ := obj_cells h5 hx
      dsimp only at k0 k1 k2 k3 k4 k5 k6 k7 k8
      unfold maxLen at h4
      have HLEN : Hid _ := hlen
      have HSND : Hid _ := hsnd
      have HM : Hid (Mine wr w.heap.size 40 9 (.slice (some ⟨w.heap.size, 0, none⟩) ts.length ts.length) (ts'.map objC ++ List.replicate (ts.length - k) zeroC)) := hM
      have hwr : w.heap.size < wr.heap.size := (hM.lt _ rfl).2
      have HB : Hid (Below w.heap.size w wr) := hB
      have HA : Hid _ := hA
      clear hlen hsnd hM hB hA hx he h5
      go_wp2_with fail
      refine (ownObject_any ⟨⟨da, dn, dc⟩, ⟨ea, en, ec⟩, ⟨qa, qn, qc⟩⟩ ⟨kd, dd, es, tg, pe, qu, pr, li, up⟩ S _ (HLI.out.on ((On.alloc wr _).less fun b hb => by have := HS.out b hb; omega)) (fun b hb => by have := HS.out b hb; simp; omega) HFI.out).mono ?_
      rintro e w2 ⟨⟨⟨da', dn', dc'⟩, ⟨ea', en', ec'⟩, ⟨qa', qn', qc'⟩⟩, rfl, hL2, hb2⟩
      have HL2 : Hid _ := hL2
      have HB2 : Hid _ := hb2
      have hM2 : Mine w2 w.heap.size 40 9 (.slice (some ⟨w.heap.size, 0, none⟩) ts.length ts.length) (ts'.map objC ++ List.replicate (ts.length - k) zeroC) := (HM.out.on (On.alloc wr _) fun g hg => (HM.out.lt g hg).2).on (On.of hb2) (fun g hg => by have := (HM.out.lt g hg).2; simp; omega)
      obtain ⟨cur, hblk, -, -, -, hcs, hcur⟩ := hM2.blk
      have hget : (ts'.map objC ++ List.replicate (ts.length - k) zeroC)[k]? = some zeroC := by
        rw [List.getElem?_append_right (by rw [List.length_map, HLEN.out]; exact Nat.le_refl _), List.length_map, HLEN.out, Nat.sub_self, List.getElem?_replicate, if_pos (by omega)]
      have hcell : ∀ j u, zeroC[j]? = some u → w2.cell? ⟨w.heap.size, k * 9 + j, none⟩ = some u := fun j u hj => by
        rw [hblk.cell]
        exact hcur _ u (flatten_at (even_inv ts' _) k _ hget j u hj)
      have z0 := hcell 0 _ rfl
      have y1 := hcell 1 _ rfl
      have y2 := hcell 2 _ rfl
      have y3 := hcell 3 _ rfl
      have y4 := hcell 4 _ rfl
      have y5 := hcell 5 _ rfl
      have y6 := hcell 6 _ rfl
      have y7 := hcell 7 _ rfl
      have y8 := hcell 8 _ rfl
      have yf := hblk.free
      rw [Nat.add_zero] at z0
      clear hget hcell hcur hblk hM2 hL2 hb2 k0 k1 k2 k3 k4 k5 k6 k7 k8 hcs
      unfold objC
      dsimp only
      go_wp2
      exact ⟨⟨k + 1, by omega, by go_num, OInv.step (s' := ⟨⟨da', dn', dc'⟩, ⟨ea', en', ec'⟩, ⟨qa', qn', qc'⟩⟩) hlt HLEN.out HSND.out HM.out HA.out HX.out (On.alloc wr _) (by simp) (HB.out.alloc (by omega) _) (by simp; omega) HB2.out HL2.out rfl⟩, by simp [intOf]; omega⟩
    · obtain rfl : k = ts.length := by omega
      have HI : Hid _ := hI
      clear hI
      go_wp2
      go_ret
      exact ⟨rfl, HP.out _ HI.out⟩
end Go.Proofs.Ytdciohinlhbliaa
