/-
  PathDepth returns true for every list of texts, and leaves its argument alone: a path of no .. leads nowhere up, and one more .. leads one further at most. Conditions: two tables of unicode/utf8 lie as their own texts lay them (the card ties them to the program; the law's own road does not read them).
-/
import Derived.Test.YtlfkkkgadkcilacDoorRows
import Derived.Test.YtlfkkkgadkcilacDoorCards
import Derived.Test.YtlfkkkgadkcilacDoorTie
import Derived.Test.YtlfkkkgadkcilacDoorPDepthW
import Derived.WalkKit
import Derived.ProofKit
import Derived.OpenShut
import Derived.ShutString
import Derived.ChangeOld
import Derived.Deep.Strs
import Derived.Deep.DeepHandedRow
import Derived.SizedLaws
import Derived.LaidMore
import Derived.Lay
import Derived.SevenTiedAt
import Derived.Stop.Joined
namespace Go.Proofs.YtlfkkkgadkcilacDoor
open Go.ChangeShapes Go.WideShapes Go.ChangeAt Go.RowKit Go.Deep
theorem Tryd.cellsS : Tryd.prog.cellsOf 9 = 1 := by kernel_rfl
theorem Tryd.bytesS : Tryd.prog.bytesOf 9 = 16 := by kernel_rfl
theorem law_own : ownKnob Tryd.prog.godebug = none := by kernel_rfl
theorem law_laidOut : laidOutB Tryd.prog = true := by kernel_rfl
theorem block_lt {w : World} {a : Addr} {v : Value} (h : w.cell? a = some v) : a.block < w.heap.size := by
  rcases Nat.lt_or_ge a.block w.heap.size with h' | h'
  · exact h'
  · simp [World.cell?, Array.getElem?_eq_none h'] at h
section
variable {H : Type} {enc : TypeId × Value → H} {W : World}
theorem open_texts {base b0 : Nat} {held : Bool} {r : Reach} {v : Value} {d : DataW H} {q : List MemPlace} {sp : Nat → Bool}
    (hv : Value.okWide Tryd.prog W r b0 22 v) (h : DataW.Trod enc Tryd.prog W base sp held 22 v d q) :
    ∃ xs : List ByteArray, TArg W v xs ∧ (xs = [] ∨ ∃ es spare, d = .slice es spare ∧ es.length = xs.length) := by
  obtain ⟨a1, len1, cap1, rfl⟩ := okWide_slice Tryd.underlying22 hv
  obtain ⟨fuel, hf⟩ := h
  rcases open_strs Tryd.underlying22 Tryd.underlying9 Tryd.cellsS hf with ⟨hcs, hx⟩ | ⟨a, len, cap, m, S, hcs, _, hl, hm, hmm, hx, hel⟩
  · simp [Value.cells] at hcs
    obtain ⟨rfl, rfl, rfl⟩ := hcs
    exact ⟨[], Or.inl ⟨rfl, rfl⟩, Or.inl rfl⟩
  · simp [Value.cells] at hcs
    obtain ⟨rfl, rfl, rfl⟩ := hcs
    have hlm : len1 ≤ m := by rw [hmm]; split <;> omega
    by_cases h0 : len1 = 0
    · subst h0; exact ⟨[], Or.inr (Or.inl ⟨a, cap1, rfl, rfl⟩), Or.inl rfl⟩
    have hcell : ∀ i, i < len1 → W.cell? (a.add i) = some (.string (S i)) := fun i hi => (hel i (by omega)).1
    obtain ⟨ab, ao, spot⟩ := a
    have hspot : spot = none := by simpa [Addr.add] using World.cell?_spot (hcell 0 (by omega))
    subst hspot
    simp only [Addr.add_lit] at hcell
    have hlt : ab < W.heap.size := block_lt (hcell 0 (by omega))
    refine ⟨(List.range len1).map S, Or.inr (Or.inr ⟨ab, ao, cap1, by simp, hlt, by simp; omega, ?_⟩), Or.inr ⟨_, _, (Prod.mk.inj hx).1, by simp⟩⟩
    intro i x hx
    rw [List.getElem?_map] at hx
    by_cases hi : i < len1
    · rw [List.getElem?_range hi] at hx
      simp at hx
      subst hx
      exact hcell i hi
    · rw [List.getElem?_eq_none (by simp; omega)] at hx
      cases hx
end
set_option maxRecDepth 100000 in
theorem pathDepth_lifted (os : Os) (started : os.Started) (H : Type) (enc : TypeId × Value → H) (F : Stop.Interp) :
    ReturnsInHanded {} Tryd.checked os 3 .any ((OpenSpec.ofChange Rows.pathDepthSpec).preRow enc Tryd.prog Tryd.f3 Rows.pathDepthRow.domain false Rows.pathDepthRow.laid)
      (((OpenSpec.ofChange Rows.pathDepthSpec).at F).post enc Tryd.prog Tryd.f3 false true false false) := by
  refine returnsInHanded_of_row (C := Tryd.checked) (s := OpenSpec.ofChange Rows.pathDepthSpec) law_own started (by kernel_rfl) Tryd.func3
    (ChangeSpec.witness_shaped (enc := enc) (C := Tryd.checked) (os := os) (X := fun w _ => laidMetH Tryd.prog Rows.pathDepthRow.laid w) false (World.laidAll Tryd.prog os Rows.pathDepthRow.laid) #[.slice none 0 0] 8 (World.laidAll_os _ _ _)
      (World.shaped_of_ZipB (by kernel_rfl) (by kernel_rfl)) (by kernel_rfl) (by kernel_rfl) (by kernel_rfl)
      (by rw [MakeChecks.laidMetH_plain _ _ _ (by kernel_rfl)]; exact laidMet_laidAll _ (by kernel_rfl) (by kernel_rfl))) ?_
  intro W base args ds gs before hval0 hW _ _ hsz0 _ hsh _
  have hval : ∀ (j : Nat) t v, Tryd.f3.params[j]? = some t → args[j]? = some v → Value.okWide Tryd.prog W .any base t v := hval0
  have hsz : (DataW.weightsEach Tryd.prog (Tryd.f3.params.toList ++ Rows.pathDepthSpec.plain.varTypes Tryd.prog) (ds ++ gs)).all (· ≤ reachBytes) = true := hsz0
  have hW' := hW
  obtain ⟨p, q, hA0, hV, rfl, hfz, hnd⟩ := hW
  have hA : DataW.TrodAll enc Tryd.prog W 0 (fun _ => true) true Tryd.f3.params.toList args.toList ds p := hA0
  rw [Tryd.params3] at hA hval hsz
  obtain ⟨v0, d0, rfl, rfl, h0⟩ := trodAll_one hA
  obtain ⟨rfl, rfl⟩ := trodVars_none hV
  obtain ⟨xs, hT, hD⟩ := open_texts (hval 0 22 v0 rfl rfl) h0
  have hN : xs.length ≤ 8796093022000 := by
    rcases hD with rfl | ⟨es, spare, rfl, he⟩
    · simp
    · have := sized_slice hsz (j := 0) (t := 22) (e := 9) (elems := es) (spare := spare) rfl rfl Tryd.underlying22
      rw [Tryd.bytesS] at this
      unfold reachBytes at this
      omega
  obtain ⟨m, hm⟩ : ∃ m, W.cell? ⟨0, 0, none⟩ = some (.int .i64 m) := Tryd.laysM146.s1_3 W hsh
  have lt0 : ∀ x ∈ p, x.block < W.heap.size := by obtain ⟨m, hm⟩ := h0; exact DataW.trod_lt m _ _ _ hm
  clear hA0 hval0
  simp only [List.append_nil] at hW'
  refine (pdepth_any xs m v0 W hm hT hN).mono fun e W' ⟨he, bel⟩ => ?_
  subst he
  exact ⟨_, rfl, _, _, _, [], _, [], hW', trodAll_mk1 (shut_bool Tryd.underlying4 _), trodAll_cons_mk (Below.trod law_laidOut (by kernel_rfl) (of_decide_eq_true (by kernel_rfl)) h0 bel lt0) trodAll_mk0, rfl, bel.frame _, fun h => by cases h⟩
theorem pathDepth_over : Rows.PathDepthSaid :=
  OpenClaim.holds_of_wide 3 Tryd.f3 rfl rfl rfl rfl rfl rfl rfl ⟨rfl, rfl, rfl, rfl, rfl⟩ rfl rfl rfl rfl rfl (by kernel_rfl) Tryd.func3 (by kernel_rfl)
    (of_decide_eq_true (by kernel_rfl)) (by unfold Func.isWrapper; first | (rw [if_pos (by decide +kernel)]; kernel_rfl) | (rw [if_neg (by decide +kernel)]; exact ⟨rfl, rfl⟩))
    (fun os started H enc _ => pathDepth_lifted os started H enc (fun _ _ _ => 0))

/-- The statement. -/
theorem pathDepthHolds : Rows.PathDepthCardSaid :=
  Claim7.holds_tied_plain_at .later [] [.data, .pinned] true _ false pathDepth_over (fun _ h => by cases h) (by kernel_rfl) (fun _ h => by cases h) pathDepth_row_tie rfl ⟨rfl, rfl⟩ (by kernel_rfl) rfl
    (fun f fn hf hfn => by
      obtain rfl : f = 3 := Option.some.inj ((show Tryd.prog.funcNamed Tryd.f3.name = some 3 by kernel_rfl).symm.trans hf) |>.symm
      obtain rfl : fn = Tryd.f3 := (Option.some.inj (Tryd.func3.symm.trans hfn)).symm
      exact ⟨by kernel_rfl, fun j t ht => by
        rw [Tryd.params3] at ht
        have hm : t ∈ [22] := by simpa using Array.mem_of_getElem? ht
        have hall : ([22].all fun u => !Tryd.prog.wantsStandIn u) = true := by kernel_rfl
        exact (show Tryd.prog.wantsStandIn t = false by simpa using List.all_eq_true.1 hall t hm)⟩)
    (by kernel_rfl)
#print axioms pathDepthHolds
end Go.Proofs.YtlfkkkgadkcilacDoor
