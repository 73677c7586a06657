/-
  channel.Pair, walked.
-/
import Derived.Test.YthoacakdmnijcaaCMake
import Derived.Test.YthoacakdmnijcaaRPair
namespace Go.Proofs.Ythoacakdmnijcaa
open Go.RowKit
theorem freeFrom_nil : ∀ (L : List Sp.Ob) (k : Nat), (∀ o ∈ L, o.kind ≠ 0) → Sp.freeFrom L k = -1
  | [], _, _ => rfl
  | o :: t, k, h => by
    rw [Sp.freeFrom, if_neg (h o List.mem_cons_self)]
    exact freeFrom_nil t (k + 1) fun x hx => h x (List.mem_cons_of_mem _ hx)
theorem fits_end (p : Int) : Fits (obE p) := ⟨Nat.zero_le _, Nat.zero_le _, Nat.zero_le _, fun m hm => by simp [obE] at hm⟩
theorem ts_at {ts : List (Sls × Sp.Ob)} {R : List Sp.Ob} (h : ts.map Prod.snd = R) {i : Nat} {o : Sp.Ob} (ho : R[i]? = some o) : ∃ s, ts[i]? = some (s, o) := by
  rw [← h, List.getElem?_map] at ho
  cases ht : ts[i]? with
  | none => rw [ht] at ho; cases ho
  | some t => rw [ht] at ho; simp at ho; exact ⟨t.1, by rw [← ho]⟩
set_option maxRecDepth 100000 in
set_option maxHeartbeats 4000000 in
theorem cpair_ok (L : List Sp.Ob) (v : Value) (S : Nat → Prop) (w : World) (hv : Objs w S v L) (hS : ∀ b, S b → b < w.heap.size) (hf : ∀ o ∈ L, Fits o) (hn : L.length < 38) (hnf : ∀ o ∈ L, o.kind ≠ 0) :
    Calls Try.prog 19 #[v] w fun e w' => ∃ a c, e = .returned (.tuple #[.slice a (L.length + 2) c, .agg #[.int .i64 L.length, .int .i64 (L.length + 1 : Int)], .int .i64 0]) ∧ Objs w' (fun b => w.heap.size ≤ b ∧ b < w'.heap.size) (.slice a (L.length + 2) c) (L ++ [obE (L.length + 1 : Int), obE L.length]) ∧ Below w.heap.size w w' := by
  have HV : Hid (Objs w S v L) := hv
  have HS : Hid (∀ b, S b → b < w.heap.size) := hS
  have HNF : Hid (∀ o ∈ L, o.kind ≠ 0) := hnf
  have HFT : Hid (∀ o ∈ L, Fits o) := hf
  have HN : Hid (L.length < 38) := hn
  have hnz : (L.length : Int) < 38 := by omega
  obtain ⟨va, vc, rfl, -⟩ := hv.form
  clear hv hS hnf hn hf
  go_enter Try.func19, Try.ntmps19
  go_wp2_with fail
  have hB0 : Below w.heap.size w (w.alloc (.cells #[.int .i64 0, .int .i64 0] 50)) := (Below.refl _ _).alloc (Nat.le_refl _) _
  have hC0 : Blk (w.alloc (.cells #[.int .i64 0, .int .i64 0] 50)) w.heap.size #[.int .i64 0, .int .i64 0] 50 := Blk.new w _ _
  refine (newEnd_any (-1) _).mono ?_
  rintro e w1 ⟨rfl, hb1⟩
  have hz0 : (w.alloc (.cells #[.int .i64 0, .int .i64 0] 50)).heap.size = w.heap.size + 1 := by simp
  have HB1 : Hid (Below w.heap.size w w1) := hB0.trans (hb1.mono hB0.size)
  have hz1 : w.heap.size + 1 ≤ w1.heap.size := by have := hb1.size; omega
  have HC1 : Hid (Blk w1 w.heap.size #[.int .i64 0, .int .i64 0] 50) := hC0.below hb1 hC0.lt
  clear hB0 hC0 hb1 hz0
  go_wp2_with fail
  have hR1 := make_mine L ⟨nilSl, nilSl, nilSl⟩ (obE (-1)) _ S w1 (HV.out.on ((On.of HB1.out).less HS.out)) (fun b hb => by have := HS.out b hb; omega) HFT.out (by have := HN.out; omega) (freeFrom_nil _ _ HNF.out) (lists_none _ _ _) (fits_end _)
  rw [endV] at hR1
  refine Calls.mono hR1 ?_
  rintro e w2 ⟨ts, g, c, rfl, hts, hM2, hL2, hb2⟩
  have HB2 : Hid (Below w.heap.size w w2) := HB1.out.trans (hb2.mono HB1.out.size)
  have hz2 : w1.heap.size ≤ w2.heap.size := hb2.size
  have HC2 : Hid (Blk w2 w.heap.size #[.int .i64 0, .int .i64 0] 50) := HC1.out.below hb2 (by omega)
  have HO2 : Hid (Objs w2 (fun b => b < w2.heap.size) (.slice (some ⟨g, 0, none⟩) (L.length + 1) c) (L ++ [obE (-1)])) := by
    have := hM2.objs (S := fun b => b < w2.heap.size) (fun b hb => hb.2) fun t ht => (hL2 t ht).more fun b hb => hb.2.1
    rw [hts] at this
    exact this
  clear hR1 hts hM2 hL2 hb2 HB1 HC1
  go_wp2_with fail
  refine (newEnd_any L.length _).mono ?_
  rintro e w3 ⟨rfl, hb3⟩
  have HB3 : Hid (Below w.heap.size w w3) := HB2.out.trans (hb3.mono HB2.out.size)
  have hz3 : w2.heap.size ≤ w3.heap.size := hb3.size
  have HC3 : Hid (Blk w3 w.heap.size #[.int .i64 0, .int .i64 0] 50) := HC2.out.below hb3 (by omega)
  have HO3 : Hid (Objs w3 (fun b => b < w2.heap.size) (.slice (some ⟨g, 0, none⟩) (L.length + 1) c) (L ++ [obE (-1)])) := HO2.out.on (On.of hb3)
  clear HB2 HC2 HO2 hb3
  go_wp2_with fail
  have hR2 := make_mine (L ++ [obE (-1)]) ⟨nilSl, nilSl, nilSl⟩ (obE L.length) _ _ w3 HO3.out (fun b hb => by omega) (fun o ho => by
    rcases List.mem_append.1 ho with h | h
    · exact HFT.out o h
    · simp at h; subst h; exact fits_end _) (by have := HN.out; simp; omega) (freeFrom_nil _ _ (fun o ho => by
    rcases List.mem_append.1 ho with h | h
    · exact HNF.out o h
    · simp at h; subst h; decide)) (lists_none _ _ _) (fits_end _)
  rw [endV] at hR2
  simp only [List.length_append, List.length_singleton, Nat.add_assoc, List.append_assoc, List.singleton_append, Nat.reduceAdd] at hR2
  refine Calls.mono hR2 ?_
  rintro e w4 ⟨ts4, g4, c4, rfl, hts4, hM4, hL4, hb4⟩
  have HB4 : Hid (Below w.heap.size w w4) := HB3.out.trans (hb4.mono HB3.out.size)
  have hz4 : w3.heap.size ≤ w4.heap.size := hb4.size
  have HC4 : Hid (Blk w4 w.heap.size #[.int .i64 0, .int .i64 0] 50) := HC3.out.below hb4 (by omega)
  have HTS : Hid (ts4.map Prod.snd = L ++ [obE (-1), obE L.length]) := hts4
  have HM4 : Hid (Mine w4 w3.heap.size 40 9 (.slice (some ⟨g4, 0, none⟩) (L.length + 2) c4) (ts4.map objC)) := hM4
  have HL4 : Hid (∀ t ∈ ts4, Lists w4 (fun b => w3.heap.size ≤ b ∧ b < w4.heap.size ∧ b ≠ g4) t) := hL4
  have hg4 := hM4.lt g4 rfl
  obtain ⟨cur, hblk, hln, hnc, hcm, hcs, hcur⟩ := hM4.blk
  rw [List.length_map] at hln
  have cf := hblk.free
  obtain ⟨s4, ht4⟩ := ts_at (i := L.length) (o := obE (-1)) hts4 (by rw [List.getElem?_append_right (Nat.le_refl _), Nat.sub_self]; rfl)
  have HT4 : Hid (ts4[L.length]? = some (s4, obE (-1))) := ht4
  have c4' : w4.cell? ⟨g4, L.length * 9 + 4, none⟩ = some (.int .i64 (-1)) := by
    rw [hblk.cell]
    exact hcur _ _ (flatten_at (even_obj ts4) L.length _ (by rw [List.getElem?_map, ht4]; rfl) 4 _ rfl)
  have hcl := Blk.cell HC4.out
  have hcfr := Blk.free HC4.out
  unfold maxLen at hcm
  clear hR2 hts4 hM4 hL4 hb4 hblk hcur hcs ht4 HB3 HC3 HO3
  go_wp2
  have h1 := HM4.out.set (even_obj ts4) L.length 4 _ (.int .i64 ((L.length : Int) + 1)) (by rw [List.getElem?_map, HT4.out]; rfl) (by decide)
  have hon1 := On.set w4 ⟨g4, L.length * 9 + 4, none⟩ (.int .i64 ((L.length : Int) + 1))
  have hB1' : Below w.heap.size w (w4.setCell ⟨g4, L.length * 9 + 4, none⟩ (.int .i64 ((L.length : Int) + 1))) := HB4.out.setCell (by show w.heap.size ≤ g4; omega) _
  have hC5 : Blk (w4.setCell ⟨g4, L.length * 9 + 4, none⟩ (.int .i64 ((L.length : Int) + 1))) w.heap.size #[.int .i64 0, .int .i64 0] 50 := HC4.out.other (by show w.heap.size ≠ g4; omega) _
  have hz5 : (w4.setCell ⟨g4, L.length * 9 + 4, none⟩ (.int .i64 ((L.length : Int) + 1))).heap.size = w4.heap.size := by simp
  generalize w4.setCell ⟨g4, L.length * 9 + 4, none⟩ (.int .i64 ((L.length : Int) + 1)) = w5 at *
  have hf1 : Blk (w5.setCell ⟨w.heap.size, 0, none⟩ (.int .i64 L.length)) w.heap.size #[.int .i64 L.length, .int .i64 0] 50 := hC5.set 0 _
  have hf2 : Blk ((w5.setCell ⟨w.heap.size, 0, none⟩ (.int .i64 L.length)).setCell ⟨w.heap.size, 1, none⟩ (.int .i64 ((L.length : Int) + 1))) w.heap.size #[.int .i64 L.length, .int .i64 ((L.length : Int) + 1)] 50 := hf1.set 1 _
  have hcF := hf2.cell
  have honF := (On.set w5 ⟨w.heap.size, 0, none⟩ (.int .i64 (L.length : Int))).trans (On.set _ ⟨w.heap.size, 1, none⟩ (.int .i64 ((L.length : Int) + 1)))
  have hBF := (hB1'.setCell (p := ⟨w.heap.size, 0, none⟩) (Nat.le_refl _) (.int .i64 (L.length : Int))).setCell (p := ⟨w.heap.size, 1, none⟩) (Nat.le_refl _) (.int .i64 ((L.length : Int) + 1))
  have hzF : ((w5.setCell ⟨w.heap.size, 0, none⟩ (.int .i64 L.length)).setCell ⟨w.heap.size, 1, none⟩ (.int .i64 ((L.length : Int) + 1))).heap.size = w5.heap.size := by simp
  generalize (w5.setCell ⟨w.heap.size, 0, none⟩ (.int .i64 L.length)).setCell ⟨w.heap.size, 1, none⟩ (.int .i64 ((L.length : Int) + 1)) = WF at *
  refine bodyPost_ret (v := .tuple #[.slice (some ⟨g4, 0, none⟩) (L.length + 2) c4, .agg #[.int .i64 L.length, .int .i64 ((L.length : Int) + 1)], .int .i64 0]) (by simp [results, Try.results19, go_sem, hcF]; exact hln.symm) rfl ⟨_, c4, rfl, ?_, hBF⟩
  have e1 : objC (s4, obE ((L.length : Int) + 1)) = (objC (s4, obE (-1))).set 4 (.int .i64 ((L.length : Int) + 1)) := rfl
  have e2 : L ++ [obE ((L.length : Int) + 1), obE L.length] = (ts4.set L.length (s4, obE ((L.length : Int) + 1))).map Prod.snd := by
    rw [List.map_set, HTS.out, List.set_append_right _ _ (Nat.le_refl _), Nat.sub_self]
    rfl
  rw [e2]
  rw [← e1, ← List.map_set] at h1
  refine Mine.objs (base := w.heap.size) ((h1.base fun k hk => by simp [Value.ownBlock] at hk; omega).on honF fun k hk => ?_) (fun b hb => ⟨by omega, by omega⟩) fun t ht => ?_
  · simp [Value.ownBlock] at hk
    show k ≠ w.heap.size
    omega
  · have key : ∀ t ∈ ts4, Lists WF (fun b => w.heap.size ≤ b ∧ b < WF.heap.size) t := fun t ht => ((((HL4.out t ht).on (hon1.less fun b hb => by show b ≠ g4; omega)).on (honF.less fun b hb => by show b ≠ w.heap.size; omega)).more fun b hb => ⟨by omega, by omega⟩)
    rcases List.mem_or_eq_of_mem_set ht with h | h
    · exact key t h
    · subst h
      exact key (s4, obE (-1)) (List.mem_of_getElem? HT4.out)
end Go.Proofs.Ythoacakdmnijcaa
