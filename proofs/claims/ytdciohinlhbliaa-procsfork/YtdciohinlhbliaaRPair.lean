
/-
  rgref5.Pair, walked.
-/
import Derived.Test.YtdciohinlhbliaaREntErr
namespace Go.Proofs.Ytdciohinlhbliaa
open Go.RowKit
def obE (p : Int) : Sp.Ob := ⟨4, [], [], ⟨#[]⟩, p, [], -1, 0, 0⟩
theorem lists_none (w : World) (S : Nat → Prop) (p : Int) : Lists w S (⟨nilSl, nilSl, nilSl⟩, obE p) := ⟨Row.nil _ _ _ _ _, Row.nil _ _ _ _ _, [], rfl, Row.nil _ _ _ _ _, fun t ht => by simp at ht⟩
theorem Or'.lt {S : Nat → Prop} {lo hi : Nat} {w : World} (hS : ∀ b, S b → b < w.heap.size) (h : w.heap.size ≤ hi) {b : Nat} (hb : Or' S lo hi b) : b < hi := hb.elim (fun h' => Nat.lt_of_lt_of_le (hS b h') h) (fun h' => h'.2)
theorem Or'.grow {S : Nat → Prop} {lo m hi : Nat} (h1 : lo ≤ m) (h2 : m ≤ hi) {b : Nat} (hb : Or' (Or' S lo m) m hi b) : Or' S lo hi b := by
  rcases hb with (h | h) | h
  · exact Or.inl h
  · exact Or.inr ⟨h.1, by omega⟩
  · exact Or.inr ⟨by omega, h.2⟩
theorem endV (p : Int) : (objC (⟨nilSl, nilSl, nilSl⟩, obE p)).toArray = #[.int .i64 4, .slice none 0 0, .slice none 0 0, .string ⟨#[]⟩, .int .i64 p, .slice none 0 0, .int .i64 (-1), .int .i64 0, .int .i64 0] := rfl
set_option maxRecDepth 100000 in
set_option maxHeartbeats 4000000 in
theorem pair_ok (L : List Sp.Ob) (v : Value) (S : Nat → Prop) (w : World) (hv : Objs w S v L) (hS : ∀ b, S b → b < w.heap.size) (hn : L.length < 38) (hnf : ∀ o ∈ L, o.kind ≠ 0) :
    Calls Try.prog 32 #[v] w fun e w' => ∃ a c, e = .returned (.tuple #[.slice a (L.length + 2) c, .agg #[.int .i64 L.length, .int .i64 (L.length + 1 : Int)], .int .i64 0]) ∧ Objs w' (Or' S w.heap.size w'.heap.size) (.slice a (L.length + 2) c) (L ++ [obE (L.length + 1 : Int), obE L.length]) ∧ Below w.heap.size w w' := by
  have HV : Hid (Objs w S v L) := hv
  have HS : Hid (∀ b, S b → b < w.heap.size) := hS
  have HNF : Hid (∀ o ∈ L, o.kind ≠ 0) := hnf
  have HN : Hid (L.length < 38) := hn
  have hnz : (L.length : Int) < 38 := by omega
  obtain ⟨va, vc, rfl, -⟩ := hv.form
  clear hv hS hnf hn
  go_enter Try.func32, Try.ntmps32
  go_wp2_with fail
  have hB1 : Below w.heap.size w (w.alloc (.cells #[.int .i64 0, .int .i64 0] 77)) := (Below.refl _ _).alloc (Nat.le_refl _) _
  have hz1 : (w.alloc (.cells #[.int .i64 0, .int .i64 0] 77)).heap.size = w.heap.size + 1 := by simp
  have hR1 := rmake_app L ⟨nilSl, nilSl, nilSl⟩ (obE (-1)) _ S _ (HV.out.on ((On.of hB1).less HS.out)) (fun b hb => by have := HS.out b hb; omega) (by have := HN.out; omega) HNF.out (lists_none _ _ _)
  rw [endV] at hR1
  refine Calls.mono hR1 ?_
  rintro e w2 ⟨a2, c2, rfl, ho2, hb2⟩
  have HB2 : Hid (Below w.heap.size w w2) := hB1.trans (hb2.mono (by omega))
  have hz2 : w.heap.size + 1 ≤ w2.heap.size := by have := hb2.size; omega
  have HC2 : Hid (Blk w2 w.heap.size #[.int .i64 0, .int .i64 0] 77) := (Blk.new w _ _).below hb2 (by omega)
  have HO2 : Hid (Objs w2 (Or' S (w.heap.size + 1) w2.heap.size) (.slice a2 (L.length + 1) c2) (L ++ [obE (-1)])) := ho2.more fun b hb => by rw [hz1] at hb; exact hb
  clear hR1 ho2 hb2 hB1 hz1
  go_wp2_with fail
  have hR2 := rmake_app (L ++ [obE (-1)]) ⟨nilSl, nilSl, nilSl⟩ (obE L.length) (.slice a2 (L.length + 1) c2) (Or' S (w.heap.size + 1) w2.heap.size) w2 HO2.out (fun b hb => Or'.lt HS.out (by omega) hb) (by have := HN.out; simp; omega) (fun o ho => by
    rcases List.mem_append.1 ho with h | h
    · exact HNF.out o h
    · simp at h; subst h; decide) (lists_none _ _ _)
  rw [endV] at hR2
  simp only [List.length_append, List.length_singleton, Nat.add_assoc, List.append_assoc, List.singleton_append, Nat.reduceAdd] at hR2
  refine Calls.mono hR2 ?_
  rintro e w3 ⟨a3, c3, rfl, ho3, hb3⟩
  have HB3 : Hid (Below w.heap.size w w3) := HB2.out.trans (hb3.mono HB2.out.size)
  have hz3 : w2.heap.size ≤ w3.heap.size := hb3.size
  have HC3 : Hid (Blk w3 w.heap.size #[.int .i64 0, .int .i64 0] 77) := Blk.below HC2.out hb3 (by omega)
  have HO3 : Hid (Objs w3 (Or' S (w.heap.size + 1) w3.heap.size) (.slice a3 (L.length + 2) c3) (L ++ [obE (-1), obE L.length])) := ho3.more fun b hb => Or'.grow (by omega) hz3 hb
  obtain ⟨b6, of6, c6, s6, e6, hb6, hc6, hm6, hl6, t0, t1, t2, t3, t4, t5, t6, t7, t8⟩ := HO3.out.open (k := L.length) (x := obE (-1)) (by rw [List.getElem?_append_right (Nat.le_refl _), Nat.sub_self]; rfl)
  simp only [List.length_append, List.length_cons, List.length_nil] at e6 hc6
  obtain ⟨rfl, -, rfl⟩ := Value.slice.inj e6
  have HL6 : Hid (Lists w3 (Or' S (w.heap.size + 1) w3.heap.size) (s6, obE (L.length + 1 : Int))) := hl6
  unfold maxLen at hm6
  dsimp only [obE] at t0 t1 t2 t3 t4 t5 t6 t7 t8
  clear hR2 ho3 hb3 hl6 e6 HO2 HC2 HB2
  go_wp2_with fail
  have hon4 := On.alloc w3 (.cells #[.int .i64 4, .slice s6.d.a s6.d.n s6.d.c, .slice s6.e.a s6.e.n s6.e.c, .string ⟨#[]⟩, .int .i64 ((L.length : Int) + 1), .slice s6.q.a s6.q.n s6.q.c, .int .i64 (-1), .int .i64 0, .int .i64 0] 40)
  have hz4 : (w3.alloc (.cells #[.int .i64 4, .slice s6.d.a s6.d.n s6.d.c, .slice s6.e.a s6.e.n s6.e.c, .string ⟨#[]⟩, .int .i64 ((L.length : Int) + 1), .slice s6.q.a s6.q.n s6.q.c, .int .i64 (-1), .int .i64 0, .int .i64 0] 40)).heap.size = w3.heap.size + 1 := by simp
  have hB4 : Below w.heap.size w (w3.alloc (.cells #[.int .i64 4, .slice s6.d.a s6.d.n s6.d.c, .slice s6.e.a s6.e.n s6.e.c, .string ⟨#[]⟩, .int .i64 ((L.length : Int) + 1), .slice s6.q.a s6.q.n s6.q.c, .int .i64 (-1), .int .i64 0, .int .i64 0] 40)) := HB3.out.alloc HB3.out.size _
  have hlt3 : ∀ b, Or' S (w.heap.size + 1) w3.heap.size b → b < w3.heap.size := fun b hb => Or'.lt HS.out (by omega) hb
  have hR4 := rwith_any (L ++ [obE (-1), obE L.length]) L.length s6 (obE (L.length + 1 : Int)) (.slice (some ⟨b6, of6, none⟩) (L.length + 2) c3) (Or' S (w.heap.size + 1) w3.heap.size) _ (HO3.out.on (hon4.less hlt3)) (fun b hb => by have := hlt3 b hb; omega) (by have := HN.out; simp; omega) (by simp) (HL6.out.on (hon4.less hlt3))
  have e4 : Sp.rwith (L ++ [obE (-1), obE L.length]) L.length (obE (L.length + 1 : Int)) = L ++ [obE (L.length + 1 : Int), obE L.length] := by
    unfold Sp.rwith
    rw [if_neg (by simp), List.set_append_right _ _ (Nat.le_refl _), Nat.sub_self]
    rfl
  rw [e4, objV_eq] at hR4
  simp only [List.length_append, List.length_cons, List.length_nil] at hR4
  refine Calls.mono hR4 ?_
  rintro e w5 ⟨a5, c5, rfl, ho5, hb5⟩
  have hz5 := hb5.size
  have HB5 : Hid (Below w.heap.size w w5) := hB4.trans (hb5.mono hB4.size)
  have hC5 : Blk w5 w.heap.size #[.int .i64 0, .int .i64 0] 77 := (Blk.alloc HC3.out _).below hb5 (by omega)
  have HO5 : Hid (Objs w5 (Or' S (w.heap.size + 1) w5.heap.size) (.slice a5 (L.length + 2) c5) (L ++ [obE (L.length + 1 : Int), obE L.length])) := ho5.more fun b hb => by
    rcases hb with (h | h) | h
    · exact Or.inl h
    · exact Or.inr ⟨h.1, by omega⟩
    · exact Or.inr ⟨by omega, h.2⟩
  have HC5 : Hid _ := hC5
  have cc := hC5.cell
  have cf := hC5.free
  have hz05 : w.heap.size < w5.heap.size := by omega
  clear hR4 ho5 hb5 hon4 hz4 hB4 hlt3 e4 hC5 HO3 HL6 HC3 HB3 t0 t1 t2 t3 t4 t5 t6 t7 t8
  go_wp2
  have hf1 : Blk (w5.setCell ⟨w.heap.size, 0, none⟩ (.int .i64 L.length)) w.heap.size #[.int .i64 L.length, .int .i64 0] 77 := Blk.set HC5.out 0 _
  have hf2 : Blk ((w5.setCell ⟨w.heap.size, 0, none⟩ (.int .i64 L.length)).setCell ⟨w.heap.size, 1, none⟩ (.int .i64 ((L.length : Int) + 1))) w.heap.size #[.int .i64 L.length, .int .i64 ((L.length : Int) + 1)] 77 := hf1.set 1 _
  have hcF := hf2.cell
  have honF := (On.set w5 ⟨w.heap.size, 0, none⟩ (.int .i64 (L.length : Int))).trans (On.set _ ⟨w.heap.size, 1, none⟩ (.int .i64 ((L.length : Int) + 1)))
  have hBF := (HB5.out.setCell (p := ⟨w.heap.size, 0, none⟩) (Nat.le_refl _) (.int .i64 (L.length : Int))).setCell (p := ⟨w.heap.size, 1, none⟩) (Nat.le_refl _) (.int .i64 ((L.length : Int) + 1))
  have hzF : ((w5.setCell ⟨w.heap.size, 0, none⟩ (.int .i64 L.length)).setCell ⟨w.heap.size, 1, none⟩ (.int .i64 ((L.length : Int) + 1))).heap.size = w5.heap.size := by simp
  generalize (w5.setCell ⟨w.heap.size, 0, none⟩ (.int .i64 L.length)).setCell ⟨w.heap.size, 1, none⟩ (.int .i64 ((L.length : Int) + 1)) = WF at *
  refine bodyPost_ret (v := .tuple #[.slice a5 (L.length + 2) c5, .agg #[.int .i64 L.length, .int .i64 ((L.length : Int) + 1)], .int .i64 0]) (by simp [results, Try.results32, go_sem, hcF]) rfl ⟨a5, c5, rfl, ?_, hBF⟩
  exact (HO5.out.on (honF.less fun b hb => by
    show b ≠ w.heap.size
    rcases hb with h | h
    · have := HS.out b h; omega
    · omega)).more fun b hb => by
      rcases hb with h | h
      · exact Or.inl h
      · exact Or.inr ⟨by omega, by omega⟩
end Go.Proofs.Ytdciohinlhbliaa
