
/-
  store.Make, walked.
-/
import Derived.Test.YtdciohinlhbliaaSWalkJ
namespace Go.Proofs.Ytdciohinlhbliaa
open Go.RowKit
theorem freeFrom_drop (L : List Sp.Ob) (k : Nat) (x : Sp.Ob) (hx : L[k]? = some x) : Sp.freeFrom (L.drop k) k = if x.kind = 0 then (k : Int) else Sp.freeFrom (L.drop (k + 1)) (k + 1) := by
  obtain ⟨hk, rfl⟩ := List.getElem?_eq_some_iff.1 hx
  rw [List.drop_eq_getElem_cons hk, Sp.freeFrom]
theorem makeF_any (s : Sls) (x : Sp.Ob) (w : World) :
    Calls Try.prog 76 #[.agg (objC (s, x)).toArray] w fun e w' => e = .returned (.bool (x.kind == 0)) ∧ Below w.heap.size w w' := by
  rw [objV_eq]
  go_enter Try.func76, Try.ntmps76
  go_wp2
  go_ret
  exact ⟨rfl, (Below.refl _ _).alloc (Nat.le_refl _) _⟩
theorem enters_makeF : Enters Try.prog 76 := enters_of Try.func76 (by kernel_rfl) rfl
theorem idxO_any (L : List Sp.Ob) (v : Value) (S : Nat → Prop) (w : World) (hv : Objs w S v L) (hS : ∀ b, S b → b < w.heap.size) :
    Calls Try.prog 75 #[v, .func (.func 76) #[] #[]] w fun e w' => e = .returned (.int .i64 (Sp.freeFrom L 0)) ∧ Below w.heap.size w w' := by
  obtain ⟨a, c, rfl, hm⟩ := hv.form
  have HV : Hid (Objs w S (.slice a L.length c) L) := hv
  have HS : Hid (∀ b, S b → b < w.heap.size) := hS
  have eg := enters_makeF
  unfold maxLen at hm
  clear hv hS
  unfold Enters at eg
  go_enter Try.func75, Try.ntmps75
  go_wp2
  go_loopw [8] (fun i wr => ∃ k : Nat, k ≤ L.length ∧ i = .int .i64 k ∧ Below w.heap.size w wr ∧ Sp.freeFrom L 0 = Sp.freeFrom (L.drop k) k) (fun i _ => L.length - (intOf i).toNat)
  case atStart => exact ⟨0, Nat.zero_le _, rfl, Below.refl _ _, by rw [List.drop_zero]⟩
  case round =>
    obtain ⟨k, hk, rfl, hB, hF⟩ := hrel
    have HF : Hid (Sp.freeFrom L 0 = Sp.freeFrom (L.drop k) k) := hF
    clear hF
    by_cases hlt : k < L.length
    · have hx : L[k]? = some L[k] := List.getElem?_eq_getElem hlt
      obtain ⟨b, o, c', s, he, hSb, h3, h4, -, c0, c1, c2, c3, c4, c5, c6, c7, c8⟩ := (HV.out.on ((On.of hB).less HS.out)).open hx
      obtain ⟨rfl, -, rfl⟩ := Value.slice.inj he
      have HD : Hid (Sp.freeFrom (L.drop k) k = _) := freeFrom_drop L k _ hx
      have HC := makeF_any s L[k]
      rw [objV_eq] at HC
      have HCC : Hid _ := HC
      clear hx he HC
      generalize L[k] = x at *
      unfold maxLen at h4
      go_wp2_with fail
      refine Calls.mono (HCC.out _) ?_
      rintro e w2 ⟨rfl, hb2⟩
      have hB2 := hB.trans (hb2.mono hB.size)
      have HE : Hid (Sp.freeFrom L 0 = if x.kind = 0 then (k : Int) else Sp.freeFrom (L.drop (k + 1)) (k + 1)) := HF.out.trans HD.out
      clear HD HF hb2 hB c0 c1 c2 c3 c4 c5 c6 c7 c8 HCC
      by_cases hz : x.kind = 0
      · have HN : Hid (Sp.freeFrom L 0 = (k : Int)) := HE.out.trans (if_pos hz)
        have hz' : (x.kind == 0) = true := by simpa using hz
        clear HE hz
        go_wp2
        go_ret
        exact ⟨by rw [HN.out]; rfl, hB2⟩
      · have HN : Hid (Sp.freeFrom L 0 = Sp.freeFrom (L.drop (k + 1)) (k + 1)) := HE.out.trans (if_neg hz)
        have hz' : (x.kind == 0) = false := by simpa using hz
        clear HE hz
        go_wp2
        exact ⟨⟨k + 1, by omega, by go_num, hB2, HN.out⟩, by simp [intOf]; omega⟩
    · obtain rfl : k = L.length := by omega
      have HN : Hid (Sp.freeFrom L 0 = -1) := by unfold Hid; rw [HF.out, List.drop_length]; rfl
      clear HF
      go_wp2
      go_ret
      exact ⟨by rw [HN.out]; rfl, hB⟩
theorem ownAll_lists {w : World} {lo : Nat} {ts : List (Sls × Sp.Ob)} {m : Nat → Nat} (h : OwnAll w lo ts m) : ∀ t ∈ ts, Lists w (fun b => lo ≤ b ∧ b < w.heap.size) t := by
  intro t ht
  obtain ⟨i, hi, rfl⟩ := List.getElem_of_mem ht
  have hl := h.2.2.2 i _ (List.getElem?_eq_getElem hi)
  have h0 := h.lo i
  have h1 := h.le (show i + 1 ≤ ts.length from hi)
  have h2 := h.2.2.1
  exact hl.lists.more fun b hb => ⟨by omega, by omega⟩
set_option maxHeartbeats 4000000 in
theorem make_app (L : List Sp.Ob) (s : Sls) (o : Sp.Ob) (v : Value) (S : Nat → Prop) (w : World) (hv : Objs w S v L) (hS : ∀ b, S b → b < w.heap.size) (hf : ∀ o ∈ L, Fits o) (hn : L.length < 40) (hfree : Sp.freeFrom L 0 = -1) (ho : Lists w S (s, o)) (hfo : Fits o) :
    Calls Try.prog 53 #[v, .agg (objC (s, o)).toArray] w fun e w' => ∃ v', e = .returned (.tuple #[v', .int .i64 L.length, .int .i64 0]) ∧ Objs w' (fun b => w.heap.size ≤ b ∧ b < w'.heap.size) v' (L ++ [o]) ∧ Below w.heap.size w w' := by
  have HI : Hid (∀ W, Below w.heap.size w W → Calls Try.prog 75 #[v, .func (.func 76) #[] #[]] W fun e w' => e = .returned (.int .i64 (-1)) ∧ Below W.heap.size W w') := fun W hW => by
    have := idxO_any L v S W (hv.on ((On.of hW).less hS)) (fun b hb => Nat.lt_of_lt_of_le (hS b hb) hW.size)
    rw [hfree] at this
    exact this
  have HO : Hid (∀ W, Below w.heap.size w W → Calls Try.prog 37 #[v] W fun e w' => e = .returned (.slice (some ⟨W.heap.size, 0, none⟩) L.length L.length) ∧ ∃ (ts : List (Sls × Sp.Ob)) (m : Nat → Nat), L = ts.map Prod.snd ∧ Mine w' W.heap.size 40 9 (.slice (some ⟨W.heap.size, 0, none⟩) L.length L.length) (ts.map objC) ∧ OwnAll w' (W.heap.size + 1) ts m ∧ Below W.heap.size W w') := fun W hW => own_any L v S W (hv.on ((On.of hW).less hS)) (fun b hb => Nat.lt_of_lt_of_le (hS b hb) hW.size) hf (by omega)
  have HOO : Hid (∀ W, Below w.heap.size w W → Calls Try.prog 68 #[.agg (objC (s, o)).toArray] W fun e w' => ∃ s' : Sls, e = .returned (.agg (objC (s', o)).toArray) ∧ OwnL w' W.heap.size w'.heap.size (s', o) ∧ Below W.heap.size W w') := fun W hW => ownObject_any s o S W (ho.on ((On.of hW).less hS)) (fun b hb => Nat.lt_of_lt_of_le (hS b hb) hW.size) hfo
  obtain ⟨a, c, rfl, -⟩ := hv.form
  clear hv hS hf ho hfo hfree
  simp only [objV_eq] at HOO ⊢
  have h40 : ¬ (40 : Int) ≤ (L.length : Int) := by omega
  have HNL : Hid (L.length < 40) := hn
  clear hn
  go_enter Try.func53, Try.ntmps53
  go_wp2_with fail
  refine Calls.mono (HI.out _ ((Below.refl _ _).alloc (Nat.le_refl _) _)) ?_
  rintro e w2 ⟨rfl, hb2⟩
  have HB2 : Hid (Below w.heap.size w w2) := ((Below.refl _ _).alloc (Nat.le_refl _) _).trans (hb2.mono (by simp))
  have box2 : Blk w2 w.heap.size #[.int .i64 o.kind, .slice s.d.a s.d.n s.d.c, .slice s.e.a s.e.n s.e.c, .string o.target, .int .i64 o.peer, .slice s.q.a s.q.n s.q.c, .int .i64 o.proc, .int .i64 o.links, .int .i64 o.up] 40 := (Blk.new w _ _).below hb2 (by simp)
  have HBO : Hid _ := box2
  clear hb2 HI box2
  go_wp2_with fail
  refine Calls.mono (HO.out _ HB2.out) ?_
  rintro e w3 ⟨rfl, ts, m, hL, hM, hA, hb3⟩
  have HB3 : Hid (Below w.heap.size w w3) := HB2.out.trans (hb3.mono HB2.out.size)
  have hbox3 := Blk.below HBO.out hb3 (Blk.lt HBO.out)
  have c3 := hbox3.cell
  have hz23 : w.heap.size < w2.heap.size := Blk.lt HBO.out
  have HL : Hid _ := hL
  have HM : Hid (Mine w3 w2.heap.size 40 9 (.slice (some ⟨w2.heap.size, 0, none⟩) L.length L.length) (ts.map objC)) := hM
  have HA : Hid (OwnAll w3 (w2.heap.size + 1) ts m) := hA
  clear hb3 hbox3 hL hM hA HBO HO
  go_wp2_with fail
  refine Calls.mono (HOO.out _ HB3.out) ?_
  rintro e w4 ⟨s4, rfl, hL4, hb4⟩
  have HB4 : Hid (Below w.heap.size w w4) := HB3.out.trans (hb4.mono HB3.out.size)
  have HM4 : Hid (Mine w4 w2.heap.size 40 9 (.slice (some ⟨w2.heap.size, 0, none⟩) L.length L.length) (ts.map objC)) := HM.out.on (On.of hb4) fun g hg => (HM.out.lt g hg).2
  have HA4 : Hid (OwnAll w4 (w2.heap.size + 1) ts m) := HA.out.on ((On.of hb4).less fun b hb => hb.2) hb4.size
  have HL4 : Hid (Lists w4 (fun b => w3.heap.size ≤ b ∧ b < w4.heap.size) (s4, o)) := hL4.lists
  have hz34 : w3.heap.size ≤ w4.heap.size := hb4.size
  have hz24 : w2.heap.size < w3.heap.size := (HM.out.lt _ rfl).2
  clear hb4 hL4 HM HA HB3 HOO c3
  go_wp2_with (with_reducible refine stop_at (.call { callee := .builtin .append, args := #[.tmp 22, .tmp 25], argTypes := #[23, 23] }) rfl ?_)
  unfold Hold
  have HBN := Blk.new w4 #[.int .i64 o.kind, .slice s4.d.a s4.d.n s4.d.c, .slice s4.e.a s4.e.n s4.e.c, .string o.target, .int .i64 o.peer, .slice s4.q.a s4.q.n s4.q.c, .int .i64 o.proc, .int .i64 o.links, .int .i64 o.up] 40
  have hon5 := On.alloc w4 (.cells #[.int .i64 o.kind, .slice s4.d.a s4.d.n s4.d.c, .slice s4.e.a s4.e.n s4.e.c, .string o.target, .int .i64 o.peer, .slice s4.q.a s4.q.n s4.q.c, .int .i64 o.proc, .int .i64 o.links, .int .i64 o.up] 40)
  have HB5 : Hid (Below w.heap.size w (w4.alloc (.cells #[.int .i64 o.kind, .slice s4.d.a s4.d.n s4.d.c, .slice s4.e.a s4.e.n s4.e.c, .string o.target, .int .i64 o.peer, .slice s4.q.a s4.q.n s4.q.c, .int .i64 o.proc, .int .i64 o.links, .int .i64 o.up] 40))) := HB4.out.alloc (by omega) _
  have hz45 : w4.heap.size < (w4.alloc (.cells #[.int .i64 o.kind, .slice s4.d.a s4.d.n s4.d.c, .slice s4.e.a s4.e.n s4.e.c, .string o.target, .int .i64 o.peer, .slice s4.q.a s4.q.n s4.q.c, .int .i64 o.proc, .int .i64 o.links, .int .i64 o.up] 40)).heap.size := by simp
  generalize w4.alloc (.cells #[.int .i64 o.kind, .slice s4.d.a s4.d.n s4.d.c, .slice s4.e.a s4.e.n s4.e.c, .string o.target, .int .i64 o.peer, .slice s4.q.a s4.q.n s4.q.c, .int .i64 o.proc, .int .i64 o.links, .int .i64 o.up] 40) = w5 at *
  have HM5 : Hid (Mine w5 w2.heap.size 40 9 (.slice (some ⟨w2.heap.size, 0, none⟩) L.length L.length) (ts.map objC)) := HM4.out.on hon5 fun g hg => (HM4.out.lt g hg).2
  have HA5 : Hid (OwnAll w5 (w2.heap.size + 1) ts m) := HA4.out.on (hon5.less fun b hb => hb.2) (by omega)
  have HL5 : Hid (Lists w5 (fun b => w3.heap.size ≤ b ∧ b < w4.heap.size) (s4, o)) := HL4.out.on (hon5.less fun b hb => hb.2)
  have HR : Hid (Row w5 (fun b => b = w4.heap.size) 9 (.slice (some ⟨w4.heap.size, 0, none⟩) 1 1) [objC (s4, o)]) := by
    refine Or.inr ⟨w4.heap.size, 0, 1, rfl, rfl, Nat.le_refl _, by decide, fun i cs hi j u hj => ?_⟩
    match i, hi with
    | 0, hi =>
      simp at hi
      subst hi
      rw [HBN.cell]
      simp only [Nat.zero_mul, Nat.zero_add]
      rw [← objV_eq]
      simpa using hj
    | i + 1, hi => simp at hi
  obtain ⟨i0, hi, hz0, hz1, hz2⟩ := info_parts Try.infoObj
  have hLl : L.length = (ts.map objC).length := by rw [HL.out, List.length_map, List.length_map]
  have HLE : Hid (L.length = (ts.map objC).length) := hLl
  clear HM4 HA4 HL4 HB4 hLl HBN hon5
  refine wpList_append_row rfl _ _ _ rfl w2.heap.size 40 i0 (.agg #[.int .i64 0, .slice none 0 0, .slice none 0 0, .string ⟨#[]⟩, .int .i64 0, .slice none 0 0, .int .i64 0, .int .i64 0, .int .i64 0]) 9 128 Try.underlying23 hi hz0 hz1 hz2 rfl (by decide) _ (ts.map objC) rfl HM5.out _ _ [objC (s4, o)] rfl HR.out (even_obj [(s4, o)]) (ones_obj [(s4, o)]) ?_ (by decide) ?_ ?_
  · have := HNL.out
    have := HLE.out
    simp only [List.length_cons, List.length_nil]
    omega
  · omega
  intro v' w6 ho hg
  have hgl : ∀ k, (Value.slice (some ⟨w2.heap.size, 0, none⟩) L.length L.length).ownBlock = some k → k = w2.heap.size := fun k hk => by simp [Value.ownBlock] at hk; exact hk.symm
  have HBF : Hid (Below w.heap.size w w6) := HB5.out.grown hg (by have := HB5.out.size; exact this) (fun j hj => by rw [hgl j hj]; omega)
  have HOF : Hid (Objs w6 (fun b => w.heap.size ≤ b ∧ b < w6.heap.size) v' (L ++ [o])) := by
    have hsz : w5.heap.size ≤ w6.heap.size := (Below.grown (Below.refl w.heap.size w5) hg (by have := HB5.out.size; exact this) (fun j hj => by rw [hgl j hj]; omega)).size
    have honG : On (fun b => b < w5.heap.size ∧ b ≠ w2.heap.size) w5 w6 := fun b hb => hg.block b hb.1 (fun e => hb.2 (hgl b e.symm))
    refine ⟨ts ++ [(s4, o)], by rw [List.map_append, HL.out]; rfl, ?_, fun t ht => ?_⟩
    · rw [List.map_append]
      exact (ho.row (even_obj (ts ++ [(s4, o)]) |> fun h => by rw [List.map_append] at h; exact h)).more fun b hb => ⟨by omega, hb.2⟩
    · rcases List.mem_append.1 ht with h | h
      · exact ((ownAll_lists HA5.out t h).on (honG.less fun b hb => ⟨hb.2, by omega⟩)).more fun b hb => ⟨by omega, by omega⟩
      · simp at h
        subst h
        exact (HL5.out.on (honG.less fun b hb => ⟨by omega, by omega⟩)).more fun b hb => ⟨by omega, by omega⟩
  obtain ⟨r, rfl⟩ := ho.sl
  clear ho hg HM5 HA5 HL5 HR hi hz0 hz1 hz2 HB5 hgl
  go_wp2
  go_ret3
  exact ⟨_, rfl, HOF.out, HBF.out⟩
end Go.Proofs.Ytdciohinlhbliaa
