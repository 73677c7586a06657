/-
  table.Get, rgref5.Get, slices.IndexFunc and slices.Clone of slots, walked.
-/
import Derived.Test.YtaobjpajbpoamaaTRights
import Derived.Lib.SliceRun
namespace Go.Proofs.Ytaobjpajbpoamaa
open Go.RowKit
def capO (x : Option Tb.Slt) : Value := match x with
  | none => .agg #[.int .i64 0, .int .i64 0]
  | some x => .agg #[.int .i64 x.op, .int .i64 x.rt]
def errO (x : Option Tb.Slt) : Int := match x with
  | none => 6
  | some _ => 0
set_option maxHeartbeats 2000000 in
theorem tget_any (l : List Tb.Slt) (fd : Int) (v : Value) (S : Nat → Prop) (w : World) (hv : Tab w S v l) (hS : ∀ b, S b → b < w.heap.size) :
    Calls Try.prog 27 #[v, .int .i64 fd] w fun e w' => e = .returned (.tuple #[capO (Tb.get l fd), .int .i64 (errO (Tb.get l fd))]) ∧ Below w.heap.size w w' := by
  cases hg : Tb.get l fd with
  | none =>
    show Calls Try.prog 27 #[v, .int .i64 fd] w fun e w' => e = .returned (.tuple #[.agg #[.int .i64 0, .int .i64 0], .int .i64 6]) ∧ Below w.heap.size w w'
    rcases Tb.get_none hg with h0 | h0 | ⟨k, x, rfl, hx, hh⟩
    · obtain ⟨a, c, rfl, -⟩ := hv.form
      clear hv hg hS
      go_enter Try.func27, Try.ntmps27
      go_wp2
      refine bodyPost_ret (v := .tuple #[.agg #[.int .i64 0, .int .i64 0], .int .i64 6]) (by simp [results, Try.results27, go_sem]) rfl ⟨rfl, ?_⟩
      exact (Below.refl _ _).alloc (Nat.le_refl _) _
    · have h1 : ¬ fd < 0 := by omega
      obtain ⟨a, c, rfl, -⟩ := hv.form
      clear hv hg hS
      go_enter Try.func27, Try.ntmps27
      go_wp2
      refine bodyPost_ret (v := .tuple #[.agg #[.int .i64 0, .int .i64 0], .int .i64 6]) (by simp [results, Try.results27, go_sem]) rfl ⟨rfl, ?_⟩
      exact (Below.refl _ _).alloc (Nat.le_refl _) _
    · have hlt := (List.getElem?_eq_some_iff.1 hx).1
      obtain ⟨b, o, c, rfl, hb, hc, hm, c0, -, -⟩ := hv.open hx
      have hbl := hS b hb
      rw [hh] at c0
      unfold maxLen at hm
      clear hv hg hS hx
      go_enter Try.func27, Try.ntmps27
      go_wp2
      refine bodyPost_ret (v := .tuple #[.agg #[.int .i64 0, .int .i64 0], .int .i64 6]) (by simp [results, Try.results27, go_sem]) rfl ⟨rfl, ?_⟩
      exact (Below.refl _ _).alloc (Nat.le_refl _) _
  | some x =>
    obtain ⟨k, rfl, hx, hh⟩ := Tb.get_some hg
    show Calls Try.prog 27 #[v, .int .i64 k] w fun e w' => e = .returned (.tuple #[.agg #[.int .i64 x.op, .int .i64 x.rt], .int .i64 0]) ∧ Below w.heap.size w w'
    have hlt := (List.getElem?_eq_some_iff.1 hx).1
    obtain ⟨b, o, c, rfl, hb, hc, hm, c0, c1, c2⟩ := hv.open hx
    have hbl := hS b hb
    rw [hh] at c0
    unfold maxLen at hm
    clear hv hg hS hx
    go_enter Try.func27, Try.ntmps27
    go_wp2
    refine bodyPost_ret (v := .tuple #[.agg #[.int .i64 x.op, .int .i64 x.rt], .int .i64 0]) (by simp [results, Try.results27, go_sem]) rfl ⟨rfl, ?_⟩
    exact (Below.refl _ _).alloc (Nat.le_refl _) _
set_option maxHeartbeats 2000000 in
theorem rget_any (l : List Tb.Slt) (fd : Int) (v : Value) (S : Nat → Prop) (w : World) (hv : Tab w S v l) (hS : ∀ b, S b → b < w.heap.size) :
    Calls Try.prog 28 #[v, .int .i64 fd] w fun e w' => e = .returned (.tuple #[capO (Tb.get l fd), .int .i64 (errO (Tb.get l fd))]) ∧ Below w.heap.size w w' := by
  cases hg : Tb.get l fd with
  | none =>
    show Calls Try.prog 28 #[v, .int .i64 fd] w fun e w' => e = .returned (.tuple #[.agg #[.int .i64 0, .int .i64 0], .int .i64 6]) ∧ Below w.heap.size w w'
    rcases Tb.get_none hg with h0 | h0 | ⟨k, x, rfl, hx, hh⟩
    · obtain ⟨a, c, rfl, -⟩ := hv.form
      clear hv hg hS
      go_enter Try.func28, Try.ntmps28
      go_wp2
      refine bodyPost_ret (v := .tuple #[.agg #[.int .i64 0, .int .i64 0], .int .i64 6]) (by simp [results, Try.results28, go_sem]) rfl ⟨rfl, ?_⟩
      exact (Below.refl _ _).alloc (Nat.le_refl _) _
    · have h1 : ¬ fd < 0 := by omega
      obtain ⟨a, c, rfl, -⟩ := hv.form
      clear hv hg hS
      go_enter Try.func28, Try.ntmps28
      go_wp2
      refine bodyPost_ret (v := .tuple #[.agg #[.int .i64 0, .int .i64 0], .int .i64 6]) (by simp [results, Try.results28, go_sem]) rfl ⟨rfl, ?_⟩
      exact (Below.refl _ _).alloc (Nat.le_refl _) _
    · have hlt := (List.getElem?_eq_some_iff.1 hx).1
      obtain ⟨b, o, c, rfl, hb, hc, hm, c0, -, -⟩ := hv.open hx
      have hbl := hS b hb
      rw [hh] at c0
      unfold maxLen at hm
      clear hv hg hS hx
      go_enter Try.func28, Try.ntmps28
      go_wp2
      refine bodyPost_ret (v := .tuple #[.agg #[.int .i64 0, .int .i64 0], .int .i64 6]) (by simp [results, Try.results28, go_sem]) rfl ⟨rfl, ?_⟩
      exact (Below.refl _ _).alloc (Nat.le_refl _) _
  | some x =>
    obtain ⟨k, rfl, hx, hh⟩ := Tb.get_some hg
    show Calls Try.prog 28 #[v, .int .i64 k] w fun e w' => e = .returned (.tuple #[.agg #[.int .i64 x.op, .int .i64 x.rt], .int .i64 0]) ∧ Below w.heap.size w w'
    have hlt := (List.getElem?_eq_some_iff.1 hx).1
    obtain ⟨b, o, c, rfl, hb, hc, hm, c0, c1, c2⟩ := hv.open hx
    have hbl := hS b hb
    rw [hh] at c0
    unfold maxLen at hm
    clear hv hg hS hx
    go_enter Try.func28, Try.ntmps28
    go_wp2
    refine bodyPost_ret (v := .tuple #[.agg #[.int .i64 x.op, .int .i64 x.rt], .int .i64 0]) (by simp [results, Try.results28, go_sem]) rfl ⟨rfl, ?_⟩
    exact (Below.refl _ _).alloc (Nat.le_refl _) _
def idxT (l : List Tb.Slt) : Int := match Tb.freeFrom l 0 with
  | none => -1
  | some k => (k : Int)
theorem idx_some {l : List Tb.Slt} {k : Nat} (h : Tb.freeFrom l 0 = some k) : idxT l = (k : Int) := by unfold idxT; rw [h]
theorem idx_none {l : List Tb.Slt} (h : Tb.freeFrom l 0 = none) : idxT l = -1 := by unfold idxT; rw [h]
theorem put1_any (x : Tb.Slt) (w : World) :
    Calls Try.prog 62 #[.agg #[.bool x.has, .int .i64 x.op, .int .i64 x.rt]] w fun e w' => e = .returned (.bool (!x.has)) ∧ Below w.heap.size w w' := by
  go_enter Try.func62, Try.ntmps62
  go_wp2
  go_ret
  exact ⟨rfl, (Below.refl _ _).alloc (Nat.le_refl _) _⟩
set_option maxHeartbeats 2000000 in
theorem tidx_any (l : List Tb.Slt) (v : Value) (S : Nat → Prop) (w : World) (hv : Tab w S v l) (hS : ∀ b, S b → b < w.heap.size) :
    Calls Try.prog 61 #[v, .func (.func 62) #[] #[]] w fun e w' => e = .returned (.int .i64 (idxT l)) ∧ Below w.heap.size w w' := by
  obtain ⟨a, c, rfl, hm⟩ := hv.form
  have HT : Hid (Tab w S (.slice a l.length c) l) := hv
  have HS : Hid (∀ b, S b → b < w.heap.size) := hS
  unfold maxLen at hm
  clear hv hS
  go_enter Try.func61, Try.ntmps61
  go_wp2
  go_loopw [8] (fun i wr => ∃ k : Nat, k ≤ l.length ∧ i = .int .i64 k ∧ Below w.heap.size w wr ∧ Tb.freeFrom l 0 = Tb.freeFrom (l.drop k) k) (fun i _ => l.length - (intOf i).toNat)
  case atStart => exact ⟨0, Nat.zero_le _, rfl, Below.refl _ _, by simp⟩
  case round =>
    obtain ⟨k, hk, rfl, hB, hF⟩ := hrel
    have HF : Hid (Tb.freeFrom l 0 = Tb.freeFrom (l.drop k) k) := hF
    clear hF
    by_cases hlt : k < l.length
    · have hx : l[k]? = some l[k] := List.getElem?_eq_getElem hlt
      obtain ⟨b, o, c', he, hb, hc, hm', c0, c1, c2⟩ := (HT.out.below hB HS.out).open hx
      obtain ⟨rfl, -, rfl⟩ := Value.slice.inj he
      have HD : Hid (Tb.freeFrom (l.drop k) k = _) := Tb.freeFrom_drop l k _ hx
      clear hx he hm' hb
      generalize l[k] = x at *
      go_wp2_with fail
      refine (put1_any x _).mono ?_
      rintro e w2 ⟨rfl, hb2⟩
      have hB2 := hB.trans (hb2.mono hB.size)
      have HE := HF.out.trans HD.out
      clear HD HF hb2 hB c0 c1 c2
      cases hh : x.has with
      | true =>
        rw [hh, if_pos rfl] at HE
        have HN : Hid (Tb.freeFrom l 0 = Tb.freeFrom (l.drop (k + 1)) (k + 1)) := HE
        clear HE hh
        go_wp2
        exact ⟨⟨k + 1, by omega, by go_num, hB2, HN.out⟩, by simp [intOf]; omega⟩
      | false =>
        rw [hh] at HE
        have HN : Hid (Tb.freeFrom l 0 = some k) := HE.trans (if_neg (by decide))
        clear HE hh
        go_wp2
        go_ret
        exact ⟨by rw [idx_some HN.out]; rfl, hB2⟩
    · obtain rfl : k = l.length := by omega
      have HN : Hid (Tb.freeFrom l 0 = none) := HF.out.trans (Tb.freeFrom_end l)
      clear HF
      go_wp2
      go_ret
      exact ⟨by rw [idx_none HN.out]; rfl, hB⟩
theorem Mine.empty0 (w : World) (e : TypeId) (k : Nat) : Mine (w.alloc (.cells #[] e)) w.heap.size e k (.slice (some ⟨w.heap.size, 0, none⟩) 0 0) [] :=
  ⟨by simp, Or.inr ⟨w.heap.size, 0, #[], rfl, Nat.le_refl _, Blk.new w #[] e, Nat.le_refl _, Nat.zero_le _, by simp, by simp⟩⟩
set_option maxRecDepth 100000 in
set_option maxHeartbeats 2000000 in
theorem tclone_any (l : List Tb.Slt) (v : Value) (S : Nat → Prop) (w : World) (hv : Tab w S v l) (hS : ∀ b, S b → b < w.heap.size) (hU : l.length * 24 ≤ 140737488355328) :
    Calls Try.prog 63 #[v] w fun e w' => ∃ v', e = .returned v' ∧ Mine w' w.heap.size 60 3 v' (l.map tC) ∧ Below w.heap.size w w' := by
  have q : ∀ (w : World) (a : Option Addr) (n c n' c' : Nat), (binOp .eql 56 (.slice a n c) (.slice none n' c')).run Try.prog w = .ok (.bool a.isNone) w := fun w a n c n' c' => Lib.run_eql_slice_nil w _ _ a n c n' c' Try.underlying56
  obtain ⟨a, c, rfl, hm⟩ := hv.form
  cases a with
  | none =>
    have hl : l = [] := by
      rcases hv with ⟨a', c', h1, h2⟩ | ⟨b, o, c', h1, -⟩
      · exact List.map_eq_nil_iff.1 h2
      · cases h1
    subst hl
    clear hv hS hU hm
    go_enter Try.func63, Try.ntmps63
    go_wp2
    go_ret
    exact ⟨_, rfl, Mine.nil _ _ _ _, Below.refl _ _⟩
  | some a =>
    have HT : Hid (Tab w S (.slice (some a) l.length c) l) := hv
    have HS : Hid (∀ b, S b → b < w.heap.size) := hS
    have HU : Hid (l.length * 24 ≤ 140737488355328) := hU
    clear hv hS hU hm
    go_enter Try.func63, Try.ntmps63
    go_wp2_with (with_reducible refine stop_t (.call { callee := .builtin .append, args := #[.tmp 5, .tmp 6], argTypes := #[56, 56] }) rfl ?_)
    unfold HoldT
    obtain ⟨i0, hi, hz0, hz1, hz2⟩ := info_parts Tb.infoSlot
    refine wpList_append_row rfl _ _ _ rfl w.heap.size 60 i0 (.agg #[.bool false, .int .i64 0, .int .i64 0]) 3 24 Try.underlying56 hi hz0 hz1 hz2 rfl (by decide) _ [] rfl (Mine.empty0 w 60 3) (.slice (some a) l.length c) S (l.map tC) rfl (Row.on HT.out ((On.alloc _ _).less HS.out)) (even_t l) (ones_t l) ?_ (by decide) ?_ ?_
    · rw [List.length_map, List.length_nil, Nat.zero_add]; exact HU.out
    · simp
    intro v2 w2 ho2 hg2
    rw [List.nil_append] at ho2
    clear hi hz0 hz1 hz2
    have HB : Hid (Below w.heap.size w w2) := ((Below.refl _ _).alloc (Nat.le_refl _) _).grown hg2 (by simp) (fun j hj => Nat.le_of_eq (Option.some.inj hj))
    have HM : Hid _ := ho2
    clear ho2 hg2
    go_wp2
    go_ret
    exact ⟨_, rfl, HM.out, HB.out⟩
end Go.Proofs.Ytaobjpajbpoamaa
