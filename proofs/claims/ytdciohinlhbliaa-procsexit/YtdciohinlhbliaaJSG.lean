
/-
  Tables of capabilities as lists: what chapter 7 says, as plain functions.
-/
import Derived.Test.YtdciohinlhbliaaSOwn
import Derived.Laws.BitsAllLaws
import Derived.Laws.BitsLemmas
import Derived.Handy
import Derived.BigQuiet
import Derived.Deep.QuietTactic
import Derived.Lib.SliceRun
import Derived.Deep.RegionHeld3
import Derived.Laws.StructEq
import Derived.Test.YtdciohinlhbliaaSNames
import Derived.Lib.SlBytesConst
import Derived.Lib.SmallJoins
import Derived.Laws.BytesString
import Derived.Test.YtdciohinlhbliaaBW2
import Derived.Deep.CutRange
import Derived.Deep.CutBlock
import Derived.Test.YtdciohinlhbliaaJSA
import Derived.Test.YtdciohinlhbliaaJSB
import Derived.BigRegion
namespace Go.Proofs.Ytdciohinlhbliaa
open Go.RowKit
namespace Tb
/-- A slot: whether it has a capability; its open file, its rights. -/
structure Slt where
  has : Bool
  op : Int
  rt : Int
def none0 : Slt := ⟨false, 0, 0⟩
/-- The slot fd, if it has one. -/
def get (l : List Slt) (fd : Int) : Option Slt := if 0 ≤ fd then (l[fd.toNat]?).filter (fun x => x.has) else none
def right (n : Int) : Bool := decide (0 ≤ n ∧ n ≤ 4095)
def freeFrom : List Slt → Nat → Option Nat
  | [], _ => none
  | x :: t, i => if x.has = true then freeFrom t (i + 1) else some i
def putR (l : List Slt) (op rt : Int) : List Slt × Int × Int :=
  if right rt = false ∨ op < 0 then ([], 0, 3)
  else match freeFrom l 0 with
    | some k => (l.set k ⟨true, op, rt⟩, (k : Int), 0)
    | none => if 10 ≤ l.length then ([], 0, 15) else (l ++ [⟨true, op, rt⟩], (l.length : Int), 0)
/-- How many slots are left when those at the end go that have none. -/
def lastN : List Slt → Nat
  | [] => 0
  | x :: t => if lastN t = 0 then (if x.has = true then 1 else 0) else lastN t + 1
def trim (l : List Slt) : List Slt := l.take (lastN l)
def closeR (l : List Slt) (fd : Int) : List Slt × Int := match get l fd with
  | none => ([], 6)
  | some _ => (trim (l.set fd.toNat none0), 0)
theorem get_nat (l : List Slt) (k : Nat) : get l (k : Int) = (l[k]?).filter (fun x => x.has) := by unfold get; rw [if_pos (by omega), Int.toNat_natCast]
theorem get_some {l : List Slt} {fd : Int} {x : Slt} (h : get l fd = some x) : ∃ k : Nat, fd = (k : Int) ∧ l[k]? = some x ∧ x.has = true := by
  unfold get at h
  by_cases h0 : 0 ≤ fd
  · obtain ⟨k, rfl⟩ := Int.eq_ofNat_of_zero_le h0
    rw [if_pos h0, Int.toNat_natCast] at h
    obtain ⟨h1, h2⟩ := Option.filter_eq_some_iff.1 h
    exact ⟨k, rfl, h1, h2⟩
  · rw [if_neg h0] at h; cases h
theorem get_ok {l : List Slt} {k : Nat} {x : Slt} (h : l[k]? = some x) (hx : x.has = true) : get l (k : Int) = some x := by
  rw [get_nat, h, Option.filter_some, if_pos hx]
theorem get_none {l : List Slt} {fd : Int} (h : get l fd = none) : fd < 0 ∨ (l.length : Int) ≤ fd ∨ ∃ (k : Nat) (x : Slt), fd = (k : Int) ∧ l[k]? = some x ∧ x.has = false := by
  by_cases h0 : fd < 0
  · exact Or.inl h0
  · obtain ⟨k, rfl⟩ := Int.eq_ofNat_of_zero_le (by omega : 0 ≤ fd)
    by_cases h1 : k < l.length
    · refine Or.inr (Or.inr ⟨k, l[k], rfl, List.getElem?_eq_getElem h1, ?_⟩)
      rw [get_nat, List.getElem?_eq_getElem h1, Option.filter_some] at h
      cases hx : l[k].has with
      | false => rfl
      | true => rw [hx] at h; simp at h
    · exact Or.inr (Or.inl (by omega))
theorem freeFrom_drop (l : List Slt) (k : Nat) (x : Slt) (hx : l[k]? = some x) : freeFrom (l.drop k) k = if x.has = true then freeFrom (l.drop (k + 1)) (k + 1) else some k := by
  obtain ⟨hk, rfl⟩ := List.getElem?_eq_some_iff.1 hx
  rw [List.drop_eq_getElem_cons hk, freeFrom]
theorem freeFrom_end (l : List Slt) : freeFrom (l.drop l.length) l.length = none := by rw [List.drop_length]; rfl
theorem freeFrom_lt : ∀ (l : List Slt) (i k : Nat), freeFrom l i = some k → i ≤ k ∧ k < i + l.length ∧ ∃ x, l[k - i]? = some x ∧ x.has = false
  | [], _, _, h => by simp [freeFrom] at h
  | x :: t, i, k, h => by
    rw [freeFrom] at h
    cases hx : x.has with
    | true =>
      rw [hx, if_pos rfl] at h
      obtain ⟨h1, h2, y, h3, h4⟩ := freeFrom_lt t (i + 1) k h
      refine ⟨by omega, by rw [List.length_cons]; omega, y, ?_, h4⟩
      rw [show k - i = (k - (i + 1)) + 1 by omega, List.getElem?_cons_succ]
      exact h3
    | false =>
      rw [hx] at h
      simp at h
      subst h
      exact ⟨Nat.le_refl _, by rw [List.length_cons]; omega, x, by simp, hx⟩
theorem lastN_le : ∀ l : List Slt, lastN l ≤ l.length
  | [] => Nat.le_refl _
  | x :: t => by
    have := lastN_le t
    rw [lastN, List.length_cons]
    split
    · split <;> omega
    · omega
theorem lastN_snoc : ∀ (l : List Slt) (x : Slt), lastN (l ++ [x]) = if x.has = true then l.length + 1 else lastN l
  | [], x => by simp [lastN]
  | y :: t, x => by
    rw [List.cons_append, lastN, lastN_snoc t x, lastN, List.length_cons]
    cases x.has with
    | true => simp
    | false => simp
end Tb
theorem Tb.infoSlot : (Try.prog.info? 87).map (fun i => (i.zero, i.size, i.bytes)) = some (some (.agg #[.bool false, .int .i64 0, .int .i64 0]), 3, 24) := by kernel_rfl
theorem Tb.infoInt : (Try.prog.info? 3).map (fun i => (i.zero, i.size, i.bytes)) = some (some (.int .i64 0), 1, 8) := by kernel_rfl
def tC (x : Tb.Slt) : List Value := [.bool x.has, .int .i64 x.op, .int .i64 x.rt]
theorem even_t (l : List Tb.Slt) : Even 3 (l.map tC) := by
  intro cs h
  obtain ⟨x, _, rfl⟩ := List.mem_map.1 h
  rfl
theorem ones_t (l : List Tb.Slt) : Ones (l.map tC) := by
  intro cs h u hu
  obtain ⟨x, _, rfl⟩ := List.mem_map.1 h
  simp [tC] at hu
  rcases hu with rfl | rfl | rfl <;> rfl
/-- A table lies there. -/
def Tab (w : World) (S : Nat → Prop) (v : Value) (l : List Tb.Slt) : Prop := Row w S 3 v (l.map tC)
theorem Tab.open {w : World} {S : Nat → Prop} {v : Value} {l : List Tb.Slt} (h : Tab w S v l) {k : Nat} {x : Tb.Slt} (hx : l[k]? = some x) :
    ∃ b o c, v = .slice (some ⟨b, o, none⟩) l.length c ∧ S b ∧ l.length ≤ c ∧ c ≤ maxLen ∧ w.cell? ⟨b, o + k * 3, none⟩ = some (.bool x.has) ∧ w.cell? ⟨b, o + k * 3 + 1, none⟩ = some (.int .i64 x.op) ∧ w.cell? ⟨b, o + k * 3 + 2, none⟩ = some (.int .i64 x.rt) := by
  have hlt := (List.getElem?_eq_some_iff.1 hx).1
  obtain ⟨b, o, c, h1, h2, h3, h4, h5⟩ := Row.some h (by rw [List.length_map]; omega)
  rw [List.length_map] at h1 h3
  have hk := h5 k (tC x) (by rw [List.getElem?_map, hx]; rfl)
  exact ⟨b, o, c, h1, h2, h3, h4, by simpa using hk 0 _ rfl, hk 1 _ rfl, hk 2 _ rfl⟩
theorem Tab.form {w : World} {S : Nat → Prop} {v : Value} {l : List Tb.Slt} (h : Tab w S v l) : ∃ a c, v = .slice a l.length c ∧ l.length ≤ maxLen := by
  obtain ⟨a, c, h1, h2⟩ := Row.form h
  rw [List.length_map] at h1 h2
  exact ⟨a, c, h1, h2⟩
theorem Tab.on {w w' : World} {S : Nat → Prop} {v : Value} {l : List Tb.Slt} (h : Tab w S v l) (ho : On S w w') : Tab w' S v l := Row.on h ho
theorem Tab.below {w w' : World} {B : Nat} {S : Nat → Prop} {v : Value} {l : List Tb.Slt} (h : Tab w S v l) (hb : Below B w w') (hS : ∀ b, S b → b < B) : Tab w' S v l := Row.on h ((On.of hb).less hS)
theorem Tab.more {w : World} {S T : Nat → Prop} {v : Value} {l : List Tb.Slt} (h : Tab w S v l) (hT : ∀ b, S b → T b) : Tab w T v l := Row.more h hT
/-- A goal that is held. -/
def HoldT (p : Prop) : Prop := p
theorem stop_t {P : Program} {w : World} {ops : Array Oper} {rest : List Oper} {o : Oper} {a : Act} {Q : Exit → Act → World → Prop} (op : Op) (_ : o.op = op) (h : HoldT (wpList P ops Q (o :: rest) a w)) : wpList P ops Q (o :: rest) a w := h
end Go.Proofs.Ytdciohinlhbliaa


/-
  Sets of rights: package rights' Right and Within, the document's Bits and Within, walked.
-/
namespace Go.Proofs.Ytdciohinlhbliaa
open Go.RowKit
namespace Tb
end Tb
theorem rightsRight (a : Int) (w : World) : Calls Try.prog 77 #[.int .i64 a] w fun e w' => e = .returned (.bool (Tb.right a)) ∧ w' = w := by
  by_cases h0 : 0 ≤ a
  · have h : decide (a ≤ 4095) = Tb.right a := by simp [Tb.right, h0]
    go_enter Try.func77, Try.ntmps77
    go_wp2
    go_ret
    exact ⟨by simp, rfl⟩
  · have h : Tb.right a = false := by simp [Tb.right, h0]
    go_enter Try.func77, Try.ntmps77
    go_wp2
    go_ret
    exact ⟨by simp, rfl⟩
end Go.Proofs.Ytdciohinlhbliaa


/-
  table.Get, rgref5.Get, slices.IndexFunc and slices.Clone of slots, walked.
-/
namespace Go.Proofs.Ytdciohinlhbliaa
open Go.RowKit
def capO (x : Option Tb.Slt) : Value := match x with
  | none => .agg #[.int .i64 0, .int .i64 0]
  | some x => .agg #[.int .i64 x.op, .int .i64 x.rt]
def errO (x : Option Tb.Slt) : Int := match x with
  | none => 6
  | some _ => 0
set_option maxHeartbeats 2000000 in
theorem rget_any (l : List Tb.Slt) (fd : Int) (v : Value) (S : Nat → Prop) (w : World) (hv : Tab w S v l) (hS : ∀ b, S b → b < w.heap.size) :
    Calls Try.prog 21 #[v, .int .i64 fd] w fun e w' => e = .returned (.tuple #[capO (Tb.get l fd), .int .i64 (errO (Tb.get l fd))]) ∧ Below w.heap.size w w' := by
  cases hg : Tb.get l fd with
  | none =>
    show Calls Try.prog 21 #[v, .int .i64 fd] w fun e w' => e = .returned (.tuple #[.agg #[.int .i64 0, .int .i64 0], .int .i64 6]) ∧ Below w.heap.size w w'
    rcases Tb.get_none hg with h0 | h0 | ⟨k, x, rfl, hx, hh⟩
    · obtain ⟨a, c, rfl, -⟩ := hv.form
      clear hv hg hS
      go_enter Try.func21, Try.ntmps21
      go_wp2
      refine bodyPost_ret (v := .tuple #[.agg #[.int .i64 0, .int .i64 0], .int .i64 6]) (by simp [results, Try.results21, go_sem]) rfl ⟨rfl, ?_⟩
      exact (Below.refl _ _).alloc (Nat.le_refl _) _
    · have h1 : ¬ fd < 0 := by omega
      obtain ⟨a, c, rfl, -⟩ := hv.form
      clear hv hg hS
      go_enter Try.func21, Try.ntmps21
      go_wp2
      refine bodyPost_ret (v := .tuple #[.agg #[.int .i64 0, .int .i64 0], .int .i64 6]) (by simp [results, Try.results21, go_sem]) rfl ⟨rfl, ?_⟩
      exact (Below.refl _ _).alloc (Nat.le_refl _) _
    · have hlt := (List.getElem?_eq_some_iff.1 hx).1
      obtain ⟨b, o, c, rfl, hb, hc, hm, c0, -, -⟩ := hv.open hx
      have hbl := hS b hb
      rw [hh] at c0
      unfold maxLen at hm
      clear hv hg hS hx
      go_enter Try.func21, Try.ntmps21
      go_wp2
      refine bodyPost_ret (v := .tuple #[.agg #[.int .i64 0, .int .i64 0], .int .i64 6]) (by simp [results, Try.results21, go_sem]) rfl ⟨rfl, ?_⟩
      exact (Below.refl _ _).alloc (Nat.le_refl _) _
  | some x =>
    obtain ⟨k, rfl, hx, hh⟩ := Tb.get_some hg
    show Calls Try.prog 21 #[v, .int .i64 k] w fun e w' => e = .returned (.tuple #[.agg #[.int .i64 x.op, .int .i64 x.rt], .int .i64 0]) ∧ Below w.heap.size w w'
    have hlt := (List.getElem?_eq_some_iff.1 hx).1
    obtain ⟨b, o, c, rfl, hb, hc, hm, c0, c1, c2⟩ := hv.open hx
    have hbl := hS b hb
    rw [hh] at c0
    unfold maxLen at hm
    clear hv hg hS hx
    go_enter Try.func21, Try.ntmps21
    go_wp2
    refine bodyPost_ret (v := .tuple #[.agg #[.int .i64 x.op, .int .i64 x.rt], .int .i64 0]) (by simp [results, Try.results21, go_sem]) rfl ⟨rfl, ?_⟩
    exact (Below.refl _ _).alloc (Nat.le_refl _) _
def idxT (l : List Tb.Slt) : Int := match Tb.freeFrom l 0 with
  | none => -1
  | some k => (k : Int)
theorem idx_some {l : List Tb.Slt} {k : Nat} (h : Tb.freeFrom l 0 = some k) : idxT l = (k : Int) := by unfold idxT; rw [h]
theorem idx_none {l : List Tb.Slt} (h : Tb.freeFrom l 0 = none) : idxT l = -1 := by unfold idxT; rw [h]
theorem put1_any (x : Tb.Slt) (w : World) :
    Calls Try.prog 79 #[.agg #[.bool x.has, .int .i64 x.op, .int .i64 x.rt]] w fun e w' => e = .returned (.bool (!x.has)) ∧ Below w.heap.size w w' := by
  go_enter Try.func79, Try.ntmps79
  go_wp2
  go_ret
  exact ⟨rfl, (Below.refl _ _).alloc (Nat.le_refl _) _⟩
set_option maxHeartbeats 2000000 in
theorem tidx_any (l : List Tb.Slt) (v : Value) (S : Nat → Prop) (w : World) (hv : Tab w S v l) (hS : ∀ b, S b → b < w.heap.size) :
    Calls Try.prog 78 #[v, .func (.func 79) #[] #[]] w fun e w' => e = .returned (.int .i64 (idxT l)) ∧ Below w.heap.size w w' := by
  obtain ⟨a, c, rfl, hm⟩ := hv.form
  have HT : Hid (Tab w S (.slice a l.length c) l) := hv
  have HS : Hid (∀ b, S b → b < w.heap.size) := hS
  unfold maxLen at hm
  clear hv hS
  go_enter Try.func78, Try.ntmps78
  go_wp2
  go_loopw [8] (fun i wr => ∃ k : Nat, k ≤ l.length ∧ i = .int .i64 k ∧ Below w.heap.size w wr ∧ Tb.freeFrom l 0 = Tb.freeFrom (l.drop k) k) (fun i _ => l.length - (intOf i).toNat)
  case atStart => exact ⟨0, Nat.zero_le _, rfl, Below.refl _ _, by simp⟩
  case round =>
    obtain ⟨k, hk, rfl, hB, hF⟩ := hrel
    have HF : Hid (Tb.freeFrom l 0 = Tb.freeFrom (l.drop k) k) := hF
    clear hF
    by_cases hlt : k < l.length
    · have hx : l[k]? = some l[k] := List.getElem?_eq_getElem hlt
      obtain ⟨b, o, c', he, hb, hc, hm', c0, c1, c2⟩ := (HT.out.below hB HS.out).open hx
      obtain ⟨rfl, -, rfl⟩ := Value.slice.inj he
      have HD : Hid (Tb.freeFrom (l.drop k) k = _) := Tb.freeFrom_drop l k _ hx
      clear hx he hm' hb
      generalize l[k] = x at *
      go_wp2_with fail
      refine (put1_any x _).mono ?_
      rintro e w2 ⟨rfl, hb2⟩
      have hB2 := hB.trans (hb2.mono hB.size)
      have HE := HF.out.trans HD.out
      clear HD HF hb2 hB c0 c1 c2
      cases hh : x.has with
      | true =>
        rw [hh, if_pos rfl] at HE
        have HN : Hid (Tb.freeFrom l 0 = Tb.freeFrom (l.drop (k + 1)) (k + 1)) := HE
        clear HE hh
        go_wp2
        exact ⟨⟨k + 1, by omega, by go_num, hB2, HN.out⟩, by simp [intOf]; omega⟩
      | false =>
        rw [hh] at HE
        have HN : Hid (Tb.freeFrom l 0 = some k) := HE.trans (if_neg (by decide))
        clear HE hh
        go_wp2
        go_ret
        exact ⟨by rw [idx_some HN.out]; rfl, hB2⟩
    · obtain rfl : k = l.length := by omega
      have HN : Hid (Tb.freeFrom l 0 = none) := HF.out.trans (Tb.freeFrom_end l)
      clear HF
      go_wp2
      go_ret
      exact ⟨by rw [idx_none HN.out]; rfl, hB⟩
theorem Mine.empty0 (w : World) (e : TypeId) (k : Nat) : Mine (w.alloc (.cells #[] e)) w.heap.size e k (.slice (some ⟨w.heap.size, 0, none⟩) 0 0) [] :=
  ⟨by simp, Or.inr ⟨w.heap.size, 0, #[], rfl, Nat.le_refl _, Blk.new w #[] e, Nat.le_refl _, Nat.zero_le _, by simp, by simp⟩⟩
set_option maxRecDepth 100000 in
set_option maxHeartbeats 2000000 in
theorem tclone_any (l : List Tb.Slt) (v : Value) (S : Nat → Prop) (w : World) (hv : Tab w S v l) (hS : ∀ b, S b → b < w.heap.size) (hU : l.length * 24 ≤ 140737488355328) :
    Calls Try.prog 80 #[v] w fun e w' => ∃ v', e = .returned v' ∧ Mine w' w.heap.size 87 3 v' (l.map tC) ∧ Below w.heap.size w w' := by
  have q : ∀ (w : World) (a : Option Addr) (n c n' c' : Nat), (binOp .eql 41 (.slice a n c) (.slice none n' c')).run Try.prog w = .ok (.bool a.isNone) w := fun w a n c n' c' => Lib.run_eql_slice_nil w _ _ a n c n' c' Try.underlying41
  obtain ⟨a, c, rfl, hm⟩ := hv.form
  cases a with
  | none =>
    have hl : l = [] := by
      rcases hv with ⟨a', c', h1, h2⟩ | ⟨b, o, c', h1, -⟩
      · exact List.map_eq_nil_iff.1 h2
      · cases h1
    subst hl
    clear hv hS hU hm
    go_enter Try.func80, Try.ntmps80
    go_wp2
    go_ret
    exact ⟨_, rfl, Mine.nil _ _ _ _, Below.refl _ _⟩
  | some a =>
    have HT : Hid (Tab w S (.slice (some a) l.length c) l) := hv
    have HS : Hid (∀ b, S b → b < w.heap.size) := hS
    have HU : Hid (l.length * 24 ≤ 140737488355328) := hU
    clear hv hS hU hm
    go_enter Try.func80, Try.ntmps80
    go_wp2_with (with_reducible refine stop_t (.call { callee := .builtin .append, args := #[.tmp 5, .tmp 6], argTypes := #[41, 41] }) rfl ?_)
    unfold HoldT
    obtain ⟨i0, hi, hz0, hz1, hz2⟩ := info_parts Tb.infoSlot
    refine wpList_append_row rfl _ _ _ rfl w.heap.size 87 i0 (.agg #[.bool false, .int .i64 0, .int .i64 0]) 3 24 Try.underlying41 hi hz0 hz1 hz2 rfl (by decide) _ [] rfl (Mine.empty0 w 87 3) (.slice (some a) l.length c) S (l.map tC) rfl (Row.on HT.out ((On.alloc _ _).less HS.out)) (even_t l) (ones_t l) ?_ (by decide) ?_ ?_
    · rw [List.length_map, List.length_nil, Nat.zero_add]; exact HU.out
    · simp
    intro v2 w2 ho2 hg2
    rw [List.nil_append] at ho2
    clear hi hz0 hz1 hz2
    have HB : Hid (Below w.heap.size w w2) := ((Below.refl _ _).alloc (Nat.le_refl _) _).grown hg2 (by simp) (fun j hj => Nat.le_of_eq (Option.some.inj hj))
    have HM : Hid _ := ho2
    clear ho2 hg2
    go_wp2
    go_ret
    exact ⟨_, rfl, HM.out, HB.out⟩
end Go.Proofs.Ytdciohinlhbliaa


/-
  Tables of one's own: written, parted; what calls leave.
-/
namespace Go.Proofs.Ytdciohinlhbliaa
open Go.RowKit
theorem On.three (w : World) (g i0 i1 i2 : Nat) (v0 v1 v2 : Value) : On (fun b => b ≠ g) w (((w.setCell ⟨g, i0, none⟩ v0).setCell ⟨g, i1, none⟩ v1).setCell ⟨g, i2, none⟩ v2) := fun b hb => by
  rw [heap_setCell_other _ ⟨g, i2, none⟩ b _ hb, heap_setCell_other _ ⟨g, i1, none⟩ b _ hb, heap_setCell_other _ ⟨g, i0, none⟩ b _ hb]
theorem t_row {w : World} {base : Nat} {v : Value} {l : List Tb.Slt} (h : Mine w base 87 3 v (l.map tC)) : Tab w (fun b => base ≤ b ∧ b < w.heap.size) v l := h.row (even_t l)
/-- A slot of a table of one's own is written. -/
theorem t_set {w : World} {base g n c : Nat} {l : List Tb.Slt} (h : Mine w base 87 3 (.slice (some ⟨g, 0, none⟩) n c) (l.map tC)) (k : Nat) (x y : Tb.Slt) (hx : l[k]? = some x) :
    Mine (((w.setCell ⟨g, k * 3, none⟩ (.bool y.has)).setCell ⟨g, k * 3 + 1, none⟩ (.int .i64 y.op)).setCell ⟨g, k * 3 + 2, none⟩ (.int .i64 y.rt)) base 87 3 (.slice (some ⟨g, 0, none⟩) n c) ((l.set k y).map tC) := by
  have hk := (List.getElem?_eq_some_iff.1 hx).1
  have h0 := h.set (even_t l) k 0 (tC x) (.bool y.has) (by rw [List.getElem?_map, hx]; rfl) (by decide)
  have e0 : (l.map tC).set k ((tC x).set 0 (.bool y.has)) = (l.set k ⟨y.has, x.op, x.rt⟩).map tC := by rw [List.map_set]; rfl
  rw [e0] at h0
  have h1 := h0.set (even_t _) k 1 (tC ⟨y.has, x.op, x.rt⟩) (.int .i64 y.op) (by rw [List.getElem?_map, List.getElem?_set_self hk]; rfl) (by decide)
  have e1 : ((l.set k ⟨y.has, x.op, x.rt⟩).map tC).set k ((tC ⟨y.has, x.op, x.rt⟩).set 1 (.int .i64 y.op)) = (l.set k ⟨y.has, y.op, x.rt⟩).map tC := by simp only [List.map_set, List.set_set]; rfl
  rw [e1] at h1
  have h2 := h1.set (even_t _) k 2 (tC ⟨y.has, y.op, x.rt⟩) (.int .i64 y.rt) (by rw [List.getElem?_map, List.getElem?_set_self hk]; rfl) (by decide)
  have e2 : ((l.set k ⟨y.has, y.op, x.rt⟩).map tC).set k ((tC ⟨y.has, y.op, x.rt⟩).set 2 (.int .i64 y.rt)) = (l.set k y).map tC := by simp only [List.map_set, List.set_set]; rfl
  rw [e2] at h2
  exact h2
theorem t_one {w : World} {g : Nat} {x : Tb.Slt} (h : Blk w g (tC x).toArray 87) : Row w (fun b => b = g) 3 (.slice (some ⟨g, 0, none⟩) 1 1) ([x].map tC) := by
  refine Or.inr ⟨g, 0, 1, rfl, rfl, Nat.le_refl _, by decide, fun i cs' hi j u hj => ?_⟩
  match i, hi with
  | 0, hi =>
    simp at hi
    subst hi
    rw [h.cell]
    simp only [Nat.zero_mul, Nat.zero_add]
    simpa using hj
  | i + 1, hi => simp at hi
theorem t_own {w : World} {base : Nat} {v : Value} {l : List Tb.Slt} (h : Mine w base 87 3 v (l.map tC)) {k : Nat} (hk : k < l.length) :
    ∃ g c, v = .slice (some ⟨g, 0, none⟩) l.length c ∧ base ≤ g ∧ g < w.heap.size ∧ l.length ≤ c ∧ c ≤ maxLen ∧ ∀ j, j < l.length * 3 → (∃ u, w.cell? ⟨g, j, none⟩ = some u) ∧ w.frozen? ⟨g, j, none⟩ = false := by
  obtain ⟨a, c, rfl, -, hg⟩ := h.form
  obtain ⟨g, rfl, h1, h2⟩ := hg (by rw [List.length_map]; omega)
  obtain ⟨cur, hb, hn, hc, hm, hsz, -⟩ := h.blk
  rw [List.length_map] at hc ⊢
  refine ⟨g, c, rfl, h1, h2, hc, hm, fun j hj => ⟨?_, hb.free j⟩⟩
  have hjl : j < cur.size := by rw [hsz]; omega
  exact ⟨cur[j], by rw [hb.cell, Array.getElem?_eq_getElem hjl]⟩
/-- What Put, Close, Limit, Dup leave: a table that is new. -/
def TabNew (w w' : World) (v : Value) (l : List Tb.Slt) : Prop := Tab w' (fun b => w.heap.size ≤ b ∧ b < w'.heap.size) v l ∧ Below w.heap.size w w'
end Go.Proofs.Ytdciohinlhbliaa


/-
  table.change, Close, Limit, Dup, walked.
-/
namespace Go.Proofs.Ytdciohinlhbliaa
open Go.RowKit
theorem t_take {w : World} {S : Nat → Prop} {b o c m : Nat} {l : List Tb.Slt} (h : Tab w S (.slice (some ⟨b, o, none⟩) l.length c) l) (hm : m < l.length) : Tab w S (.slice (some ⟨b, o, none⟩) (m + 1) c) (l.take (m + 1)) := by
  obtain ⟨b', o', c', h1, h2, h3, h4, h5⟩ := Row.some h (by rw [List.length_map]; omega)
  rw [List.length_map] at h3
  have e := Value.slice.inj h1
  obtain ⟨e1, -, rfl⟩ := e
  cases e1
  refine Or.inr ⟨b, o, c, by rw [List.length_map, List.length_take, Nat.min_eq_left (by omega)], h2, by rw [List.length_map, List.length_take]; omega, h4, fun i cs hi j u hj => ?_⟩
  rw [List.map_take, List.getElem?_take] at hi
  split at hi
  · exact h5 i cs hi j u hj
  · cases hi
end Go.Proofs.Ytdciohinlhbliaa


/-
  table.Close, Limit, walked.
-/
namespace Go.Proofs.Ytdciohinlhbliaa
open Go.RowKit
end Go.Proofs.Ytdciohinlhbliaa


/-
  rgref5.SameSlots at equal tables, rgref5.Limit, walked.
-/
namespace Go.Proofs.Ytdciohinlhbliaa
open Go.RowKit
theorem tpart_0 (a b : Int) (w : World) : (part 3 #[.int .i64 a, .int .i64 b] 0).run Try.prog w = .ok (.int .i64 a) w := by kernel_rfl
theorem tpart_1 (a b : Int) (w : World) : (part 3 #[.int .i64 a, .int .i64 b] 1).run Try.prog w = .ok (.int .i64 b) w := by kernel_rfl
theorem fieldsC : Try.prog.underlying 50 = some (.struct (Try.prog.fieldsOf 50)) := by unfold Program.fieldsOf; rw [Try.underlying50]
theorem eqC' (n : Nat) (a b : Int) (w : World) : (Op.equalIn (n + 2) 50 (.agg #[.int .i64 a, .int .i64 b]) (.agg #[.int .i64 a, .int .i64 b])).run Try.prog w = .ok true w := by
  rw [run_equalIn_struct w (n + 1) 50 _ _ fieldsC (by kernel_rfl)]
  unfold Program.fieldsOf
  rw [Try.underlying50]
  have q := fun (x y : Int) (w : World) => run_equalIn_int (P := Try.prog) w n 3 .i64 .i64 x y Try.underlying3
  simp [Op.eqFields, tpart_0, tpart_1, q]
theorem partS_0 (h : Bool) (a b : Int) (w : World) : (part 4 #[.bool h, .int .i64 a, .int .i64 b] 0).run Try.prog w = .ok (.bool h) w := by kernel_rfl
theorem partS_1 (h : Bool) (a b : Int) (w : World) : (part 50 #[.bool h, .int .i64 a, .int .i64 b] 1).run Try.prog w = .ok (.agg #[.int .i64 a, .int .i64 b]) w := by kernel_rfl
theorem fieldsS : Try.prog.underlying 87 = some (.struct (Try.prog.fieldsOf 87)) := by unfold Program.fieldsOf; rw [Try.underlying87]
theorem eqS' (n : Nat) (h : Bool) (a b : Int) (w : World) : (Op.equalIn (n + 3) 87 (.agg #[.bool h, .int .i64 a, .int .i64 b]) (.agg #[.bool h, .int .i64 a, .int .i64 b])).run Try.prog w = .ok true w := by
  rw [run_equalIn_struct w (n + 2) 87 _ _ fieldsS (by kernel_rfl)]
  unfold Program.fieldsOf
  rw [Try.underlying87]
  have q := fun (x y : Bool) (w : World) => run_equalIn_bool' (P := Try.prog) w (n + 1) 4 x y Try.underlying4
  have q' := fun (a b : Int) (w : World) => eqC' n a b w
  simp [Op.eqFields, partS_0, partS_1, q, q']
theorem eqS (h : Bool) (a b : Int) (w : World) : (Op.equalIn 10000 87 (.agg #[.bool h, .int .i64 a, .int .i64 b]) (.agg #[.bool h, .int .i64 a, .int .i64 b])).run Try.prog w = .ok true w := eqS' 9997 h a b w
theorem eqSlot (W : World) (x : Tb.Slt) : (binOp .neq 87 (.agg #[.bool x.has, .int .i64 x.op, .int .i64 x.rt]) (.agg #[.bool x.has, .int .i64 x.op, .int .i64 x.rt])).run Try.prog W = .ok (.bool false) W := by
  rw [run_neq_struct, eqS]
  rfl
set_option maxRecDepth 100000 in
set_option maxHeartbeats 4000000 in
theorem same_any (l : List Tb.Slt) (v v' : Value) (S S' : Nat → Prop) (w : World) (hv : Tab w S v l) (hv' : Tab w S' v' l) :
    Calls Try.prog 17 #[v, v'] w fun e w' => e = .returned (.bool true) ∧ Below w.heap.size w w' := by
  obtain ⟨a, c, rfl, hm⟩ := hv.form
  obtain ⟨a', c', rfl, -⟩ := hv'.form
  have HT : Hid (Tab w S (.slice a l.length c) l) := hv
  have HT' : Hid (Tab w S' (.slice a' l.length c') l) := hv'
  unfold maxLen at hm
  clear hv hv'
  go_enter Try.func17, Try.ntmps17
  go_wp2
  go_loopw [13] (fun i wr => ∃ k : Nat, k ≤ l.length ∧ i = .int .i64 k ∧ Below w.heap.size w wr ∧ wr.heap = w.heap) (fun i _ => l.length - (intOf i).toNat)
  case atStart => exact ⟨0, Nat.zero_le _, rfl, Below.refl _ _, rfl⟩
  case round =>
    obtain ⟨k, hk, rfl, hB, hW⟩ := hrel
    by_cases hlt : k < l.length
    · have hx : l[k]? = some l[k] := List.getElem?_eq_getElem hlt
      have ho : ∀ T : Nat → Prop, On T w wr := fun T b _ => by rw [hW]
      obtain ⟨b, o, c1, he, hb, hc, hm1, d0, d1, d2⟩ := (HT.out.on (ho S)).open hx
      obtain ⟨rfl, -, rfl⟩ := Value.slice.inj he
      obtain ⟨b', o', c2, he', hb', hc', hm2, d0', d1', d2'⟩ := (HT'.out.on (ho S')).open hx
      obtain ⟨rfl, -, rfl⟩ := Value.slice.inj he'
      have HB : Hid (Below w.heap.size w wr) := hB
      have HW : Hid (wr.heap = w.heap) := hW
      clear hx he he' hm1 hm2 hb hb' ho hB hW
      generalize l[k] = x at *
      have hq := fun W => eqSlot W x
      go_wp2_with fail
      go_region_held3 (fun w' => w'.cell? ⟨b, o + k * 3, none⟩ = some (.bool x.has) ∧ w'.cell? ⟨b, o + k * 3 + 1, none⟩ = some (.int .i64 x.op) ∧ w'.cell? ⟨b, o + k * 3 + 2, none⟩ = some (.int .i64 x.rt) ∧ w'.cell? ⟨b', o' + k * 3, none⟩ = some (.bool x.has) ∧ w'.cell? ⟨b', o' + k * 3 + 1, none⟩ = some (.int .i64 x.op) ∧ w'.cell? ⟨b', o' + k * 3 + 2, none⟩ = some (.int .i64 x.rt)) (go_keep) (fail)
      go_wp2
      exact ⟨⟨k + 1, by omega, by go_num, HB.out.drew, HW.out⟩, by simp [intOf]; omega⟩
    · obtain rfl : k = l.length := by omega
      go_wp2
      go_ret
      exact ⟨rfl, hB⟩
end Go.Proofs.Ytdciohinlhbliaa


/-
  rglaw5.alive answers true.
-/
namespace Go.Proofs.Ytdciohinlhbliaa
open Go.RowKit
theorem conv_any (l : List UInt8) (v : Value) (w : World) (S : Nat → Prop) (hv : Bytes w S v l) : (convert 22 9 v).run Try.prog w = .ok (.string ⟨l.toArray⟩) w := by
  rcases hv with ⟨a, cap, rfl, hl⟩ | ⟨b, o, cap, rfl, hS, h1, h2, h5⟩
  · rw [List.map_eq_nil_iff.1 hl]
    cases a with
    | none => rw [run_convert_bytes_string w 22 9 5 none 0 cap Try.underlying22 Try.underlying5 Try.underlying9]; rfl
    | some a => exact run_convert_bytes_back (P := Try.prog) w 22 9 5 a cap [] Try.underlying22 Try.underlying5 Try.underlying9 (fun j hj => by simp at hj)
  · rw [List.length_map]
    exact run_convert_bytes_back (P := Try.prog) w 22 9 5 ⟨b, o, none⟩ cap l Try.underlying22 Try.underlying5 Try.underlying9 (fun j hj => by
      have := h5 j (byteC l[j]) (by rw [List.getElem?_map, List.getElem?_eq_getElem hj]; rfl) 0 _ rfl
      rw [Addr.add_lit]
      rwa [Nat.mul_one, Nat.add_zero] at this)
end Go.Proofs.Ytdciohinlhbliaa


/-
  rgref5.SameObject, piece by piece: entries; messages.
-/
namespace Go.Proofs.Ytdciohinlhbliaa
open Go.RowKit
theorem partE_0 (a : ByteArray) (b : Int) (w : World) : (part 9 #[.string a, .int .i64 b] 0).run Try.prog w = .ok (.string a) w := by kernel_rfl
theorem partE_1 (a : ByteArray) (b : Int) (w : World) : (part 3 #[.string a, .int .i64 b] 1).run Try.prog w = .ok (.int .i64 b) w := by kernel_rfl
theorem fieldsEnt : Try.prog.underlying 89 = some (.struct (Try.prog.fieldsOf 89)) := by unfold Program.fieldsOf; rw [Try.underlying89]
theorem eqEnt' (n : Nat) (a : ByteArray) (b : Int) (w : World) : (Op.equalIn (n + 2) 89 (.agg #[.string a, .int .i64 b]) (.agg #[.string a, .int .i64 b])).run Try.prog w = .ok true w := by
  rw [run_equalIn_struct w (n + 1) 89 _ _ fieldsEnt (by kernel_rfl)]
  unfold Program.fieldsOf
  rw [Try.underlying89]
  have q := fun (x y : Int) (w : World) => run_equalIn_int (P := Try.prog) w n 3 .i64 .i64 x y Try.underlying3
  have q' := fun (x y : ByteArray) (w : World) => run_equalIn_string (P := Try.prog) w n 9 x y Try.underlying9
  simp [Op.eqFields, partE_0, partE_1, q, q']
theorem eqEnt (a : ByteArray) (b : Int) (w : World) : (Op.equalIn 10000 89 (.agg #[.string a, .int .i64 b]) (.agg #[.string a, .int .i64 b])).run Try.prog w = .ok true w := eqEnt' 9998 a b w
theorem guardEnt : Try.prog.eqGuardType Try.prog.depth 89 = false := by kernel_rfl
theorem partC_0 (a b : Int) (w : World) : (part 3 #[.int .i64 a, .int .i64 b] 0).run Try.prog w = .ok (.int .i64 a) w := by kernel_rfl
theorem partC_1 (a b : Int) (w : World) : (part 3 #[.int .i64 a, .int .i64 b] 1).run Try.prog w = .ok (.int .i64 b) w := by kernel_rfl
theorem fieldsCap : Try.prog.underlying 50 = some (.struct (Try.prog.fieldsOf 50)) := by unfold Program.fieldsOf; rw [Try.underlying50]
theorem eqCap' (n : Nat) (a b : Int) (w : World) : (Op.equalIn (n + 2) 50 (.agg #[.int .i64 a, .int .i64 b]) (.agg #[.int .i64 a, .int .i64 b])).run Try.prog w = .ok true w := by
  rw [run_equalIn_struct w (n + 1) 50 _ _ fieldsCap (by kernel_rfl)]
  unfold Program.fieldsOf
  rw [Try.underlying50]
  have q := fun (x y : Int) (w : World) => run_equalIn_int (P := Try.prog) w n 3 .i64 .i64 x y Try.underlying3
  simp [Op.eqFields, partC_0, partC_1, q]
theorem eqCap (a b : Int) (w : World) : (Op.equalIn 10000 50 (.agg #[.int .i64 a, .int .i64 b]) (.agg #[.int .i64 a, .int .i64 b])).run Try.prog w = .ok true w := eqCap' 9998 a b w
theorem guardCap : Try.prog.eqGuardType Try.prog.depth 50 = false := by kernel_rfl
set_option maxRecDepth 1000000 in
set_option maxHeartbeats 8000000 in
theorem sblk0_wp (Q : Exit → Act → World → Prop) (K : Act → World → Prop) (W : World) (gA gB : Nat) (es : List Sp.Ent) (S S' : Nat → Prop) (ea ea' : Option Addr) (ec ec' : Nat) (v0 v1 v3 v4 v5 v6 v7 v8 u0 u1 u3 u4 u5 u6 u7 u8 : Value) (hA : Blk W gA #[v0, v1, .slice ea es.length ec, v3, v4, v5, v6, v7, v8] 40) (hB : Blk W gB #[u0, u1, .slice ea' es.length ec', u3, u4, u5, u6, u7, u8] 40) (hE : Row W S 2 (.slice ea es.length ec) (es.map entC)) (hE' : Row W S' 2 (.slice ea' es.length ec') (es.map entC)) (hm : es.length ≤ maxLen)
    (x0 x1 x4 x5 x6 x7 x8 x9 x10 x11 x12 x13 x14 x15 x16 x17 x18 x19 x20 x21 x22 x23 x24 x25 x26 x27 x28 x29 x30 x31 x32 x33 x34 x35 x36 x37 x38 x39 x40 x41 x42 x43 x44 x45 x46 x47 x48 x49 x50 x51 x52 x53 x54 x55 x56 x57 x58 x59 x60 x61 x62 x63 x64 x65 x66 x67 x68 x69 x70 x71 x72 x73 x74 x75 x76 x77 x80 x81 x82 x83 x84 x85 x86 x87 x88 x89 x90 x91 x92 x93 x94 x95 x96 x97 x98 x99 x100 x101 x102 x103 x104 x105 x106 x107 x108 x109 x110 x111 x112 x113 x114 x115 x116 x117 x118 x119 x120 x121 x122 x123 x124 x125 x126 x127 x128 x129 x130 x131 : Value)
    (h : ∀ (y4 y5 y79 y80 y81 y82 y83 y84 y85 y86 y87 y88 y89 y90 y91 y92 y93 : Value) (n : Nat), K ⟨#[x0, x1, .pointer (some ⟨gA, 0, none⟩), .pointer (some ⟨gB, 0, none⟩), y4, y5, x6, x7, x8, x9, x10, x11, x12, x13, x14, x15, x16, x17, x18, x19, x20, x21, x22, x23, x24, x25, x26, x27, x28, x29, x30, x31, x32, x33, x34, x35, x36, x37, x38, x39, x40, x41, x42, x43, x44, x45, x46, x47, x48, x49, x50, x51, x52, x53, x54, x55, x56, x57, x58, x59, x60, x61, x62, x63, x64, x65, x66, x67, x68, x69, x70, x71, x72, x73, x74, x75, x76, x77, .int .i64 es.length, y79, y80, y81, y82, y83, y84, y85, y86, y87, y88, y89, y90, y91, y92, y93, x94, x95, x96, x97, x98, x99, x100, x101, x102, x103, x104, x105, x106, x107, x108, x109, x110, x111, x112, x113, x114, x115, x116, x117, x118, x119, x120, x121, x122, x123, x124, x125, x126, x127, x128, x129, x130, x131], []⟩ (W.drewN n)) :
    Code.wp Try.prog ((Try.f18.body.bind (findBlock 0)).getD .skip) (Exit.then K Q) ⟨#[x0, x1, .pointer (some ⟨gA, 0, none⟩), .pointer (some ⟨gB, 0, none⟩), x4, x5, x6, x7, x8, x9, x10, x11, x12, x13, x14, x15, x16, x17, x18, x19, x20, x21, x22, x23, x24, x25, x26, x27, x28, x29, x30, x31, x32, x33, x34, x35, x36, x37, x38, x39, x40, x41, x42, x43, x44, x45, x46, x47, x48, x49, x50, x51, x52, x53, x54, x55, x56, x57, x58, x59, x60, x61, x62, x63, x64, x65, x66, x67, x68, x69, x70, x71, x72, x73, x74, x75, x76, x77, .int .i64 es.length, .int .i64 0, x80, x81, x82, x83, x84, x85, x86, x87, x88, x89, x90, x91, x92, x93, x94, x95, x96, x97, x98, x99, x100, x101, x102, x103, x104, x105, x106, x107, x108, x109, x110, x111, x112, x113, x114, x115, x116, x117, x118, x119, x120, x121, x122, x123, x124, x125, x126, x127, x128, x129, x130, x131], []⟩ W := by
  have HH : Hid (∀ (y4 y5 y79 y80 y81 y82 y83 y84 y85 y86 y87 y88 y89 y90 y91 y92 y93 : Value) (n : Nat), K ⟨#[x0, x1, .pointer (some ⟨gA, 0, none⟩), .pointer (some ⟨gB, 0, none⟩), y4, y5, x6, x7, x8, x9, x10, x11, x12, x13, x14, x15, x16, x17, x18, x19, x20, x21, x22, x23, x24, x25, x26, x27, x28, x29, x30, x31, x32, x33, x34, x35, x36, x37, x38, x39, x40, x41, x42, x43, x44, x45, x46, x47, x48, x49, x50, x51, x52, x53, x54, x55, x56, x57, x58, x59, x60, x61, x62, x63, x64, x65, x66, x67, x68, x69, x70, x71, x72, x73, x74, x75, x76, x77, .int .i64 es.length, y79, y80, y81, y82, y83, y84, y85, y86, y87, y88, y89, y90, y91, y92, y93, x94, x95, x96, x97, x98, x99, x100, x101, x102, x103, x104, x105, x106, x107, x108, x109, x110, x111, x112, x113, x114, x115, x116, x117, x118, x119, x120, x121, x122, x123, x124, x125, x126, x127, x128, x129, x130, x131], []⟩ (W.drewN n)) := h
  have HE : Hid (Row W S 2 (.slice ea es.length ec) (es.map entC)) := hE
  have HE' : Hid (Row W S' 2 (.slice ea' es.length ec') (es.map entC)) := hE'
  have cA := hA.cell 2
  have cB := hB.cell 2
  simp only [List.getElem?_toArray, List.getElem?_cons_succ, List.getElem?_cons_zero] at cA cB
  unfold maxLen at hm
  clear h hE hE' hA hB
  conv => arg 2; whnf
  go_wp2_with fail
  go_loopw [79] (fun i wr => ∃ k n : Nat, k ≤ es.length ∧ i = .int .i64 k ∧ wr = W.drewN n) (fun i _ => es.length - (intOf i).toNat)
  case atStart => exact ⟨0, 0, Nat.zero_le _, rfl, rfl⟩
  case round =>
    obtain ⟨k, n, hk, rfl, rfl⟩ := hrel
    by_cases hlt : k < es.length
    · obtain ⟨b, o, c, he, hb, h3, h4, h5⟩ := HE.out.some (by rw [List.length_map]; omega)
      obtain ⟨b', o', c', he', hb', h3', h4', h5'⟩ := HE'.out.some (by rw [List.length_map]; omega)
      rw [List.length_map] at he h3 he' h3'
      obtain ⟨rfl, -, rfl⟩ := Value.slice.inj he
      obtain ⟨rfl, -, rfl⟩ := Value.slice.inj he'
      obtain ⟨y, hy⟩ : ∃ y, es[k]? = some y := ⟨_, List.getElem?_eq_getElem hlt⟩
      obtain ⟨d0, d1⟩ := ent_cells h5 hy
      obtain ⟨d2, d3⟩ := ent_cells h5' hy
      have hi : (k : Int) < es.length := by omega
      have heq := fun (w : World) => eqEnt y.name y.obj w
      have hgd := guardEnt
      unfold maxLen at h4 h4'
      clear hy h5 h5' he he'
      go_wp2_with fail
      go_quiet (fail)
      go_wp2
      go_roundw
      case rel => exact ⟨k + 1, _, by omega, by go_num, rfl⟩
      case measure => simp [intOf]; omega
    · go_wp2
      exact HH.out _ _ _ _ _ _ _ _ _ _ _ _ _ _ _ _ _ n
theorem two_boxes (W : World) (A B : Array Value) (t : TypeId) : Blk ((W.alloc (.cells A t)).alloc (.cells B t)).drew W.heap.size A t ∧ Blk ((W.alloc (.cells A t)).alloc (.cells B t)).drew (W.heap.size + 1) B t ∧ Below W.heap.size W ((W.alloc (.cells A t)).alloc (.cells B t)).drew := by
  have h1 : Blk ((W.alloc (.cells A t)).alloc (.cells B t)) W.heap.size A t := (Blk.new W A t).alloc _
  have h2 : Blk ((W.alloc (.cells A t)).alloc (.cells B t)) (W.alloc (.cells A t)).heap.size B t := Blk.new _ _ _
  have hz : (W.alloc (.cells A t)).heap.size = W.heap.size + 1 := by simp
  rw [hz] at h2
  exact ⟨h1, h2, (((Below.refl _ _).alloc (Nat.le_refl _) _).alloc (by simp) _).drew⟩
set_option maxRecDepth 1000000 in
set_option maxHeartbeats 8000000 in
theorem sreg12_wp (Q : Exit → Act → World → Prop) (K : Act → World → Prop) (W : World) (gA gB b o c b' o' c' n k : Nat) (s1 s2 : Sl) (m : Sp.Msg) (_hk : (k : Int) < (n : Int)) (_hc : n ≤ c) (_hc' : n ≤ c') (_hm : c ≤ 2 ^ 63 - 1) (_hm' : c' ≤ 2 ^ 63 - 1) (_hgA : gA < W.heap.size) (_hgB : gB < W.heap.size) (_hb : b < W.heap.size) (_hb' : b' < W.heap.size)
    (_a5 : W.cell? ⟨gA, 5, none⟩ = some (.slice (some ⟨b, o, none⟩) n c)) (_b5 : W.cell? ⟨gB, 5, none⟩ = some (.slice (some ⟨b', o', none⟩) n c'))
    (_m0 : W.cell? ⟨b, o + k * 4, none⟩ = some (.slice s1.a s1.n s1.c)) (_m1 : W.cell? ⟨b, o + k * 4 + 1, none⟩ = some (.bool m.has)) (_m2 : W.cell? ⟨b, o + k * 4 + 2, none⟩ = some (.int .i64 m.op)) (_m3 : W.cell? ⟨b, o + k * 4 + 3, none⟩ = some (.int .i64 m.rt))
    (_n0 : W.cell? ⟨b', o' + k * 4, none⟩ = some (.slice s2.a s2.n s2.c)) (_n1 : W.cell? ⟨b', o' + k * 4 + 1, none⟩ = some (.bool m.has)) (_n2 : W.cell? ⟨b', o' + k * 4 + 2, none⟩ = some (.int .i64 m.op)) (_n3 : W.cell? ⟨b', o' + k * 4 + 3, none⟩ = some (.int .i64 m.rt))
    (x0 x1 x4 x5 x7 x8 x9 x10 x11 x12 x13 x14 x15 x16 x17 x18 x19 x20 x21 x22 x23 x24 x25 x26 x27 x28 x29 x30 x31 x32 x33 x34 x35 x36 x37 x38 x39 x40 x41 x42 x43 x44 x45 x46 x47 x48 x49 x50 x51 x52 x53 x54 x55 x56 x57 x58 x59 x60 x61 x62 x63 x64 x65 x66 x67 x68 x69 x70 x71 x72 x73 x74 x75 x76 x77 x78 x79 x80 x81 x82 x83 x84 x85 x86 x87 x88 x89 x90 x91 x92 x93 x94 x95 x96 x97 x98 x99 x100 x101 x102 x103 x104 x105 x106 x107 x108 x109 x110 x111 x112 x113 x114 x115 x116 x117 x118 x119 x120 x121 x122 x123 x124 x125 x126 x127 x128 x129 x130 x131 : Value)
    (h : ∀ (y100 y101 y102 y103 y104 y105 y106 y107 y108 y109 : Value) (W' : World) (g7 g8 : Nat), g7 ≠ g8 → Blk W' g7 (msgC (s1, m)).toArray 83 → Blk W' g8 (msgC (s2, m)).toArray 83 → Below W.heap.size W W' → K ⟨#[x0, x1, .pointer (some ⟨gA, 0, none⟩), .pointer (some ⟨gB, 0, none⟩), x4, x5, .int .i64 k, .pointer (some ⟨g7, 0, none⟩), .pointer (some ⟨g8, 0, none⟩), x9, x10, x11, x12, x13, x14, x15, x16, x17, x18, x19, x20, x21, x22, x23, x24, x25, x26, x27, x28, x29, x30, x31, x32, x33, x34, x35, x36, x37, x38, x39, x40, x41, x42, x43, x44, x45, x46, x47, x48, x49, x50, x51, x52, x53, x54, x55, x56, x57, x58, x59, x60, x61, x62, x63, x64, x65, x66, x67, x68, x69, x70, x71, x72, x73, x74, x75, x76, x77, x78, x79, x80, x81, x82, x83, x84, x85, x86, x87, x88, x89, x90, x91, x92, x93, x94, x95, x96, x97, x98, x99, y100, y101, y102, y103, y104, y105, y106, y107, y108, y109, x110, x111, x112, x113, x114, x115, x116, x117, x118, x119, x120, x121, x122, x123, x124, x125, x126, x127, x128, x129, x130, x131], []⟩ W') :
    Code.wp Try.prog ((Try.f18.body.bind (findReg 12)).getD .skip) (Exit.then K Q) ⟨#[x0, x1, .pointer (some ⟨gA, 0, none⟩), .pointer (some ⟨gB, 0, none⟩), x4, x5, .int .i64 k, x7, x8, x9, x10, x11, x12, x13, x14, x15, x16, x17, x18, x19, x20, x21, x22, x23, x24, x25, x26, x27, x28, x29, x30, x31, x32, x33, x34, x35, x36, x37, x38, x39, x40, x41, x42, x43, x44, x45, x46, x47, x48, x49, x50, x51, x52, x53, x54, x55, x56, x57, x58, x59, x60, x61, x62, x63, x64, x65, x66, x67, x68, x69, x70, x71, x72, x73, x74, x75, x76, x77, x78, x79, x80, x81, x82, x83, x84, x85, x86, x87, x88, x89, x90, x91, x92, x93, x94, x95, x96, x97, x98, x99, x100, x101, x102, x103, x104, x105, x106, x107, x108, x109, x110, x111, x112, x113, x114, x115, x116, x117, x118, x119, x120, x121, x122, x123, x124, x125, x126, x127, x128, x129, x130, x131], []⟩ W := by
  have HH : Hid (∀ (y100 y101 y102 y103 y104 y105 y106 y107 y108 y109 : Value) (W' : World) (g7 g8 : Nat), g7 ≠ g8 → Blk W' g7 (msgC (s1, m)).toArray 83 → Blk W' g8 (msgC (s2, m)).toArray 83 → Below W.heap.size W W' → K ⟨#[x0, x1, .pointer (some ⟨gA, 0, none⟩), .pointer (some ⟨gB, 0, none⟩), x4, x5, .int .i64 k, .pointer (some ⟨g7, 0, none⟩), .pointer (some ⟨g8, 0, none⟩), x9, x10, x11, x12, x13, x14, x15, x16, x17, x18, x19, x20, x21, x22, x23, x24, x25, x26, x27, x28, x29, x30, x31, x32, x33, x34, x35, x36, x37, x38, x39, x40, x41, x42, x43, x44, x45, x46, x47, x48, x49, x50, x51, x52, x53, x54, x55, x56, x57, x58, x59, x60, x61, x62, x63, x64, x65, x66, x67, x68, x69, x70, x71, x72, x73, x74, x75, x76, x77, x78, x79, x80, x81, x82, x83, x84, x85, x86, x87, x88, x89, x90, x91, x92, x93, x94, x95, x96, x97, x98, x99, y100, y101, y102, y103, y104, y105, y106, y107, y108, y109, x110, x111, x112, x113, x114, x115, x116, x117, x118, x119, x120, x121, x122, x123, x124, x125, x126, x127, x128, x129, x130, x131], []⟩ W') := h
  have hk0 : (0 : Int) ≤ (k : Int) := by omega
  clear h
  refine wp_mono (Q := Exit.then K (fun _ _ _ => False)) ?_ (fun e a w h => by cases e <;> first | exact h | exact h.elim)
  conv => arg 2; whnf
  go_region_held3 (fun w' => w'.cell? ⟨gA, 5, none⟩ = some (.slice (some ⟨b, o, none⟩) n c) ∧ w'.cell? ⟨gB, 5, none⟩ = some (.slice (some ⟨b', o', none⟩) n c') ∧ w'.cell? ⟨b, o + k * 4, none⟩ = some (.slice s1.a s1.n s1.c) ∧ w'.cell? ⟨b, o + k * 4 + 1, none⟩ = some (.bool m.has) ∧ w'.cell? ⟨b, o + k * 4 + 2, none⟩ = some (.int .i64 m.op) ∧ w'.cell? ⟨b, o + k * 4 + 3, none⟩ = some (.int .i64 m.rt) ∧ w'.cell? ⟨b', o' + k * 4, none⟩ = some (.slice s2.a s2.n s2.c) ∧ w'.cell? ⟨b', o' + k * 4 + 1, none⟩ = some (.bool m.has) ∧ w'.cell? ⟨b', o' + k * 4 + 2, none⟩ = some (.int .i64 m.op) ∧ w'.cell? ⟨b', o' + k * 4 + 3, none⟩ = some (.int .i64 m.rt)) (go_keep) (fail)
  · obtain ⟨q1, q2, q3⟩ := two_boxes W (msgC (s1, m)).toArray (msgC (s2, m)).toArray 83
    exact HH.out _ _ _ _ _ _ _ _ _ _ _ W.heap.size (W.heap.size + 1) (by omega) q1 q2 q3
  · obtain ⟨q1, q2, q3⟩ := two_boxes W (msgC (s2, m)).toArray (msgC (s1, m)).toArray 83
    exact HH.out _ _ _ _ _ _ _ _ _ _ _ (W.heap.size + 1) W.heap.size (by omega) q2 q1 q3
theorem msg_cells {w : World} {b o i : Nat} {q : List (Sl × Sp.Msg)} (h5 : ∀ i cs, (q.map msgC)[i]? = some cs → ∀ j u, cs[j]? = some u → w.cell? ⟨b, o + i * 4 + j, none⟩ = some u) {s : Sl} {x : Sp.Msg} (hx : q[i]? = some (s, x)) :
    w.cell? ⟨b, o + i * 4, none⟩ = some (.slice s.a s.n s.c) ∧ w.cell? ⟨b, o + i * 4 + 1, none⟩ = some (.bool x.has) ∧ w.cell? ⟨b, o + i * 4 + 2, none⟩ = some (.int .i64 x.op) ∧ w.cell? ⟨b, o + i * 4 + 3, none⟩ = some (.int .i64 x.rt) := by
  have key := h5 i (msgC (s, x)) (by rw [List.getElem?_map, hx]; rfl)
  exact ⟨key 0 _ rfl, key 1 _ rfl, key 2 _ rfl, key 3 _ rfl⟩
set_option maxRecDepth 1000000 in
set_option maxHeartbeats 8000000 in
theorem sblk2_wp (Q : Exit → Act → World → Prop) (K : Act → World → Prop) (W : World) (gA gB : Nat) (q q' : List (Sl × Sp.Msg)) (S S' : Nat → Prop) (qa qa' : Option Addr) (qc qc' : Nat) (v0 v1 v2 v3 v4 v6 v7 v8 u0 u1 u2 u3 u4 u6 u7 u8 : Value) (hA : Blk W gA #[v0, v1, v2, v3, v4, .slice qa q.length qc, v6, v7, v8] 40) (hB : Blk W gB #[u0, u1, u2, u3, u4, .slice qa' q.length qc', u6, u7, u8] 40) (hS : ∀ b, S b → b < W.heap.size) (hS' : ∀ b, S' b → b < W.heap.size) (hE : Row W S 4 (.slice qa q.length qc) (q.map msgC) ∧ ∀ t ∈ q, Bytes W S (.slice t.1.a t.1.n t.1.c) t.2.data) (hE' : Row W S' 4 (.slice qa' q.length qc') (q'.map msgC) ∧ ∀ t ∈ q', Bytes W S' (.slice t.1.a t.1.n t.1.c) t.2.data) (hqq : q.map Prod.snd = q'.map Prod.snd) (hm : q.length ≤ maxLen)
    (x0 x1 x4 x5 x6 x7 x8 x9 x10 x11 x12 x13 x14 x15 x16 x17 x18 x19 x20 x21 x22 x23 x24 x25 x26 x27 x28 x29 x30 x31 x32 x33 x34 x35 x36 x37 x38 x39 x40 x41 x42 x43 x44 x45 x46 x47 x48 x49 x50 x51 x52 x53 x54 x55 x56 x57 x58 x59 x60 x61 x62 x63 x64 x65 x66 x67 x68 x69 x70 x71 x72 x73 x74 x75 x76 x77 x78 x79 x80 x81 x82 x83 x84 x85 x86 x87 x88 x89 x90 x91 x92 x93 x94 x95 x98 x99 x100 x101 x102 x103 x104 x105 x106 x107 x108 x109 x110 x111 x112 x113 x114 x115 x116 x117 x118 x119 x120 x121 x122 x123 x124 x125 x126 x127 x128 x129 x130 x131 : Value)
    (h : ∀ (y4 y6 y7 y8 y97 y98 y99 y100 y101 y102 y103 y104 y105 y106 y107 y108 y109 y110 y111 y112 y113 y114 y115 y116 y117 y118 y119 y120 y121 y122 y123 y124 y125 y126 y127 y128 y129 y130 y131 : Value) (W' : World), Below W.heap.size W W' → K ⟨#[x0, x1, .pointer (some ⟨gA, 0, none⟩), .pointer (some ⟨gB, 0, none⟩), y4, x5, y6, y7, y8, x9, x10, x11, x12, x13, x14, x15, x16, x17, x18, x19, x20, x21, x22, x23, x24, x25, x26, x27, x28, x29, x30, x31, x32, x33, x34, x35, x36, x37, x38, x39, x40, x41, x42, x43, x44, x45, x46, x47, x48, x49, x50, x51, x52, x53, x54, x55, x56, x57, x58, x59, x60, x61, x62, x63, x64, x65, x66, x67, x68, x69, x70, x71, x72, x73, x74, x75, x76, x77, x78, x79, x80, x81, x82, x83, x84, x85, x86, x87, x88, x89, x90, x91, x92, x93, x94, x95, .int .i64 q.length, y97, y98, y99, y100, y101, y102, y103, y104, y105, y106, y107, y108, y109, y110, y111, y112, y113, y114, y115, y116, y117, y118, y119, y120, y121, y122, y123, y124, y125, y126, y127, y128, y129, y130, y131], []⟩ W') :
    Code.wp Try.prog ((Try.f18.body.bind (findBlock 2)).getD .skip) (Exit.then K Q) ⟨#[x0, x1, .pointer (some ⟨gA, 0, none⟩), .pointer (some ⟨gB, 0, none⟩), x4, x5, x6, x7, x8, x9, x10, x11, x12, x13, x14, x15, x16, x17, x18, x19, x20, x21, x22, x23, x24, x25, x26, x27, x28, x29, x30, x31, x32, x33, x34, x35, x36, x37, x38, x39, x40, x41, x42, x43, x44, x45, x46, x47, x48, x49, x50, x51, x52, x53, x54, x55, x56, x57, x58, x59, x60, x61, x62, x63, x64, x65, x66, x67, x68, x69, x70, x71, x72, x73, x74, x75, x76, x77, x78, x79, x80, x81, x82, x83, x84, x85, x86, x87, x88, x89, x90, x91, x92, x93, x94, x95, .int .i64 q.length, .int .i64 0, x98, x99, x100, x101, x102, x103, x104, x105, x106, x107, x108, x109, x110, x111, x112, x113, x114, x115, x116, x117, x118, x119, x120, x121, x122, x123, x124, x125, x126, x127, x128, x129, x130, x131], []⟩ W := by
  have HH : Hid (∀ (y4 y6 y7 y8 y97 y98 y99 y100 y101 y102 y103 y104 y105 y106 y107 y108 y109 y110 y111 y112 y113 y114 y115 y116 y117 y118 y119 y120 y121 y122 y123 y124 y125 y126 y127 y128 y129 y130 y131 : Value) (W' : World), Below W.heap.size W W' → K ⟨#[x0, x1, .pointer (some ⟨gA, 0, none⟩), .pointer (some ⟨gB, 0, none⟩), y4, x5, y6, y7, y8, x9, x10, x11, x12, x13, x14, x15, x16, x17, x18, x19, x20, x21, x22, x23, x24, x25, x26, x27, x28, x29, x30, x31, x32, x33, x34, x35, x36, x37, x38, x39, x40, x41, x42, x43, x44, x45, x46, x47, x48, x49, x50, x51, x52, x53, x54, x55, x56, x57, x58, x59, x60, x61, x62, x63, x64, x65, x66, x67, x68, x69, x70, x71, x72, x73, x74, x75, x76, x77, x78, x79, x80, x81, x82, x83, x84, x85, x86, x87, x88, x89, x90, x91, x92, x93, x94, x95, .int .i64 q.length, y97, y98, y99, y100, y101, y102, y103, y104, y105, y106, y107, y108, y109, y110, y111, y112, y113, y114, y115, y116, y117, y118, y119, y120, y121, y122, y123, y124, y125, y126, y127, y128, y129, y130, y131], []⟩ W') := h
  have HE : Hid _ := hE
  have HE' : Hid _ := hE'
  have HS : Hid (∀ b, S b → b < W.heap.size) := hS
  have HS' : Hid (∀ b, S' b → b < W.heap.size) := hS'
  have HQQ : Hid (q.map Prod.snd = q'.map Prod.snd) := hqq
  have hql : q'.length = q.length := by
    have := congrArg List.length hqq
    simpa using this.symm
  have HA : Hid _ := hA
  have HB : Hid _ := hB
  have hgA := hA.lt
  have hgB := hB.lt
  unfold maxLen at hm
  have HQL : Hid (q'.length = q.length) := hql
  clear h hE hE' hA hB hqq hS hS' hql
  conv => arg 2; whnf
  go_wp2_with fail
  go_loopw [97] (fun i wr => ∃ k : Nat, k ≤ q.length ∧ i = .int .i64 k ∧ Below W.heap.size W wr) (fun i _ => q.length - (intOf i).toNat)
  case atStart => exact ⟨0, Nat.zero_le _, rfl, Below.refl _ _⟩
  case round =>
    obtain ⟨k, hk, rfl, hBl⟩ := hrel
    have HBL : Hid (Below W.heap.size W wr) := hBl
    have hzr := hBl.size
    clear hBl
    by_cases hlt : k < q.length
    · have hlt' : k < q'.length := by have := HQL.out; omega
      have r1 := HE.out.1.on ((On.of HBL.out).less HS.out)
      have r2 := HE'.out.1.on ((On.of HBL.out).less HS'.out)
      obtain ⟨b, o, c, he, hb, h3, h4, h5⟩ := r1.some (by rw [List.length_map]; omega)
      obtain ⟨b', o', c', he', hb', h3', h4', h5'⟩ := r2.some (by rw [List.length_map]; omega)
      rw [List.length_map] at he h3 he' h3'
      obtain ⟨ea1, en1, ec1⟩ := Value.slice.inj he
      obtain ⟨ea2, en2, ec2⟩ := Value.slice.inj he'
      have hbl := HS.out b hb
      have hbl' := HS'.out b' hb'
      rcases hq1 : q[k] with ⟨s1, m⟩
      rcases hq2 : q'[k] with ⟨s2, m'⟩
      have hmm : m' = m := by
        have e1 : (q.map Prod.snd)[k]? = some m := by rw [List.getElem?_map, List.getElem?_eq_getElem hlt, hq1]; rfl
        have e2 : (q'.map Prod.snd)[k]? = some m' := by rw [List.getElem?_map, List.getElem?_eq_getElem hlt', hq2]; rfl
        rw [HQQ.out, e2] at e1
        exact Option.some.inj e1
      subst hmm
      obtain ⟨d0, d1, d2, d3⟩ := msg_cells h5 (show q[k]? = some (s1, m') by rw [List.getElem?_eq_getElem hlt, hq1])
      obtain ⟨f0, f1, f2, f3⟩ := msg_cells h5' (show q'[k]? = some (s2, m') by rw [List.getElem?_eq_getElem hlt', hq2])
      have y1 : Bytes W S (.slice s1.a s1.n s1.c) m'.data := by have := HE.out.2 _ (List.getElem_mem hlt); rw [hq1] at this; exact this
      have y2 : Bytes W S' (.slice s2.a s2.n s2.c) m'.data := by have := HE'.out.2 _ (List.getElem_mem hlt'); rw [hq2] at this; exact this
      have Y1 : Hid (Bytes W S (.slice s1.a s1.n s1.c) m'.data) := y1
      have Y2 : Hid (Bytes W S' (.slice s2.a s2.n s2.c) m'.data) := y2
      have a5 : wr.cell? ⟨gA, 5, none⟩ = some (.slice (some ⟨b, o, none⟩) q.length c) := by rw [Blk.cell (Blk.below HA.out HBL.out hgA), ← ea1, ec1]; rfl
      have b5 : wr.cell? ⟨gB, 5, none⟩ = some (.slice (some ⟨b', o', none⟩) q.length c') := by rw [Blk.cell (Blk.below HB.out HBL.out hgB), ← ea2, ec2]; rfl
      have hki : (k : Int) < (q.length : Int) := by omega
      have hql := HQL.out
      unfold maxLen at h4 h4'
      clear r1 r2 h5 h5' he he' ea1 en1 ec1 ea2 en2 ec2 hb hb' y1 y2 hq1 hq2
      go_upto_region 12 with fail
      refine sreg12_wp _ _ wr gA gB b o c b' o' c' q.length k s1 s2 m' hki h3 (by omega) h4 h4' (by omega) (by omega) (by omega) (by omega) a5 b5 d0 d1 d2 d3 f0 f1 f2 f3 _ _ _ _ _ _ _ _ _ _ _ _ _ _ _ _ _ _ _ _ _ _ _ _ _ _ _ _ _ _ _ _ _ _ _ _ _ _ _ _ _ _ _ _ _ _ _ _ _ _ _ _ _ _ _ _ _ _ _ _ _ _ _ _ _ _ _ _ _ _ _ _ _ _ _ _ _ _ _ _ _ _ _ _ _ _ _ _ _ _ _ _ _ _ _ _ _ _ _ _ _ _ _ _ _ _ _ _ _ _ _ _ _ _ _ _ _ _ _ _ _ _ _ _ _ _ _ _ _ ?_
      intro y100 y101 y102 y103 y104 y105 y106 y107 y108 y109 W2 g7 g8 hne hb7 hb8 hbl2
      dsimp only
      have HBL2 : Hid (Below W.heap.size W W2) := HBL.out.trans (hbl2.mono hzr)
      have k1 := conv_any m'.data _ W2 S (Row.on Y1.out ((On.of HBL2.out).less HS.out))
      have k2 := conv_any m'.data _ W2 S' (Row.on Y2.out ((On.of HBL2.out).less HS'.out))
      have c7 := hb7.cell
      have c8 := hb8.cell
      have heq := fun (w : World) => eqCap m'.op m'.rt w
      have hgd := guardCap
      unfold msgC at c7 c8
      clear hb7 hb8 hbl2 hql a5 b5 d0 d1 d2 d3 f0 f1 f2 f3 Y1 Y2
      go_wp2
      exact ⟨⟨k + 1, by omega, by go_num, HBL2.out⟩, by simp [intOf]; omega⟩
    · go_wp2
      exact HH.out _ _ _ _ _ _ _ _ _ _ _ _ _ _ _ _ _ _ _ _ _ _ _ _ _ _ _ _ _ _ _ _ _ _ _ _ _ _ _ _ HBL.out
end Go.Proofs.Ytdciohinlhbliaa


/-
  rgref5.SameObject, SameObjects, walked, at objects that are the same.
-/
namespace Go.Proofs.Ytdciohinlhbliaa
open Go.RowKit
set_option maxRecDepth 1000000 in
set_option maxHeartbeats 8000000 in
theorem same_obj (s s' : Sls) (o : Sp.Ob) (S S' : Nat → Prop) (w : World) (h : Lists w S (s, o)) (h' : Lists w S' (s', o)) (hS : ∀ b, S b → b < w.heap.size) (hS' : ∀ b, S' b → b < w.heap.size) :
    Calls Try.prog 18 #[.agg (objC (s, o)).toArray, .agg (objC (s', o)).toArray] w fun e w' => e = .returned (.bool true) ∧ Below w.heap.size w w' := by
  have HL : Hid (Lists w S (s, o)) := h
  have HL' : Hid (Lists w S' (s', o)) := h'
  have HS : Hid (∀ b, S b → b < w.heap.size) := hS
  have HS' : Hid (∀ b, S' b → b < w.heap.size) := hS'
  obtain ⟨ea, ec, he, hem⟩ := Row.form h.2.1
  obtain ⟨ea', ec', he', -⟩ := Row.form h'.2.1
  obtain ⟨q, q', hq1, hq2, hq3⟩ : ∃ q q' : List (Sl × Sp.Msg), o.queue = q.map Prod.snd ∧ (Row w S 4 (.slice s.q.a s.q.n s.q.c) (q.map msgC) ∧ ∀ t ∈ q, Bytes w S (.slice t.1.a t.1.n t.1.c) t.2.data) ∧ o.queue = q'.map Prod.snd ∧ (Row w S' 4 (.slice s'.q.a s'.q.n s'.q.c) (q'.map msgC) ∧ ∀ t ∈ q', Bytes w S' (.slice t.1.a t.1.n t.1.c) t.2.data) := by
    obtain ⟨q, a1, a2, a3⟩ := h.2.2
    obtain ⟨q', b1, b2, b3⟩ := h'.2.2
    exact ⟨q, q', a1, ⟨a2, a3⟩, b1, b2, b3⟩
  obtain ⟨qa, qc, hqe, hqm⟩ := hq2.1.form
  obtain ⟨qa', qc', hqe', -⟩ := hq3.2.1.form
  rw [List.length_map] at he he' hem hqe hqe' hqm
  have hql : q'.length = q.length := by
    have := congrArg List.length (hq1.symm.trans hq3.1)
    simpa using this.symm
  rw [hql] at hqe'
  simp only [objV_eq]
  rw [he, he', hqe, hqe']
  have HQ : Hid (Row w S 4 (.slice qa q.length qc) (q.map msgC) ∧ ∀ t ∈ q, Bytes w S (.slice t.1.a t.1.n t.1.c) t.2.data) := by rw [← hqe]; exact hq2
  have HQ' : Hid (Row w S' 4 (.slice qa' q.length qc') (q'.map msgC) ∧ ∀ t ∈ q', Bytes w S' (.slice t.1.a t.1.n t.1.c) t.2.data) := by rw [← hqe']; exact hq3.2
  have HQQ : Hid (q.map Prod.snd = q'.map Prod.snd) := hq1.symm.trans hq3.1
  have HE : Hid (Row w S 2 (.slice ea o.ents.length ec) (o.ents.map entC)) := by rw [← he]; exact h.2.1
  have HE' : Hid (Row w S' 2 (.slice ea' o.ents.length ec') (o.ents.map entC)) := by rw [← he']; exact h'.2.1
  have HD : Hid (Bytes w S (.slice s.d.a s.d.n s.d.c) o.data) := h.1
  have HD' : Hid (Bytes w S' (.slice s'.d.a s'.d.n s'.d.c) o.data) := h'.1
  unfold maxLen at hem hqm
  clear h h' hS hS' he he' hq1 hq2 hq3 hqe hqe' hql HL HL'
  go_enter Try.func18, Try.ntmps18
  go_upto_region 1 with fail
  have hBx : Below w.heap.size w ((w.alloc (.cells #[.int .i64 o.kind, .slice s.d.a s.d.n s.d.c, .slice ea o.ents.length ec, .string o.target, .int .i64 o.peer, .slice qa q.length qc, .int .i64 o.proc, .int .i64 o.links, .int .i64 o.up] 40)).alloc (.cells #[.int .i64 o.kind, .slice s'.d.a s'.d.n s'.d.c, .slice ea' o.ents.length ec', .string o.target, .int .i64 o.peer, .slice qa' q.length qc', .int .i64 o.proc, .int .i64 o.links, .int .i64 o.up] 40)) := ((Below.refl _ _).alloc (Nat.le_refl _) _).alloc (by simp) _
  have hA : Blk ((w.alloc (.cells #[.int .i64 o.kind, .slice s.d.a s.d.n s.d.c, .slice ea o.ents.length ec, .string o.target, .int .i64 o.peer, .slice qa q.length qc, .int .i64 o.proc, .int .i64 o.links, .int .i64 o.up] 40)).alloc (.cells #[.int .i64 o.kind, .slice s'.d.a s'.d.n s'.d.c, .slice ea' o.ents.length ec', .string o.target, .int .i64 o.peer, .slice qa' q.length qc', .int .i64 o.proc, .int .i64 o.links, .int .i64 o.up] 40)) w.heap.size #[.int .i64 o.kind, .slice s.d.a s.d.n s.d.c, .slice ea o.ents.length ec, .string o.target, .int .i64 o.peer, .slice qa q.length qc, .int .i64 o.proc, .int .i64 o.links, .int .i64 o.up] 40 := (Blk.new w _ _).alloc _
  have hzA : (w.alloc (.cells #[.int .i64 o.kind, .slice s.d.a s.d.n s.d.c, .slice ea o.ents.length ec, .string o.target, .int .i64 o.peer, .slice qa q.length qc, .int .i64 o.proc, .int .i64 o.links, .int .i64 o.up] 40)).heap.size = w.heap.size + 1 := by simp
  have hB : Blk ((w.alloc (.cells #[.int .i64 o.kind, .slice s.d.a s.d.n s.d.c, .slice ea o.ents.length ec, .string o.target, .int .i64 o.peer, .slice qa q.length qc, .int .i64 o.proc, .int .i64 o.links, .int .i64 o.up] 40)).alloc (.cells #[.int .i64 o.kind, .slice s'.d.a s'.d.n s'.d.c, .slice ea' o.ents.length ec', .string o.target, .int .i64 o.peer, .slice qa' q.length qc', .int .i64 o.proc, .int .i64 o.links, .int .i64 o.up] 40)) (w.heap.size + 1) #[.int .i64 o.kind, .slice s'.d.a s'.d.n s'.d.c, .slice ea' o.ents.length ec', .string o.target, .int .i64 o.peer, .slice qa' q.length qc', .int .i64 o.proc, .int .i64 o.links, .int .i64 o.up] 40 := by rw [← hzA]; exact Blk.new _ _ _
  have hzW : ((w.alloc (.cells #[.int .i64 o.kind, .slice s.d.a s.d.n s.d.c, .slice ea o.ents.length ec, .string o.target, .int .i64 o.peer, .slice qa q.length qc, .int .i64 o.proc, .int .i64 o.links, .int .i64 o.up] 40)).alloc (.cells #[.int .i64 o.kind, .slice s'.d.a s'.d.n s'.d.c, .slice ea' o.ents.length ec', .string o.target, .int .i64 o.peer, .slice qa' q.length qc', .int .i64 o.proc, .int .i64 o.links, .int .i64 o.up] 40)).heap.size = w.heap.size + 2 := by simp
  generalize ((w.alloc (.cells #[.int .i64 o.kind, .slice s.d.a s.d.n s.d.c, .slice ea o.ents.length ec, .string o.target, .int .i64 o.peer, .slice qa q.length qc, .int .i64 o.proc, .int .i64 o.links, .int .i64 o.up] 40)).alloc (.cells #[.int .i64 o.kind, .slice s'.d.a s'.d.n s'.d.c, .slice ea' o.ents.length ec', .string o.target, .int .i64 o.peer, .slice qa' q.length qc', .int .i64 o.proc, .int .i64 o.links, .int .i64 o.up] 40)) = W1 at *
  have hon := (On.of hBx).less HS.out
  have hon' := (On.of hBx).less HS'.out
  have k1 := conv_any o.data _ W1 S (Row.on HD.out hon)
  have k2 := conv_any o.data _ W1 S' (Row.on HD'.out hon')
  have HE1 : Hid (Row W1 S 2 (.slice ea o.ents.length ec) (o.ents.map entC)) := Row.on HE.out hon
  have HE1' : Hid (Row W1 S' 2 (.slice ea' o.ents.length ec') (o.ents.map entC)) := Row.on HE'.out hon'
  have HQ1 : Hid (Row W1 S 4 (.slice qa q.length qc) (q.map msgC) ∧ ∀ t ∈ q, Bytes W1 S (.slice t.1.a t.1.n t.1.c) t.2.data) := ⟨Row.on HQ.out.1 hon, fun t ht => Row.on (HQ.out.2 t ht) hon⟩
  have HQ1' : Hid (Row W1 S' 4 (.slice qa' q.length qc') (q'.map msgC) ∧ ∀ t ∈ q', Bytes W1 S' (.slice t.1.a t.1.n t.1.c) t.2.data) := ⟨Row.on HQ'.out.1 hon', fun t ht => Row.on (HQ'.out.2 t ht) hon'⟩
  have HBX : Hid (Below w.heap.size w W1) := hBx
  have HA : Hid (Blk W1 w.heap.size #[.int .i64 o.kind, .slice s.d.a s.d.n s.d.c, .slice ea o.ents.length ec, .string o.target, .int .i64 o.peer, .slice qa q.length qc, .int .i64 o.proc, .int .i64 o.links, .int .i64 o.up] 40) := hA
  have HB : Hid (Blk W1 (w.heap.size + 1) #[.int .i64 o.kind, .slice s'.d.a s'.d.n s'.d.c, .slice ea' o.ents.length ec', .string o.target, .int .i64 o.peer, .slice qa' q.length qc', .int .i64 o.proc, .int .i64 o.links, .int .i64 o.up] 40) := hB
  have HZW : Hid (W1.heap.size = w.heap.size + 2) := hzW
  have cA := hA.cell
  have cB := hB.cell
  clear hBx hA hB hzA hzW hon hon' HD HD' HE HE' HQ HQ'
  go_upto_block 0 with fail
  refine sblk0_wp _ _ W1 w.heap.size (w.heap.size + 1) o.ents S S' ea ea' ec ec' _ _ _ _ _ _ _ _ _ _ _ _ _ _ _ _ HA.out HB.out HE1.out HE1'.out (by unfold maxLen; omega) _ _ _ _ _ _ _ _ _ _ _ _ _ _ _ _ _ _ _ _ _ _ _ _ _ _ _ _ _ _ _ _ _ _ _ _ _ _ _ _ _ _ _ _ _ _ _ _ _ _ _ _ _ _ _ _ _ _ _ _ _ _ _ _ _ _ _ _ _ _ _ _ _ _ _ _ _ _ _ _ _ _ _ _ _ _ _ _ _ _ _ _ _ _ _ _ _ _ _ _ _ _ _ _ _ _ _ _ _ _ _ _ _ _ _ _ _ _ _ _ _ _ _ _ _ _ _ _ ?_
  intro y4 y5 y79 y80 y81 y82 y83 y84 y85 y86 y87 y88 y89 y90 y91 y92 y93 n1
  dsimp only
  have d0 : ∀ g cs t, Blk W1 g cs t → Blk (W1.drewN n1) g cs t := fun g cs t h => h.on (S := fun _ => True) (fun _ _ => by simp) trivial
  have dn : On (fun _ => True) W1 (W1.drewN n1) := fun _ _ => by simp
  have HA2 := d0 _ _ _ HA.out
  have HB2 := d0 _ _ _ HB.out
  have hz2 : (W1.drewN n1).heap.size = w.heap.size + 2 := by simp; exact HZW.out
  have hbx2 : Below w.heap.size w (W1.drewN n1) := HBX.out.trans ⟨rfl, rfl, rfl, Nat.le_refl _, fun _ _ => rfl⟩
  have hq2 : Row (W1.drewN n1) S 4 (.slice qa q.length qc) (q.map msgC) ∧ ∀ t ∈ q, Bytes (W1.drewN n1) S (.slice t.1.a t.1.n t.1.c) t.2.data := ⟨Row.on HQ1.out.1 (dn.less fun _ _ => trivial), fun t ht => Row.on (HQ1.out.2 t ht) (dn.less fun _ _ => trivial)⟩
  have hq2' : Row (W1.drewN n1) S' 4 (.slice qa' q.length qc') (q'.map msgC) ∧ ∀ t ∈ q', Bytes (W1.drewN n1) S' (.slice t.1.a t.1.n t.1.c) t.2.data := ⟨Row.on HQ1'.out.1 (dn.less fun _ _ => trivial), fun t ht => Row.on (HQ1'.out.2 t ht) (dn.less fun _ _ => trivial)⟩
  generalize W1.drewN n1 = W2 at *
  have HA3 : Hid _ := HA2
  have HB3 : Hid _ := HB2
  have HBX2 : Hid (Below w.heap.size w W2) := hbx2
  have HQ2 : Hid _ := hq2
  have HQ2' : Hid _ := hq2'
  have HZ2 : Hid (W2.heap.size = w.heap.size + 2) := hz2
  have cA2 := HA2.cell
  clear d0 dn HA2 HB2 hz2 hbx2 hq2 hq2' cA cB k1 k2 HA HB HQ1 HQ1' HE1 HE1' HBX HZW
  go_upto_block 2 with fail
  refine sblk2_wp _ _ W2 w.heap.size (w.heap.size + 1) q q' S S' qa qa' qc qc' _ _ _ _ _ _ _ _ _ _ _ _ _ _ _ _ HA3.out HB3.out (fun b hb => by have := HS.out b hb; have := HZ2.out; omega) (fun b hb => by have := HS'.out b hb; have := HZ2.out; omega) HQ2.out HQ2'.out HQQ.out (by unfold maxLen; omega) _ _ _ _ _ _ _ _ _ _ _ _ _ _ _ _ _ _ _ _ _ _ _ _ _ _ _ _ _ _ _ _ _ _ _ _ _ _ _ _ _ _ _ _ _ _ _ _ _ _ _ _ _ _ _ _ _ _ _ _ _ _ _ _ _ _ _ _ _ _ _ _ _ _ _ _ _ _ _ _ _ _ _ _ _ _ _ _ _ _ _ _ _ _ _ _ _ _ _ _ _ _ _ _ _ _ _ _ _ _ _ _ _ _ _ _ _ _ _ _ _ _ _ _ _ _ _ _ ?_
  intro y4 y6 y7 y8 y97 y98 y99 y100 y101 y102 y103 y104 y105 y106 y107 y108 y109 y110 y111 y112 y113 y114 y115 y116 y117 y118 y119 y120 y121 y122 y123 y124 y125 y126 y127 y128 y129 y130 y131 W3 hb3
  dsimp only
  have HF : Hid (Below w.heap.size w W3) := HBX2.out.trans (hb3.mono (by have := HZ2.out; omega))
  clear hb3 cA2
  go_wp2
  go_ret
  exact ⟨rfl, HF.out⟩
set_option maxRecDepth 100000 in
set_option maxHeartbeats 4000000 in
theorem same_objs (L : List Sp.Ob) (v v' : Value) (S S' : Nat → Prop) (w : World) (h : Objs w S v L) (h' : Objs w S' v' L) (hS : ∀ b, S b → b < w.heap.size) (hS' : ∀ b, S' b → b < w.heap.size) :
    Calls Try.prog 26 #[v, v'] w fun e w' => e = .returned (.bool true) ∧ Below w.heap.size w w' := by
  obtain ⟨a, c, rfl, hm⟩ := h.form
  obtain ⟨a', c', rfl, -⟩ := h'.form
  have HV : Hid (Objs w S (.slice a L.length c) L) := h
  have HV' : Hid (Objs w S' (.slice a' L.length c') L) := h'
  have HS : Hid (∀ b, S b → b < w.heap.size) := hS
  have HS' : Hid (∀ b, S' b → b < w.heap.size) := hS'
  unfold maxLen at hm
  clear h h' hS hS'
  go_enter Try.func26, Try.ntmps26
  go_wp2_with fail
  go_loopw [13] (fun i wr => ∃ k : Nat, k ≤ L.length ∧ i = .int .i64 k ∧ Below w.heap.size w wr) (fun i _ => L.length - (intOf i).toNat)
  case atStart => exact ⟨0, Nat.zero_le _, rfl, Below.refl _ _⟩
  case round =>
    obtain ⟨k, hk, rfl, hB⟩ := hrel
    have HB : Hid (Below w.heap.size w wr) := hB
    clear hB
    by_cases hlt : k < L.length
    · have hx : L[k]? = some L[k] := List.getElem?_eq_getElem hlt
      obtain ⟨b, o, c2, s, he, hSb, h3, h4, hl, c0, c1, c2', c3, c4, c5, c6, c7, c8⟩ := (HV.out.on ((On.of HB.out).less HS.out)).open hx
      obtain ⟨b', o', c2'', s', he', hSb', h3', h4', hl', e0, e1, e2, e3, e4, e5, e6, e7, e8⟩ := (HV'.out.on ((On.of HB.out).less HS'.out)).open hx
      obtain ⟨rfl, -, rfl⟩ := Value.slice.inj he
      obtain ⟨rfl, -, rfl⟩ := Value.slice.inj he'
      have hz := HB.out.size
      have HSA : Hid (∀ W, Below wr.heap.size wr W → Calls Try.prog 18 #[.agg (objC (s, L[k])).toArray, .agg (objC (s', L[k])).toArray] W fun e w' => e = .returned (.bool true) ∧ Below W.heap.size W w') := fun W hW => same_obj s s' L[k] S S' W (hl.on ((On.of hW).less fun b hb => by have := HS.out b hb; omega)) (hl'.on ((On.of hW).less fun b hb => by have := HS'.out b hb; omega)) (fun b hb => by have := HS.out b hb; have := hW.size; omega) (fun b hb => by have := HS'.out b hb; have := hW.size; omega)
      simp only [objV_eq] at HSA
      have hkz : (k : Int) < (L.length : Int) := by omega
      have hbl := HS.out b hSb
      have hbl' := HS'.out b' hSb'
      unfold maxLen at h4 h4'
      generalize L[k] = x at *
      clear hx he he' hl hl' hSb hSb'
      have HSD := Hid.out HSA wr.drew (Below.refl _ _).drew
      have HSE : Hid _ := HSD
      clear HSD HSA
      go_wp2_with fail
      go_region_with (first
        | (go_at_call 18; go_must (refine Calls.mono HSE.out ?_; rintro e W2 ⟨rfl, hb2⟩)))
      all_goals
        have HB2 : Hid (Below w.heap.size w W2) := HB.out.trans ((Below.refl _ _).drew.trans (hb2.mono hz))
        clear hb2 c0 c1 c2' c3 c4 c5 c6 c7 c8 e0 e1 e2 e3 e4 e5 e6 e7 e8 HSE
        go_wp2
        exact ⟨⟨k + 1, by omega, by go_num, HB2.out⟩, by simp [intOf]; omega⟩
    · go_wp2
      go_ret
      exact ⟨rfl, HB.out⟩
end Go.Proofs.Ytdciohinlhbliaa


/-
  rgref5.SameKernel at equal kernels, walked.
-/
namespace Go.Proofs.Ytdciohinlhbliaa
open Go.RowKit
open Wp
theorem opart_0 (a b : Int) (w : World) : (part 3 #[.int .i64 a, .int .i64 b] 0).run Try.prog w = .ok (.int .i64 a) w := by kernel_rfl
theorem opart_1 (a b : Int) (w : World) : (part 3 #[.int .i64 a, .int .i64 b] 1).run Try.prog w = .ok (.int .i64 b) w := by kernel_rfl
theorem fieldsO : Try.prog.underlying 54 = some (.struct (Try.prog.fieldsOf 54)) := by unfold Program.fieldsOf; rw [Try.underlying54]
theorem eqO' (n : Nat) (a b : Int) (w : World) : (Op.equalIn (n + 2) 54 (.agg #[.int .i64 a, .int .i64 b]) (.agg #[.int .i64 a, .int .i64 b])).run Try.prog w = .ok true w := by
  rw [run_equalIn_struct w (n + 1) 54 _ _ fieldsO (by kernel_rfl)]
  unfold Program.fieldsOf
  rw [Try.underlying54]
  have q := fun (x y : Int) (w : World) => run_equalIn_int (P := Try.prog) w n 3 .i64 .i64 x y Try.underlying3
  simp [Op.eqFields, opart_0, opart_1, q]
theorem eqOpn (W : World) (a b : Int) : (binOp .neq 54 (.agg #[.int .i64 a, .int .i64 b]) (.agg #[.int .i64 a, .int .i64 b])).run Try.prog W = .ok (.bool false) W := by
  rw [run_neq_struct, show (Op.equalIn 10000 54 (.agg #[.int .i64 a, .int .i64 b]) (.agg #[.int .i64 a, .int .i64 b])).run Try.prog W = .ok true W from eqO' 9998 a b W]
  rfl
/-- Slots, as the table's texts have them. -/
def toT (x : Sp.Slt) : Tb.Slt := ⟨x.has, x.op, x.rt⟩
theorem tab_of {w : World} {S : Nat → Prop} {v : Value} {l : List Sp.Slt} (h : Row w S 3 v (l.map sltC)) : Tab w S v (l.map toT) := by
  unfold Tab
  rw [List.map_map]
  exact h
end Go.Proofs.Ytdciohinlhbliaa


/-
  table.Put, walked.
-/
namespace Go.Proofs.Ytdciohinlhbliaa
open Go.RowKit
theorem putR_range {l : List Tb.Slt} {op rt : Int} (h : Tb.right rt = false ∨ op < 0) : Tb.putR l op rt = ([], 0, 3) := by unfold Tb.putR; rw [if_pos h]
theorem putR_at {l : List Tb.Slt} {op rt : Int} {k : Nat} (h : ¬ (Tb.right rt = false ∨ op < 0)) (hk : Tb.freeFrom l 0 = some k) : Tb.putR l op rt = (l.set k ⟨true, op, rt⟩, (k : Int), 0) := by unfold Tb.putR; rw [if_neg h, hk]
theorem putR_full {l : List Tb.Slt} {op rt : Int} (h : ¬ (Tb.right rt = false ∨ op < 0)) (hk : Tb.freeFrom l 0 = none) (hl : 10 ≤ l.length) : Tb.putR l op rt = ([], 0, 15) := by unfold Tb.putR; rw [if_neg h, hk]; exact if_pos hl
theorem putR_app {l : List Tb.Slt} {op rt : Int} (h : ¬ (Tb.right rt = false ∨ op < 0)) (hk : Tb.freeFrom l 0 = none) (hl : ¬ 10 ≤ l.length) : Tb.putR l op rt = (l ++ [⟨true, op, rt⟩], (l.length : Int), 0) := by unfold Tb.putR; rw [if_neg h, hk]; exact if_neg hl
/-- A world in which the capability lies in its box. -/
def PutW (w : World) (op rt : Int) (W : World) : Prop := Below w.heap.size w W ∧ Blk W w.heap.size #[.int .i64 op, .int .i64 rt] 50
theorem tput_range (l : List Tb.Slt) (op rt : Int) (v : Value) (w : World) (h : Tb.right rt = false ∨ op < 0) :
    Calls Try.prog 57 #[v, .agg #[.int .i64 op, .int .i64 rt]] w fun e w' => ∃ v', e = .returned (.tuple #[v', .int .i64 (Tb.putR l op rt).2.1, .int .i64 (Tb.putR l op rt).2.2]) ∧ TabNew w w' v' (Tb.putR l op rt).1 := by
  rw [putR_range h]
  show Calls Try.prog 57 #[v, .agg #[.int .i64 op, .int .i64 rt]] w fun e w' => ∃ v', e = .returned (.tuple #[v', .int .i64 0, .int .i64 3]) ∧ TabNew w w' v' []
  have HR : Hid (∀ W, Calls Try.prog 77 #[.int .i64 rt] W fun e w' => e = .returned (.bool (Tb.right rt)) ∧ w' = W) := fun W => rightsRight rt W
  cases hr : Tb.right rt with
  | false =>
    rw [hr] at HR
    clear h hr
    go_enter Try.func57, Try.ntmps57
    go_wp2_with fail
    refine (HR.out _).mono ?_
    rintro e w1 ⟨rfl, rfl⟩
    go_wp2
    go_ret3
    exact ⟨_, rfl, Row.nil _ _ _ _ _, (Below.refl _ _).alloc (Nat.le_refl _) _⟩
  | true =>
    rw [hr] at HR
    have h0 : op < 0 := by
      rcases h with h | h
      · rw [hr] at h; cases h
      · exact h
    clear h hr
    go_enter Try.func57, Try.ntmps57
    go_wp2_with fail
    refine (HR.out _).mono ?_
    rintro e w1 ⟨rfl, rfl⟩
    go_wp2
    go_ret3
    exact ⟨_, rfl, Row.nil _ _ _ _ _, (Below.refl _ _).alloc (Nat.le_refl _) _⟩
set_option maxRecDepth 100000 in
set_option maxHeartbeats 4000000 in
theorem tput_full (l : List Tb.Slt) (op rt : Int) (v : Value) (S : Nat → Prop) (w : World) (hv : Tab w S v l) (hS : ∀ b, S b → b < w.heap.size) (hr : Tb.right rt = true) (h0 : ¬ op < 0) (hf : Tb.freeFrom l 0 = none) (hl : 10 ≤ l.length) :
    Calls Try.prog 57 #[v, .agg #[.int .i64 op, .int .i64 rt]] w fun e w' => ∃ v', e = .returned (.tuple #[v', .int .i64 0, .int .i64 15]) ∧ TabNew w w' v' [] := by
  obtain ⟨a, c, rfl, hm⟩ := hv.form
  have HR : Hid (∀ W, Calls Try.prog 77 #[.int .i64 rt] W fun e w' => e = .returned (.bool true) ∧ w' = W) := fun W => by have := rightsRight rt W; rw [hr] at this; exact this
  have HT : Hid (Tab w S (.slice a l.length c) l) := hv
  have HS : Hid (∀ b, S b → b < w.heap.size) := hS
  have HF : Hid (Tb.freeFrom l 0 = none) := hf
  clear hv hS hm hr hf
  go_enter Try.func57, Try.ntmps57
  go_wp2_with fail
  refine (HR.out _).mono ?_
  rintro e w1 ⟨rfl, rfl⟩
  clear HR
  go_wp2_with fail
  have HB0 : Hid (Below w.heap.size w (w.alloc (.cells #[.int .i64 op, .int .i64 rt] 50))) := (Below.refl _ _).alloc (Nat.le_refl _) _
  have HK0 : Hid (Blk (w.alloc (.cells #[.int .i64 op, .int .i64 rt] 50)) w.heap.size #[.int .i64 op, .int .i64 rt] 50) := Blk.new w _ _
  have hz0 : (w.alloc (.cells #[.int .i64 op, .int .i64 rt] 50)).heap.size = w.heap.size + 1 := by simp
  have HZ0 : Hid _ := hz0
  clear hz0
  generalize w.alloc (.cells #[.int .i64 op, .int .i64 rt] 50) = w0 at *
  refine (tidx_any l (.slice a l.length c) S w0 (HT.out.below HB0.out HS.out) (fun b hb => by have := HS.out b hb; have := HZ0.out; omega)).mono ?_
  rintro e w1 ⟨rfl, hb1⟩
  rw [idx_none HF.out]
  have HB1 : Hid (Below w.heap.size w w1) := HB0.out.trans (hb1.mono (by have := HZ0.out; omega))
  have HK1 : Hid (Blk w1 w.heap.size #[.int .i64 op, .int .i64 rt] 50) := HK0.out.below hb1 (by have := HZ0.out; omega)
  have c0 : w1.cell? ⟨w.heap.size, 0, none⟩ = some (.int .i64 op) := HK1.out.cell 0
  have c1 : w1.cell? ⟨w.heap.size, 1, none⟩ = some (.int .i64 rt) := HK1.out.cell 1
  have hlt1 := HK1.out.lt
  clear HB0 HK0 HZ0 hb1
  have hl' : (10 : Int) ≤ (l.length : Int) := by omega
  go_wp2
  go_ret3
  exact ⟨_, rfl, Row.nil _ _ _ _ _, HB1.out⟩
end Go.Proofs.Ytdciohinlhbliaa


/-
  table.Put, walked.
-/
namespace Go.Proofs.Ytdciohinlhbliaa
open Go.RowKit
set_option maxRecDepth 100000 in
set_option maxHeartbeats 4000000 in
theorem tput_app (l : List Tb.Slt) (op rt : Int) (v : Value) (S : Nat → Prop) (w : World) (hv : Tab w S v l) (hS : ∀ b, S b → b < w.heap.size) (hU : l.length * 24 ≤ 140737488355328) (hr : Tb.right rt = true) (h0 : ¬ op < 0) (hf : Tb.freeFrom l 0 = none) (hl : ¬ 10 ≤ l.length) :
    Calls Try.prog 57 #[v, .agg #[.int .i64 op, .int .i64 rt]] w fun e w' => ∃ v', e = .returned (.tuple #[v', .int .i64 (l.length : Int), .int .i64 0]) ∧ TabNew w w' v' (l ++ [⟨true, op, rt⟩]) := by
  obtain ⟨a, c, rfl, hm⟩ := hv.form
  have HR : Hid (∀ W, Calls Try.prog 77 #[.int .i64 rt] W fun e w' => e = .returned (.bool true) ∧ w' = W) := fun W => by have := rightsRight rt W; rw [hr] at this; exact this
  have HT : Hid (Tab w S (.slice a l.length c) l) := hv
  have HS : Hid (∀ b, S b → b < w.heap.size) := hS
  have HU : Hid (l.length * 24 ≤ 140737488355328) := hU
  have HF : Hid (Tb.freeFrom l 0 = none) := hf
  clear hv hS hU hm hr hf
  go_enter Try.func57, Try.ntmps57
  go_wp2_with fail
  refine (HR.out _).mono ?_
  rintro e w1 ⟨rfl, rfl⟩
  clear HR
  go_wp2_with fail
  have HB0 : Hid (Below w.heap.size w (w.alloc (.cells #[.int .i64 op, .int .i64 rt] 50))) := (Below.refl _ _).alloc (Nat.le_refl _) _
  have HK0 : Hid (Blk (w.alloc (.cells #[.int .i64 op, .int .i64 rt] 50)) w.heap.size #[.int .i64 op, .int .i64 rt] 50) := Blk.new w _ _
  have hz0 : (w.alloc (.cells #[.int .i64 op, .int .i64 rt] 50)).heap.size = w.heap.size + 1 := by simp
  have HZ0 : Hid _ := hz0
  clear hz0
  generalize w.alloc (.cells #[.int .i64 op, .int .i64 rt] 50) = w0 at *
  refine (tidx_any l (.slice a l.length c) S w0 (HT.out.below HB0.out HS.out) (fun b hb => by have := HS.out b hb; have := HZ0.out; omega)).mono ?_
  rintro e w1 ⟨rfl, hb1⟩
  rw [idx_none HF.out]
  have HB1 : Hid (Below w.heap.size w w1) := HB0.out.trans (hb1.mono (by have := HZ0.out; omega))
  have HK1 : Hid (Blk w1 w.heap.size #[.int .i64 op, .int .i64 rt] 50) := HK0.out.below hb1 (by have := HZ0.out; omega)
  have c0 : w1.cell? ⟨w.heap.size, 0, none⟩ = some (.int .i64 op) := HK1.out.cell 0
  have c1 : w1.cell? ⟨w.heap.size, 1, none⟩ = some (.int .i64 rt) := HK1.out.cell 1
  have hlt1 := HK1.out.lt
  clear HB0 HK0 HZ0 hb1
  have hl' : ¬ (10 : Int) ≤ (l.length : Int) := by omega
  have hne : ¬ w1.heap.size = w.heap.size := by omega
  have hne' : ¬ w.heap.size = w1.heap.size := by omega
  have HPd : Hid (PutW w op rt w1.drew) := ⟨HB1.out.drew, HK1.out⟩
  have HPa : Hid (∀ W o, PutW w op rt W → PutW w op rt (W.alloc o)) := fun W o h => ⟨h.1.alloc h.1.size _, h.2.alloc _⟩
  have HC : Hid (∀ W, PutW w op rt W → Calls Try.prog 80 #[.slice a l.length c] W fun e w' => ∃ v', e = .returned v' ∧ Mine w' W.heap.size 87 3 v' (l.map tC) ∧ Below W.heap.size W w' ∧ PutW w op rt w' ∧ (w'.cell? ⟨w.heap.size, 0, none⟩ = some (.int .i64 op) ∧ w'.cell? ⟨w.heap.size, 1, none⟩ = some (.int .i64 rt)) ∧ w.heap.size < w'.heap.size ∧ Hid (∀ g cs t, Blk W g cs t → Blk w' g cs t)) := fun W hW => by
    refine (tclone_any l (.slice a l.length c) S W (HT.out.below hW.1 HS.out) (fun b hb => by have := HS.out b hb; have := hW.1.size; omega) HU.out).mono ?_
    rintro e w' ⟨v', rfl, h1, h2⟩
    have hk : Blk w' w.heap.size #[.int .i64 op, .int .i64 rt] 50 := hW.2.below h2 hW.2.lt
    exact ⟨v', rfl, h1, h2, ⟨hW.1.trans (h2.mono hW.1.size), hk⟩, ⟨hk.cell 0, hk.cell 1⟩, hk.lt, fun g cs t h => h.below h2 h.lt⟩
  go_wp2_with fail
  go_region_held3 (fun w' => w'.cell? ⟨w.heap.size, 0, none⟩ = some (.int .i64 op) ∧ w'.cell? ⟨w.heap.size, 1, none⟩ = some (.int .i64 rt)) (go_keep) (first | (refine Calls.mono (HC.out _ (by first | exact HPd.out | exact HPa.out _ _ HPd.out)) ?_; rintro e w2 ⟨v2, rfl, hm2, hb2, hp2, ⟨hs2, hs3⟩, hl2, hbb⟩; try (have hg : Blk w2 w1.heap.size #[.bool false, .int .i64 0, .int .i64 0] 87 := hbb.out _ _ _ (Blk.new w1.drew _ _); have hgl := hg.lt; have hgc0 := hg.cell 0; have hgc1 := hg.cell 1; have hgc2 := hg.cell 2; have hgf0 := hg.free 0; have hgf1 := hg.free 1; have hgf2 := hg.free 2); go_wp2_with fail))
  · clear hs2 hs3 hl2 hbb HC HPa HPd c0 c1 HK1 HB1 HT HS HU
    have HB3 : Hid (Below w.heap.size w (w2.alloc (.cells #[.bool true, .int .i64 op, .int .i64 rt] 87))) := hp2.1.alloc hp2.1.size _
    have HK3 : Hid (Blk (w2.alloc (.cells #[.bool true, .int .i64 op, .int .i64 rt] 87)) w2.heap.size #[.bool true, .int .i64 op, .int .i64 rt] 87) := Blk.new w2 _ _
    have HM3 : Hid (Mine (w2.alloc (.cells #[.bool true, .int .i64 op, .int .i64 rt] 87)) w.heap.size 87 3 v2 (l.map tC)) := (hm2.on (On.alloc _ _) fun g hg => (hm2.lt g hg).2).base fun g hg => by have := (hm2.lt g hg).1; have e : w1.drew.heap.size = w1.heap.size := rfl; omega
    have HN3 : Hid (∀ g, v2.ownBlock = some g → g ≠ w2.heap.size) := fun g hg => by have := (hm2.lt g hg).2; omega
    have hG : w.heap.size < w2.heap.size := hp2.2.lt
    clear hm2 hb2 hp2
    generalize w2.alloc (.cells #[.bool true, .int .i64 op, .int .i64 rt] 87) = W3 at *
    generalize w2.heap.size = G at *
    have hGl := HK3.out.lt
    have d0 : W3.cell? ⟨G, 0, none⟩ = some (.bool true) := HK3.out.cell 0
    have d1 : W3.cell? ⟨G, 1, none⟩ = some (.int .i64 op) := HK3.out.cell 1
    have d2 : W3.cell? ⟨G, 2, none⟩ = some (.int .i64 rt) := HK3.out.cell 2
    go_wp2_with (with_reducible refine stop_t (.call { callee := .builtin .append, args := #[.tmp 34, .tmp 36], argTypes := #[41, 41] }) rfl ?_)
    unfold HoldT
    have HR3 : Hid (Row (W3.alloc (.cells #[.bool true, .int .i64 op, .int .i64 rt] 87)) (fun b => b = W3.heap.size) 3 (.slice (some ⟨W3.heap.size, 0, none⟩) 1 1) ([(⟨true, op, rt⟩ : Tb.Slt)].map tC)) := t_one (Blk.new W3 (tC ⟨true, op, rt⟩).toArray 87)
    have HM4 : Hid (Mine (W3.alloc (.cells #[.bool true, .int .i64 op, .int .i64 rt] 87)) w.heap.size 87 3 v2 (l.map tC)) := HM3.out.on (On.alloc _ _) fun g hg => (HM3.out.lt g hg).2
    have HB4 : Hid (Below w.heap.size w (W3.alloc (.cells #[.bool true, .int .i64 op, .int .i64 rt] 87))) := HB3.out.alloc HB3.out.size _
    clear HM3 HB3 HK3 HN3 d0 d1 d2
    generalize W3.alloc (.cells #[.bool true, .int .i64 op, .int .i64 rt] 87) = W4 at *
    obtain ⟨i0, hi, hz0, hz1, hz2⟩ := info_parts Tb.infoSlot
    refine wpList_append_row rfl _ _ _ rfl w.heap.size 87 i0 (.agg #[.bool false, .int .i64 0, .int .i64 0]) 3 24 Try.underlying41 hi hz0 hz1 hz2 rfl (by decide) _ (l.map tC) rfl HM4.out _ _ _ rfl HR3.out (even_t _) (ones_t _) ?_ (by decide) HB4.out.size ?_
    · rw [List.length_map, List.length_map, List.length_cons, List.length_nil]; omega
    intro v5 W5 ho5 hg5
    clear hi hz0 hz1 hz2
    rw [← List.map_append] at ho5
    have HB5 : Hid (Below w.heap.size w W5) := HB4.out.grown hg5 HB4.out.size (fun j hj => (HM4.out.lt j hj).1)
    have HM5 : Hid (Tab W5 (fun b => w.heap.size ≤ b ∧ b < W5.heap.size) v5 (l ++ [⟨true, op, rt⟩])) := t_row ho5
    clear ho5 hg5 HM4 HR3
    go_wp2
    go_ret3
    exact ⟨_, rfl, HM5.out, HB5.out⟩
  · clear hs2 hs3 hl2 hbb HC HPa HPd c0 c1 HK1 HB1 HT HS HU hgc0 hgc1 hgc2 hgf0 hgf1 hgf2
    have ho : On (fun b => b ≠ w1.heap.size) w2 (((w2.setCell ⟨w1.heap.size, 0, none⟩ (.bool true)).setCell ⟨w1.heap.size, 1, none⟩ (.int .i64 op)).setCell ⟨w1.heap.size, 2, none⟩ (.int .i64 rt)) := On.three w2 w1.heap.size 0 1 2 _ _ _
    have hlo : ∀ g, v2.ownBlock = some g → w1.heap.size + 1 ≤ g := fun g hg => by
      have h := (hm2.lt g hg).1
      simp at h
      omega
    have HB3 : Hid (Below w.heap.size w (((w2.setCell ⟨w1.heap.size, 0, none⟩ (.bool true)).setCell ⟨w1.heap.size, 1, none⟩ (.int .i64 op)).setCell ⟨w1.heap.size, 2, none⟩ (.int .i64 rt))) := ((hp2.1.setCell (by show w.heap.size ≤ w1.heap.size; omega) _).setCell (by show w.heap.size ≤ w1.heap.size; omega) _).setCell (by show w.heap.size ≤ w1.heap.size; omega) _
    have HK3 : Hid (Blk (((w2.setCell ⟨w1.heap.size, 0, none⟩ (.bool true)).setCell ⟨w1.heap.size, 1, none⟩ (.int .i64 op)).setCell ⟨w1.heap.size, 2, none⟩ (.int .i64 rt)) w1.heap.size #[.bool true, .int .i64 op, .int .i64 rt] 87) := ((hg.set 0 _).set 1 _).set 2 _
    have HM3 : Hid (Mine (((w2.setCell ⟨w1.heap.size, 0, none⟩ (.bool true)).setCell ⟨w1.heap.size, 1, none⟩ (.int .i64 op)).setCell ⟨w1.heap.size, 2, none⟩ (.int .i64 rt)) w.heap.size 87 3 v2 (l.map tC)) := (hm2.on ho fun g hg => by have := hlo g hg; omega).base fun g hg => by have := hlo g hg; omega
    have HN3 : Hid (∀ g, v2.ownBlock = some g → g ≠ w1.heap.size) := fun g hg => by have := hlo g hg; omega
    have hG : w.heap.size < w1.heap.size := hlt1
    clear hm2 hb2 hp2 hg hgl ho hlo
    generalize ((w2.setCell ⟨w1.heap.size, 0, none⟩ (.bool true)).setCell ⟨w1.heap.size, 1, none⟩ (.int .i64 op)).setCell ⟨w1.heap.size, 2, none⟩ (.int .i64 rt) = W3 at *
    clear hne hne' hlt1
    generalize w1.heap.size = G at *
    have hGl := HK3.out.lt
    have d0 : W3.cell? ⟨G, 0, none⟩ = some (.bool true) := HK3.out.cell 0
    have d1 : W3.cell? ⟨G, 1, none⟩ = some (.int .i64 op) := HK3.out.cell 1
    have d2 : W3.cell? ⟨G, 2, none⟩ = some (.int .i64 rt) := HK3.out.cell 2
    go_wp2_with (with_reducible refine stop_t (.call { callee := .builtin .append, args := #[.tmp 34, .tmp 36], argTypes := #[41, 41] }) rfl ?_)
    unfold HoldT
    have HR3 : Hid (Row (W3.alloc (.cells #[.bool true, .int .i64 op, .int .i64 rt] 87)) (fun b => b = W3.heap.size) 3 (.slice (some ⟨W3.heap.size, 0, none⟩) 1 1) ([(⟨true, op, rt⟩ : Tb.Slt)].map tC)) := t_one (Blk.new W3 (tC ⟨true, op, rt⟩).toArray 87)
    have HM4 : Hid (Mine (W3.alloc (.cells #[.bool true, .int .i64 op, .int .i64 rt] 87)) w.heap.size 87 3 v2 (l.map tC)) := HM3.out.on (On.alloc _ _) fun g hg => (HM3.out.lt g hg).2
    have HB4 : Hid (Below w.heap.size w (W3.alloc (.cells #[.bool true, .int .i64 op, .int .i64 rt] 87))) := HB3.out.alloc HB3.out.size _
    clear HM3 HB3 HK3 HN3 d0 d1 d2
    generalize W3.alloc (.cells #[.bool true, .int .i64 op, .int .i64 rt] 87) = W4 at *
    obtain ⟨i0, hi, hz0, hz1, hz2⟩ := info_parts Tb.infoSlot
    refine wpList_append_row rfl _ _ _ rfl w.heap.size 87 i0 (.agg #[.bool false, .int .i64 0, .int .i64 0]) 3 24 Try.underlying41 hi hz0 hz1 hz2 rfl (by decide) _ (l.map tC) rfl HM4.out _ _ _ rfl HR3.out (even_t _) (ones_t _) ?_ (by decide) HB4.out.size ?_
    · rw [List.length_map, List.length_map, List.length_cons, List.length_nil]; omega
    intro v5 W5 ho5 hg5
    clear hi hz0 hz1 hz2
    rw [← List.map_append] at ho5
    have HB5 : Hid (Below w.heap.size w W5) := HB4.out.grown hg5 HB4.out.size (fun j hj => (HM4.out.lt j hj).1)
    have HM5 : Hid (Tab W5 (fun b => w.heap.size ≤ b ∧ b < W5.heap.size) v5 (l ++ [⟨true, op, rt⟩])) := t_row ho5
    clear ho5 hg5 HM4 HR3
    go_wp2
    go_ret3
    exact ⟨_, rfl, HM5.out, HB5.out⟩
end Go.Proofs.Ytdciohinlhbliaa


/-
  table.Put, walked.
-/
namespace Go.Proofs.Ytdciohinlhbliaa
open Go.RowKit
set_option maxRecDepth 100000 in
set_option maxHeartbeats 4000000 in
theorem tput_at (l : List Tb.Slt) (op rt : Int) (v : Value) (S : Nat → Prop) (w : World) (hv : Tab w S v l) (hS : ∀ b, S b → b < w.heap.size) (hU : l.length * 24 ≤ 140737488355328) (hr : Tb.right rt = true) (h0 : ¬ op < 0) (k : Nat) (hf : Tb.freeFrom l 0 = some k) :
    Calls Try.prog 57 #[v, .agg #[.int .i64 op, .int .i64 rt]] w fun e w' => ∃ v', e = .returned (.tuple #[v', .int .i64 (k : Int), .int .i64 0]) ∧ TabNew w w' v' (l.set k ⟨true, op, rt⟩) := by
  obtain ⟨a, c, rfl, hm⟩ := hv.form
  have HR : Hid (∀ W, Calls Try.prog 77 #[.int .i64 rt] W fun e w' => e = .returned (.bool true) ∧ w' = W) := fun W => by have := rightsRight rt W; rw [hr] at this; exact this
  have HT : Hid (Tab w S (.slice a l.length c) l) := hv
  have HS : Hid (∀ b, S b → b < w.heap.size) := hS
  have HU : Hid (l.length * 24 ≤ 140737488355328) := hU
  have HF : Hid (Tb.freeFrom l 0 = some k) := hf
  clear hv hS hU hm hr hf
  go_enter Try.func57, Try.ntmps57
  go_wp2_with fail
  refine (HR.out _).mono ?_
  rintro e w1 ⟨rfl, rfl⟩
  clear HR
  go_wp2_with fail
  have HB0 : Hid (Below w.heap.size w (w.alloc (.cells #[.int .i64 op, .int .i64 rt] 50))) := (Below.refl _ _).alloc (Nat.le_refl _) _
  have HK0 : Hid (Blk (w.alloc (.cells #[.int .i64 op, .int .i64 rt] 50)) w.heap.size #[.int .i64 op, .int .i64 rt] 50) := Blk.new w _ _
  have hz0 : (w.alloc (.cells #[.int .i64 op, .int .i64 rt] 50)).heap.size = w.heap.size + 1 := by simp
  have HZ0 : Hid _ := hz0
  clear hz0
  generalize w.alloc (.cells #[.int .i64 op, .int .i64 rt] 50) = w0 at *
  refine (tidx_any l (.slice a l.length c) S w0 (HT.out.below HB0.out HS.out) (fun b hb => by have := HS.out b hb; have := HZ0.out; omega)).mono ?_
  rintro e w1 ⟨rfl, hb1⟩
  rw [idx_some HF.out]
  have HB1 : Hid (Below w.heap.size w w1) := HB0.out.trans (hb1.mono (by have := HZ0.out; omega))
  have HK1 : Hid (Blk w1 w.heap.size #[.int .i64 op, .int .i64 rt] 50) := HK0.out.below hb1 (by have := HZ0.out; omega)
  have c0 : w1.cell? ⟨w.heap.size, 0, none⟩ = some (.int .i64 op) := HK1.out.cell 0
  have c1 : w1.cell? ⟨w.heap.size, 1, none⟩ = some (.int .i64 rt) := HK1.out.cell 1
  have hlt1 := HK1.out.lt
  clear HB0 HK0 HZ0 hb1
  have hne : ¬ w1.heap.size = w.heap.size := by omega
  have hne' : ¬ w.heap.size = w1.heap.size := by omega
  have HPd : Hid (PutW w op rt w1.drew) := ⟨HB1.out.drew, HK1.out⟩
  have HPa : Hid (∀ W o, PutW w op rt W → PutW w op rt (W.alloc o)) := fun W o h => ⟨h.1.alloc h.1.size _, h.2.alloc _⟩
  have HC : Hid (∀ W, PutW w op rt W → Calls Try.prog 80 #[.slice a l.length c] W fun e w' => ∃ v', e = .returned v' ∧ Mine w' W.heap.size 87 3 v' (l.map tC) ∧ Below W.heap.size W w' ∧ PutW w op rt w' ∧ (w'.cell? ⟨w.heap.size, 0, none⟩ = some (.int .i64 op) ∧ w'.cell? ⟨w.heap.size, 1, none⟩ = some (.int .i64 rt)) ∧ w.heap.size < w'.heap.size ∧ Hid (∀ g cs t, Blk W g cs t → Blk w' g cs t)) := fun W hW => by
    refine (tclone_any l (.slice a l.length c) S W (HT.out.below hW.1 HS.out) (fun b hb => by have := HS.out b hb; have := hW.1.size; omega) HU.out).mono ?_
    rintro e w' ⟨v', rfl, h1, h2⟩
    have hk : Blk w' w.heap.size #[.int .i64 op, .int .i64 rt] 50 := hW.2.below h2 hW.2.lt
    exact ⟨v', rfl, h1, h2, ⟨hW.1.trans (h2.mono hW.1.size), hk⟩, ⟨hk.cell 0, hk.cell 1⟩, hk.lt, fun g cs t h => h.below h2 h.lt⟩
  go_wp2_with fail
  go_region_held3 (fun w' => w'.cell? ⟨w.heap.size, 0, none⟩ = some (.int .i64 op) ∧ w'.cell? ⟨w.heap.size, 1, none⟩ = some (.int .i64 rt)) (go_keep) (first | (refine Calls.mono (HC.out _ (by first | exact HPd.out | exact HPa.out _ _ HPd.out)) ?_; rintro e w2 ⟨v2, rfl, hm2, hb2, hp2, ⟨hs2, hs3⟩, hl2, hbb⟩; try (have hg : Blk w2 w1.heap.size #[.bool false, .int .i64 0, .int .i64 0] 87 := hbb.out _ _ _ (Blk.new w1.drew _ _); have hgl := hg.lt; have hgc0 := hg.cell 0; have hgc1 := hg.cell 1; have hgc2 := hg.cell 2; have hgf0 := hg.free 0; have hgf1 := hg.free 1; have hgf2 := hg.free 2); go_wp2_with fail))
  · clear hs2 hs3 hl2 hbb HC HPa HPd c0 c1 HK1 HB1 HT HS HU
    have HB3 : Hid (Below w.heap.size w (w2.alloc (.cells #[.bool true, .int .i64 op, .int .i64 rt] 87))) := hp2.1.alloc hp2.1.size _
    have HK3 : Hid (Blk (w2.alloc (.cells #[.bool true, .int .i64 op, .int .i64 rt] 87)) w2.heap.size #[.bool true, .int .i64 op, .int .i64 rt] 87) := Blk.new w2 _ _
    have HM3 : Hid (Mine (w2.alloc (.cells #[.bool true, .int .i64 op, .int .i64 rt] 87)) w.heap.size 87 3 v2 (l.map tC)) := (hm2.on (On.alloc _ _) fun g hg => (hm2.lt g hg).2).base fun g hg => by have := (hm2.lt g hg).1; have e : w1.drew.heap.size = w1.heap.size := rfl; omega
    have HN3 : Hid (∀ g, v2.ownBlock = some g → g ≠ w2.heap.size) := fun g hg => by have := (hm2.lt g hg).2; omega
    have hG : w.heap.size < w2.heap.size := hp2.2.lt
    clear hm2 hb2 hp2
    generalize w2.alloc (.cells #[.bool true, .int .i64 op, .int .i64 rt] 87) = W3 at *
    generalize w2.heap.size = G at *
    have hGl := HK3.out.lt
    have d0 : W3.cell? ⟨G, 0, none⟩ = some (.bool true) := HK3.out.cell 0
    have d1 : W3.cell? ⟨G, 1, none⟩ = some (.int .i64 op) := HK3.out.cell 1
    have d2 : W3.cell? ⟨G, 2, none⟩ = some (.int .i64 rt) := HK3.out.cell 2
    obtain ⟨-, hkl, x, hx, -⟩ := Tb.freeFrom_lt l 0 k HF.out
    rw [Nat.zero_add] at hkl
    rw [Nat.sub_zero] at hx
    obtain ⟨g, c2, rfl, hg0, hgl, hc2, hcm, hcell⟩ := t_own HM3.out hkl
    have HX : Hid (l[k]? = some x) := hx
    have HM5 : Hid (∀ W, W = ((W3.setCell ⟨g, k * 3, none⟩ (.bool true)).setCell ⟨g, k * 3 + 1, none⟩ (.int .i64 op)).setCell ⟨g, k * 3 + 2, none⟩ (.int .i64 rt) → TabNew w W (.slice (some ⟨g, 0, none⟩) l.length c2) (l.set k ⟨true, op, rt⟩)) := fun W hW => by
      subst hW
      exact ⟨t_row (t_set HM3.out k x ⟨true, op, rt⟩ HX.out), ((HB3.out.setCell hg0 _).setCell hg0 _).setCell hg0 _⟩
    obtain ⟨⟨u0, a0⟩, b0⟩ := hcell (k * 3) (by omega)
    obtain ⟨⟨u1, a1⟩, b1⟩ := hcell (k * 3 + 1) (by omega)
    obtain ⟨⟨u2, a2⟩, b2⟩ := hcell (k * 3 + 2) (by omega)
    unfold maxLen at hcm
    clear hcell hx HM3 HB3 HK3 HN3 HF HX
    go_wp2
    go_ret3
    exact ⟨_, rfl, HM5.out _ rfl⟩
  · clear hs2 hs3 hl2 hbb HC HPa HPd c0 c1 HK1 HB1 HT HS HU hgc0 hgc1 hgc2 hgf0 hgf1 hgf2
    have ho : On (fun b => b ≠ w1.heap.size) w2 (((w2.setCell ⟨w1.heap.size, 0, none⟩ (.bool true)).setCell ⟨w1.heap.size, 1, none⟩ (.int .i64 op)).setCell ⟨w1.heap.size, 2, none⟩ (.int .i64 rt)) := On.three w2 w1.heap.size 0 1 2 _ _ _
    have hlo : ∀ g, v2.ownBlock = some g → w1.heap.size + 1 ≤ g := fun g hg => by
      have h := (hm2.lt g hg).1
      simp at h
      omega
    have HB3 : Hid (Below w.heap.size w (((w2.setCell ⟨w1.heap.size, 0, none⟩ (.bool true)).setCell ⟨w1.heap.size, 1, none⟩ (.int .i64 op)).setCell ⟨w1.heap.size, 2, none⟩ (.int .i64 rt))) := ((hp2.1.setCell (by show w.heap.size ≤ w1.heap.size; omega) _).setCell (by show w.heap.size ≤ w1.heap.size; omega) _).setCell (by show w.heap.size ≤ w1.heap.size; omega) _
    have HK3 : Hid (Blk (((w2.setCell ⟨w1.heap.size, 0, none⟩ (.bool true)).setCell ⟨w1.heap.size, 1, none⟩ (.int .i64 op)).setCell ⟨w1.heap.size, 2, none⟩ (.int .i64 rt)) w1.heap.size #[.bool true, .int .i64 op, .int .i64 rt] 87) := ((hg.set 0 _).set 1 _).set 2 _
    have HM3 : Hid (Mine (((w2.setCell ⟨w1.heap.size, 0, none⟩ (.bool true)).setCell ⟨w1.heap.size, 1, none⟩ (.int .i64 op)).setCell ⟨w1.heap.size, 2, none⟩ (.int .i64 rt)) w.heap.size 87 3 v2 (l.map tC)) := (hm2.on ho fun g hg => by have := hlo g hg; omega).base fun g hg => by have := hlo g hg; omega
    have HN3 : Hid (∀ g, v2.ownBlock = some g → g ≠ w1.heap.size) := fun g hg => by have := hlo g hg; omega
    have hG : w.heap.size < w1.heap.size := hlt1
    clear hm2 hb2 hp2 hg hgl ho hlo
    generalize ((w2.setCell ⟨w1.heap.size, 0, none⟩ (.bool true)).setCell ⟨w1.heap.size, 1, none⟩ (.int .i64 op)).setCell ⟨w1.heap.size, 2, none⟩ (.int .i64 rt) = W3 at *
    clear hne hne' hlt1
    generalize w1.heap.size = G at *
    have hGl := HK3.out.lt
    have d0 : W3.cell? ⟨G, 0, none⟩ = some (.bool true) := HK3.out.cell 0
    have d1 : W3.cell? ⟨G, 1, none⟩ = some (.int .i64 op) := HK3.out.cell 1
    have d2 : W3.cell? ⟨G, 2, none⟩ = some (.int .i64 rt) := HK3.out.cell 2
    obtain ⟨-, hkl, x, hx, -⟩ := Tb.freeFrom_lt l 0 k HF.out
    rw [Nat.zero_add] at hkl
    rw [Nat.sub_zero] at hx
    obtain ⟨g, c2, rfl, hg0, hgl, hc2, hcm, hcell⟩ := t_own HM3.out hkl
    have HX : Hid (l[k]? = some x) := hx
    have HM5 : Hid (∀ W, W = ((W3.setCell ⟨g, k * 3, none⟩ (.bool true)).setCell ⟨g, k * 3 + 1, none⟩ (.int .i64 op)).setCell ⟨g, k * 3 + 2, none⟩ (.int .i64 rt) → TabNew w W (.slice (some ⟨g, 0, none⟩) l.length c2) (l.set k ⟨true, op, rt⟩)) := fun W hW => by
      subst hW
      exact ⟨t_row (t_set HM3.out k x ⟨true, op, rt⟩ HX.out), ((HB3.out.setCell hg0 _).setCell hg0 _).setCell hg0 _⟩
    obtain ⟨⟨u0, a0⟩, b0⟩ := hcell (k * 3) (by omega)
    obtain ⟨⟨u1, a1⟩, b1⟩ := hcell (k * 3 + 1) (by omega)
    obtain ⟨⟨u2, a2⟩, b2⟩ := hcell (k * 3 + 2) (by omega)
    unfold maxLen at hcm
    clear hcell hx HM3 HB3 HK3 HN3 HF HX
    go_wp2
    go_ret3
    exact ⟨_, rfl, HM5.out _ rfl⟩
end Go.Proofs.Ytdciohinlhbliaa


/-
  table.Put, Dup, walked.
-/
namespace Go.Proofs.Ytdciohinlhbliaa
open Go.RowKit
theorem tput_any (l : List Tb.Slt) (op rt : Int) (v : Value) (S : Nat → Prop) (w : World) (hv : Tab w S v l) (hS : ∀ b, S b → b < w.heap.size) (hU : l.length * 24 ≤ 140737488355328) :
    Calls Try.prog 57 #[v, .agg #[.int .i64 op, .int .i64 rt]] w fun e w' => ∃ v', e = .returned (.tuple #[v', .int .i64 (Tb.putR l op rt).2.1, .int .i64 (Tb.putR l op rt).2.2]) ∧ TabNew w w' v' (Tb.putR l op rt).1 := by
  by_cases h : Tb.right rt = false ∨ op < 0
  · exact tput_range l op rt v w h
  · have hr : Tb.right rt = true := by
      cases hr : Tb.right rt with
      | true => rfl
      | false => exact absurd (Or.inl hr) h
    have h0 : ¬ op < 0 := fun h' => h (Or.inr h')
    cases hf : Tb.freeFrom l 0 with
    | none =>
      by_cases hl : 10 ≤ l.length
      · rw [putR_full h hf hl]
        exact tput_full l op rt v S w hv hS hr h0 hf hl
      · rw [putR_app h hf hl]
        exact tput_app l op rt v S w hv hS hU hr h0 hf hl
    | some k =>
      rw [putR_at h hf]
      exact tput_at l op rt v S w hv hS hU hr h0 k hf
end Go.Proofs.Ytdciohinlhbliaa
