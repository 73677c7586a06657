/-
  store.Write, walked.
-/
import Derived.Test.YtaobjpajbpoamaaSWalkI
namespace Go.Proofs.Ytaobjpajbpoamaa
open Go.RowKit
namespace Sp
def write (o : Ob) (k : Nat) (b : List UInt8) : Ob := { o with data := if 0 < b.length then lay o.data k b else o.data }
end Sp
theorem objV_eq (s : Sls) (o : Sp.Ob) : (objC (s, o)).toArray = #[.int .i64 o.kind, .slice s.d.a s.d.n s.d.c, .slice s.e.a s.e.n s.e.c, .string o.target, .int .i64 o.peer, .slice s.q.a s.q.n s.q.c, .int .i64 o.proc, .int .i64 o.links, .int .i64 o.up] := rfl
theorem Below.nine {B : Nat} {a w : World} (h : Below B a w) {b : Nat} (hb : B ≤ b) (c0 c1 c2 c3 c4 c5 c6 c7 c8 : Value) :
    Below B a (((((((((w.setCell ⟨b, 0, none⟩ c0).setCell ⟨b, 1, none⟩ c1).setCell ⟨b, 2, none⟩ c2).setCell ⟨b, 3, none⟩ c3).setCell ⟨b, 4, none⟩ c4).setCell ⟨b, 5, none⟩ c5).setCell ⟨b, 6, none⟩ c6).setCell ⟨b, 7, none⟩ c7).setCell ⟨b, 8, none⟩ c8) :=
  ((((((((h.setCell hb _).setCell hb _).setCell hb _).setCell hb _).setCell hb _).setCell hb _).setCell hb _).setCell hb _).setCell hb _
theorem below_two {w w2 : World} {x y : Obj} (h : Below ((w.alloc x).alloc y).heap.size ((w.alloc x).alloc y) w2) : Below w.heap.size w w2 := (((Below.refl w.heap.size w).alloc (Nat.le_refl _) x).alloc (by simp) y).trans (h.mono (by simp; omega))
set_option maxHeartbeats 2000000 in
theorem write_err (s : Sls) (o : Sp.Ob) (p : Int) (b : List UInt8) (vb : Value) (S : Nat → Prop) (w : World) (hb : Bytes w S vb b) (he : Sp.writeErr o p b ≠ 0) :
    Calls Try.prog 22 #[.agg (objC (s, o)).toArray, .int .i64 p, vb] w fun e w' => e = .returned (.tuple #[.agg zeroC.toArray, .int .i64 (Sp.writeErr o p b)]) ∧ Below w.heap.size w w' := by
  have HF : Hid (∀ W, Calls Try.prog 57 #[.agg (objC (s, o)).toArray] W fun e w' => e = .returned (.int .i64 (Sp.noFile o.kind)) ∧ Below W.heap.size W w') := fun W => noFile_any s o W
  obtain ⟨ba, bc, rfl, hbm⟩ := Row.form hb
  rw [List.length_map] at hbm ⊢
  unfold maxLen at hbm
  clear hb
  unfold Sp.writeErr at he ⊢
  rw [objV_eq] at HF ⊢
  by_cases hk : Sp.noFile o.kind = 0
  · rw [if_neg (by simpa using hk)] at he ⊢
    rw [hk] at HF
    clear hk
    by_cases hp : p < 0
    · rw [if_pos hp]
      clear he
      go_enter Try.func22, Try.ntmps22
      go_wp2_with fail
      refine Calls.mono (HF.out _) ?_
      rintro e w2 ⟨rfl, hb2⟩
      obtain ⟨hc, hf⟩ := bcell hb2
      have hz : w.heap.size + 1 < w2.heap.size := by have := hb2.size; simp at this; omega
      go_wp2
      exact bodyPost_ret (v := .tuple #[.agg zeroC.toArray, .int .i64 3]) (by simp [results, Try.results22, go_sem, hc, zeroC]) rfl ⟨rfl, Below.nine (below_two hb2) (by omega) _ _ _ _ _ _ _ _ _⟩
    · rw [if_neg hp] at he ⊢
      have hpg : p > 60 - (b.length : Int) := by
        by_cases h : p > 60 - (b.length : Int)
        · exact h
        · rw [if_neg h] at he; exact absurd rfl he
      rw [if_pos hpg]
      clear he
      go_enter Try.func22, Try.ntmps22
      go_wp2_with fail
      refine Calls.mono (HF.out _) ?_
      rintro e w2 ⟨rfl, hb2⟩
      obtain ⟨hc, hf⟩ := bcell hb2
      have hz : w.heap.size + 1 < w2.heap.size := by have := hb2.size; simp at this; omega
      go_wp2
      exact bodyPost_ret (v := .tuple #[.agg zeroC.toArray, .int .i64 15]) (by simp [results, Try.results22, go_sem, hc, zeroC]) rfl ⟨rfl, Below.nine (below_two hb2) (by omega) _ _ _ _ _ _ _ _ _⟩
  · rw [if_pos hk]
    have hk' : (Sp.noFile o.kind != 0) = true := by simpa using hk
    clear he hk
    generalize Sp.noFile o.kind = z at *
    go_enter Try.func22, Try.ntmps22
    go_wp2_with fail
    refine Calls.mono (HF.out _) ?_
    rintro e w2 ⟨rfl, hb2⟩
    obtain ⟨hc, hf⟩ := bcell hb2
    have hz : w.heap.size + 1 < w2.heap.size := by have := hb2.size; simp at this; omega
    go_wp2
    exact bodyPost_ret (v := .tuple #[.agg zeroC.toArray, .int .i64 z]) (by simp [results, Try.results22, go_sem, hc, zeroC]) rfl ⟨rfl, Below.nine (below_two hb2) (by omega) _ _ _ _ _ _ _ _ _⟩
/-- A goal that is held. -/
def Hold (p : Prop) : Prop := p
theorem stop_at {P : Program} {w : World} {ops : Array Oper} {rest : List Oper} {o : Oper} {a : Act} {Q : Exit → Act → World → Prop} (op : Op) (_ : o.op = op) (h : Hold (wpList P ops Q (o :: rest) a w)) : wpList P ops Q (o :: rest) a w := h
/-- A copy's lists, with other bytes. -/
theorem Lists.bytes {w : World} {S : Nat → Prop} {s : Sls} {o : Sp.Ob} (h : Lists w S (s, o)) (d : Sl) (l : List UInt8) (hd : Bytes w S (.slice d.a d.n d.c) l) : Lists w S (⟨d, s.e, s.q⟩, { o with data := l }) := ⟨hd, h.2.1, h.2.2⟩
set_option maxHeartbeats 4000000 in
theorem write_ok (s : Sls) (o : Sp.Ob) (k : Nat) (b : List UInt8) (vb : Value) (S : Nat → Prop) (w : World) (hv : Lists w S (s, o)) (hb : Bytes w S vb b) (hS : ∀ b, S b → b < w.heap.size) (hf : Fits o) (hk : Sp.noFile o.kind = 0) (hkb : k + b.length ≤ 60) :
    Calls Try.prog 22 #[.agg (objC (s, o)).toArray, .int .i64 k, vb] w fun e w' => ∃ s' : Sls, e = .returned (.tuple #[.agg (objC (s', Sp.write o k b)).toArray, .int .i64 0]) ∧ Lists w' (fun x => w.heap.size ≤ x ∧ x < w'.heap.size) (s', Sp.write o k b) ∧ Below w.heap.size w w' := by
  have HF : Hid (∀ W, Calls Try.prog 57 #[.agg (objC (s, o)).toArray] W fun e w' => e = .returned (.int .i64 0) ∧ Below W.heap.size W w') := fun W => by have := noFile_any s o W; rw [hk] at this; exact this
  have HO : Hid (∀ W, Below w.heap.size w W → Calls Try.prog 44 #[.agg (objC (s, o)).toArray] W fun e w' => ∃ s' : Sls, e = .returned (.agg (objC (s', o)).toArray) ∧ OwnL w' W.heap.size w'.heap.size (s', o) ∧ Below W.heap.size W w') := fun W hW => ownObject_any s o S W (hv.on ((On.of hW).less hS)) (fun b hb => Nat.lt_of_lt_of_le (hS b hb) hW.size) hf
  have hf1 := hf.1
  obtain ⟨ba, bc, rfl, -⟩ := Row.form hb
  rw [List.length_map] at hb ⊢
  have HB : Hid (Bytes w S (.slice ba b.length bc) b) := hb
  have HS : Hid (∀ b, S b → b < w.heap.size) := hS
  clear hb hv hS hf hk
  unfold Sp.write
  simp only [objV_eq] at HF HO ⊢
  by_cases h0 : 0 < b.length
  · rw [if_pos h0]
    have HLA : Hid (∀ (vd vb : Value) (S : Nat → Prop) (w : World), Bytes w S vd o.data → Bytes w S vb b → (∀ b, S b → b < w.heap.size) → Calls Try.prog 59 #[vd, .int .i64 k, vb] w fun e w' => e = .returned (.slice (some ⟨w.heap.size, 0, none⟩) (lay o.data k b).length (lay o.data k b).length) ∧ Bytes w' (fun x => x = w.heap.size) (.slice (some ⟨w.heap.size, 0, none⟩) (lay o.data k b).length (lay o.data k b).length) (lay o.data k b) ∧ w.heap.size < w'.heap.size ∧ Below w.heap.size w w') := fun vd vb S w h1 h2 h3 => laidOver_any o.data k b vd vb S w h1 h2 h3 h0 hkb hf1
    generalize lay o.data k b = R at HLA ⊢
    go_enter Try.func22, Try.ntmps22
    go_wp2_with fail
    refine Calls.mono (HF.out _) ?_
    rintro e w2 ⟨rfl, hb2⟩
    have hz : w.heap.size + 1 < w2.heap.size := by have := hb2.size; simp at this; omega
    have HB2 : Hid (Below w.heap.size w w2) := below_two hb2
    have box2 : Blk w2 w.heap.size #[.int .i64 o.kind, .slice s.d.a s.d.n s.d.c, .slice s.e.a s.e.n s.e.c, .string o.target, .int .i64 o.peer, .slice s.q.a s.q.n s.q.c, .int .i64 o.proc, .int .i64 o.links, .int .i64 o.up] 35 := ((Blk.new w _ _).alloc _).below hb2 (by simp; omega)
    have res2 : Blk w2 (w.heap.size + 1) #[.int .i64 0, .slice none 0 0, .slice none 0 0, .string ⟨#[]⟩, .int .i64 0, .slice none 0 0, .int .i64 0, .int .i64 0, .int .i64 0] 35 := by
      have h := (Blk.new (w.alloc (.cells #[.int .i64 o.kind, .slice s.d.a s.d.n s.d.c, .slice s.e.a s.e.n s.e.c, .string o.target, .int .i64 o.peer, .slice s.q.a s.q.n s.q.c, .int .i64 o.proc, .int .i64 o.links, .int .i64 o.up] 35)) #[.int .i64 0, .slice none 0 0, .slice none 0 0, .string ⟨#[]⟩, .int .i64 0, .slice none 0 0, .int .i64 0, .int .i64 0, .int .i64 0] 35).below hb2 (by simp)
      simpa using h
    have cb := box2.cell
    have HRE2 : Hid _ := res2
    clear hb2 box2 res2
    go_wp2_with fail
    refine Calls.mono (HO.out _ HB2.out) ?_
    rintro e w3 ⟨s3, rfl, hL3, hb3⟩
    have HB3 : Hid (Below w.heap.size w w3) := HB2.out.trans (hb3.mono HB2.out.size)
    have HL3 : Hid (Lists w3 (fun x => w.heap.size + 2 ≤ x ∧ x < w3.heap.size) (s3, o)) := hL3.lists.more fun x hx => ⟨by omega, hx.2⟩
    have HRE3 : Hid (Blk w3 (w.heap.size + 1) #[.int .i64 0, .slice none 0 0, .slice none 0 0, .string ⟨#[]⟩, .int .i64 0, .slice none 0 0, .int .i64 0, .int .i64 0, .int .i64 0] 35) := Blk.below HRE2.out hb3 (Blk.lt HRE2.out)
    have hz3 : w.heap.size + 1 < w3.heap.size := Blk.lt HRE3.out
    have HON : Hid (On (fun b => b < w3.heap.size) w3 (w3.alloc (.cells #[.int .i64 o.kind, .slice s3.d.a s3.d.n s3.d.c, .slice s3.e.a s3.e.n s3.e.c, .string o.target, .int .i64 o.peer, .slice s3.q.a s3.q.n s3.q.c, .int .i64 o.proc, .int .i64 o.links, .int .i64 o.up] 35))) := On.alloc w3 _
    have HBW : Hid (Below w.heap.size w (w3.alloc (.cells #[.int .i64 o.kind, .slice s3.d.a s3.d.n s3.d.c, .slice s3.e.a s3.e.n s3.e.c, .string o.target, .int .i64 o.peer, .slice s3.q.a s3.q.n s3.q.c, .int .i64 o.proc, .int .i64 o.links, .int .i64 o.up] 35))) := HB3.out.alloc (by omega) _
    have HBX : Hid (Blk (w3.alloc (.cells #[.int .i64 o.kind, .slice s3.d.a s3.d.n s3.d.c, .slice s3.e.a s3.e.n s3.e.c, .string o.target, .int .i64 o.peer, .slice s3.q.a s3.q.n s3.q.c, .int .i64 o.proc, .int .i64 o.links, .int .i64 o.up] 35)) w3.heap.size #[.int .i64 o.kind, .slice s3.d.a s3.d.n s3.d.c, .slice s3.e.a s3.e.n s3.e.c, .string o.target, .int .i64 o.peer, .slice s3.q.a s3.q.n s3.q.c, .int .i64 o.proc, .int .i64 o.links, .int .i64 o.up] 35) := Blk.new w3 _ _
    have HRX : Hid (Blk (w3.alloc (.cells #[.int .i64 o.kind, .slice s3.d.a s3.d.n s3.d.c, .slice s3.e.a s3.e.n s3.e.c, .string o.target, .int .i64 o.peer, .slice s3.q.a s3.q.n s3.q.c, .int .i64 o.proc, .int .i64 o.links, .int .i64 o.up] 35)) (w.heap.size + 1) #[.int .i64 0, .slice none 0 0, .slice none 0 0, .string ⟨#[]⟩, .int .i64 0, .slice none 0 0, .int .i64 0, .int .i64 0, .int .i64 0] 35) := Blk.alloc HRE3.out _
    have HLX : Hid (Lists (w3.alloc (.cells #[.int .i64 o.kind, .slice s3.d.a s3.d.n s3.d.c, .slice s3.e.a s3.e.n s3.e.c, .string o.target, .int .i64 o.peer, .slice s3.q.a s3.q.n s3.q.c, .int .i64 o.proc, .int .i64 o.links, .int .i64 o.up] 35)) (fun x => w.heap.size + 2 ≤ x ∧ x < w3.heap.size) (s3, o)) := HL3.out.on (HON.out.less fun b hb => hb.2)
    have hzX : w3.heap.size < (w3.alloc (.cells #[.int .i64 o.kind, .slice s3.d.a s3.d.n s3.d.c, .slice s3.e.a s3.e.n s3.e.c, .string o.target, .int .i64 o.peer, .slice s3.q.a s3.q.n s3.q.c, .int .i64 o.proc, .int .i64 o.links, .int .i64 o.up] 35)).heap.size := by simp
    clear hb3 hL3 HRE2 cb HB2 HL3 HRE3 HB3 HF HO
    go_wp2_with fail
    generalize w3.alloc (.cells #[.int .i64 o.kind, .slice s3.d.a s3.d.n s3.d.c, .slice s3.e.a s3.e.n s3.e.c, .string o.target, .int .i64 o.peer, .slice s3.q.a s3.q.n s3.q.c, .int .i64 o.proc, .int .i64 o.links, .int .i64 o.up] 35) = W at *
    refine Calls.mono (HLA.out _ _ (fun x => x < W.heap.size) W (Row.more HLX.out.1 fun x hx => by omega) (Row.more (Row.on HB.out ((On.of HBW.out).less HS.out)) fun x hx => by have := HS.out x hx; omega) (fun _ h => h)) ?_
    rintro e w5 ⟨rfl, hlay, hz5, hb5⟩
    have HLY : Hid _ := hlay
    have hBX5 := Blk.below HBX.out hb5 (by omega)
    have hRX5 := Blk.below HRX.out hb5 (by omega)
    have HRX5 : Hid _ := hRX5
    have HBX5 : Hid _ := hBX5
    have HB5 : Hid (Below w.heap.size w w5) := HBW.out.trans (hb5.mono HBW.out.size)
    have HL5 : Hid (Lists w5 (fun x => w.heap.size + 2 ≤ x ∧ x < w3.heap.size) (s3, o)) := HLX.out.on ((On.of hb5).less fun b hb => by omega)
    have c5 := hBX5.cell
    have e5 := hBX5.free
    have c6 := hRX5.cell
    have e6 := hRX5.free
    clear hb5 hlay hBX5 hRX5 HBX HRX HLX HON HBW
    go_wp2
    generalize hW : (((((((((w5.setCell ⟨w3.heap.size, 1, none⟩ (.slice (some ⟨W.heap.size, 0, none⟩) R.length R.length)).setCell ⟨w.heap.size + 1, 0, none⟩ (.int .i64 o.kind)).setCell ⟨w.heap.size + 1, 1, none⟩ (.slice (some ⟨W.heap.size, 0, none⟩) R.length R.length)).setCell ⟨w.heap.size + 1, 2, none⟩ (.slice s3.e.a s3.e.n s3.e.c)).setCell ⟨w.heap.size + 1, 3, none⟩ (.string o.target)).setCell ⟨w.heap.size + 1, 4, none⟩ (.int .i64 o.peer)).setCell ⟨w.heap.size + 1, 5, none⟩ (.slice s3.q.a s3.q.n s3.q.c)).setCell ⟨w.heap.size + 1, 6, none⟩ (.int .i64 o.proc)).setCell ⟨w.heap.size + 1, 7, none⟩ (.int .i64 o.links)).setCell ⟨w.heap.size + 1, 8, none⟩ (.int .i64 o.up) = W9
    have hr9 : Blk (w5.setCell ⟨w3.heap.size, 1, none⟩ (.slice (some ⟨W.heap.size, 0, none⟩) R.length R.length)) (w.heap.size + 1) _ _ := Blk.other HRX5.out (a := ⟨w3.heap.size, 1, none⟩) (by show w.heap.size + 1 ≠ w3.heap.size; omega) _
    obtain ⟨hb9, hon9, hsz9⟩ := Blk.nine hr9 _ _ _ _ _ _ _ _ _ W9 hW.symm
    have hc9 := hb9.cell
    have hB9 : Below w.heap.size w W9 := by
      rw [← hW]
      exact Below.nine (HB5.out.setCell (by show w.heap.size ≤ w3.heap.size; omega) _) (by omega) _ _ _ _ _ _ _ _ _
    have honF : On (fun x => x ≠ w3.heap.size ∧ x ≠ w.heap.size + 1) w5 W9 := ((On.set w5 ⟨w3.heap.size, 1, none⟩ _).less fun b hb => hb.1).trans (hon9.less fun b hb => hb.2)
    have hszS : (w5.setCell ⟨w3.heap.size, 1, none⟩ (.slice (some ⟨W.heap.size, 0, none⟩) R.length R.length)).heap.size = w5.heap.size := by simp
    refine bodyPost_ret (v := .tuple #[.agg #[.int .i64 o.kind, .slice (some ⟨W.heap.size, 0, none⟩) R.length R.length, .slice s3.e.a s3.e.n s3.e.c, .string o.target, .int .i64 o.peer, .slice s3.q.a s3.q.n s3.q.c, .int .i64 o.proc, .int .i64 o.links, .int .i64 o.up], .int .i64 0]) (by simp [results, Try.results22, go_sem, hc9]) rfl ⟨⟨⟨some ⟨W.heap.size, 0, none⟩, R.length, R.length⟩, s3.e, s3.q⟩, rfl, ?_, hB9⟩
    have hl9 := (HL5.out.on (honF.less fun x hx => ⟨by omega, by omega⟩)).more (T := fun x => w.heap.size ≤ x ∧ x < W9.heap.size) fun x hx => ⟨by omega, by omega⟩
    exact hl9.bytes ⟨some ⟨W.heap.size, 0, none⟩, R.length, R.length⟩ R (Row.more (Row.on HLY.out (honF.less fun x hx => ⟨by omega, by omega⟩)) fun x hx => ⟨by omega, by omega⟩)
  · rw [if_neg h0]
    obtain rfl : b = [] := List.length_eq_zero_iff.1 (by omega)
    simp only [List.length_nil] at HB hkb ⊢
    clear h0
    have hk60 : k ≤ 60 := by omega
    clear hkb HB
    go_enter Try.func22, Try.ntmps22
    go_wp2_with fail
    refine Calls.mono (HF.out _) ?_
    rintro e w2 ⟨rfl, hb2⟩
    have hz : w.heap.size + 1 < w2.heap.size := by have := hb2.size; simp at this; omega
    have HB2 : Hid (Below w.heap.size w w2) := below_two hb2
    have box2 : Blk w2 w.heap.size #[.int .i64 o.kind, .slice s.d.a s.d.n s.d.c, .slice s.e.a s.e.n s.e.c, .string o.target, .int .i64 o.peer, .slice s.q.a s.q.n s.q.c, .int .i64 o.proc, .int .i64 o.links, .int .i64 o.up] 35 := ((Blk.new w _ _).alloc _).below hb2 (by simp; omega)
    have res2 : Blk w2 (w.heap.size + 1) #[.int .i64 0, .slice none 0 0, .slice none 0 0, .string ⟨#[]⟩, .int .i64 0, .slice none 0 0, .int .i64 0, .int .i64 0, .int .i64 0] 35 := by
      have h := (Blk.new (w.alloc (.cells #[.int .i64 o.kind, .slice s.d.a s.d.n s.d.c, .slice s.e.a s.e.n s.e.c, .string o.target, .int .i64 o.peer, .slice s.q.a s.q.n s.q.c, .int .i64 o.proc, .int .i64 o.links, .int .i64 o.up] 35)) #[.int .i64 0, .slice none 0 0, .slice none 0 0, .string ⟨#[]⟩, .int .i64 0, .slice none 0 0, .int .i64 0, .int .i64 0, .int .i64 0] 35).below hb2 (by simp)
      simpa using h
    have cb := box2.cell
    have HRE2 : Hid _ := res2
    clear hb2 box2 res2
    go_wp2_with fail
    refine Calls.mono (HO.out _ HB2.out) ?_
    rintro e w3 ⟨s3, rfl, hL3, hb3⟩
    have HB3 : Hid (Below w.heap.size w w3) := HB2.out.trans (hb3.mono HB2.out.size)
    have HL3 : Hid (Lists w3 (fun x => w.heap.size + 2 ≤ x ∧ x < w3.heap.size) (s3, o)) := hL3.lists.more fun x hx => ⟨by omega, hx.2⟩
    have HRE3 : Hid (Blk w3 (w.heap.size + 1) #[.int .i64 0, .slice none 0 0, .slice none 0 0, .string ⟨#[]⟩, .int .i64 0, .slice none 0 0, .int .i64 0, .int .i64 0, .int .i64 0] 35) := Blk.below HRE2.out hb3 (Blk.lt HRE2.out)
    have hz3 : w.heap.size + 1 < w3.heap.size := Blk.lt HRE3.out
    have HON : Hid (On (fun b => b < w3.heap.size) w3 (w3.alloc (.cells #[.int .i64 o.kind, .slice s3.d.a s3.d.n s3.d.c, .slice s3.e.a s3.e.n s3.e.c, .string o.target, .int .i64 o.peer, .slice s3.q.a s3.q.n s3.q.c, .int .i64 o.proc, .int .i64 o.links, .int .i64 o.up] 35))) := On.alloc w3 _
    have HBW : Hid (Below w.heap.size w (w3.alloc (.cells #[.int .i64 o.kind, .slice s3.d.a s3.d.n s3.d.c, .slice s3.e.a s3.e.n s3.e.c, .string o.target, .int .i64 o.peer, .slice s3.q.a s3.q.n s3.q.c, .int .i64 o.proc, .int .i64 o.links, .int .i64 o.up] 35))) := HB3.out.alloc (by omega) _
    have HBX : Hid (Blk (w3.alloc (.cells #[.int .i64 o.kind, .slice s3.d.a s3.d.n s3.d.c, .slice s3.e.a s3.e.n s3.e.c, .string o.target, .int .i64 o.peer, .slice s3.q.a s3.q.n s3.q.c, .int .i64 o.proc, .int .i64 o.links, .int .i64 o.up] 35)) w3.heap.size #[.int .i64 o.kind, .slice s3.d.a s3.d.n s3.d.c, .slice s3.e.a s3.e.n s3.e.c, .string o.target, .int .i64 o.peer, .slice s3.q.a s3.q.n s3.q.c, .int .i64 o.proc, .int .i64 o.links, .int .i64 o.up] 35) := Blk.new w3 _ _
    have HRX : Hid (Blk (w3.alloc (.cells #[.int .i64 o.kind, .slice s3.d.a s3.d.n s3.d.c, .slice s3.e.a s3.e.n s3.e.c, .string o.target, .int .i64 o.peer, .slice s3.q.a s3.q.n s3.q.c, .int .i64 o.proc, .int .i64 o.links, .int .i64 o.up] 35)) (w.heap.size + 1) #[.int .i64 0, .slice none 0 0, .slice none 0 0, .string ⟨#[]⟩, .int .i64 0, .slice none 0 0, .int .i64 0, .int .i64 0, .int .i64 0] 35) := Blk.alloc HRE3.out _
    have HLX : Hid (Lists (w3.alloc (.cells #[.int .i64 o.kind, .slice s3.d.a s3.d.n s3.d.c, .slice s3.e.a s3.e.n s3.e.c, .string o.target, .int .i64 o.peer, .slice s3.q.a s3.q.n s3.q.c, .int .i64 o.proc, .int .i64 o.links, .int .i64 o.up] 35)) (fun x => w.heap.size + 2 ≤ x ∧ x < w3.heap.size) (s3, o)) := HL3.out.on (HON.out.less fun b hb => hb.2)
    have hzX : w3.heap.size < (w3.alloc (.cells #[.int .i64 o.kind, .slice s3.d.a s3.d.n s3.d.c, .slice s3.e.a s3.e.n s3.e.c, .string o.target, .int .i64 o.peer, .slice s3.q.a s3.q.n s3.q.c, .int .i64 o.proc, .int .i64 o.links, .int .i64 o.up] 35)).heap.size := by simp
    have c6 := Blk.cell HRE3.out
    have e6 := Blk.free HRE3.out
    clear hb3 hL3 HRE2 cb HB2 HL3 HRE3 HB3 HF HO
    clear c6 e6
    go_wp2_with (with_reducible refine stop_at (.call { callee := .builtin .len, args := #[.tmp 27], argTypes := #[22] }) rfl ?_)
    unfold Hold
    have cX := Blk.cell HBX.out
    have c6 := Blk.cell HRX.out
    have e6 := Blk.free HRX.out
    have hXlt := Blk.lt HBX.out
    have hRlt := Blk.lt HRX.out
    clear HON
    generalize w3.alloc (.cells #[.int .i64 o.kind, .slice s3.d.a s3.d.n s3.d.c, .slice s3.e.a s3.e.n s3.e.c, .string o.target, .int .i64 o.peer, .slice s3.q.a s3.q.n s3.q.c, .int .i64 o.proc, .int .i64 o.links, .int .i64 o.up] 35) = W at *
    go_wp2
    generalize hW : (((((((((W.setCell ⟨w.heap.size + 1, 0, none⟩ (.int .i64 o.kind)).setCell ⟨w.heap.size + 1, 1, none⟩ (.slice s3.d.a s3.d.n s3.d.c)).setCell ⟨w.heap.size + 1, 2, none⟩ (.slice s3.e.a s3.e.n s3.e.c)).setCell ⟨w.heap.size + 1, 3, none⟩ (.string o.target)).setCell ⟨w.heap.size + 1, 4, none⟩ (.int .i64 o.peer)).setCell ⟨w.heap.size + 1, 5, none⟩ (.slice s3.q.a s3.q.n s3.q.c)).setCell ⟨w.heap.size + 1, 6, none⟩ (.int .i64 o.proc)).setCell ⟨w.heap.size + 1, 7, none⟩ (.int .i64 o.links)).setCell ⟨w.heap.size + 1, 8, none⟩ (.int .i64 o.up)) = W9
    obtain ⟨hb9, hon9, hsz9⟩ := Blk.nine HRX.out _ _ _ _ _ _ _ _ _ W9 hW.symm
    have hc9 := hb9.cell
    have hB9 : Below w.heap.size w W9 := by
      rw [← hW]
      exact Below.nine HBW.out (by omega) _ _ _ _ _ _ _ _ _
    refine bodyPost_ret (v := .tuple #[.agg #[.int .i64 o.kind, .slice s3.d.a s3.d.n s3.d.c, .slice s3.e.a s3.e.n s3.e.c, .string o.target, .int .i64 o.peer, .slice s3.q.a s3.q.n s3.q.c, .int .i64 o.proc, .int .i64 o.links, .int .i64 o.up], .int .i64 0]) (by simp [results, Try.results22, go_sem, hc9]) rfl ⟨s3, rfl, ?_, hB9⟩
    exact (HLX.out.on (hon9.less fun x hx => by omega)).more (T := fun x => w.heap.size ≤ x ∧ x < W9.heap.size) fun x hx => ⟨by omega, by omega⟩
end Go.Proofs.Ytaobjpajbpoamaa
