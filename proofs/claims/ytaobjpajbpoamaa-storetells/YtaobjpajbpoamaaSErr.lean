/-
  store.Enter, store.Remove refused; store.Names of what is no directory; 'greater', of texts.
-/
import Derived.Test.YtaobjpajbpoamaaSNames
import Derived.Test.YtaobjpajbpoamaaSIns
namespace Go.Proofs.Ytaobjpajbpoamaa
open Go.RowKit
set_option maxRecDepth 100000 in
theorem enter_err (L : List Sp.Ob) (d : Int) (name : ByteArray) (j : Int) (v : Value) (S : Nat → Prop) (w : World) (hv : Objs w S v L) (hS : ∀ b, S b → b < w.heap.size) (hs : name.size ≤ maxLen) (h0 : Sp.noEnter L d name j ≠ 0) :
    Calls Try.prog 16 #[v, .int .i64 d, .string name, .int .i64 j] w fun e w' => e = .returned (.tuple #[.slice none 0 0, .int .i64 (Sp.noEnter L d name j)]) ∧ Below w.heap.size w w' := by
  have HE : Hid (Calls Try.prog 50 #[v, .int .i64 d, .string name, .int .i64 j] w fun e w' => e = .returned (.int .i64 (Sp.noEnter L d name j)) ∧ Below w.heap.size w w') := noEnter_any L d name j v S w hv hS hs
  have h0' : (Sp.noEnter L d name j != 0) = true := by simpa using h0
  obtain ⟨a, c, rfl, -⟩ := hv.form
  clear hv hS h0 hs
  generalize Sp.noEnter L d name j = er at *
  go_enter Try.func16, Try.ntmps16
  go_wp2_with fail
  refine Calls.mono HE.out ?_
  rintro e w2 ⟨rfl, hb2⟩
  go_wp2
  go_ret2
  exact ⟨rfl, hb2⟩
set_option maxRecDepth 100000 in
theorem remove_nodir (L : List Sp.Ob) (d : Int) (name : ByteArray) (v : Value) (S : Nat → Prop) (w : World) (hv : Objs w S v L) (h0 : Sp.noDir L d ≠ 0) :
    Calls Try.prog 18 #[v, .int .i64 d, .string name] w fun e w' => e = .returned (.tuple #[.slice none 0 0, .int .i64 0, .int .i64 (Sp.noDir L d)]) ∧ w' = w := by
  have HE : Hid (Calls Try.prog 45 #[v, .int .i64 d] w fun e w' => e = .returned (.int .i64 (Sp.noDir L d)) ∧ w' = w) := noDir_any L d v S w hv
  have h0' : (Sp.noDir L d != 0) = true := by simpa using h0
  obtain ⟨a, c, rfl, -⟩ := hv.form
  clear hv h0
  generalize Sp.noDir L d = er at *
  go_enter Try.func18, Try.ntmps18
  go_wp2_with fail
  refine Calls.mono HE.out ?_
  rintro e w2 ⟨rfl, hw⟩
  rw [hw]
  clear hw
  go_wp2
  go_ret3
  exact ⟨rfl, rfl⟩
set_option maxRecDepth 100000 in
set_option maxHeartbeats 1000000 in
theorem remove_none (L : List Sp.Ob) (d : Nat) (name : ByteArray) (od : Sp.Ob) (v : Value) (S : Nat → Prop) (w : World) (hv : Objs w S v L) (hS : ∀ b, S b → b < w.heap.size) (hd : L[d]? = some od) (hkd : od.kind = 2) (hp : Sp.place od.ents name = -1) :
    Calls Try.prog 18 #[v, .int .i64 d, .string name] w fun e w' => e = .returned (.tuple #[.slice none 0 0, .int .i64 0, .int .i64 6]) ∧ Below w.heap.size w w' := by
  have HND : Hid (Calls Try.prog 45 #[v, .int .i64 d] w fun e w' => e = .returned (.int .i64 0) ∧ w' = w) := by
    have := noDir_any L d v S w hv
    rw [noDir_of hd (by omega), if_pos hkd] at this
    exact this
  obtain ⟨b, of, c, s, rfl, hb, hc, hm, hl, -, -, c2, -⟩ := hv.open hd
  have HPL : Hid (Calls Try.prog 46 #[.slice s.e.a s.e.n s.e.c, .string name] w fun e w' => e = .returned (.int .i64 (-1)) ∧ Below w.heap.size w w') := by
    have := place_any od.ents name _ S w hl.2.1 hS
    rw [hp] at this
    exact this
  have hdl : d < L.length := (List.getElem?_eq_some_iff.1 hd).1
  unfold maxLen at hm
  clear hv hS hd hkd hp hl
  go_enter Try.func18, Try.ntmps18
  go_wp2_with fail
  refine Calls.mono HND.out ?_
  rintro e w1 ⟨rfl, hw⟩
  rw [hw]
  clear hw HND
  go_wp2_with fail
  refine Calls.mono HPL.out ?_
  rintro e w2 ⟨rfl, hb2⟩
  go_wp2
  go_ret3
  exact ⟨rfl, hb2⟩
set_option maxRecDepth 100000 in
set_option maxHeartbeats 2000000 in
theorem remove_full (L : List Sp.Ob) (d i j : Nat) (name : ByteArray) (od oj : Sp.Ob) (v : Value) (S : Nat → Prop) (w : World) (hv : Objs w S v L) (hS : ∀ b, S b → b < w.heap.size) (hd : L[d]? = some od) (hkd : od.kind = 2) (hp : Sp.place od.ents name = (i : Int)) (hx : ∃ nm, od.ents[i]? = some ⟨nm, j⟩) (hj : L[j]? = some oj) (hkj : oj.kind = 2) (he : oj.ents ≠ []) :
    Calls Try.prog 18 #[v, .int .i64 d, .string name] w fun e w' => e = .returned (.tuple #[.slice none 0 0, .int .i64 0, .int .i64 18]) ∧ Below w.heap.size w w' := by
  have HND : Hid (Calls Try.prog 45 #[v, .int .i64 d] w fun e w' => e = .returned (.int .i64 0) ∧ w' = w) := by
    have := noDir_any L d v S w hv
    rw [noDir_of hd (by omega), if_pos hkd] at this
    exact this
  have HNJ : Hid (∀ W, Below w.heap.size w W → Calls Try.prog 45 #[v, .int .i64 j] W fun e w' => e = .returned (.int .i64 0) ∧ w' = W) := fun W hW => by
    have := noDir_any L j v S W (hv.on ((On.of hW).less hS))
    rw [noDir_of hj (by omega), if_pos hkj] at this
    exact this
  obtain ⟨nm, hx⟩ := hx
  have hil : i < od.ents.length := (List.getElem?_eq_some_iff.1 hx).1
  obtain ⟨b, of, c, s, rfl, hb, hc, hm, hl, -, -, c2, -⟩ := hv.open hd
  have HPL : Hid (Calls Try.prog 46 #[.slice s.e.a s.e.n s.e.c, .string name] w fun e w' => e = .returned (.int .i64 (i : Int)) ∧ Below w.heap.size w w') := by
    have := place_any od.ents name _ S w hl.2.1 hS
    rw [hp] at this
    exact this
  have hlE : Ents w S (.slice s.e.a s.e.n s.e.c) od.ents := hl.2.1
  obtain ⟨eb, eo, ec, hse, hSe, h3, h4, h5⟩ := Row.some hlE (by rw [List.length_map]; omega)
  clear hlE
  obtain ⟨-, x1⟩ := ent_cells h5 hx
  dsimp only at x1
  rw [List.length_map] at hse h3
  rw [hse] at c2 HPL
  obtain ⟨bj, oj0, cj, sj, hvj, hbj, -, -, hlj, -, -, j2, -⟩ := hv.open hj
  obtain ⟨q1, -, -⟩ := Value.slice.inj hvj
  obtain ⟨rfl, rfl, -⟩ := Addr.mk.inj (Option.some.inj q1)
  have hjn := Row.eqNil hlj.2.1
  rw [List.length_map] at hjn
  obtain ⟨⟨_, _, _⟩, ⟨ja, jn, jc⟩, ⟨_, _, _⟩⟩ := sj
  dsimp only at hjn j2
  have hdl : d < L.length := (List.getElem?_eq_some_iff.1 hd).1
  have hjl : j < L.length := (List.getElem?_eq_some_iff.1 hj).1
  have hbw := hS b hb
  have hebw := hS eb hSe
  have hjp : (0 : Int) < (jn : Int) := by have := List.length_pos_iff.2 he; omega
  unfold maxLen at hm h4
  clear hv hS hd hj hkj hkd hp hx hl hse h5 hlj hvj q1 he hjn
  go_enter Try.func18, Try.ntmps18
  go_wp2_with fail
  refine Calls.mono HND.out ?_
  rintro e w1 ⟨rfl, hw⟩
  rw [hw]
  clear hw HND
  go_wp2_with fail
  refine Calls.mono HPL.out ?_
  rintro e w2 ⟨rfl, hb2⟩
  have HB2 : Hid (Below w.heap.size w w2) := hb2
  obtain ⟨hcc, -⟩ := bcell hb2
  clear hb2 HPL
  go_wp2_with fail
  refine Calls.mono (HNJ.out _ HB2.out) ?_
  rintro e w1 ⟨rfl, hw⟩
  rw [hw]
  clear hw HNJ
  go_wp2
  go_ret3
  exact ⟨rfl, HB2.out⟩
theorem names_off (s : Sls) (o : Sp.Ob) (w : World) (hk : o.kind ≠ 2) :
    Calls Try.prog 24 #[.agg (objC (s, o)).toArray] w fun e w' => e = .returned (.slice none 0 0) ∧ Below w.heap.size w w' := by
  rw [objV_eq]
  have hk' : (o.kind != 2) = true := by simpa using hk
  clear hk
  go_enter Try.func24, Try.ntmps24
  go_wp2
  go_ret
  exact ⟨rfl, (Below.refl _ _).alloc (Nat.le_refl _) _⟩
/-- 'greater', of texts, as names are held against each other. -/
theorem gtr_eq (a b : ByteArray) : (!(Op.bytesLess a.toList b.toList || a.toList == b.toList)) = decide (0 < Lib.compareBytes a.data.toList b.data.toList) := by
  rw [ByteArray.toList_eq, ByteArray.toList_eq]
  generalize a.data.toList = x
  generalize b.data.toList = y
  induction x generalizing y with
  | nil => cases y <;> simp [Op.bytesLess, Lib.compareBytes]
  | cons c x ih =>
    cases y with
    | nil => simp [Op.bytesLess, Lib.compareBytes]
    | cons d y =>
      have := ih y
      unfold Op.bytesLess Lib.compareBytes
      by_cases h1 : c < d
      · simp [h1]
      · by_cases h2 : d < c
        · have hne : c ≠ d := fun e => by subst e; exact UInt8.lt_irrefl _ h2
          simp [h1, h2, hne]
        · have hcd : c = d := UInt8.le_antisymm (UInt8.not_lt.1 h2) (UInt8.not_lt.1 h1)
          subst hcd
          simp [h1]
          simpa using this
end Go.Proofs.Ytaobjpajbpoamaa
