
/-
  rgref5.Enter, walked.
-/
import Derived.Test.YtdciohinlhbliaaSErr
import Derived.Test.YtdciohinlhbliaaRName
namespace Go.Proofs.Ytdciohinlhbliaa
open Go.RowKit
/-- A row, with one more behind it. -/
theorem more_row {w : World} {base : Nat} {v : Value} {es : List Sp.Ent} {e : Sp.Ent} {o : Oper} {ops : Array Oper} {rest : List Oper} {a : Act} {Q : Exit → Act → World → Prop} (hgd : o.guard = none) (s x : Operand)
    (ho : o.op = .call { callee := .builtin .append, args := #[s, x], argTypes := #[37, 37] }) (hs : a.eval s = v) (hown : Mine w base 89 2 v (es.map entC)) (b : Nat) (hxv : a.eval x = .slice (some ⟨b, 0, none⟩) 1 1) (hb : Blk w b #[.string e.name, .int .i64 e.obj] 89) (hn : es.length ≤ 1000) (hbase : base ≤ w.heap.size)
    (h : ∀ r : Sl, ∀ w', Mine w' base 89 2 (.slice r.a r.n r.c) ((es ++ [e]).map entC) → On (fun b => b < w.heap.size ∧ some b ≠ v.ownBlock) w w' → w.heap.size ≤ w'.heap.size → (∀ B, B ≤ base → Below B w w') → wpList Try.prog ops Q rest (a.put o.dst (.slice r.a r.n r.c)) w') : wpList Try.prog ops Q (o :: rest) a w := by
  obtain ⟨i0, hi, hz0, hz1, hz2⟩ := info_parts Try.infoEnt
  refine wpList_append_row hgd s x _ ho base 89 i0 (.agg #[.string ⟨#[]⟩, .int .i64 0]) 2 24 Try.underlying37 hi hz0 hz1 hz2 rfl (by decide) v (es.map entC) hs hown _ _ [entC e] hxv (ent_row hb) (even_ent [e]) (ones_ent [e]) ?_ (by decide) hbase ?_
  · rw [List.length_map]; simp only [List.length_cons, List.length_nil]; omega
  · intro v' w' hm hg
    have hm' : Mine w' base 89 2 v' ((es ++ [e]).map entC) := by rw [List.map_append]; exact hm
    obtain ⟨r, rfl⟩ := hm'.sl
    have hB : ∀ B, B ≤ base → Below B w w' := fun B hB => Below.grown (Below.refl B w) hg (by omega) (fun k hk => by have := (hown.lt k hk).1; omega)
    exact h r w' hm' (fun b hb => hg.block b hb.1 hb.2) (hB 0 (Nat.zero_le _)).size hB
def boxC (sd sq : Sl) (od : Sp.Ob) (v : Value) : Array Value := #[.int .i64 2, .slice sd.a sd.n sd.c, v, .string od.target, .int .i64 od.peer, .slice sq.a sq.n sq.c, .int .i64 od.proc, .int .i64 od.links, .int .i64 od.up]
/-- The entries' loop: acc lies in the box, what is left is told. -/
def RI (w : World) (g : Nat) (sd sq : Sl) (od : Sp.Ob) (x : Sp.Ent) (es : List Sp.Ent) (q : Nat) (done : Bool) (r : Sl) (acc : List Sp.Ent) (wr : World) : Prop :=
  Blk wr g (boxC sd sq od (.slice r.a r.n r.c)) 40 ∧ Mine wr (g + 1) 89 2 (.slice r.a r.n r.c) (acc.map entC) ∧ acc.length ≤ q + (if done = true then 1 else 0) ∧ insE x es = acc ++ insRest x done (es.drop q) ∧ Below w.heap.size w wr
/-- One appended, and stored into the box. -/
theorem box_next {w W W' : World} {g : Nat} {sd sq : Sl} {od : Sp.Ob} {r r' : Sl} {acc : List Sp.Ent} (h1 : Blk W g (boxC sd sq od (.slice r.a r.n r.c)) 40) (hm : Mine W (g + 1) 89 2 (.slice r.a r.n r.c) (acc.map entC)) (hB : Below w.heap.size w W) (hwg : w.heap.size ≤ g) {acc' : List Sp.Ent} (hm' : Mine W' (g + 1) 89 2 (.slice r'.a r'.n r'.c) (acc'.map entC)) (hon : On (fun b => b < W.heap.size ∧ some b ≠ (Value.slice r.a r.n r.c).ownBlock) W W') (hb' : ∀ B, B ≤ g + 1 → Below B W W') :
    Blk W' g (boxC sd sq od (.slice r.a r.n r.c)) 40 ∧ Blk (W'.setCell ⟨g, 2, none⟩ (.slice r'.a r'.n r'.c)) g (boxC sd sq od (.slice r'.a r'.n r'.c)) 40 ∧ Mine (W'.setCell ⟨g, 2, none⟩ (.slice r'.a r'.n r'.c)) (g + 1) 89 2 (.slice r'.a r'.n r'.c) (acc'.map entC) ∧ Below w.heap.size w (W'.setCell ⟨g, 2, none⟩ (.slice r'.a r'.n r'.c)) := by
  have hg : Blk W' g (boxC sd sq od (.slice r.a r.n r.c)) 40 := h1.on hon ⟨h1.lt, fun e => by have := (hm.lt g e.symm).1; omega⟩
  refine ⟨hg, hg.set 2 _, hm'.on (On.set W' ⟨g, 2, none⟩ _) fun k hk => ?_, (hB.trans (hb' _ (by omega))).setCell hwg _⟩
  have := (hm'.lt k hk).1
  show k ≠ g
  omega
namespace Sp
def entered (L : List Ob) (d j : Nat) (od : Ob) (x : Ent) : List Ob := relinked (withEnts L d (insE x od.ents)) j 1 d
end Sp
set_option maxRecDepth 100000 in
set_option maxHeartbeats 8000000 in
theorem renter_ok (L : List Sp.Ob) (d j : Nat) (name : ByteArray) (od oj : Sp.Ob) (v : Value) (S : Nat → Prop) (w : World) (hv : Objs w S v L) (hS : ∀ b, S b → b < w.heap.size) (hs : name.size ≤ maxLen) (hn : L.length ≤ 100) (hlk : ∀ o ∈ L, -4611686018427387904 ≤ o.links ∧ o.links ≤ 4611686018427387904) (hd : L[d]? = some od) (hj : L[j]? = some oj) (hkd : od.kind = 2) (hkj : oj.kind ≠ 0) (hl0 : od.links ≠ 0) (hnm : Pt.isName name.data.toList = true) (hfi : Sp.find L d name = -1) (h8 : od.ents.length < 8) :
    Calls Try.prog 30 #[v, .int .i64 d, .string name, .int .i64 j] w fun e w' => ∃ a c, e = .returned (.tuple #[.slice a L.length c, .int .i64 0]) ∧ Objs w' (Or' S w.heap.size w'.heap.size) (.slice a L.length c) (Sp.entered L d j od ⟨name, j⟩) ∧ Below w.heap.size w w' := by
  have HI1 : Hid (Calls Try.prog 22 #[v, .int .i64 d, .int .i64 0] w fun e w' => e = .returned (.bool true) ∧ w' = w) := by
    have := is_any L d 0 v S w hv
    have e : Sp.is L d 0 = true := by unfold Sp.is; rw [objAt_of hd (by omega)]; rfl
    rw [e] at this
    exact this
  have HI2 : Hid (Calls Try.prog 22 #[v, .int .i64 j, .int .i64 0] w fun e w' => e = .returned (.bool true) ∧ w' = w) := by
    have := is_any L j 0 v S w hv
    have e : Sp.is L j 0 = true := by unfold Sp.is; rw [objAt_of hj hkj]; rfl
    rw [e] at this
    exact this
  have HNM : Hid (Calls Try.prog 59 #[.string name] w fun e w' => e = .returned (.bool true) ∧ w' = w) := by
    have := rname_any name hs w
    rw [hnm] at this
    exact this
  have HFI : Hid (Calls Try.prog 60 #[v, .int .i64 d, .string name] w fun e w' => e = .returned (.int .i64 (-1)) ∧ Below w.heap.size w w') := by
    have := rfind_any L d name v S w hv hS
    rw [hfi] at this
    exact this
  have HV : Hid (Objs w S v L) := hv
  have HS : Hid (∀ b, S b → b < w.heap.size) := hS
  have hdl : d < L.length := (List.getElem?_eq_some_iff.1 hd).1
  have hjl : j < L.length := (List.getElem?_eq_some_iff.1 hj).1
  obtain ⟨b, of, c, s, rfl, hb, hc, hm, hl, k0, k1, k2, k3, k4, k5, k6, k7, k8⟩ := hv.open hd
  obtain ⟨sd, ⟨ea, en, ec⟩, sq⟩ := s
  have hbw := HS.out b hb
  unfold maxLen at hm
  have hen := Row.eqNil hl.2.1
  rw [List.length_map] at hen
  dsimp only at hen k1 k2 k5
  subst hen
  have HE : Hid (Ents w S (.slice ea od.ents.length ec) od.ents) := hl.2.1
  have HLd : Hid (Lists w S (⟨sd, ⟨ea, od.ents.length, ec⟩, sq⟩, od)) := hl
  have HD : Hid (L[d]? = some od) := hd
  have HJ : Hid (L[j]? = some oj) := hj
  have HLK : Hid (∀ o ∈ L, -4611686018427387904 ≤ o.links ∧ o.links ≤ 4611686018427387904) := hlk
  have hlz : (od.links == 0) = false := by simpa using hl0
  have hez : ¬ (8 : Int) ≤ (od.ents.length : Int) := by omega
  rw [hkd] at k0
  have HKD : Hid (od.kind = 2) := hkd
  have HKJ : Hid (oj.kind ≠ 0) := hkj
  have HN : Hid (L.length ≤ 100) := hn
  have hnz : (L.length : Int) ≤ 100 := by omega
  generalize hes : od.ents = es at *
  have HES : Hid (od.ents = es) := hes
  clear hv hS hs hn hlk hd hj hkd hkj hl0 hnm hfi hl hes
  obtain ⟨o1, hL1j, hk1, hlk1⟩ : ∃ o1, (Sp.withEnts L d (insE ⟨name, j⟩ es))[j]? = some o1 ∧ o1.kind ≠ 0 ∧ (-4611686018427387904 ≤ o1.links ∧ o1.links ≤ 4611686018427387904) := by
    unfold Sp.withEnts
    rw [HD.out]
    dsimp only
    by_cases hjd : j = d
    · subst hjd
      have hoo : oj = od := by have := HD.out; rw [HJ.out] at this; exact Option.some.inj this
      exact ⟨{ od with ents := insE ⟨name, j⟩ es }, by rw [List.getElem?_set_self hdl], by show od.kind ≠ 0; rw [← hoo]; exact HKJ.out, HLK.out od (List.mem_of_getElem? HD.out)⟩
    · rw [List.getElem?_set_ne (by omega)]
      exact ⟨oj, HJ.out, HKJ.out, HLK.out oj (List.mem_of_getElem? HJ.out)⟩
  have hL1n : (Sp.withEnts L d (insE ⟨name, j⟩ es)).length = L.length := by unfold Sp.withEnts; rw [HD.out]; simp
  have HW1 : Hid (∀ (r : Sl) (W : World) (g : Nat), w.heap.size ≤ g → Below w.heap.size w W → Mine W g 89 2 (.slice r.a r.n r.c) ((insE ⟨name, j⟩ es).map entC) → Calls Try.prog 31 #[.slice (some ⟨b, of, none⟩) L.length c, .int .i64 d, .agg (boxC sd sq od (.slice r.a r.n r.c))] W fun e w' => ∃ a c, e = .returned (.slice a L.length c) ∧ Objs w' (Or' S w.heap.size w'.heap.size) (.slice a L.length c) (Sp.withEnts L d (insE ⟨name, j⟩ es)) ∧ Below W.heap.size W w') := by
    intro r W g hg hW hm
    have hon : On S w W := (On.of hW).less HS.out
    have hobj : Objs W (Or' S w.heap.size W.heap.size) (.slice (some ⟨b, of, none⟩) L.length c) L := (HV.out.on hon).more fun b hb => Or.inl hb
    have hlist : Lists W (Or' S w.heap.size W.heap.size) (⟨sd, r, sq⟩, { od with ents := insE ⟨name, j⟩ es }) := ⟨(Row.on HLd.out.1 hon).more fun b hb => Or.inl hb, (hm.row (even_ent _)).more fun b hb => Or.inr ⟨by omega, hb.2⟩, (Queue.on HLd.out.2.2 hon).more fun b hb => Or.inl hb⟩
    have := rwith_any L d ⟨sd, r, sq⟩ { od with ents := insE ⟨name, j⟩ es } _ (Or' S w.heap.size W.heap.size) W hobj (fun b hb => hb.elim (fun h => Nat.lt_of_lt_of_le (HS.out b h) hW.size) (fun h => h.2)) (by have := HN.out; omega) (by omega) hlist
    have e1 : Sp.rwith L d { od with ents := insE ⟨name, j⟩ es } = Sp.withEnts L d (insE ⟨name, j⟩ es) := by
      unfold Sp.rwith Sp.withEnts
      rw [if_neg (by omega), HD.out]
    have e2 : (objC (⟨sd, r, sq⟩, { od with ents := insE ⟨name, j⟩ es })).toArray = boxC sd sq od (.slice r.a r.n r.c) := by
      rw [objV_eq]
      dsimp only
      rw [HKD.out]
      rfl
    rw [e1, e2, hL1n] at this
    refine Calls.mono this ?_
    rintro e w' ⟨a, c, rfl, ho, hb⟩
    refine ⟨a, c, rfl, ho.more fun b hb' => ?_, hb⟩
    have := hb.size
    have := hW.size
    rcases hb' with (h | h) | h
    · exact Or.inl h
    · exact Or.inr ⟨h.1, by omega⟩
    · exact Or.inr ⟨by omega, h.2⟩
  generalize hL1g : Sp.withEnts L d (insE ⟨name, j⟩ es) = L1 at *
  have HENT : Hid (Sp.entered L d j od ⟨name, j⟩ = L1.set j (Sp.linked o1 1 d)) := by
    unfold Hid Sp.entered Sp.relinked
    rw [HES.out, hL1g, hL1j]
  have HW2 : Hid (∀ (a : Option Addr) (c : Nat) (s1 : Sls) (W5 W : World), Below w.heap.size w W5 → Objs W5 (Or' S w.heap.size W5.heap.size) (.slice a L.length c) L1 → Lists W5 (Or' S w.heap.size W5.heap.size) (s1, o1) → Below W5.heap.size W5 W → Calls Try.prog 31 #[.slice a L.length c, .int .i64 j, .agg (objC (s1, Sp.linked o1 1 d)).toArray] W fun e w' => ∃ a c, e = .returned (.slice a L.length c) ∧ Objs w' (Or' S w.heap.size w'.heap.size) (.slice a L.length c) (Sp.entered L d j od ⟨name, j⟩) ∧ Below w.heap.size w w') := by
    intro a c s1 W5 W hW5 hO hl1 hW
    have hlt5 : ∀ b, Or' S w.heap.size W5.heap.size b → b < W5.heap.size := fun b hb => hb.elim (fun h => Nat.lt_of_lt_of_le (HS.out b h) hW5.size) (fun h => h.2)
    have hon : On (Or' S w.heap.size W5.heap.size) W5 W := (On.of hW).less hlt5
    have := rwith_any L1 j s1 (Sp.linked o1 1 d) (.slice a L.length c) (Or' S w.heap.size W5.heap.size) W (hO.on hon) (fun b hb => Nat.lt_of_lt_of_le (hlt5 b hb) hW.size) (by have := HN.out; omega) (by omega) (Lists.on hl1 hon)
    have e1 : Sp.rwith L1 j (Sp.linked o1 1 d) = Sp.entered L d j od ⟨name, j⟩ := by
      rw [HENT.out]
      unfold Sp.rwith
      rw [if_neg (by omega)]
    have e3 : (Sp.entered L d j od ⟨name, j⟩).length = L.length := by rw [HENT.out, List.length_set, hL1n]
    rw [e1, e3] at this
    refine Calls.mono this ?_
    rintro e w' ⟨a', c', rfl, ho, hb⟩
    have h1 := hb.size
    have h2 := hW.size
    have h3 := hW5.size
    refine ⟨a', c', rfl, ho.more fun b hb' => ?_, hW5.trans ((hW.mono h3).trans (hb.mono (by omega)))⟩
    rcases hb' with (h | h) | h
    · exact Or.inl h
    · exact Or.inr ⟨h.1, by omega⟩
    · exact Or.inr ⟨by omega, h.2⟩
  have HL1J : Hid (L1[j]? = some o1) := hL1j
  have HK1 : Hid (-4611686018427387904 ≤ o1.links ∧ o1.links ≤ 4611686018427387904) := hlk1
  generalize Sp.entered L d j od ⟨name, j⟩ = LF at *
  clear hL1j hk1 hlk1 hL1n hL1g HENT
  go_enter Try.func30, Try.ntmps30
  go_wp2_with fail
  refine Calls.mono HI1.out ?_
  rintro e w1 ⟨rfl, hw⟩
  rw [hw]
  clear hw HI1
  go_wp2_with fail
  refine Calls.mono HI2.out ?_
  rintro e w1 ⟨rfl, hw⟩
  rw [hw]
  clear hw HI2
  go_wp2_with fail
  refine Calls.mono HNM.out ?_
  rintro e w1 ⟨rfl, hw⟩
  rw [hw]
  clear hw HNM
  go_wp2_with fail
  refine Calls.mono HFI.out ?_
  rintro e w2 ⟨rfl, hb2⟩
  have HB2 : Hid (Below w.heap.size w w2) := hb2
  have hz2 := hb2.size
  obtain ⟨hcc, -⟩ := bcell hb2
  have m0 := (hcc b (of + d * 9) hbw).trans k0
  have m1 := (hcc b (of + d * 9 + 1) hbw).trans k1
  have m2 := (hcc b (of + d * 9 + 2) hbw).trans k2
  have m3 := (hcc b (of + d * 9 + 3) hbw).trans k3
  have m4 := (hcc b (of + d * 9 + 4) hbw).trans k4
  have m5 := (hcc b (of + d * 9 + 5) hbw).trans k5
  have m6 := (hcc b (of + d * 9 + 6) hbw).trans k6
  have m7 := (hcc b (of + d * 9 + 7) hbw).trans k7
  have m8 := (hcc b (of + d * 9 + 8) hbw).trans k8
  have hb2w : b < w2.heap.size := by omega
  have hbne : b ≠ w2.heap.size := by omega
  clear hb2 hcc k0 k1 k2 k3 k4 k5 k6 k7 k8 HFI
  go_wp2_with (with_reducible refine stop_at (.call { callee := .builtin .len, args := #[.tmp 63], argTypes := #[37] }) rfl ?_)
  unfold Hold
  have hz3 : w2.heap.size < (w2.alloc (.cells #[.int .i64 2, .slice sd.a sd.n sd.c, .slice none 0 0, .string od.target, .int .i64 od.peer, .slice sq.a sq.n sq.c, .int .i64 od.proc, .int .i64 od.links, .int .i64 od.up] 40)).heap.size := by simp
  have HB3 : Hid (Below w.heap.size w (w2.alloc (.cells #[.int .i64 2, .slice sd.a sd.n sd.c, .slice none 0 0, .string od.target, .int .i64 od.peer, .slice sq.a sq.n sq.c, .int .i64 od.proc, .int .i64 od.links, .int .i64 od.up] 40))) := HB2.out.alloc HB2.out.size _
  have HQ3 : Hid (Blk (w2.alloc (.cells #[.int .i64 2, .slice sd.a sd.n sd.c, .slice none 0 0, .string od.target, .int .i64 od.peer, .slice sq.a sq.n sq.c, .int .i64 od.proc, .int .i64 od.links, .int .i64 od.up] 40)) w2.heap.size (boxC sd sq od (.slice none 0 0)) 40) := Blk.new w2 _ _
  clear m0 m1 m2 m3 m4 m5 m6 m7 m8 hlz hez
  generalize w2.alloc (.cells #[.int .i64 2, .slice sd.a sd.n sd.c, .slice none 0 0, .string od.target, .int .i64 od.peer, .slice sq.a sq.n sq.c, .int .i64 od.proc, .int .i64 od.links, .int .i64 od.up] 40) = w3 at *
  go_wp2
  go_loopw [11, 65] (fun dn i wr => ∃ (q : Nat) (done : Bool) (r : Sl) (acc : List Sp.Ent), q ≤ es.length ∧ dn = .bool done ∧ i = .int .i64 q ∧ RI w w2.heap.size sd sq od ⟨name, j⟩ es q done r acc wr) (fun _ i _ => es.length - (intOf i).toNat)
  case atStart => exact ⟨0, false, nilSl, [], Nat.zero_le _, rfl, rfl, HQ3.out, Mine.nil _ _ _ _, by simp, by simp [insRest], HB3.out⟩
  case round =>
    obtain ⟨q, done, r, acc, hq, rfl, rfl, hI⟩ := hrel
    obtain ⟨i1, i2, i3, i4, i5⟩ := hI
    by_cases hlt : q < es.length
    · have hx : es[q]? = some es[q] := List.getElem?_eq_getElem hlt
      obtain ⟨eb, eo, ec', hse, hSe, h3, h4, h5⟩ := (Row.on HE.out ((On.of i5).less HS.out)).some (by rw [List.length_map]; omega)
      rw [List.length_map] at hse h3
      obtain ⟨rfl, -, rfl⟩ := Value.slice.inj hse
      obtain ⟨x0, x1⟩ := ent_cells h5 hx
      have HX : Hid (es[q]? = some es[q]) := hx
      generalize es[q] = y at *
      have hebw := HS.out eb hSe
      have hzr := i5.size
      have hgr := i1.lt
      have H1 : Hid (Blk wr w2.heap.size (boxC sd sq od (.slice r.a r.n r.c)) 40) := i1
      have H2 : Hid (Mine wr (w2.heap.size + 1) 89 2 (.slice r.a r.n r.c) (acc.map entC)) := i2
      have H3 : Hid (acc.length ≤ q + (if done = true then 1 else 0)) := i3
      have H4 : Hid (insE ⟨name, j⟩ es = acc ++ insRest ⟨name, j⟩ done (es.drop q)) := i4
      have H5 : Hid (Below w.heap.size w wr) := i5
      have cg := i1.cell
      have fg := i1.free
      unfold boxC at cg
      unfold maxLen at h4
      have hgne : w2.heap.size ≠ wr.heap.size := by omega
      clear hx hse h5 i1 i2 i3 i4 i5
      cases done with
      | true =>
        go_wp2_with (with_reducible refine stop_at (.call { callee := .builtin .append, args := #[.tmp 86, .tmp 88], argTypes := #[37, 37] }) rfl ?_)
        unfold Hold
        have A1 : Hid (Blk ((wr.alloc (.cells #[.string y.name, .int .i64 y.obj] 89)).alloc (.cells #[.string y.name, .int .i64 y.obj] 89)) w2.heap.size (boxC sd sq od (.slice r.a r.n r.c)) 40) := (Blk.alloc H1.out _).alloc _
        have hsz1 : (wr.alloc (.cells #[.string y.name, .int .i64 y.obj] 89)).heap.size = wr.heap.size + 1 := by simp
        have A2 : Hid (Mine ((wr.alloc (.cells #[.string y.name, .int .i64 y.obj] 89)).alloc (.cells #[.string y.name, .int .i64 y.obj] 89)) (w2.heap.size + 1) 89 2 (.slice r.a r.n r.c) (acc.map entC)) := (H2.out.on (On.alloc wr _) fun g hg => (H2.out.lt g hg).2).on (On.alloc _ _) fun g hg => by have := (H2.out.lt g hg).2; omega
        have A3 : Hid (Blk ((wr.alloc (.cells #[.string y.name, .int .i64 y.obj] 89)).alloc (.cells #[.string y.name, .int .i64 y.obj] 89)) (wr.heap.size + 1) #[.string y.name, .int .i64 y.obj] 89) := by
          have := Blk.new (wr.alloc (.cells #[.string y.name, .int .i64 y.obj] 89)) #[.string y.name, .int .i64 y.obj] 89
          rw [hsz1] at this
          exact this
        have A5 : Hid (Below w.heap.size w ((wr.alloc (.cells #[.string y.name, .int .i64 y.obj] 89)).alloc (.cells #[.string y.name, .int .i64 y.obj] 89))) := (H5.out.alloc H5.out.size _).alloc (by have := H5.out.size; omega) _
        have A6 : wr.heap.size + 1 < ((wr.alloc (.cells #[.string y.name, .int .i64 y.obj] 89)).alloc (.cells #[.string y.name, .int .i64 y.obj] 89)).heap.size := by simp
        clear hsz1 cg fg
        generalize ((wr.alloc (.cells #[.string y.name, .int .i64 y.obj] 89)).alloc (.cells #[.string y.name, .int .i64 y.obj] 89)) = W at *
        refine more_row (e := y) rfl _ _ rfl rfl A2.out (wr.heap.size + 1) rfl A3.out (by have := H3.out; simp at this; omega) (by omega) ?_
        intro r' W' hm' hon hsz hb'
        obtain ⟨n0, n1, n2, n3⟩ := box_next A1.out A2.out A5.out hz2 hm' hon hb'
        have cg' := n0.cell
        have fg' := n0.free
        unfold boxC at cg'
        have HNX : Hid (RI w w2.heap.size sd sq od ⟨name, j⟩ es (q + 1) true r' (acc ++ [y]) (W'.setCell ⟨w2.heap.size, 2, none⟩ (.slice r'.a r'.n r'.c))) := ⟨n1, n2, by have := H3.out; simp at this; simp; omega, by rw [H4.out, insRest_done _ es q y HX.out]; simp, n3⟩
        clear n0 n1 n2 n3 hm' hon hb' A1 A2 A3 A5
        go_wp2
        exact ⟨⟨q + 1, true, r', acc ++ [y], by omega, rfl, by go_num, HNX.out⟩, by simp [intOf]; omega⟩
      | false =>
        by_cases hg : 0 < cmpE y ⟨name, j⟩
        · have hgt : (Op.bytesLess y.name.toList name.toList || y.name.toList == name.toList) = false := by
            have := gtr_eq y.name name
            rw [decide_eq_true (show 0 < Lib.compareBytes y.name.data.toList name.data.toList from hg)] at this
            cases hh : (Op.bytesLess y.name.toList name.toList || y.name.toList == name.toList) with
            | false => rfl
            | true => rw [hh] at this; cases this
          have HG : Hid (0 < cmpE y ⟨name, j⟩) := hg
          clear hg
          go_wp2_with (with_reducible refine stop_at (.call { callee := .builtin .append, args := #[.tmp 78, .tmp 82], argTypes := #[37, 37] }) rfl ?_)
          unfold Hold
          have A1 : Hid (Blk ((wr.alloc (.cells #[.string y.name, .int .i64 y.obj] 89)).alloc (.cells #[.string name, .int .i64 (j : Int)] 89)) w2.heap.size (boxC sd sq od (.slice r.a r.n r.c)) 40) := (Blk.alloc H1.out _).alloc _
          have hsz1 : (wr.alloc (.cells #[.string y.name, .int .i64 y.obj] 89)).heap.size = wr.heap.size + 1 := by simp
          have A2 : Hid (Mine ((wr.alloc (.cells #[.string y.name, .int .i64 y.obj] 89)).alloc (.cells #[.string name, .int .i64 (j : Int)] 89)) (w2.heap.size + 1) 89 2 (.slice r.a r.n r.c) (acc.map entC)) := (H2.out.on (On.alloc wr _) fun g hg => (H2.out.lt g hg).2).on (On.alloc _ _) fun g hg => by have := (H2.out.lt g hg).2; omega
          have A3 : Hid (Blk ((wr.alloc (.cells #[.string y.name, .int .i64 y.obj] 89)).alloc (.cells #[.string name, .int .i64 (j : Int)] 89)) (wr.heap.size + 1) #[.string name, .int .i64 (j : Int)] 89) := by
            have := Blk.new (wr.alloc (.cells #[.string y.name, .int .i64 y.obj] 89)) #[.string name, .int .i64 (j : Int)] 89
            rw [hsz1] at this
            exact this
          have A4 : Hid (Blk ((wr.alloc (.cells #[.string y.name, .int .i64 y.obj] 89)).alloc (.cells #[.string name, .int .i64 (j : Int)] 89)) wr.heap.size #[.string y.name, .int .i64 y.obj] 89) := (Blk.new wr _ _).alloc _
          have A5 : Hid (Below w.heap.size w ((wr.alloc (.cells #[.string y.name, .int .i64 y.obj] 89)).alloc (.cells #[.string name, .int .i64 (j : Int)] 89))) := (H5.out.alloc H5.out.size _).alloc (by have := H5.out.size; omega) _
          have A6 : wr.heap.size + 1 < ((wr.alloc (.cells #[.string y.name, .int .i64 y.obj] 89)).alloc (.cells #[.string name, .int .i64 (j : Int)] 89)).heap.size := by simp
          clear hsz1 cg fg hgt
          generalize ((wr.alloc (.cells #[.string y.name, .int .i64 y.obj] 89)).alloc (.cells #[.string name, .int .i64 (j : Int)] 89)) = W at *
          refine more_row (e := ⟨name, j⟩) rfl _ _ rfl rfl A2.out (wr.heap.size + 1) rfl A3.out (by have := H3.out; simp at this; omega) (by omega) ?_
          intro r' W' hm' hon hsz hb'
          obtain ⟨n0, n1, n2, n3⟩ := box_next A1.out A2.out A5.out hz2 hm' hon hb'
          have cg' := n0.cell
          have fg' := n0.free
          unfold boxC at cg'
          have ny : Blk W' wr.heap.size #[.string y.name, .int .i64 y.obj] 89 := Blk.on A4.out hon ⟨by omega, fun e => by have := (H2.out.lt _ e.symm).2; omega⟩
          have cy := ny.cell
          have N1 : Hid (Blk (W'.setCell ⟨w2.heap.size, 2, none⟩ (.slice r'.a r'.n r'.c)) w2.heap.size (boxC sd sq od (.slice r'.a r'.n r'.c)) 40) := n1
          have N2 : Hid (Mine (W'.setCell ⟨w2.heap.size, 2, none⟩ (.slice r'.a r'.n r'.c)) (w2.heap.size + 1) 89 2 (.slice r'.a r'.n r'.c) ((acc ++ [(⟨name, j⟩ : Sp.Ent)]).map entC)) := n2
          have N3 : Hid (Below w.heap.size w (W'.setCell ⟨w2.heap.size, 2, none⟩ (.slice r'.a r'.n r'.c))) := n3
          have hszW : wr.heap.size + 1 < W'.heap.size := by omega
          have hszS : (W'.setCell ⟨w2.heap.size, 2, none⟩ (.slice r'.a r'.n r'.c)).heap.size = W'.heap.size := by simp
          have HSS : Hid _ := hszS
          clear n0 n1 n2 n3 ny hm' hon hb' A1 A2 A3 A4 A5 hszS
          go_wp2_with (with_reducible refine stop_at (.call { callee := .builtin .append, args := #[.tmp 86, .tmp 88], argTypes := #[37, 37] }) rfl ?_)
          unfold Hold
          have B1 : Hid (Blk ((W'.setCell ⟨w2.heap.size, 2, none⟩ (.slice r'.a r'.n r'.c)).alloc (.cells #[.string y.name, .int .i64 y.obj] 89)) w2.heap.size (boxC sd sq od (.slice r'.a r'.n r'.c)) 40) := Blk.alloc N1.out _
          have B2 : Hid (Mine ((W'.setCell ⟨w2.heap.size, 2, none⟩ (.slice r'.a r'.n r'.c)).alloc (.cells #[.string y.name, .int .i64 y.obj] 89)) (w2.heap.size + 1) 89 2 (.slice r'.a r'.n r'.c) ((acc ++ [(⟨name, j⟩ : Sp.Ent)]).map entC)) := N2.out.on (On.alloc _ _) fun g hg => (N2.out.lt g hg).2
          have B3 : Hid (Blk ((W'.setCell ⟨w2.heap.size, 2, none⟩ (.slice r'.a r'.n r'.c)).alloc (.cells #[.string y.name, .int .i64 y.obj] 89)) W'.heap.size #[.string y.name, .int .i64 y.obj] 89) := by
            have := Blk.new (W'.setCell ⟨w2.heap.size, 2, none⟩ (.slice r'.a r'.n r'.c)) #[.string y.name, .int .i64 y.obj] 89
            rw [HSS.out] at this
            exact this
          have B5 : Hid (Below w.heap.size w ((W'.setCell ⟨w2.heap.size, 2, none⟩ (.slice r'.a r'.n r'.c)).alloc (.cells #[.string y.name, .int .i64 y.obj] 89))) := N3.out.alloc N3.out.size _
          have B6 : W'.heap.size < ((W'.setCell ⟨w2.heap.size, 2, none⟩ (.slice r'.a r'.n r'.c)).alloc (.cells #[.string y.name, .int .i64 y.obj] 89)).heap.size := by simp
          clear cg' fg' cy N1 N2 N3 HSS
          generalize ((W'.setCell ⟨w2.heap.size, 2, none⟩ (.slice r'.a r'.n r'.c)).alloc (.cells #[.string y.name, .int .i64 y.obj] 89)) = V at *
          refine more_row (e := y) rfl _ _ rfl rfl B2.out W'.heap.size rfl B3.out (by have := H3.out; simp at this; simp; omega) (by omega) ?_
          intro r2 V' hm2 hon2 hsz2 hb2'
          obtain ⟨n0, n1, n2, n3⟩ := box_next B1.out B2.out B5.out hz2 hm2 hon2 hb2'
          have cg' := n0.cell
          have fg' := n0.free
          unfold boxC at cg'
          have HNX : Hid (RI w w2.heap.size sd sq od ⟨name, j⟩ es (q + 1) true r2 (acc ++ [(⟨name, j⟩ : Sp.Ent)] ++ [y]) (V'.setCell ⟨w2.heap.size, 2, none⟩ (.slice r2.a r2.n r2.c))) := ⟨n1, n2, by have := H3.out; simp at this; simp; omega, by rw [H4.out, insRest_now _ es q y HX.out HG.out]; simp, n3⟩
          clear n0 n1 n2 n3 hm2 hon2 hb2' B1 B2 B3 B5
          go_wp2
          exact ⟨⟨q + 1, true, r2, _, by omega, rfl, by go_num, HNX.out⟩, by simp [intOf]; omega⟩
        · have hgt : (Op.bytesLess y.name.toList name.toList || y.name.toList == name.toList) = true := by
            have := gtr_eq y.name name
            rw [decide_eq_false (show ¬ 0 < Lib.compareBytes y.name.data.toList name.data.toList from hg)] at this
            cases hh : (Op.bytesLess y.name.toList name.toList || y.name.toList == name.toList) with
            | true => rfl
            | false => rw [hh] at this; cases this
          have HG : Hid (¬ 0 < cmpE y ⟨name, j⟩) := hg
          clear hg
          go_wp2_with (with_reducible refine stop_at (.call { callee := .builtin .append, args := #[.tmp 86, .tmp 88], argTypes := #[37, 37] }) rfl ?_)
          unfold Hold
          have A1 : Hid (Blk ((wr.alloc (.cells #[.string y.name, .int .i64 y.obj] 89)).alloc (.cells #[.string y.name, .int .i64 y.obj] 89)) w2.heap.size (boxC sd sq od (.slice r.a r.n r.c)) 40) := (Blk.alloc H1.out _).alloc _
          have hsz1 : (wr.alloc (.cells #[.string y.name, .int .i64 y.obj] 89)).heap.size = wr.heap.size + 1 := by simp
          have A2 : Hid (Mine ((wr.alloc (.cells #[.string y.name, .int .i64 y.obj] 89)).alloc (.cells #[.string y.name, .int .i64 y.obj] 89)) (w2.heap.size + 1) 89 2 (.slice r.a r.n r.c) (acc.map entC)) := (H2.out.on (On.alloc wr _) fun g hg => (H2.out.lt g hg).2).on (On.alloc _ _) fun g hg => by have := (H2.out.lt g hg).2; omega
          have A3 : Hid (Blk ((wr.alloc (.cells #[.string y.name, .int .i64 y.obj] 89)).alloc (.cells #[.string y.name, .int .i64 y.obj] 89)) (wr.heap.size + 1) #[.string y.name, .int .i64 y.obj] 89) := by
            have := Blk.new (wr.alloc (.cells #[.string y.name, .int .i64 y.obj] 89)) #[.string y.name, .int .i64 y.obj] 89
            rw [hsz1] at this
            exact this
          have A5 : Hid (Below w.heap.size w ((wr.alloc (.cells #[.string y.name, .int .i64 y.obj] 89)).alloc (.cells #[.string y.name, .int .i64 y.obj] 89))) := (H5.out.alloc H5.out.size _).alloc (by have := H5.out.size; omega) _
          have A6 : wr.heap.size + 1 < ((wr.alloc (.cells #[.string y.name, .int .i64 y.obj] 89)).alloc (.cells #[.string y.name, .int .i64 y.obj] 89)).heap.size := by simp
          clear hsz1 cg fg
          generalize ((wr.alloc (.cells #[.string y.name, .int .i64 y.obj] 89)).alloc (.cells #[.string y.name, .int .i64 y.obj] 89)) = W at *
          refine more_row (e := y) rfl _ _ rfl rfl A2.out (wr.heap.size + 1) rfl A3.out (by have := H3.out; simp at this; omega) (by omega) ?_
          intro r' W' hm' hon hsz hb'
          obtain ⟨n0, n1, n2, n3⟩ := box_next A1.out A2.out A5.out hz2 hm' hon hb'
          have cg' := n0.cell
          have fg' := n0.free
          unfold boxC at cg'
          have HNX : Hid (RI w w2.heap.size sd sq od ⟨name, j⟩ es (q + 1) false r' (acc ++ [y]) (W'.setCell ⟨w2.heap.size, 2, none⟩ (.slice r'.a r'.n r'.c))) := ⟨n1, n2, by have := H3.out; simp at this; simp; omega, by rw [H4.out, insRest_on _ es q y HX.out (by have := HG.out; omega)]; simp, n3⟩
          clear n0 n1 n2 n3 hm' hon hb' A1 A2 A3 A5
          go_wp2
          exact ⟨⟨q + 1, false, r', acc ++ [y], by omega, rfl, by go_num, HNX.out⟩, by simp [intOf]; omega⟩
    · obtain rfl : q = es.length := by omega
      have H1 : Hid (Blk wr w2.heap.size (boxC sd sq od (.slice r.a r.n r.c)) 40) := i1
      have H2 : Hid (Mine wr (w2.heap.size + 1) 89 2 (.slice r.a r.n r.c) (acc.map entC)) := i2
      have H3 : Hid (acc.length ≤ es.length + (if done = true then 1 else 0)) := i3
      have H4 : Hid (insE ⟨name, j⟩ es = acc ++ insRest ⟨name, j⟩ done []) := by unfold Hid; rw [i4, List.drop_length]
      have H5 : Hid (Below w.heap.size w wr) := i5
      have cg := i1.cell
      have fg := i1.free
      have hgr := i1.lt
      unfold boxC at cg
      clear i1 i2 i3 i4 i5
      cases done with
      | true =>
        have HA : Hid (acc = insE ⟨name, j⟩ es) := by unfold Hid; rw [H4.out]; simp [insRest]
        go_wp2_with fail
        refine Calls.mono (HW1.out r wr (w2.heap.size + 1) (by omega) H5.out (by have := H2.out; rw [HA.out] at this; exact this)) ?_
        rintro e w5 ⟨a5, c5, rfl, ho5, hb5⟩
        have HB5 : Hid (Below w.heap.size w w5) := Below.trans H5.out (hb5.mono (Below.size H5.out))
        have HO5 : Hid (Objs w5 (Or' S w.heap.size w5.heap.size) (.slice a5 L.length c5) L1) := ho5
        obtain ⟨b6, of6, c6, s6, e6, hb6, hc6, hm6, hl6, t0, t1, t2, t3, t4, t5, t6, t7, t8⟩ := ho5.open HL1J.out
        obtain ⟨rfl, -, rfl⟩ := Value.slice.inj e6
        have HL6 : Hid (Lists w5 (Or' S w.heap.size w5.heap.size) (s6, o1)) := hl6
        have hlo := HK1.out.1
        have hhi := HK1.out.2
        unfold maxLen at hm6
        clear hb5 ho5 hl6 e6 cg
        have hfin := HW2.out (some ⟨b6, of6, none⟩) c5 s6 w5
        rw [objV_eq] at hfin
        dsimp only [Sp.linked] at hfin
        have HFIN : Hid _ := hfin
        clear hfin
        by_cases hk2 : o1.kind = 2
        · rw [hk2] at t0
          rw [if_pos hk2, hk2] at HFIN
          go_wp2_with fail
          refine Calls.mono (HFIN.out _ HB5.out HO5.out HL6.out ((Below.refl _ _).alloc (Nat.le_refl _) _)) ?_
          rintro e w7 ⟨a7, c7, rfl, ho7, hb7⟩
          have HO7 : Hid _ := ho7
          have HB7 : Hid _ := hb7
          clear ho7 hb7 HFIN
          go_wp2
          go_ret2
          exact ⟨a7, c7, rfl, HO7.out, HB7.out⟩
        · rw [if_neg hk2] at HFIN
          have hk2' : (o1.kind == 2) = false := by simpa using hk2
          clear hk2
          go_wp2_with fail
          refine Calls.mono (HFIN.out _ HB5.out HO5.out HL6.out ((Below.refl _ _).alloc (Nat.le_refl _) _)) ?_
          rintro e w7 ⟨a7, c7, rfl, ho7, hb7⟩
          have HO7 : Hid _ := ho7
          have HB7 : Hid _ := hb7
          clear ho7 hb7 HFIN
          go_wp2
          go_ret2
          exact ⟨a7, c7, rfl, HO7.out, HB7.out⟩
      | false =>
        have HA : Hid (acc ++ [(⟨name, j⟩ : Sp.Ent)] = insE ⟨name, j⟩ es) := by unfold Hid; rw [H4.out]; simp [insRest, insE]
        go_wp2_with (with_reducible refine stop_at (.call { callee := .builtin .append, args := #[.tmp 95, .tmp 99], argTypes := #[37, 37] }) rfl ?_)
        unfold Hold
        have A1 : Hid (Blk (wr.alloc (.cells #[.string name, .int .i64 (j : Int)] 89)) w2.heap.size (boxC sd sq od (.slice r.a r.n r.c)) 40) := Blk.alloc H1.out _
        have A2 : Hid (Mine (wr.alloc (.cells #[.string name, .int .i64 (j : Int)] 89)) (w2.heap.size + 1) 89 2 (.slice r.a r.n r.c) (acc.map entC)) := H2.out.on (On.alloc wr _) fun g hg => (H2.out.lt g hg).2
        have A3 : Hid (Blk (wr.alloc (.cells #[.string name, .int .i64 (j : Int)] 89)) wr.heap.size #[.string name, .int .i64 (j : Int)] 89) := Blk.new wr _ _
        have A5 : Hid (Below w.heap.size w (wr.alloc (.cells #[.string name, .int .i64 (j : Int)] 89))) := H5.out.alloc H5.out.size _
        have A6 : wr.heap.size < (wr.alloc (.cells #[.string name, .int .i64 (j : Int)] 89)).heap.size := by simp
        clear cg fg
        generalize wr.alloc (.cells #[.string name, .int .i64 (j : Int)] 89) = W at *
        refine more_row (e := ⟨name, j⟩) rfl _ _ rfl rfl A2.out wr.heap.size rfl A3.out (by have := H3.out; simp at this; omega) (by omega) ?_
        intro r' W' hm' hon hsz hb'
        obtain ⟨n0, n1, n2, n3⟩ := box_next A1.out A2.out A5.out hz2 hm' hon hb'
        have cg' := n0.cell
        have fg' := n0.free
        unfold boxC at cg'
        rw [HA.out] at n2
        have N1 : Hid _ := n1
        have N2 : Hid _ := n2
        have N3 : Hid _ := n3
        clear n0 n1 n2 n3 hm' hon hb' A1 A2 A3 A5
        go_wp2_with fail
        refine Calls.mono (HW1.out r' _ (w2.heap.size + 1) (by omega) N3.out N2.out) ?_
        rintro e w5 ⟨a5, c5, rfl, ho5, hb5⟩
        have HB5 : Hid (Below w.heap.size w w5) := Below.trans N3.out (hb5.mono (Below.size N3.out))
        have HO5 : Hid (Objs w5 (Or' S w.heap.size w5.heap.size) (.slice a5 L.length c5) L1) := ho5
        obtain ⟨b6, of6, c6, s6, e6, hb6, hc6, hm6, hl6, t0, t1, t2, t3, t4, t5, t6, t7, t8⟩ := ho5.open HL1J.out
        obtain ⟨rfl, -, rfl⟩ := Value.slice.inj e6
        have HL6 : Hid (Lists w5 (Or' S w.heap.size w5.heap.size) (s6, o1)) := hl6
        have hlo := HK1.out.1
        have hhi := HK1.out.2
        unfold maxLen at hm6
        clear hb5 ho5 hl6 e6 cg'
        have hfin := HW2.out (some ⟨b6, of6, none⟩) c5 s6 w5
        rw [objV_eq] at hfin
        dsimp only [Sp.linked] at hfin
        have HFIN : Hid _ := hfin
        clear hfin
        by_cases hk2 : o1.kind = 2
        · rw [hk2] at t0
          rw [if_pos hk2, hk2] at HFIN
          go_wp2_with fail
          refine Calls.mono (HFIN.out _ HB5.out HO5.out HL6.out ((Below.refl _ _).alloc (Nat.le_refl _) _)) ?_
          rintro e w7 ⟨a7, c7, rfl, ho7, hb7⟩
          have HO7 : Hid _ := ho7
          have HB7 : Hid _ := hb7
          clear ho7 hb7 HFIN
          go_wp2
          go_ret2
          exact ⟨a7, c7, rfl, HO7.out, HB7.out⟩
        · rw [if_neg hk2] at HFIN
          have hk2' : (o1.kind == 2) = false := by simpa using hk2
          clear hk2
          go_wp2_with fail
          refine Calls.mono (HFIN.out _ HB5.out HO5.out HL6.out ((Below.refl _ _).alloc (Nat.le_refl _) _)) ?_
          rintro e w7 ⟨a7, c7, rfl, ho7, hb7⟩
          have HO7 : Hid _ := ho7
          have HB7 : Hid _ := hb7
          clear ho7 hb7 HFIN
          go_wp2
          go_ret2
          exact ⟨a7, c7, rfl, HO7.out, HB7.out⟩
end Go.Proofs.Ytdciohinlhbliaa
