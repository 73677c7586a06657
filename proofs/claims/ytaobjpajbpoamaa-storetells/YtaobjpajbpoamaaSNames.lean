/-
  store.Names, walked.
-/
import Derived.Test.YtaobjpajbpoamaaSRemove
namespace Go.Proofs.Ytaobjpajbpoamaa
open Go.RowKit
def strC (x : ByteArray) : List Value := [.string x]
theorem even_str (l : List ByteArray) : Even 1 (l.map strC) := by
  intro cs h
  obtain ⟨x, _, rfl⟩ := List.mem_map.1 h
  rfl
theorem Try.infoStr : (Try.prog.info? 9).map (fun i => (i.zero, i.size, i.bytes)) = some (some (.string ⟨#[]⟩), 1, 16) := by kernel_rfl
/-- The names' loop. -/
def NInv (w w1 : World) (g : Nat) (es : List Sp.Ent) (k : Nat) (wr : World) : Prop :=
  Below w.heap.size w wr ∧ On (fun b => b < w1.heap.size ∧ b ≠ g) w1 wr ∧ w1.heap.size ≤ wr.heap.size ∧ Mine wr w.heap.size 9 1 (.slice (some ⟨g, 0, none⟩) es.length es.length) (((es.take k).map fun e => strC e.name) ++ List.replicate (es.length - k) [.string ⟨#[]⟩])
theorem even_ninv (es : List Sp.Ent) (k n : Nat) : Even 1 (((es.take k).map fun e => strC e.name) ++ List.replicate n [Value.string ⟨#[]⟩]) := by
  intro cs hcs
  rcases List.mem_append.1 hcs with h | h
  · obtain ⟨x, _, rfl⟩ := List.mem_map.1 h
    rfl
  · rw [(List.mem_replicate.1 h).2]; rfl
theorem NInv.step {w w1 wr : World} {g k : Nat} {es : List Sp.Ent} {x : Sp.Ent} {o : Obj} (h : NInv w w1 g es k wr) (hk : k < es.length) (hx : es[k]? = some x) (hg : w.heap.size ≤ g) (_hg1 : g < w1.heap.size) : NInv w w1 g es (k + 1) ((wr.setCell ⟨g, k, none⟩ (.string x.name)).alloc o) := by
  obtain ⟨h1, h2, h3, h4⟩ := h
  have hsz : (wr.setCell ⟨g, k, none⟩ (.string x.name)).heap.size = wr.heap.size := by simp
  have hsz2 : ((wr.setCell ⟨g, k, none⟩ (.string x.name)).alloc o).heap.size = wr.heap.size + 1 := by simp
  refine ⟨(h1.setCell hg _).alloc (by rw [hsz]; exact h1.size) o, h2.trans (((On.set wr ⟨g, k, none⟩ _).less fun b hb => hb.2).trans ((On.alloc _ o).less fun b hb => by omega)), by omega, ?_⟩
  have hkl : ((es.take k).map fun e => strC e.name).length = k := by rw [List.length_map, List.length_take]; omega
  have hget : (((es.take k).map fun e => strC e.name) ++ List.replicate (es.length - k) [Value.string ⟨#[]⟩])[k]? = some [Value.string ⟨#[]⟩] := by
    rw [List.getElem?_append_right (by omega), hkl, Nat.sub_self, List.getElem?_replicate, if_pos (by omega)]
  have hm := h4.set (even_ninv es k _) k 0 _ (.string x.name) hget (by decide)
  rw [List.set_append_right _ _ (by omega), hkl, Nat.sub_self, show es.length - k = (es.length - (k + 1)) + 1 by omega, List.replicate_succ, List.set_cons_zero] at hm
  rw [List.take_add_one, hx]
  simp only [Nat.mul_one, Nat.add_zero] at hm
  rw [Option.toList_some, List.map_append, List.append_assoc]
  exact hm.on (On.alloc _ o) fun g hg => (hm.lt g hg).2
set_option maxHeartbeats 2000000 in
theorem names_dir (s : Sls) (o : Sp.Ob) (S : Nat → Prop) (w : World) (he : Ents w S (.slice s.e.a s.e.n s.e.c) o.ents) (hS : ∀ b, S b → b < w.heap.size) (hk : o.kind = 2) (hn : o.ents.length ≤ 1000000) :
    Calls Try.prog 24 #[.agg (objC (s, o)).toArray] w fun e w' => ∃ g, e = .returned (.slice (some ⟨g, 0, none⟩) o.ents.length o.ents.length) ∧ Mine w' w.heap.size 9 1 (.slice (some ⟨g, 0, none⟩) o.ents.length o.ents.length) (o.ents.map fun e => strC e.name) ∧ Below w.heap.size w w' := by
  rw [objV_eq]
  obtain ⟨kd, dd, es, tg, pe, qu, pr, li, up⟩ := o
  obtain ⟨⟨da, dn, dc⟩, ⟨ea, en, ec⟩, ⟨qa, qn, qc⟩⟩ := s
  dsimp only at he hk hn ⊢
  have hen := Row.eqNil he
  rw [List.length_map] at hen
  subst hen
  subst hk
  have HE : Hid (Ents w S (.slice ea es.length ec) es) := he
  have HS : Hid (∀ b, S b → b < w.heap.size) := hS
  clear he hS
  go_enter Try.func24, Try.ntmps24
  go_wp2_with (with_reducible refine stop_at (.call { callee := .builtin .len, args := #[.tmp 10], argTypes := #[32] }) rfl ?_)
  unfold Hold
  have HBX : Hid (Blk (w.alloc (.cells #[.int .i64 2, .slice da dn dc, .slice ea es.length ec, .string tg, .int .i64 pe, .slice qa qn qc, .int .i64 pr, .int .i64 li, .int .i64 up] 35)) w.heap.size #[.int .i64 2, .slice da dn dc, .slice ea es.length ec, .string tg, .int .i64 pe, .slice qa qn qc, .int .i64 pr, .int .i64 li, .int .i64 up] 35) := Blk.new _ _ _
  have HB1 : Hid (Below w.heap.size w (w.alloc (.cells #[.int .i64 2, .slice da dn dc, .slice ea es.length ec, .string tg, .int .i64 pe, .slice qa qn qc, .int .i64 pr, .int .i64 li, .int .i64 up] 35))) := (Below.refl _ _).alloc (Nat.le_refl _) _
  generalize w.alloc (.cells #[.int .i64 2, .slice da dn dc, .slice ea es.length ec, .string tg, .int .i64 pe, .slice qa qn qc, .int .i64 pr, .int .i64 li, .int .i64 up] 35) = w0 at *
  have hz0 : w.heap.size < w0.heap.size := Blk.lt HBX.out
  go_wp2_with (obtain ⟨i0, hi, hz0', hz1, hz2⟩ := info_parts Try.infoStr; refine wpList_make_full _ rfl _ _ _ rfl w.heap.size 9 i0 (.string ⟨#[]⟩) 1 Try.underlying47 hi hz0' hz1 .i64 .i64 _ _ es.length rfl rfl rfl rfl (by rw [hz2]; omega) (by unfold maxLen; omega) (Nat.le_of_lt hz0) ?_; clear hi hz0' hz1 hz2)
  intro w1 ho hg
  have HM1 : Hid (Mine w1 w.heap.size 9 1 (.slice (some ⟨w0.heap.size, 0, none⟩) es.length es.length) (List.replicate es.length [.string ⟨#[]⟩])) := Mine.made (z := #[.string ⟨#[]⟩]) (by decide) rfl (by rw [Nat.mul_one]; exact ho)
  have hbn := below_none hg
  have HB2 : Hid (Below w.heap.size w w1) := HB1.out.trans (hbn.mono HB1.out.size)
  have hbox1 := Blk.below HBX.out hbn hz0
  have HBX1 : Hid _ := hbox1
  have cb1 := hbox1.cell
  have hz1 : w0.heap.size < w1.heap.size := (HM1.out.lt _ rfl).2
  clear ho hg hbn hbox1 HBX
  go_wp2
  go_loopw [16] (fun i wr => ∃ k : Nat, k ≤ es.length ∧ i = .int .i64 k ∧ NInv w w1 w0.heap.size es k wr) (fun i _ => es.length - (intOf i).toNat)
  case atStart => exact ⟨0, Nat.zero_le _, rfl, HB2.out, fun _ _ => rfl, Nat.le_refl _, HM1.out⟩
  case round =>
    obtain ⟨k, hk, rfl, hI⟩ := hrel
    have HI : Hid (NInv w w1 w0.heap.size es k wr) := hI
    obtain ⟨i1, i2, i3, i4⟩ := hI
    by_cases hlt : k < es.length
    · have hx : es[k]? = some es[k] := List.getElem?_eq_getElem hlt
      obtain ⟨b, o, c', hse, hSb, h3, h4, h5⟩ := (Row.on HE.out ((On.of i1).less HS.out)).some (by rw [List.length_map]; omega)
      rw [List.length_map] at hse h3
      obtain ⟨rfl, -, rfl⟩ := Value.slice.inj hse
      obtain ⟨x0, x1⟩ := ent_cells h5 hx
      have HX : Hid (es[k]? = some es[k]) := hx
      generalize es[k] = x at *
      obtain ⟨cur, hblk, -, -, -, -, hcur⟩ := i4.blk
      have hkl : ((es.take k).map fun e => strC e.name).length = k := by rw [List.length_map, List.length_take]; omega
      have y0 : wr.cell? ⟨w0.heap.size, k, none⟩ = some (.string ⟨#[]⟩) := by
        rw [hblk.cell]
        refine hcur k _ ?_
        have hget : (((es.take k).map fun e => strC e.name) ++ List.replicate (es.length - k) [Value.string ⟨#[]⟩])[k]? = some [Value.string ⟨#[]⟩] := by
          rw [List.getElem?_append_right (by omega), hkl, Nat.sub_self, List.getElem?_replicate, if_pos (by omega)]
        have := flatten_at (even_ninv es k _) k _ hget 0 _ rfl
        rwa [Nat.mul_one, Nat.add_zero] at this
      have yf := hblk.free
      have hwr : w0.heap.size < wr.heap.size := hblk.lt
      unfold maxLen at h4
      clear hx hse h5 hblk hcur i1 i2 i3 i4 hkl
      go_wp2
      exact ⟨⟨k + 1, by omega, by go_num, HI.out.step hlt HX.out (Nat.le_of_lt hz0) hz1⟩, by simp [intOf]; omega⟩
    · obtain rfl : k = es.length := by omega
      have HF : Hid (Mine wr w.heap.size 9 1 (.slice (some ⟨w0.heap.size, 0, none⟩) es.length es.length) (es.map fun e => strC e.name)) := by
        unfold Hid
        rw [Nat.sub_self, List.replicate_zero, List.append_nil, List.take_length] at i4
        exact i4
      have HBF : Hid _ := i1
      clear i1 i2 i3 i4 HI
      go_wp2
      go_ret
      exact ⟨_, rfl, HF.out, HBF.out⟩
end Go.Proofs.Ytaobjpajbpoamaa
