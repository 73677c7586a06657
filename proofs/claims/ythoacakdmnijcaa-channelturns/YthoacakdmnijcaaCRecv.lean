/-
  channel.Recv, walked.
-/
import Derived.Test.YthoacakdmnijcaaCDelete
namespace Go.Proofs.Ythoacakdmnijcaa
open Go.RowKit
theorem Blk.four {w : World} {b : Nat} {t : TypeId} {x0 x1 x2 x3 : Value} (h : Blk w b #[x0, x1, x2, x3] t) (c0 c1 c2 c3 : Value) (W : World)
    (hW : W = ((((w.setCell ⟨b, 0, none⟩ c0).setCell ⟨b, 1, none⟩ c1).setCell ⟨b, 2, none⟩ c2).setCell ⟨b, 3, none⟩ c3)) :
    Blk W b #[c0, c1, c2, c3] t ∧ On (fun k => k ≠ b) w W ∧ W.heap.size = w.heap.size ∧ ∀ B, B ≤ b → Below B w W := by
  subst hW
  have h0 : Blk _ b #[c0, x1, x2, x3] t := (h).set 0 c0
  have h1 : Blk _ b #[c0, c1, x2, x3] t := (h0).set 1 c1
  have h2 : Blk _ b #[c0, c1, c2, x3] t := (h1).set 2 c2
  have h3 : Blk _ b #[c0, c1, c2, c3] t := (h2).set 3 c3
  refine ⟨h3, (((On.set w ⟨b, 0, none⟩ c0).trans (On.set _ ⟨b, 1, none⟩ c1)).trans (On.set _ ⟨b, 2, none⟩ c2)).trans (On.set _ ⟨b, 3, none⟩ c3), by simp, fun B hB => ?_⟩
  exact ((((Below.refl B w).setCell (p := ⟨b, 0, none⟩) hB c0).setCell (p := ⟨b, 1, none⟩) hB c1).setCell (p := ⟨b, 2, none⟩) hB c2).setCell (p := ⟨b, 3, none⟩) hB c3
def msg0 : Sp.Msg := ⟨[], false, 0, 0⟩
set_option maxRecDepth 100000 in
set_option maxHeartbeats 2000000 in
theorem crecv_err (L : List Sp.Ob) (k : Int) (v : Value) (S : Nat → Prop) (w : World) (hv : Objs w S v L) (hS : ∀ b, S b → b < w.heap.size) (he : Ch.noRecv L k ≠ 0) :
    Calls Try.prog 24 #[v, .int .i64 k] w fun e w' => e = .returned (.tuple #[.slice none 0 0, msgV (nilSl, msg0), .int .i64 (Ch.noRecv L k)]) ∧ Below w.heap.size w w' := by
  have HN : Hid (∀ w', Below w.heap.size w w' → Calls Try.prog 51 #[v, .int .i64 k] w' fun e w'' => e = .returned (.int .i64 (Ch.noRecv L k)) ∧ w'' = w') := fun w' h => noRecv_any L k v S w' (hv.on ((On.of h).less hS))
  have hE : (Ch.noRecv L k != 0) = true := by simpa using he
  generalize Ch.noRecv L k = E at *
  unfold msgV nilSl msg0
  obtain ⟨a, c, rfl, -⟩ := hv.form
  clear hv hS he
  have HB : Hid (Below w.heap.size w (w.alloc (.cells #[.slice none 0 0, .bool false, .int .i64 0, .int .i64 0] 49))) := (Below.refl _ _).alloc (Nat.le_refl _) _
  have HK : Hid (Blk (w.alloc (.cells #[.slice none 0 0, .bool false, .int .i64 0, .int .i64 0] 49)) w.heap.size #[.slice none 0 0, .bool false, .int .i64 0, .int .i64 0] 49) := Blk.new _ _ _
  go_enter Try.func24, Try.ntmps24
  go_wp2_with fail
  generalize w.alloc (.cells #[.slice none 0 0, .bool false, .int .i64 0, .int .i64 0] 49) = w1 at *
  refine Calls.mono (HN.out _ HB.out) ?_
  rintro e w2 ⟨rfl, hw⟩
  rw [hw]
  clear hw
  have k0 := Blk.cell HK.out
  have kf := Blk.free HK.out
  go_wp2
  generalize hW : ((((w1.setCell ⟨w.heap.size, 0, none⟩ (.slice none 0 0)).setCell ⟨w.heap.size, 1, none⟩ (.bool false)).setCell ⟨w.heap.size, 2, none⟩ (.int .i64 0)).setCell ⟨w.heap.size, 3, none⟩ (.int .i64 0)) = W
  obtain ⟨hb, -, -, hB⟩ := Blk.four HK.out _ _ _ _ W hW.symm
  have hcW := hb.cell
  exact bodyPost_ret (v := .tuple #[.slice none 0 0, .agg #[.slice none 0 0, .bool false, .int .i64 0, .int .i64 0], .int .i64 E]) (by simp [results, Try.results24, go_sem, hcW]) rfl ⟨rfl, HB.out.trans (hB _ (Nat.le_refl _))⟩
theorem noRecv_zero {L : List Sp.Ob} {k : Int} (h : Ch.noRecv L k = 0) : ∃ (i : Nat) (o : Sp.Ob), k = i ∧ L[i]? = some o ∧ o.kind = 4 ∧ 0 < o.queue.length := by
  unfold Ch.noRecv at h
  cases he : Sp.is L k 4 with
  | false => rw [if_pos he] at h; exact absurd h (by decide)
  | true =>
    rw [if_neg (by rw [he]; decide)] at h
    obtain ⟨i, o, rfl, hx, hk, ho⟩ := is_end he
    have hw : Ch.waits L (i : Int) = o.queue.length := by unfold Ch.waits; rw [ho]
    rw [hw] at h
    split at h
    · exact ⟨i, o, rfl, hx, hk, by assumption⟩
    · split at h
      · exact absurd h (by decide)
      · exact absurd h (by decide)
set_option maxRecDepth 100000 in
set_option maxHeartbeats 8000000 in
theorem crecv_ok (L : List Sp.Ob) (i : Nat) (o : Sp.Ob) (md : Sp.Msg) (rest : List Sp.Msg) (v : Value) (S : Nat → Prop) (w : World) (hv : Objs w S v L) (hS : ∀ b, S b → b < w.heap.size) (hf : ∀ o ∈ L, Fits o) (hn : L.length ≤ 1000000) (h0 : Ch.noRecv L i = 0) (hi : L[i]? = some o) (hq : o.queue = md :: rest) :
    Calls Try.prog 24 #[v, .int .i64 i] w fun e w' => ∃ a c r, e = .returned (.tuple #[.slice a L.length c, msgV (r, md), .int .i64 0]) ∧ Objs w' (fun b => w.heap.size ≤ b ∧ b < w'.heap.size) (.slice a L.length c) (Ch.withQ L i o rest) ∧ Bytes w' (fun b => w.heap.size ≤ b ∧ b < w'.heap.size) (.slice r.a r.n r.c) md.data ∧ Below w.heap.size w w' := by
  have HN : Hid (∀ w', Below w.heap.size w w' → Calls Try.prog 51 #[v, .int .i64 i] w' fun e w'' => e = .returned (.int .i64 0) ∧ w'' = w') := fun w' h => by
    have := noRecv_any L i v S w' (hv.on ((On.of h).less hS))
    rw [h0] at this
    exact this
  have HO : Hid (∀ W, Below w.heap.size w W → Calls Try.prog 36 #[v] W fun e w' => e = .returned (.slice (some ⟨W.heap.size, 0, none⟩) L.length L.length) ∧ ∃ (ts : List (Sls × Sp.Ob)) (m : Nat → Nat), L = ts.map Prod.snd ∧ Mine w' W.heap.size 40 9 (.slice (some ⟨W.heap.size, 0, none⟩) L.length L.length) (ts.map objC) ∧ OwnAll w' (W.heap.size + 1) ts m ∧ Below W.heap.size W w') := fun W hW => own_any L v S W (hv.on ((On.of hW).less hS)) (fun b hb => Nat.lt_of_lt_of_le (hS b hb) hW.size) hf hn
  have HI : Hid (L[i]? = some o) := hi
  have HQ : Hid (o.queue = md :: rest) := hq
  have hil : i < L.length := (List.getElem?_eq_some_iff.1 hi).1
  have hnz : (L.length : Int) ≤ 1000000 := by omega
  obtain ⟨a, c, rfl, -⟩ := hv.form
  have HB : Hid (Below w.heap.size w (w.alloc (.cells #[.slice none 0 0, .bool false, .int .i64 0, .int .i64 0] 49))) := (Below.refl _ _).alloc (Nat.le_refl _) _
  have HK : Hid (Blk (w.alloc (.cells #[.slice none 0 0, .bool false, .int .i64 0, .int .i64 0] 49)) w.heap.size #[.slice none 0 0, .bool false, .int .i64 0, .int .i64 0] 49) := Blk.new _ _ _
  clear hv hS hf h0 hi hq hn
  go_enter Try.func24, Try.ntmps24
  go_wp2_with fail
  generalize w.alloc (.cells #[.slice none 0 0, .bool false, .int .i64 0, .int .i64 0] 49) = w1 at *
  refine Calls.mono (HN.out _ HB.out) ?_
  rintro e w2 ⟨rfl, hw⟩
  rw [hw]
  clear hw HN
  have hz1 : w.heap.size < w1.heap.size := HK.out.lt
  go_wp2_with fail
  refine Calls.mono (HO.out _ HB.out) ?_
  rintro e w3 ⟨rfl, ts, m, hL, hM, hA, hb3⟩
  have HB3 : Hid (Below w.heap.size w w3) := HB.out.trans (hb3.mono HB.out.size)
  have hz23 : w1.heap.size < w3.heap.size := (hM.lt _ rfl).2
  have HK3 : Hid (Blk w3 w.heap.size #[.slice none 0 0, .bool false, .int .i64 0, .int .i64 0] 49) := HK.out.below hb3 hz1
  have HL : Hid (L = ts.map Prod.snd) := hL
  have HM : Hid (Mine w3 w1.heap.size 40 9 (.slice (some ⟨w1.heap.size, 0, none⟩) L.length L.length) (ts.map objC)) := hM
  have HA : Hid (OwnAll w3 (w1.heap.size + 1) ts m) := hA
  obtain ⟨sq, htq⟩ := ts_at hL.symm HI.out
  obtain ⟨⟨da, dn, dc⟩, ⟨ea, en, ec⟩, ⟨qa, qn, qc⟩⟩ := sq
  obtain ⟨m1, m2, o1, o2, o3, o4, -, -, -, us, hu1, hu2, hu3, hu4⟩ := hA.2.2.2 i _ htq
  have hlo := hA.lo i
  have hme3 : w1.heap.size + 1 ≤ m2 := by omega
  have hm2 : m2 ≤ w3.heap.size := by omega
  dsimp only at hu1 hu2 hu3 hu4
  rw [HQ.out] at hu1
  obtain ⟨⟨r, md'⟩, us', rfl, hmd, hus⟩ : ∃ t us', us = t :: us' ∧ t.2 = md ∧ us'.map Prod.snd = rest := by
    cases us with
    | nil => cases hu1
    | cons t us' => rw [List.map_cons] at hu1; obtain ⟨h1, h2⟩ := List.cons.inj hu1; exact ⟨t, us', rfl, h1.symm, h2.symm⟩
  dsimp only at hmd
  subst hmd
  obtain ⟨va, vc, hvf, -, hvg⟩ := hu2.form
  obtain ⟨gQ, hgQ, hgQ1, hgQ2⟩ := hvg (by simp)
  obtain ⟨e1, e2, e3⟩ := Value.slice.inj hvf
  subst e2 e3
  rw [← e1] at hgQ
  subst hgQ
  rw [List.length_map, List.length_cons] at hu2 htq hu3 hu4
  have HTQ : Hid (ts[i]? = some (⟨⟨da, dn, dc⟩, ⟨ea, en, ec⟩, ⟨some ⟨gQ, 0, none⟩, us'.length + 1, qc⟩⟩, o)) := htq
  have HU2 : Hid (Mine w3 m2 49 4 (.slice (some ⟨gQ, 0, none⟩) (us'.length + 1) qc) (((r, md') :: us').map msgC)) := hu2
  have HU4 : Hid (∀ t ∈ (r, md') :: us', Bytes w3 (fun b => m2 ≤ b ∧ b < w3.heap.size ∧ b ≠ gQ) (.slice t.1.a t.1.n t.1.c) t.2.data) := fun t ht => Row.more (hu4 t ht) fun b hb => ⟨hb.1, by omega, fun e => hb.2.2 (by rw [e]; rfl)⟩
  have HUS : Hid (us'.map Prod.snd = rest) := hus
  obtain ⟨cur, hblk, -, -, -, -, hcur⟩ := hM.blk
  have c5 : w3.cell? ⟨w1.heap.size, i * 9 + 5, none⟩ = some (.slice (some ⟨gQ, 0, none⟩) (us'.length + 1) qc) := by
    rw [hblk.cell]
    exact hcur _ _ (flatten_at (even_obj ts) i _ (by rw [List.getElem?_map, htq]; rfl) 5 _ rfl)
  have cf := hblk.free
  obtain ⟨cur2, hblk2, -, hqc, hqm, -, hcur2⟩ := hu2.blk
  have hcell : ∀ j u, (msgC (r, md'))[j]? = some u → w3.cell? ⟨gQ, j, none⟩ = some u := fun j u hj => by
    rw [hblk2.cell]
    have := hcur2 _ _ (flatten_at (even_msg ((r, md') :: us')) 0 _ rfl j u hj)
    simpa using this
  have q0 := hcell 0 _ rfl
  have q1 := hcell 1 _ rfl
  have q2 := hcell 2 _ rfl
  have q3 := hcell 3 _ rfl
  dsimp only at q0 q1 q2 q3
  unfold maxLen at hqm
  clear hL hM hA htq hb3 HO o1 o2 o3 o4 hu1 hu2 hu3 hu4 hus hlo hblk hcur hblk2 hcur2 hcell hvf hvg e1
  go_wp2_with fail
  have HB4 : Hid (Below w.heap.size w (w3.alloc (.cells #[.slice r.a r.n r.c, .bool md'.has, .int .i64 md'.op, .int .i64 md'.rt] 49))) := HB3.out.alloc (by omega) _
  have hK4 : Blk (w3.alloc (.cells #[.slice r.a r.n r.c, .bool md'.has, .int .i64 md'.op, .int .i64 md'.rt] 49)) w3.heap.size #[.slice r.a r.n r.c, .bool md'.has, .int .i64 md'.op, .int .i64 md'.rt] 49 := Blk.new _ _ _
  have HK4 : Hid (Blk (w3.alloc (.cells #[.slice r.a r.n r.c, .bool md'.has, .int .i64 md'.op, .int .i64 md'.rt] 49)) w3.heap.size #[.slice r.a r.n r.c, .bool md'.has, .int .i64 md'.op, .int .i64 md'.rt] 49) := hK4
  have HON4 : Hid (On (fun b => b < w3.heap.size) w3 (w3.alloc (.cells #[.slice r.a r.n r.c, .bool md'.has, .int .i64 md'.op, .int .i64 md'.rt] 49))) := On.alloc _ _
  have hz4 : (w3.alloc (.cells #[.slice r.a r.n r.c, .bool md'.has, .int .i64 md'.op, .int .i64 md'.rt] 49)).heap.size = w3.heap.size + 1 := by simp
  generalize w3.alloc (.cells #[.slice r.a r.n r.c, .bool md'.has, .int .i64 md'.op, .int .i64 md'.rt] 49) = w4 at *
  have HD : Calls Try.prog 52 #[.slice (some ⟨gQ, 0, none⟩) (us'.length + 1) qc, .int .i64 0, .int .i64 1] w4 fun e w' => e = .returned (.slice (some ⟨gQ, 0, none⟩) us'.length qc) ∧ Mine w' m2 49 4 (.slice (some ⟨gQ, 0, none⟩) us'.length qc) (us'.map msgC) ∧ On (fun b => b ≠ gQ) w4 w' ∧ w'.heap.size = w4.heap.size ∧ ∀ B, B ≤ gQ → Below B w4 w' := mdelete_any ((r, md') :: us') 0 m2 gQ (us'.length + 1) qc w4 (HU2.out.on HON4.out fun g hg => (HU2.out.lt g hg).2) (by simp)
  refine Calls.mono HD ?_
  rintro e w5 ⟨rfl, hm5, hon5, hz5, hb5⟩
  have HM5 : Hid (Mine w5 m2 49 4 (.slice (some ⟨gQ, 0, none⟩) us'.length qc) (us'.map msgC)) := hm5
  have HON5 : Hid (On (fun b => b < w3.heap.size ∧ b ≠ gQ) w3 w5) := (HON4.out.less fun b hb => hb.1).trans (hon5.less fun b hb => hb.2)
  have HB5 : Hid (Below w.heap.size w w5) := HB4.out.trans (hb5 _ (by omega))
  have HK5 : Hid (Blk w5 w3.heap.size #[.slice r.a r.n r.c, .bool md'.has, .int .i64 md'.op, .int .i64 md'.rt] 49) := hK4.on hon5 (by show w3.heap.size ≠ gQ; omega)
  have hMo : Mine w5 w1.heap.size 40 9 (.slice (some ⟨w1.heap.size, 0, none⟩) L.length L.length) (ts.map objC) := HM.out.on HON5.out fun g hg => by
    simp [Value.ownBlock] at hg
    subst hg
    exact ⟨by omega, by omega⟩
  have HMO : Hid (Mine w5 w1.heap.size 40 9 (.slice (some ⟨w1.heap.size, 0, none⟩) L.length L.length) (ts.map objC)) := hMo
  have HKr : Hid (Blk w5 w.heap.size #[.slice none 0 0, .bool false, .int .i64 0, .int .i64 0] 49) := HK3.out.on HON5.out ⟨by omega, by omega⟩
  obtain ⟨cur, hblk, -, -, -, -, hcur⟩ := hMo.blk
  have d5 : w5.cell? ⟨w1.heap.size, i * 9 + 5, none⟩ = some (.slice (some ⟨gQ, 0, none⟩) (us'.length + 1) qc) := by
    rw [hblk.cell]
    exact hcur _ _ (flatten_at (even_obj ts) i _ (by rw [List.getElem?_map, HTQ.out]; rfl) 5 _ rfl)
  have df := hblk.free
  clear HD hm5 hon5 hb5 hK4 HB4 HON4 HK4 hMo hblk hcur q0 q1 q2 q3 c5 cf HM HU2 HB3
  go_wp2_with fail
  have on6 := On.set w5 ⟨w1.heap.size, i * 9 + 5, none⟩ (.slice (some ⟨gQ, 0, none⟩) us'.length qc)
  have hM6 := HMO.out.set (even_obj ts) i 5 _ (.slice (some ⟨gQ, 0, none⟩) us'.length qc) (by rw [List.getElem?_map, HTQ.out]; rfl) (by decide)
  have hU6 := HM5.out.on on6 fun g hg => by simp [Value.ownBlock] at hg; subst hg; show gQ ≠ w1.heap.size; omega
  have hK6 : Blk (w5.setCell ⟨w1.heap.size, i * 9 + 5, none⟩ (.slice (some ⟨gQ, 0, none⟩) us'.length qc)) w3.heap.size #[.slice r.a r.n r.c, .bool md'.has, .int .i64 md'.op, .int .i64 md'.rt] 49 := HK5.out.on on6 (by show w3.heap.size ≠ w1.heap.size; omega)
  have hR6 : Blk (w5.setCell ⟨w1.heap.size, i * 9 + 5, none⟩ (.slice (some ⟨gQ, 0, none⟩) us'.length qc)) w.heap.size #[.slice none 0 0, .bool false, .int .i64 0, .int .i64 0] 49 := HKr.out.on on6 (by show w.heap.size ≠ w1.heap.size; omega)
  have hB6 : Below w.heap.size w (w5.setCell ⟨w1.heap.size, i * 9 + 5, none⟩ (.slice (some ⟨gQ, 0, none⟩) us'.length qc)) := HB5.out.setCell (by show w.heap.size ≤ w1.heap.size; omega) _
  have hz6 : (w5.setCell ⟨w1.heap.size, i * 9 + 5, none⟩ (.slice (some ⟨gQ, 0, none⟩) us'.length qc)).heap.size = w5.heap.size := by simp
  have hon36 : On (fun b => b < w3.heap.size ∧ b ≠ gQ ∧ b ≠ w1.heap.size) w3 (w5.setCell ⟨w1.heap.size, i * 9 + 5, none⟩ (.slice (some ⟨gQ, 0, none⟩) us'.length qc)) := (HON5.out.less fun b hb => ⟨hb.1, hb.2.1⟩).trans (on6.less fun b hb => hb.2.2)
  generalize w5.setCell ⟨w1.heap.size, i * 9 + 5, none⟩ (.slice (some ⟨gQ, 0, none⟩) us'.length qc) = w6 at *
  have HR6 : Hid (Blk w6 w.heap.size #[.slice none 0 0, .bool false, .int .i64 0, .int .i64 0] 49) := hR6
  have k6 := hK6.cell
  have r6 := hR6.cell
  have rf6 := hR6.free
  have eM : (ts.map objC).set i ((objC (⟨⟨da, dn, dc⟩, ⟨ea, en, ec⟩, ⟨some ⟨gQ, 0, none⟩, us'.length + 1, qc⟩⟩, o)).set 5 (.slice (some ⟨gQ, 0, none⟩) us'.length qc)) = (ts.set i (⟨⟨da, dn, dc⟩, ⟨ea, en, ec⟩, ⟨some ⟨gQ, 0, none⟩, us'.length, qc⟩⟩, { o with queue := rest })).map objC := by
    rw [List.map_set]
    rfl
  rw [eM] at hM6
  have hQ6 : Queue w6 (fun b => w1.heap.size + 1 ≤ b ∧ b < w6.heap.size) (.slice (some ⟨gQ, 0, none⟩) us'.length qc) rest :=
    ⟨us', HUS.out.symm, (hU6.row (even_msg us')).more fun b hb => ⟨by omega, hb.2⟩, fun t ht => Row.more (Row.on (HU4.out t (List.mem_cons_of_mem _ ht)) (hon36.less fun b hb => ⟨hb.2.1, hb.2.2, by omega⟩)) fun b hb => ⟨by omega, by omega⟩⟩
  have HLL : Hid (∀ t ∈ ts.set i (⟨⟨da, dn, dc⟩, ⟨ea, en, ec⟩, ⟨some ⟨gQ, 0, none⟩, us'.length, qc⟩⟩, { o with queue := rest }), Lists w6 (fun b => w1.heap.size + 1 ≤ b ∧ b < w6.heap.size) t) := turnq_lists HA.out HTQ.out (hon36.less fun b hb => ⟨hb.2.1, fun e => hb.2.2 (by rw [e]; rfl), by omega⟩) (by omega) hQ6
  have HM6 : Hid (Mine w6 w1.heap.size 40 9 (.slice (some ⟨w1.heap.size, 0, none⟩) L.length L.length) ((ts.set i (⟨⟨da, dn, dc⟩, ⟨ea, en, ec⟩, ⟨some ⟨gQ, 0, none⟩, us'.length, qc⟩⟩, { o with queue := rest })).map objC)) := hM6
  have HBY : Hid (Bytes w6 (fun b => w1.heap.size + 1 ≤ b ∧ b < w6.heap.size) (.slice r.a r.n r.c) md'.data) := Row.more (Row.on (HU4.out (r, md') List.mem_cons_self) (hon36.less fun b hb => ⟨hb.2.1, hb.2.2, by omega⟩)) fun b hb => ⟨by omega, by omega⟩
  have HB6 : Hid (Below w.heap.size w w6) := hB6
  have HEW : Hid (Ch.withQ L i o rest = (ts.set i (⟨⟨da, dn, dc⟩, ⟨ea, en, ec⟩, ⟨some ⟨gQ, 0, none⟩, us'.length, qc⟩⟩, { o with queue := rest })).map Prod.snd) := by
    unfold Hid Ch.withQ
    rw [List.map_set, HL.out]
  have hl1 : w.heap.size < w6.heap.size := by omega
  have hl3 : w3.heap.size < w6.heap.size := by omega
  have HZ1 : Hid (w.heap.size < w1.heap.size) := hz1
  clear on6 hU6 hK6 hR6 hB6 hz6 hon36 eM hM6 hQ6 d5 df HMO HK5 HKr HB5 HM5 HON5 HU4 HTQ HA HUS HL
  go_region
  go_wp2
  generalize hW : ((((w6.setCell ⟨w.heap.size, 0, none⟩ (.slice r.a r.n r.c)).setCell ⟨w.heap.size, 1, none⟩ (.bool md'.has)).setCell ⟨w.heap.size, 2, none⟩ (.int .i64 md'.op)).setCell ⟨w.heap.size, 3, none⟩ (.int .i64 md'.rt)) = W
  obtain ⟨hb, hon, hsz, hB⟩ := Blk.four HR6.out _ _ _ _ W hW.symm
  have hcW : ∀ j, W.drew.cell? ⟨w.heap.size, j, none⟩ = (#[.slice r.a r.n r.c, .bool md'.has, .int .i64 md'.op, .int .i64 md'.rt] : Array Value)[j]? := hb.cell
  have hon' : On (fun k => k ≠ w.heap.size) w6 W.drew := hon
  have hsz' : W.drew.heap.size = w6.heap.size := hsz
  have hzo := HZ1.out
  refine bodyPost_ret (v := .tuple #[.slice (some ⟨w1.heap.size, 0, none⟩) L.length L.length, .agg #[.slice r.a r.n r.c, .bool md'.has, .int .i64 md'.op, .int .i64 md'.rt], .int .i64 0]) (by simp [results, Try.results24, go_sem, hcW]) rfl ⟨_, _, r, rfl, ?_, ?_, (HB6.out.trans (hB _ (Nat.le_refl _))).drew⟩
  · rw [HEW.out]
    exact (HM6.out.on hon' fun g hg => by simp [Value.ownBlock] at hg; subst hg; show w1.heap.size ≠ w.heap.size; omega).objs (fun b hb => ⟨by omega, by omega⟩) fun t ht => ((HLL.out t ht).on (hon'.less fun b hb => by show b ≠ w.heap.size; omega)).more fun b hb => ⟨by omega, by omega⟩
  · exact Row.more (Row.on HBY.out (hon'.less fun b hb => by show b ≠ w.heap.size; omega)) fun b hb => ⟨by omega, by omega⟩
end Go.Proofs.Ythoacakdmnijcaa
