/-
  channel.Send, walked.
-/
import Derived.Test.YthoacakdmnijcaaCPair
import Derived.Test.YthoacakdmnijcaaCApp
namespace Go.Proofs.Ythoacakdmnijcaa
open Go.RowKit
/-- One object's messages turned: all lists lie there still. -/
theorem turnq_lists {w W : World} {lo d : Nat} {ts : List (Sls × Sp.Ob)} {m : Nat → Nat} {sd : Sls} {od : Sp.Ob} {sq : Sl} {q : List Sp.Msg} (hA : OwnAll w lo ts m) (hd : ts[d]? = some (sd, od))
    (hon : On (fun b => lo ≤ b ∧ b < w.heap.size ∧ some b ≠ (Value.slice sd.q.a sd.q.n sd.q.c).ownBlock) w W) (hs : w.heap.size ≤ W.heap.size) (hr : Queue W (fun b => lo ≤ b ∧ b < W.heap.size) (.slice sq.a sq.n sq.c) q) :
    ∀ t ∈ ts.set d (⟨sd.d, sd.e, sq⟩, { od with queue := q }), Lists W (fun b => lo ≤ b ∧ b < W.heap.size) t := by
  intro t ht
  obtain ⟨i, hi, rfl⟩ := List.getElem_of_mem ht
  have hi' : i < ts.length := by simpa using hi
  have hdl : d < ts.length := (List.getElem?_eq_some_iff.1 hd).1
  have hmn := hA.2.2.1
  have hm0 := hA.lo d
  obtain ⟨m1, m2, h1, h2, h3, h4, h5, h6, h7, us, hu1, hu2, hu3, hu4⟩ := hA.2.2.2 d _ hd
  have hmd := hA.le (show d + 1 ≤ ts.length from hdl)
  have hblk : ∀ b, some b = (Value.slice sd.q.a sd.q.n sd.q.c).ownBlock → m2 ≤ b ∧ b < m (d + 1) := fun b hb => ⟨(hu2.lt b hb.symm).1, hu3 b hb.symm⟩
  by_cases hid : i = d
  · subst hid
    rw [List.getElem_set_self]
    refine ⟨?_, ?_, hr⟩
    · exact Row.more (Row.on h5 (hon.less fun b hb => ⟨by omega, by omega, fun e => by have := hblk b e; omega⟩)) fun b hb => ⟨by omega, by omega⟩
    · rcases h6.row (even_ent _) with h | ⟨b, o, c, e, hb, hc1, hc2, hc3⟩
      · exact Or.inl h
      · have hbm := h7 b (by dsimp only at e; rw [e]; rfl)
        exact Or.inr ⟨b, o, c, e, ⟨by omega, by omega⟩, hc1, hc2, fun i cs hi j u hj => (hon.cell ⟨by omega, by omega, fun e => by have := hblk b e; omega⟩).trans (hc3 i cs hi j u hj)⟩
  · rw [List.getElem_set_ne (by omega)]
    have hl := (hA.2.2.2 i _ (List.getElem?_eq_getElem hi')).lists
    have hi1 := hA.le (show i + 1 ≤ ts.length from hi')
    have hi0 := hA.lo i
    have hii := hA.2.1 i
    refine (hl.on (hon.less fun b hb => ⟨by omega, by omega, fun e => ?_⟩)).more fun b hb => ⟨by omega, by omega⟩
    have := hblk b e
    rcases Nat.lt_or_ge i d with hlt | hge
    · have := hA.le (show i + 1 ≤ d from hlt)
      omega
    · have := hA.le (show d + 1 ≤ i by omega)
      omega
theorem noSend_zero {L : List Sp.Ob} {k : Int} {n : Nat} (h : Ch.noSend L k n = 0) : ∃ (i q : Nat) (o oq : Sp.Ob), k = i ∧ L[i]? = some o ∧ o.kind = 4 ∧ o.peer = q ∧ L[q]? = some oq ∧ oq.kind = 4 ∧ n ≤ 60 ∧ oq.queue.length < 4 := by
  unfold Ch.noSend at h
  cases he : Sp.is L k 4 with
  | false => rw [if_pos he] at h; exact absurd h (by decide)
  | true =>
    rw [if_neg (by rw [he]; decide)] at h
    obtain ⟨i, o, rfl, hx, hk, ho⟩ := is_end he
    have hp : Ch.peerOf L (i : Int) = o.peer := by unfold Ch.peerOf; rw [ho]
    rw [hp] at h
    cases he2 : Sp.is L o.peer 4 with
    | false => rw [if_pos he2] at h; exact absurd h (by decide)
    | true =>
      rw [if_neg (by rw [he2]; decide)] at h
      obtain ⟨q, oq, hq, hxq, hkq, hoq⟩ := is_end he2
      have hw : Ch.waits L o.peer = oq.queue.length := by unfold Ch.waits; rw [hoq]
      rw [hw] at h
      split at h
      · exact absurd h (by decide)
      · split at h
        · exact absurd h (by decide)
        · exact ⟨i, q, o, oq, rfl, hx, hk, hq, hxq, hkq, by omega, by omega⟩
set_option maxRecDepth 100000 in
set_option maxHeartbeats 2000000 in
theorem csend_err (L : List Sp.Ob) (k : Int) (t : Sl × Sp.Msg) (v : Value) (S : Nat → Prop) (w : World) (hv : Objs w S v L) (hS : ∀ b, S b → b < w.heap.size) (hm : Bytes w S (.slice t.1.a t.1.n t.1.c) t.2.data) (he : Ch.noSend L k t.2.data.length ≠ 0) :
    Calls Try.prog 22 #[v, .int .i64 k, msgV t] w fun e w' => e = .returned (.tuple #[.slice none 0 0, .int .i64 (Ch.noSend L k t.2.data.length)]) ∧ Below w.heap.size w w' := by
  have hn1 : t.1.n = t.2.data.length := by have := Row.eqNil hm; rw [List.length_map] at this; exact this
  have hn2 : t.2.data.length ≤ maxLen := by obtain ⟨_, _, _, h⟩ := Row.form hm; rw [List.length_map] at h; exact h
  have HN : Hid (∀ w', Below w.heap.size w w' → Calls Try.prog 50 #[v, .int .i64 k, msgV t] w' fun e w'' => e = .returned (.int .i64 (Ch.noSend L k t.2.data.length)) ∧ Below w'.heap.size w' w'') := fun w' h => noSend_any L k t v S w' (hv.on ((On.of h).less hS)) (fun b hb => Nat.lt_of_lt_of_le (hS b hb) h.size) hn1 hn2
  have hE : (Ch.noSend L k t.2.data.length != 0) = true := by simpa using he
  generalize Ch.noSend L k t.2.data.length = E at *
  obtain ⟨⟨ma, mn, mc⟩, md, mh, mo, mr⟩ := t
  unfold msgV at *
  dsimp only at *
  obtain ⟨a, c, rfl, -⟩ := hv.form
  clear hv hS hm he hn1 hn2
  have HB : Hid (Below w.heap.size w (w.alloc (.cells #[.slice ma mn mc, .bool mh, .int .i64 mo, .int .i64 mr] 49))) := (Below.refl _ _).alloc (Nat.le_refl _) _
  go_enter Try.func22, Try.ntmps22
  go_wp2_with fail
  refine Calls.mono (HN.out _ HB.out) ?_
  rintro e w2 ⟨rfl, hb2⟩
  have HB2 : Hid (Below w.heap.size w w2) := HB.out.trans (hb2.mono HB.out.size)
  clear hb2
  go_wp2
  go_ret2
  exact ⟨rfl, HB2.out⟩
theorem ones_msgC (t : Sl × Sp.Msg) : ∀ u ∈ msgC t, u.oneCell' = true := fun u hu => ones_msg [t] _ (List.mem_singleton.2 rfl) u hu
set_option maxRecDepth 100000 in
set_option maxHeartbeats 8000000 in
theorem csend_ok (L : List Sp.Ob) (i q : Nat) (o oq : Sp.Ob) (t : Sl × Sp.Msg) (v : Value) (S : Nat → Prop) (w : World) (hv : Objs w S v L) (hS : ∀ b, S b → b < w.heap.size) (hm : Bytes w S (.slice t.1.a t.1.n t.1.c) t.2.data) (hf : ∀ o ∈ L, Fits o) (hn : L.length ≤ 1000000) (h0 : Ch.noSend L i t.2.data.length = 0) (hi : L[i]? = some o) (hop : o.peer = q) (hq : L[q]? = some oq) (hd60 : t.2.data.length ≤ 60) (hq4 : oq.queue.length < 4) :
    Calls Try.prog 22 #[v, .int .i64 i, msgV t] w fun e w' => ∃ a c, e = .returned (.tuple #[.slice a L.length c, .int .i64 0]) ∧ Objs w' (fun b => w.heap.size ≤ b ∧ b < w'.heap.size) (.slice a L.length c) (Ch.withQ L q oq (oq.queue ++ [t.2])) ∧ Below w.heap.size w w' := by
  have hn1 : t.1.n = t.2.data.length := by have := Row.eqNil hm; rw [List.length_map] at this; exact this
  have hn2 : t.2.data.length ≤ maxLen := by obtain ⟨_, _, _, h⟩ := Row.form hm; rw [List.length_map] at h; exact h
  have HN : Hid (∀ w', Below w.heap.size w w' → Calls Try.prog 50 #[v, .int .i64 i, msgV t] w' fun e w'' => e = .returned (.int .i64 0) ∧ Below w'.heap.size w' w'') := fun w' h => by
    have := noSend_any L i t v S w' (hv.on ((On.of h).less hS)) (fun b hb => Nat.lt_of_lt_of_le (hS b hb) h.size) hn1 hn2
    rw [h0] at this
    exact this
  have HO : Hid (∀ W, Below w.heap.size w W → Calls Try.prog 36 #[v] W fun e w' => e = .returned (.slice (some ⟨W.heap.size, 0, none⟩) L.length L.length) ∧ ∃ (ts : List (Sls × Sp.Ob)) (m : Nat → Nat), L = ts.map Prod.snd ∧ Mine w' W.heap.size 40 9 (.slice (some ⟨W.heap.size, 0, none⟩) L.length L.length) (ts.map objC) ∧ OwnAll w' (W.heap.size + 1) ts m ∧ Below W.heap.size W w') := fun W hW => own_any L v S W (hv.on ((On.of hW).less hS)) (fun b hb => Nat.lt_of_lt_of_le (hS b hb) hW.size) hf hn
  obtain ⟨⟨ma, mn, mc⟩, md, mh, mo, mr⟩ := t
  unfold msgV at *
  dsimp only at *
  subst hn1
  have HV : Hid (∀ w', Below w.heap.size w w' → Objs w' S v L) := fun w' h => hv.on ((On.of h).less hS)
  have HMD : Hid (∀ w', Below w.heap.size w w' → Bytes w' S (.slice ma md.length mc) md) := fun w' h => Row.on hm ((On.of h).less hS)
  have HI : Hid (L[i]? = some o) := hi
  have HOP : Hid (o.peer = q) := hop
  have HQ : Hid (L[q]? = some oq) := hq
  have hil : i < L.length := (List.getElem?_eq_some_iff.1 hi).1
  have hql : q < L.length := (List.getElem?_eq_some_iff.1 hq).1
  have HNN : Hid (L.length ≤ 1000000) := hn
  have hnz : (L.length : Int) ≤ 1000000 := by omega
  have H4 : Hid (oq.queue.length < 4) := hq4
  have H60 : Hid (md.length ≤ 60) := hd60
  have HSS : Hid (∀ b, S b → b < w.heap.size) := hS
  obtain ⟨a, c, rfl, -⟩ := hv.form
  have HB : Hid (Below w.heap.size w (w.alloc (.cells #[.slice ma md.length mc, .bool mh, .int .i64 mo, .int .i64 mr] 49))) := (Below.refl _ _).alloc (Nat.le_refl _) _
  have HK : Hid (Blk (w.alloc (.cells #[.slice ma md.length mc, .bool mh, .int .i64 mo, .int .i64 mr] 49)) w.heap.size #[.slice ma md.length mc, .bool mh, .int .i64 mo, .int .i64 mr] 49) := Blk.new _ _ _
  clear hv hS hm hf h0 hi hop hq hn hq4 hd60 hn2
  go_enter Try.func22, Try.ntmps22
  go_wp2_with fail
  refine Calls.mono (HN.out _ HB.out) ?_
  rintro e w1 ⟨rfl, hb1⟩
  have HB1 : Hid (Below w.heap.size w w1) := HB.out.trans (hb1.mono HB.out.size)
  have HK1 : Hid (Blk w1 w.heap.size #[.slice ma md.length mc, .bool mh, .int .i64 mo, .int .i64 mr] 49) := HK.out.below hb1 HK.out.lt
  have hz1 : w.heap.size < w1.heap.size := HK1.out.lt
  clear hb1 HB HK HN
  go_wp2_with fail
  refine Calls.mono (HO.out _ HB1.out) ?_
  rintro e w3 ⟨rfl, ts, m, hL, hM, hA, hb3⟩
  have HB3 : Hid (Below w.heap.size w w3) := HB1.out.trans (hb3.mono HB1.out.size)
  have hz23 : w1.heap.size < w3.heap.size := (hM.lt _ rfl).2
  have HK3 : Hid (Blk w3 w.heap.size #[.slice ma md.length mc, .bool mh, .int .i64 mo, .int .i64 mr] 49) := HK1.out.below hb3 hz1
  have HL : Hid (L = ts.map Prod.snd) := hL
  have HM : Hid (Mine w3 w1.heap.size 40 9 (.slice (some ⟨w1.heap.size, 0, none⟩) L.length L.length) (ts.map objC)) := hM
  have HA : Hid (OwnAll w3 (w1.heap.size + 1) ts m) := hA
  obtain ⟨sq, htq⟩ := ts_at hL.symm HQ.out
  obtain ⟨⟨da, dn, dc⟩, ⟨ea, en, ec⟩, ⟨qa, qn, qc⟩⟩ := sq
  have HTQ : Hid (ts[q]? = some (⟨⟨da, dn, dc⟩, ⟨ea, en, ec⟩, ⟨qa, qn, qc⟩⟩, oq)) := htq
  obtain ⟨m1, m2, o1, o2, o3, o4, -, -, -, us, hu1, hu2, hu3, hu4⟩ := hA.2.2.2 q _ htq
  have hlo := hA.lo q
  have hme3 : w1.heap.size + 1 ≤ m2 := by omega
  have HU1 : Hid (oq.queue = us.map Prod.snd) := hu1
  have HU2 : Hid (Mine w3 m2 49 4 (.slice qa qn qc) (us.map msgC)) := hu2
  have HU3 : Hid (∀ g, (Value.slice qa qn qc).ownBlock = some g → g < w3.heap.size) := fun g hg => by have := hu3 g hg; omega
  have HU4 : Hid (∀ t ∈ us, Bytes w3 (fun b => m2 ≤ b ∧ b < w3.heap.size ∧ some b ≠ (Value.slice qa qn qc).ownBlock) (.slice t.1.a t.1.n t.1.c) t.2.data) := fun t ht => Row.more (hu4 t ht) fun b hb => ⟨hb.1, by omega, hb.2.2⟩
  have hm2 : m2 ≤ w3.heap.size := by omega
  obtain ⟨b, of, c', s, hve, hSb, hc, hcm, -, c0, c1, c2, c3, c4, c5, c6, c7, c8⟩ := (HV.out _ HB3.out).open HI.out
  obtain ⟨rfl, -, rfl⟩ := Value.slice.inj hve
  rw [HOP.out] at c4
  unfold maxLen at hcm
  have k0 := Blk.cell HK3.out
  have kf := Blk.free HK3.out
  clear hL hM hA htq hb3 HO o1 o2 o3 o4 hu1 hu2 hu3 hu4 hlo hve c0 c1 c2 c3 c5 c6 c7 c8 HK1 HB1
  go_wp2_with (with_reducible refine stop_at (.call { callee := .builtin .append, args := #[.const (.slice none 0 0), .tmp 28], argTypes := #[22, 22] }) rfl ?_)
  unfold Hold
  obtain ⟨i0, hi, hz0, hzb1, hzb2⟩ := info_parts Try.infoByte
  refine wpList_append_row rfl _ _ _ rfl w3.heap.size 5 i0 (.int .u8 0) 1 1 Try.underlying22 hi hz0 hzb1 hzb2 rfl (by decide) (.slice none 0 0) [] rfl (Mine.nil _ _ _ _) (.slice ma md.length mc) S (md.map byteC) rfl (HMD.out _ HB3.out) (even_byte md) (ones_byte md) ?a1 (by decide) (Nat.le_refl _) ?_
  case a1 => have := H60.out; rw [List.length_map]; simp; omega
  intro v4 w4 ho4 hg4
  rw [List.nil_append] at ho4
  obtain ⟨r, rfl⟩ := ho4.sl
  have hb4 : Below w3.heap.size w3 w4 := below_none hg4
  have hz34 := hb4.size
  have HR4 : Hid (Mine w4 w3.heap.size 5 1 (.slice r.a r.n r.c) (md.map byteC)) := ho4
  have HB4 : Hid (Below w3.heap.size w3 w4) := hb4
  have HK4 : Hid (Blk w4 w.heap.size #[.slice ma md.length mc, .bool mh, .int .i64 mo, .int .i64 mr] 49) := HK3.out.below hb4 (by omega)
  have k4 := Blk.cell HK4.out
  have kf4 := Blk.free HK4.out
  clear hi hz0 hzb1 hzb2 ho4 hg4 hb4 k0 kf HK3 c4
  go_wp2_with fail
  have hK5 : Blk (w4.setCell ⟨w.heap.size, 0, none⟩ (.slice r.a r.n r.c)) w.heap.size #[.slice r.a r.n r.c, .bool mh, .int .i64 mo, .int .i64 mr] 49 := Blk.set HK4.out 0 _
  have on5 := On.set w4 ⟨w.heap.size, 0, none⟩ (.slice r.a r.n r.c)
  have hz5 : (w4.setCell ⟨w.heap.size, 0, none⟩ (.slice r.a r.n r.c)).heap.size = w4.heap.size := by simp
  have HB5 : Hid (Below w.heap.size w (w4.setCell ⟨w.heap.size, 0, none⟩ (.slice r.a r.n r.c))) := (HB3.out.trans (HB4.out.mono HB3.out.size)).setCell (Nat.le_refl _) _
  generalize w4.setCell ⟨w.heap.size, 0, none⟩ (.slice r.a r.n r.c) = w5 at *
  have hon35 : On (fun b => b < w3.heap.size ∧ b ≠ w.heap.size) w3 w5 := ((On.of HB4.out).less fun b hb => hb.1).trans (on5.less fun b hb => hb.2)
  have HON35 : Hid (On (fun b => b < w3.heap.size ∧ b ≠ w.heap.size) w3 w5) := hon35
  have hM5 : Mine w5 w1.heap.size 40 9 (.slice (some ⟨w1.heap.size, 0, none⟩) L.length L.length) (ts.map objC) := HM.out.on hon35 fun g hg => by have := HM.out.lt g hg; exact ⟨this.2, by omega⟩
  have HM5 : Hid (Mine w5 w1.heap.size 40 9 (.slice (some ⟨w1.heap.size, 0, none⟩) L.length L.length) (ts.map objC)) := hM5
  have HU5 : Hid (Mine w5 m2 49 4 (.slice qa qn qc) (us.map msgC)) := HU2.out.on hon35 fun g hg => by have := HU2.out.lt g hg; exact ⟨this.2, by omega⟩
  have HR5 : Hid (Mine w5 w3.heap.size 5 1 (.slice r.a r.n r.c) (md.map byteC)) := HR4.out.on on5 fun g hg => by have := HR4.out.lt g hg; show g ≠ w.heap.size; omega
  have HRL : Hid (∀ g, (Value.slice r.a r.n r.c).ownBlock = some g → g < w5.heap.size) := fun g hg => by have := (HR4.out.lt g hg).2; omega
  obtain ⟨cur, hblk, -, -, -, -, hcur⟩ := hM5.blk
  have c5 : w5.cell? ⟨w1.heap.size, q * 9 + 5, none⟩ = some (.slice qa qn qc) := by
    rw [hblk.cell]
    exact hcur _ _ (flatten_at (even_obj ts) q _ (by rw [List.getElem?_map, HTQ.out]; rfl) 5 _ rfl)
  have f5 := hblk.free
  have k5 := hK5.cell
  have hlen : us.length = oq.queue.length := by rw [HU1.out, List.length_map]
  have HUL : Hid (us.length = oq.queue.length) := hlen
  have hl1 : w1.heap.size < w5.heap.size := by omega
  have hl2 : w.heap.size < w5.heap.size := by omega
  have hn1 : ¬ w1.heap.size = w5.heap.size := by omega
  have hn2 : ¬ w.heap.size = w5.heap.size := by omega
  have HZ : Hid (w3.heap.size ≤ w5.heap.size) := by unfold Hid; omega
  clear hblk hcur hM5 hK5 on5 hz5 hz34 k4 kf4 hlen hon35 HK4 HB4 HR4 HM HU2
  have HAP : Hid (∀ (ops : Array Oper) (o : Oper) (a : Act) (K' : Act → World → Prop) (Q' : Exit → Act → World → Prop) (E : Prop), o.guard = none → ∀ (s x : Operand), o.op = .call { callee := .builtin .append, args := #[s, x], argTypes := #[38, 38] } → a.eval s = .slice qa qn qc → a.eval x = .slice (some ⟨w5.heap.size, 0, none⟩) 1 1 → (∀ r' : Sl, ∀ W2, W2.cell? ⟨w1.heap.size, q * 9 + 5, none⟩ = some (.slice qa qn qc) → W2.frozen? ⟨w1.heap.size, q * 9 + 5, none⟩ = false → Objs (W2.setCell ⟨w1.heap.size, q * 9 + 5, none⟩ (.slice r'.a r'.n r'.c)) (fun b => w.heap.size ≤ b ∧ b < (W2.setCell ⟨w1.heap.size, q * 9 + 5, none⟩ (.slice r'.a r'.n r'.c)).heap.size) (.slice (some ⟨w1.heap.size, 0, none⟩) L.length L.length) (Ch.withQ L q oq (oq.queue ++ [⟨md, mh, mo, mr⟩])) ∧ Below w.heap.size w (W2.setCell ⟨w1.heap.size, q * 9 + 5, none⟩ (.slice r'.a r'.n r'.c)) → K' (a.put o.dst (.slice r'.a r'.n r'.c)) W2) → if Region.wanted o (yielded ops a.tmps) = true then Oper.wp Try.prog o a (w5.drew.alloc (.cells #[.slice r.a r.n r.c, .bool mh, .int .i64 mo, .int .i64 mr] 49)) K' Q' else E) := by
    intro ops o a K' Q' E hgd s x ho hs hx hk
    have hzo := HZ.out
    obtain ⟨i0, hi0, hz0, hz1', hz2⟩ := info_parts Try.infoMsg
    have hon6 : On (fun b => b < w5.heap.size) w5 (w5.drew.alloc (.cells #[.slice r.a r.n r.c, .bool mh, .int .i64 mo, .int .i64 mr] 49)) := On.alloc w5.drew _
    have hB6 : Below w.heap.size w (w5.drew.alloc (.cells #[.slice r.a r.n r.c, .bool mh, .int .i64 mo, .int .i64 mr] 49)) := (HB5.out.trans (Below.refl _ _).drew).alloc (by show w.heap.size ≤ w5.heap.size; omega) _
    have hbn : Blk (w5.drew.alloc (.cells #[.slice r.a r.n r.c, .bool mh, .int .i64 mo, .int .i64 mr] 49)) w5.heap.size (msgC (r, ⟨md, mh, mo, mr⟩)).toArray 49 := Blk.new w5.drew _ _
    have hz6 : (w5.drew.alloc (.cells #[.slice r.a r.n r.c, .bool mh, .int .i64 mo, .int .i64 mr] 49)).heap.size = w5.heap.size + 1 := by simp
    generalize w5.drew.alloc (.cells #[.slice r.a r.n r.c, .bool mh, .int .i64 mo, .int .i64 mr] 49) = w6 at *
    have hU6 : Mine w6 m2 49 4 (.slice qa qn qc) (us.map msgC) := HU5.out.on hon6 fun g hg => (HU5.out.lt g hg).2
    have hul := HUL.out
    have hu4 := H4.out
    refine step_append_own1 hgd s x _ ho m2 49 49 i0 (.agg #[.slice none 0 0, .bool false, .int .i64 0, .int .i64 0]) 4 48 Try.underlying38 hi0 hz0 hz1' hz2 rfl (by decide) _ (us.map msgC) hs hU6 (even_msg us) w5.heap.size hx (msgC (r, ⟨md, mh, mo, mr⟩)) hbn rfl (ones_msgC _) (by rw [List.length_map]; omega) (by decide) (by omega) ?_
    intro r' W2 hm2' hg2 hwh
    have hon2 : On (fun b => b < w6.heap.size ∧ some b ≠ (Value.slice qa qn qc).ownBlock) w6 W2 := fun b hb => hg2.block b hb.1 hb.2
    have hB2 : Below w.heap.size w W2 := hB6.grown hg2 (by omega) (fun k hk => by have := (hU6.lt k hk).1; omega)
    have hzz : w6.heap.size ≤ W2.heap.size := (Below.grown (Below.refl w.heap.size w6) hg2 (by omega) (fun k hk => by have := (hU6.lt k hk).1; omega)).size
    have hnd : some w1.heap.size ≠ (Value.slice qa qn qc).ownBlock := fun e => by have := (HU5.out.lt _ e.symm).1; omega
    have hM2 : Mine W2 w1.heap.size 40 9 (.slice (some ⟨w1.heap.size, 0, none⟩) L.length L.length) (ts.map objC) := (HM5.out.on hon6 fun g hg => (HM5.out.lt g hg).2).on hon2 fun g hg => by
      simp [Value.ownBlock] at hg
      subst hg
      exact ⟨by omega, hnd⟩
    obtain ⟨cur, hblk, -, -, -, -, hcur⟩ := hM2.blk
    refine hk r' W2 ?_ (hblk.free _) ⟨?_, hB2.setCell (by show w.heap.size ≤ w1.heap.size; omega) _⟩
    · rw [hblk.cell]
      exact hcur _ _ (flatten_at (even_obj ts) q _ (by rw [List.getElem?_map, HTQ.out]; rfl) 5 _ rfl)
    · have on7 := On.set W2 ⟨w1.heap.size, q * 9 + 5, none⟩ (.slice r'.a r'.n r'.c)
      have hM7 := hM2.set (even_obj ts) q 5 _ (.slice r'.a r'.n r'.c) (by rw [List.getElem?_map, HTQ.out]; rfl) (by decide)
      have hU7 := hm2'.on on7 fun g hg => by have := (hm2'.lt g hg).1; show g ≠ w1.heap.size; omega
      have hz7 : (W2.setCell ⟨w1.heap.size, q * 9 + 5, none⟩ (.slice r'.a r'.n r'.c)).heap.size = W2.heap.size := by simp
      generalize W2.setCell ⟨w1.heap.size, q * 9 + 5, none⟩ (.slice r'.a r'.n r'.c) = W7 at *
      have hon37 : On (fun b => b < w3.heap.size ∧ b ≠ w.heap.size ∧ b ≠ w1.heap.size ∧ some b ≠ (Value.slice qa qn qc).ownBlock) w3 W7 := (((HON35.out.less fun b hb => ⟨hb.1, hb.2.1⟩).trans (hon6.less fun b hb => by have := HZ.out; omega)).trans (hon2.less fun b hb => ⟨by have := HZ.out; omega, hb.2.2.2⟩)).trans (on7.less fun b hb => hb.2.2.1)
      have hon57 : On (fun b => b < w5.heap.size ∧ b ≠ w1.heap.size ∧ some b ≠ (Value.slice qa qn qc).ownBlock) w5 W7 := ((hon6.less fun b hb => hb.1).trans (hon2.less fun b hb => ⟨by omega, hb.2.2⟩)).trans (on7.less fun b hb => hb.2.1)
      have hQ7 : Queue W7 (fun b => w1.heap.size + 1 ≤ b ∧ b < W7.heap.size) (.slice r'.a r'.n r'.c) (oq.queue ++ [⟨md, mh, mo, mr⟩]) := by
        refine ⟨us ++ [(r, ⟨md, mh, mo, mr⟩)], by rw [List.map_append, HU1.out]; rfl, ?_, fun t ht => ?_⟩
        · have := hU7.row (by rw [show us.map msgC ++ [msgC (r, ⟨md, mh, mo, mr⟩)] = (us ++ [(r, (⟨md, mh, mo, mr⟩ : Sp.Msg))]).map msgC by rw [List.map_append]; rfl]; exact even_msg _)
          rw [List.map_append]
          exact this.more fun b hb => ⟨by omega, hb.2⟩
        · rcases List.mem_append.1 ht with h | h
          · exact Row.more (Row.on (HU4.out t h) (hon37.less fun b hb => ⟨hb.2.1, by omega, by omega, hb.2.2⟩)) fun b hb => ⟨by omega, by have := HZ.out; omega⟩
          · simp at h
            subst h
            have hrr := HR5.out.row (even_byte md)
            refine Row.more (Row.on hrr (hon57.less fun b hb => ⟨hb.2, by omega, fun e => by have := HU3.out b e.symm; omega⟩)) fun b hb => ⟨by omega, by omega⟩
      have hll := turnq_lists HA.out HTQ.out (hon37.less fun b hb => ⟨hb.2.1, by omega, by omega, hb.2.2⟩) (by omega) hQ7
      have eW : Ch.withQ L q oq (oq.queue ++ [⟨md, mh, mo, mr⟩]) = (ts.set q (⟨⟨da, dn, dc⟩, ⟨ea, en, ec⟩, r'⟩, { oq with queue := oq.queue ++ [⟨md, mh, mo, mr⟩] })).map Prod.snd := by
        unfold Ch.withQ
        rw [List.map_set, HL.out]
      rw [eW]
      have eM : (ts.map objC).set q ((objC (⟨⟨da, dn, dc⟩, ⟨ea, en, ec⟩, ⟨qa, qn, qc⟩⟩, oq)).set 5 (.slice r'.a r'.n r'.c)) = (ts.set q (⟨⟨da, dn, dc⟩, ⟨ea, en, ec⟩, r'⟩, { oq with queue := oq.queue ++ [⟨md, mh, mo, mr⟩] })).map objC := by
        rw [List.map_set]
        rfl
      rw [eM] at hM7
      exact hM7.objs (fun b hb => ⟨by omega, hb.2⟩) fun t ht => (hll t ht).more fun b hb => ⟨by omega, hb.2⟩
  clear HU5 HR5 HRL HUL HM5 HON35 HU1 HU3 HU4 HA HTQ HL HMD HV
  go_region_law ((refine HAP.out _ _ _ _ _ _ rfl _ _ rfl (by rfl) (by rfl) ?_; intro r2 W2 hq1 hq2 hq3))
  all_goals
    go_wp2
    go_ret2
    exact ⟨_, _, rfl, hq3⟩
end Go.Proofs.Ythoacakdmnijcaa
