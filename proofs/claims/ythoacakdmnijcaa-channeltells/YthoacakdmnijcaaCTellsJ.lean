/-
  ChannelTells returns true for all bytes of which a kernel is made, every number of an end and every message, and leaves its arguments alone: Pair, Send and Recv tell what any channel has, and what comes of it, as the document does. No condition.
-/
import Derived.Test.YthoacakdmnijcaaCPair
import Derived.Test.YthoacakdmnijcaaCApp
import Derived.Test.YthoacakdmnijcaaCRSend
import Derived.Deep.CutRange
import Derived.Deep.CutBlock
import Derived.Test.YthoacakdmnijcaaSDelete
import Derived.Test.YthoacakdmnijcaaBPlain
import Derived.Test.YthoacakdmnijcaaSEnter
import Derived.Test.YthoacakdmnijcaaSAlive
import Derived.Test.YthoacakdmnijcaaSWalkK
import Derived.Test.YthoacakdmnijcaaJBA
import Derived.Test.YthoacakdmnijcaaCPlain
import Derived.WalkKit
import Derived.ProofKit
import Derived.OpenShut
import Derived.ShutString
import Derived.ChangeOld
import Derived.Deep.Slices
import Derived.Deep.SlicePairs
import Derived.Deep.Strs
import Derived.SizedLaws
import Derived.Test.YthoacakdmnijcaaRows
/-
  channel.Send, walked.
-/
namespace Go.Proofs.Ythoacakdmnijcaa
open Go.RowKit
/-- One object's messages turned: all lists lie there still. -/
theorem turnq_lists {w W : World} {lo d : Nat} {ts : List (Sls × Sp.Ob)} {m : Nat → Nat} {sd : Sls} {od : Sp.Ob} {sq : Sl} {q : List Sp.Msg} (hA : OwnAll w lo ts m) (hd : ts[d]? = some (sd, od))
    (hon : On (fun b => lo ≤ b ∧ b < w.heap.size ∧ some b ≠ (Value.slice sd.q.a sd.q.n sd.q.c).ownBlock) w W) (hs : w.heap.size ≤ W.heap.size) (hr : Queue W (fun b => lo ≤ b ∧ b < W.heap.size) (.slice sq.a sq.n sq.c) q) :
    ∀ t ∈ ts.set d (⟨sd.d, sd.e, sq⟩, { od with queue := q }), Lists W (fun b => lo ≤ b ∧ b < W.heap.size) t := by
  intro t ht
  obtain ⟨i, hi, rfl⟩ := List.getElem_of_mem ht
  have hi' : i < ts.length := by simpa using hi
  have hdl : d < ts.length := (List.getElem?_eq_some_iff.1 hd).1
  have hmn := hA.2.2.1
  have hm0 := hA.lo d
  obtain ⟨m1, m2, h1, h2, h3, h4, h5, h6, h7, us, hu1, hu2, hu3, hu4⟩ := hA.2.2.2 d _ hd
  have hmd := hA.le (show d + 1 ≤ ts.length from hdl)
  have hblk : ∀ b, some b = (Value.slice sd.q.a sd.q.n sd.q.c).ownBlock → m2 ≤ b ∧ b < m (d + 1) := fun b hb => ⟨(hu2.lt b hb.symm).1, hu3 b hb.symm⟩
  by_cases hid : i = d
  · subst hid
    rw [List.getElem_set_self]
    refine ⟨?_, ?_, hr⟩
    · exact Row.more (Row.on h5 (hon.less fun b hb => ⟨by omega, by omega, fun e => by have := hblk b e; omega⟩)) fun b hb => ⟨by omega, by omega⟩
    · rcases h6.row (even_ent _) with h | ⟨b, o, c, e, hb, hc1, hc2, hc3⟩
      · exact Or.inl h
      · have hbm := h7 b (by dsimp only at e; rw [e]; rfl)
        exact Or.inr ⟨b, o, c, e, ⟨by omega, by omega⟩, hc1, hc2, fun i cs hi j u hj => (hon.cell ⟨by omega, by omega, fun e => by have := hblk b e; omega⟩).trans (hc3 i cs hi j u hj)⟩
  · rw [List.getElem_set_ne (by omega)]
    have hl := (hA.2.2.2 i _ (List.getElem?_eq_getElem hi')).lists
    have hi1 := hA.le (show i + 1 ≤ ts.length from hi')
    have hi0 := hA.lo i
    have hii := hA.2.1 i
    refine (hl.on (hon.less fun b hb => ⟨by omega, by omega, fun e => ?_⟩)).more fun b hb => ⟨by omega, by omega⟩
    have := hblk b e
    rcases Nat.lt_or_ge i d with hlt | hge
    · have := hA.le (show i + 1 ≤ d from hlt)
      omega
    · have := hA.le (show d + 1 ≤ i by omega)
      omega
theorem noSend_zero {L : List Sp.Ob} {k : Int} {n : Nat} (h : Ch.noSend L k n = 0) : ∃ (i q : Nat) (o oq : Sp.Ob), k = i ∧ L[i]? = some o ∧ o.kind = 4 ∧ o.peer = q ∧ L[q]? = some oq ∧ oq.kind = 4 ∧ n ≤ 60 ∧ oq.queue.length < 4 := by
  unfold Ch.noSend at h
  cases he : Sp.is L k 4 with
  | false => rw [if_pos he] at h; exact absurd h (by decide)
  | true =>
    rw [if_neg (by rw [he]; decide)] at h
    obtain ⟨i, o, rfl, hx, hk, ho⟩ := is_end he
    have hp : Ch.peerOf L (i : Int) = o.peer := by unfold Ch.peerOf; rw [ho]
    rw [hp] at h
    cases he2 : Sp.is L o.peer 4 with
    | false => rw [if_pos he2] at h; exact absurd h (by decide)
    | true =>
      rw [if_neg (by rw [he2]; decide)] at h
      obtain ⟨q, oq, hq, hxq, hkq, hoq⟩ := is_end he2
      have hw : Ch.waits L o.peer = oq.queue.length := by unfold Ch.waits; rw [hoq]
      rw [hw] at h
      split at h
      · exact absurd h (by decide)
      · split at h
        · exact absurd h (by decide)
        · exact ⟨i, q, o, oq, rfl, hx, hk, hq, hxq, hkq, by omega, by omega⟩
set_option maxRecDepth 100000 in
set_option maxHeartbeats 2000000 in
theorem csend_err (L : List Sp.Ob) (k : Int) (t : Sl × Sp.Msg) (v : Value) (S : Nat → Prop) (w : World) (hv : Objs w S v L) (hS : ∀ b, S b → b < w.heap.size) (hm : Bytes w S (.slice t.1.a t.1.n t.1.c) t.2.data) (he : Ch.noSend L k t.2.data.length ≠ 0) :
    Calls Try.prog 22 #[v, .int .i64 k, msgV t] w fun e w' => e = .returned (.tuple #[.slice none 0 0, .int .i64 (Ch.noSend L k t.2.data.length)]) ∧ Below w.heap.size w w' := by
  have hn1 : t.1.n = t.2.data.length := by have := Row.eqNil hm; rw [List.length_map] at this; exact this
  have hn2 : t.2.data.length ≤ maxLen := by obtain ⟨_, _, _, h⟩ := Row.form hm; rw [List.length_map] at h; exact h
  have HN : Hid (∀ w', Below w.heap.size w w' → Calls Try.prog 50 #[v, .int .i64 k, msgV t] w' fun e w'' => e = .returned (.int .i64 (Ch.noSend L k t.2.data.length)) ∧ Below w'.heap.size w' w'') := fun w' h => noSend_any L k t v S w' (hv.on ((On.of h).less hS)) (fun b hb => Nat.lt_of_lt_of_le (hS b hb) h.size) hn1 hn2
  have hE : (Ch.noSend L k t.2.data.length != 0) = true := by simpa using he
  generalize Ch.noSend L k t.2.data.length = E at *
  obtain ⟨⟨ma, mn, mc⟩, md, mh, mo, mr⟩ := t
  unfold msgV at *
  dsimp only at *
  obtain ⟨a, c, rfl, -⟩ := hv.form
  clear hv hS hm he hn1 hn2
  have HB : Hid (Below w.heap.size w (w.alloc (.cells #[.slice ma mn mc, .bool mh, .int .i64 mo, .int .i64 mr] 49))) := (Below.refl _ _).alloc (Nat.le_refl _) _
  go_enter Try.func22, Try.ntmps22
  go_wp2_with fail
  refine Calls.mono (HN.out _ HB.out) ?_
  rintro e w2 ⟨rfl, hb2⟩
  have HB2 : Hid (Below w.heap.size w w2) := HB.out.trans (hb2.mono HB.out.size)
  clear hb2
  go_wp2
  go_ret2
  exact ⟨rfl, HB2.out⟩
theorem ones_msgC (t : Sl × Sp.Msg) : ∀ u ∈ msgC t, u.oneCell' = true := fun u hu => ones_msg [t] _ (List.mem_singleton.2 rfl) u hu
set_option maxRecDepth 100000 in
set_option maxHeartbeats 8000000 in
theorem csend_ok (L : List Sp.Ob) (i q : Nat) (o oq : Sp.Ob) (t : Sl × Sp.Msg) (v : Value) (S : Nat → Prop) (w : World) (hv : Objs w S v L) (hS : ∀ b, S b → b < w.heap.size) (hm : Bytes w S (.slice t.1.a t.1.n t.1.c) t.2.data) (hf : ∀ o ∈ L, Fits o) (hn : L.length ≤ 1000000) (h0 : Ch.noSend L i t.2.data.length = 0) (hi : L[i]? = some o) (hop : o.peer = q) (hq : L[q]? = some oq) (hd60 : t.2.data.length ≤ 60) (hq4 : oq.queue.length < 4) :
    Calls Try.prog 22 #[v, .int .i64 i, msgV t] w fun e w' => ∃ a c, e = .returned (.tuple #[.slice a L.length c, .int .i64 0]) ∧ Objs w' (fun b => w.heap.size ≤ b ∧ b < w'.heap.size) (.slice a L.length c) (Ch.withQ L q oq (oq.queue ++ [t.2])) ∧ Below w.heap.size w w' := by
  have hn1 : t.1.n = t.2.data.length := by have := Row.eqNil hm; rw [List.length_map] at this; exact this
  have hn2 : t.2.data.length ≤ maxLen := by obtain ⟨_, _, _, h⟩ := Row.form hm; rw [List.length_map] at h; exact h
  have HN : Hid (∀ w', Below w.heap.size w w' → Calls Try.prog 50 #[v, .int .i64 i, msgV t] w' fun e w'' => e = .returned (.int .i64 0) ∧ Below w'.heap.size w' w'') := fun w' h => by
    have := noSend_any L i t v S w' (hv.on ((On.of h).less hS)) (fun b hb => Nat.lt_of_lt_of_le (hS b hb) h.size) hn1 hn2
    rw [h0] at this
    exact this
  have HO : Hid (∀ W, Below w.heap.size w W → Calls Try.prog 36 #[v] W fun e w' => e = .returned (.slice (some ⟨W.heap.size, 0, none⟩) L.length L.length) ∧ ∃ (ts : List (Sls × Sp.Ob)) (m : Nat → Nat), L = ts.map Prod.snd ∧ Mine w' W.heap.size 40 9 (.slice (some ⟨W.heap.size, 0, none⟩) L.length L.length) (ts.map objC) ∧ OwnAll w' (W.heap.size + 1) ts m ∧ Below W.heap.size W w') := fun W hW => own_any L v S W (hv.on ((On.of hW).less hS)) (fun b hb => Nat.lt_of_lt_of_le (hS b hb) hW.size) hf hn
  obtain ⟨⟨ma, mn, mc⟩, md, mh, mo, mr⟩ := t
  unfold msgV at *
  dsimp only at *
  subst hn1
  have HV : Hid (∀ w', Below w.heap.size w w' → Objs w' S v L) := fun w' h => hv.on ((On.of h).less hS)
  have HMD : Hid (∀ w', Below w.heap.size w w' → Bytes w' S (.slice ma md.length mc) md) := fun w' h => Row.on hm ((On.of h).less hS)
  have HI : Hid (L[i]? = some o) := hi
  have HOP : Hid (o.peer = q) := hop
  have HQ : Hid (L[q]? = some oq) := hq
  have hil : i < L.length := (List.getElem?_eq_some_iff.1 hi).1
  have hql : q < L.length := (List.getElem?_eq_some_iff.1 hq).1
  have HNN : Hid (L.length ≤ 1000000) := hn
  have hnz : (L.length : Int) ≤ 1000000 := by omega
  have H4 : Hid (oq.queue.length < 4) := hq4
  have H60 : Hid (md.length ≤ 60) := hd60
  have HSS : Hid (∀ b, S b → b < w.heap.size) := hS
  obtain ⟨a, c, rfl, -⟩ := hv.form
  have HB : Hid (Below w.heap.size w (w.alloc (.cells #[.slice ma md.length mc, .bool mh, .int .i64 mo, .int .i64 mr] 49))) := (Below.refl _ _).alloc (Nat.le_refl _) _
  have HK : Hid (Blk (w.alloc (.cells #[.slice ma md.length mc, .bool mh, .int .i64 mo, .int .i64 mr] 49)) w.heap.size #[.slice ma md.length mc, .bool mh, .int .i64 mo, .int .i64 mr] 49) := Blk.new _ _ _
  clear hv hS hm hf h0 hi hop hq hn hq4 hd60 hn2
  go_enter Try.func22, Try.ntmps22
  go_wp2_with fail
  refine Calls.mono (HN.out _ HB.out) ?_
  rintro e w1 ⟨rfl, hb1⟩
  have HB1 : Hid (Below w.heap.size w w1) := HB.out.trans (hb1.mono HB.out.size)
  have HK1 : Hid (Blk w1 w.heap.size #[.slice ma md.length mc, .bool mh, .int .i64 mo, .int .i64 mr] 49) := HK.out.below hb1 HK.out.lt
  have hz1 : w.heap.size < w1.heap.size := HK1.out.lt
  clear hb1 HB HK HN
  go_wp2_with fail
  refine Calls.mono (HO.out _ HB1.out) ?_
  rintro e w3 ⟨rfl, ts, m, hL, hM, hA, hb3⟩
  have HB3 : Hid (Below w.heap.size w w3) := HB1.out.trans (hb3.mono HB1.out.size)
  have hz23 : w1.heap.size < w3.heap.size := (hM.lt _ rfl).2
  have HK3 : Hid (Blk w3 w.heap.size #[.slice ma md.length mc, .bool mh, .int .i64 mo, .int .i64 mr] 49) := HK1.out.below hb3 hz1
  have HL : Hid (L = ts.map Prod.snd) := hL
  have HM : Hid (Mine w3 w1.heap.size 40 9 (.slice (some ⟨w1.heap.size, 0, none⟩) L.length L.length) (ts.map objC)) := hM
  have HA : Hid (OwnAll w3 (w1.heap.size + 1) ts m) := hA
  obtain ⟨sq, htq⟩ := ts_at hL.symm HQ.out
  obtain ⟨⟨da, dn, dc⟩, ⟨ea, en, ec⟩, ⟨qa, qn, qc⟩⟩ := sq
  have HTQ : Hid (ts[q]? = some (⟨⟨da, dn, dc⟩, ⟨ea, en, ec⟩, ⟨qa, qn, qc⟩⟩, oq)) := htq
  obtain ⟨m1, m2, o1, o2, o3, o4, -, -, -, us, hu1, hu2, hu3, hu4⟩ := hA.2.2.2 q _ htq
  have hlo := hA.lo q
  have hme3 : w1.heap.size + 1 ≤ m2 := by omega
  have HU1 : Hid (oq.queue = us.map Prod.snd) := hu1
  have HU2 : Hid (Mine w3 m2 49 4 (.slice qa qn qc) (us.map msgC)) := hu2
  have HU3 : Hid (∀ g, (Value.slice qa qn qc).ownBlock = some g → g < w3.heap.size) := fun g hg => by have := hu3 g hg; omega
  have HU4 : Hid (∀ t ∈ us, Bytes w3 (fun b => m2 ≤ b ∧ b < w3.heap.size ∧ some b ≠ (Value.slice qa qn qc).ownBlock) (.slice t.1.a t.1.n t.1.c) t.2.data) := fun t ht => Row.more (hu4 t ht) fun b hb => ⟨hb.1, by omega, hb.2.2⟩
  have hm2 : m2 ≤ w3.heap.size := by omega
  obtain ⟨b, of, c', s, hve, hSb, hc, hcm, -, c0, c1, c2, c3, c4, c5, c6, c7, c8⟩ := (HV.out _ HB3.out).open HI.out
  obtain ⟨rfl, -, rfl⟩ := Value.slice.inj hve
  rw [HOP.out] at c4
  unfold maxLen at hcm
  have k0 := Blk.cell HK3.out
  have kf := Blk.free HK3.out
  clear hL hM hA htq hb3 HO o1 o2 o3 o4 hu1 hu2 hu3 hu4 hlo hve c0 c1 c2 c3 c5 c6 c7 c8 HK1 HB1
  go_wp2_with (with_reducible refine stop_at (.call { callee := .builtin .append, args := #[.const (.slice none 0 0), .tmp 28], argTypes := #[22, 22] }) rfl ?_)
  unfold Hold
  obtain ⟨i0, hi, hz0, hzb1, hzb2⟩ := info_parts Try.infoByte
  refine wpList_append_row rfl _ _ _ rfl w3.heap.size 5 i0 (.int .u8 0) 1 1 Try.underlying22 hi hz0 hzb1 hzb2 rfl (by decide) (.slice none 0 0) [] rfl (Mine.nil _ _ _ _) (.slice ma md.length mc) S (md.map byteC) rfl (HMD.out _ HB3.out) (even_byte md) (ones_byte md) ?a1 (by decide) (Nat.le_refl _) ?_
  case a1 => have := H60.out; rw [List.length_map]; simp; omega
  intro v4 w4 ho4 hg4
  rw [List.nil_append] at ho4
  obtain ⟨r, rfl⟩ := ho4.sl
  have hb4 : Below w3.heap.size w3 w4 := below_none hg4
  have hz34 := hb4.size
  have HR4 : Hid (Mine w4 w3.heap.size 5 1 (.slice r.a r.n r.c) (md.map byteC)) := ho4
  have HB4 : Hid (Below w3.heap.size w3 w4) := hb4
  have HK4 : Hid (Blk w4 w.heap.size #[.slice ma md.length mc, .bool mh, .int .i64 mo, .int .i64 mr] 49) := HK3.out.below hb4 (by omega)
  have k4 := Blk.cell HK4.out
  have kf4 := Blk.free HK4.out
  clear hi hz0 hzb1 hzb2 ho4 hg4 hb4 k0 kf HK3 c4
  go_wp2_with fail
  have hK5 : Blk (w4.setCell ⟨w.heap.size, 0, none⟩ (.slice r.a r.n r.c)) w.heap.size #[.slice r.a r.n r.c, .bool mh, .int .i64 mo, .int .i64 mr] 49 := Blk.set HK4.out 0 _
  have on5 := On.set w4 ⟨w.heap.size, 0, none⟩ (.slice r.a r.n r.c)
  have hz5 : (w4.setCell ⟨w.heap.size, 0, none⟩ (.slice r.a r.n r.c)).heap.size = w4.heap.size := by simp
  have HB5 : Hid (Below w.heap.size w (w4.setCell ⟨w.heap.size, 0, none⟩ (.slice r.a r.n r.c))) := (HB3.out.trans (HB4.out.mono HB3.out.size)).setCell (Nat.le_refl _) _
  generalize w4.setCell ⟨w.heap.size, 0, none⟩ (.slice r.a r.n r.c) = w5 at *
  have hon35 : On (fun b => b < w3.heap.size ∧ b ≠ w.heap.size) w3 w5 := ((On.of HB4.out).less fun b hb => hb.1).trans (on5.less fun b hb => hb.2)
  have HON35 : Hid (On (fun b => b < w3.heap.size ∧ b ≠ w.heap.size) w3 w5) := hon35
  have hM5 : Mine w5 w1.heap.size 40 9 (.slice (some ⟨w1.heap.size, 0, none⟩) L.length L.length) (ts.map objC) := HM.out.on hon35 fun g hg => by have := HM.out.lt g hg; exact ⟨this.2, by omega⟩
  have HM5 : Hid (Mine w5 w1.heap.size 40 9 (.slice (some ⟨w1.heap.size, 0, none⟩) L.length L.length) (ts.map objC)) := hM5
  have HU5 : Hid (Mine w5 m2 49 4 (.slice qa qn qc) (us.map msgC)) := HU2.out.on hon35 fun g hg => by have := HU2.out.lt g hg; exact ⟨this.2, by omega⟩
  have HR5 : Hid (Mine w5 w3.heap.size 5 1 (.slice r.a r.n r.c) (md.map byteC)) := HR4.out.on on5 fun g hg => by have := HR4.out.lt g hg; show g ≠ w.heap.size; omega
  have HRL : Hid (∀ g, (Value.slice r.a r.n r.c).ownBlock = some g → g < w5.heap.size) := fun g hg => by have := (HR4.out.lt g hg).2; omega
  obtain ⟨cur, hblk, -, -, -, -, hcur⟩ := hM5.blk
  have c5 : w5.cell? ⟨w1.heap.size, q * 9 + 5, none⟩ = some (.slice qa qn qc) := by
    rw [hblk.cell]
    exact hcur _ _ (flatten_at (even_obj ts) q _ (by rw [List.getElem?_map, HTQ.out]; rfl) 5 _ rfl)
  have f5 := hblk.free
  have k5 := hK5.cell
  have hlen : us.length = oq.queue.length := by rw [HU1.out, List.length_map]
  have HUL : Hid (us.length = oq.queue.length) := hlen
  have hl1 : w1.heap.size < w5.heap.size := by omega
  have hl2 : w.heap.size < w5.heap.size := by omega
  have hn1 : ¬ w1.heap.size = w5.heap.size := by omega
  have hn2 : ¬ w.heap.size = w5.heap.size := by omega
  have HZ : Hid (w3.heap.size ≤ w5.heap.size) := by unfold Hid; omega
  clear hblk hcur hM5 hK5 on5 hz5 hz34 k4 kf4 hlen hon35 HK4 HB4 HR4 HM HU2
  have HAP : Hid (∀ (ops : Array Oper) (o : Oper) (a : Act) (K' : Act → World → Prop) (Q' : Exit → Act → World → Prop) (E : Prop), o.guard = none → ∀ (s x : Operand), o.op = .call { callee := .builtin .append, args := #[s, x], argTypes := #[38, 38] } → a.eval s = .slice qa qn qc → a.eval x = .slice (some ⟨w5.heap.size, 0, none⟩) 1 1 → (∀ r' : Sl, ∀ W2, W2.cell? ⟨w1.heap.size, q * 9 + 5, none⟩ = some (.slice qa qn qc) → W2.frozen? ⟨w1.heap.size, q * 9 + 5, none⟩ = false → Objs (W2.setCell ⟨w1.heap.size, q * 9 + 5, none⟩ (.slice r'.a r'.n r'.c)) (fun b => w.heap.size ≤ b ∧ b < (W2.setCell ⟨w1.heap.size, q * 9 + 5, none⟩ (.slice r'.a r'.n r'.c)).heap.size) (.slice (some ⟨w1.heap.size, 0, none⟩) L.length L.length) (Ch.withQ L q oq (oq.queue ++ [⟨md, mh, mo, mr⟩])) ∧ Below w.heap.size w (W2.setCell ⟨w1.heap.size, q * 9 + 5, none⟩ (.slice r'.a r'.n r'.c)) → K' (a.put o.dst (.slice r'.a r'.n r'.c)) W2) → if Region.wanted o (yielded ops a.tmps) = true then Oper.wp Try.prog o a (w5.drew.alloc (.cells #[.slice r.a r.n r.c, .bool mh, .int .i64 mo, .int .i64 mr] 49)) K' Q' else E) := by
    intro ops o a K' Q' E hgd s x ho hs hx hk
    have hzo := HZ.out
    obtain ⟨i0, hi0, hz0, hz1', hz2⟩ := info_parts Try.infoMsg
    have hon6 : On (fun b => b < w5.heap.size) w5 (w5.drew.alloc (.cells #[.slice r.a r.n r.c, .bool mh, .int .i64 mo, .int .i64 mr] 49)) := On.alloc w5.drew _
    have hB6 : Below w.heap.size w (w5.drew.alloc (.cells #[.slice r.a r.n r.c, .bool mh, .int .i64 mo, .int .i64 mr] 49)) := (HB5.out.trans (Below.refl _ _).drew).alloc (by show w.heap.size ≤ w5.heap.size; omega) _
    have hbn : Blk (w5.drew.alloc (.cells #[.slice r.a r.n r.c, .bool mh, .int .i64 mo, .int .i64 mr] 49)) w5.heap.size (msgC (r, ⟨md, mh, mo, mr⟩)).toArray 49 := Blk.new w5.drew _ _
    have hz6 : (w5.drew.alloc (.cells #[.slice r.a r.n r.c, .bool mh, .int .i64 mo, .int .i64 mr] 49)).heap.size = w5.heap.size + 1 := by simp
    generalize w5.drew.alloc (.cells #[.slice r.a r.n r.c, .bool mh, .int .i64 mo, .int .i64 mr] 49) = w6 at *
    have hU6 : Mine w6 m2 49 4 (.slice qa qn qc) (us.map msgC) := HU5.out.on hon6 fun g hg => (HU5.out.lt g hg).2
    have hul := HUL.out
    have hu4 := H4.out
    refine step_append_own1 hgd s x _ ho m2 49 49 i0 (.agg #[.slice none 0 0, .bool false, .int .i64 0, .int .i64 0]) 4 48 Try.underlying38 hi0 hz0 hz1' hz2 rfl (by decide) _ (us.map msgC) hs hU6 (even_msg us) w5.heap.size hx (msgC (r, ⟨md, mh, mo, mr⟩)) hbn rfl (ones_msgC _) (by rw [List.length_map]; omega) (by decide) (by omega) ?_
    intro r' W2 hm2' hg2 hwh
    have hon2 : On (fun b => b < w6.heap.size ∧ some b ≠ (Value.slice qa qn qc).ownBlock) w6 W2 := fun b hb => hg2.block b hb.1 hb.2
    have hB2 : Below w.heap.size w W2 := hB6.grown hg2 (by omega) (fun k hk => by have := (hU6.lt k hk).1; omega)
    have hzz : w6.heap.size ≤ W2.heap.size := (Below.grown (Below.refl w.heap.size w6) hg2 (by omega) (fun k hk => by have := (hU6.lt k hk).1; omega)).size
    have hnd : some w1.heap.size ≠ (Value.slice qa qn qc).ownBlock := fun e => by have := (HU5.out.lt _ e.symm).1; omega
    have hM2 : Mine W2 w1.heap.size 40 9 (.slice (some ⟨w1.heap.size, 0, none⟩) L.length L.length) (ts.map objC) := (HM5.out.on hon6 fun g hg => (HM5.out.lt g hg).2).on hon2 fun g hg => by
      simp [Value.ownBlock] at hg
      subst hg
      exact ⟨by omega, hnd⟩
    obtain ⟨cur, hblk, -, -, -, -, hcur⟩ := hM2.blk
    refine hk r' W2 ?_ (hblk.free _) ⟨?_, hB2.setCell (by show w.heap.size ≤ w1.heap.size; omega) _⟩
    · rw [hblk.cell]
      exact hcur _ _ (flatten_at (even_obj ts) q _ (by rw [List.getElem?_map, HTQ.out]; rfl) 5 _ rfl)
    · have on7 := On.set W2 ⟨w1.heap.size, q * 9 + 5, none⟩ (.slice r'.a r'.n r'.c)
      have hM7 := hM2.set (even_obj ts) q 5 _ (.slice r'.a r'.n r'.c) (by rw [List.getElem?_map, HTQ.out]; rfl) (by decide)
      have hU7 := hm2'.on on7 fun g hg => by have := (hm2'.lt g hg).1; show g ≠ w1.heap.size; omega
      have hz7 : (W2.setCell ⟨w1.heap.size, q * 9 + 5, none⟩ (.slice r'.a r'.n r'.c)).heap.size = W2.heap.size := by simp
      generalize W2.setCell ⟨w1.heap.size, q * 9 + 5, none⟩ (.slice r'.a r'.n r'.c) = W7 at *
      have hon37 : On (fun b => b < w3.heap.size ∧ b ≠ w.heap.size ∧ b ≠ w1.heap.size ∧ some b ≠ (Value.slice qa qn qc).ownBlock) w3 W7 := (((HON35.out.less fun b hb => ⟨hb.1, hb.2.1⟩).trans (hon6.less fun b hb => by have := HZ.out; omega)).trans (hon2.less fun b hb => ⟨by have := HZ.out; omega, hb.2.2.2⟩)).trans (on7.less fun b hb => hb.2.2.1)
      have hon57 : On (fun b => b < w5.heap.size ∧ b ≠ w1.heap.size ∧ some b ≠ (Value.slice qa qn qc).ownBlock) w5 W7 := ((hon6.less fun b hb => hb.1).trans (hon2.less fun b hb => ⟨by omega, hb.2.2⟩)).trans (on7.less fun b hb => hb.2.1)
      have hQ7 : Queue W7 (fun b => w1.heap.size + 1 ≤ b ∧ b < W7.heap.size) (.slice r'.a r'.n r'.c) (oq.queue ++ [⟨md, mh, mo, mr⟩]) := by
        refine ⟨us ++ [(r, ⟨md, mh, mo, mr⟩)], by rw [List.map_append, HU1.out]; rfl, ?_, fun t ht => ?_⟩
        · have := hU7.row (by rw [show us.map msgC ++ [msgC (r, ⟨md, mh, mo, mr⟩)] = (us ++ [(r, (⟨md, mh, mo, mr⟩ : Sp.Msg))]).map msgC by rw [List.map_append]; rfl]; exact even_msg _)
          rw [List.map_append]
          exact this.more fun b hb => ⟨by omega, hb.2⟩
        · rcases List.mem_append.1 ht with h | h
          · exact Row.more (Row.on (HU4.out t h) (hon37.less fun b hb => ⟨hb.2.1, by omega, by omega, hb.2.2⟩)) fun b hb => ⟨by omega, by have := HZ.out; omega⟩
          · simp at h
            subst h
            have hrr := HR5.out.row (even_byte md)
            refine Row.more (Row.on hrr (hon57.less fun b hb => ⟨hb.2, by omega, fun e => by have := HU3.out b e.symm; omega⟩)) fun b hb => ⟨by omega, by omega⟩
      have hll := turnq_lists HA.out HTQ.out (hon37.less fun b hb => ⟨hb.2.1, by omega, by omega, hb.2.2⟩) (by omega) hQ7
      have eW : Ch.withQ L q oq (oq.queue ++ [⟨md, mh, mo, mr⟩]) = (ts.set q (⟨⟨da, dn, dc⟩, ⟨ea, en, ec⟩, r'⟩, { oq with queue := oq.queue ++ [⟨md, mh, mo, mr⟩] })).map Prod.snd := by
        unfold Ch.withQ
        rw [List.map_set, HL.out]
      rw [eW]
      have eM : (ts.map objC).set q ((objC (⟨⟨da, dn, dc⟩, ⟨ea, en, ec⟩, ⟨qa, qn, qc⟩⟩, oq)).set 5 (.slice r'.a r'.n r'.c)) = (ts.set q (⟨⟨da, dn, dc⟩, ⟨ea, en, ec⟩, r'⟩, { oq with queue := oq.queue ++ [⟨md, mh, mo, mr⟩] })).map objC := by
        rw [List.map_set]
        rfl
      rw [eM] at hM7
      exact hM7.objs (fun b hb => ⟨by omega, hb.2⟩) fun t ht => (hll t ht).more fun b hb => ⟨by omega, hb.2⟩
  clear HU5 HR5 HRL HUL HM5 HON35 HU1 HU3 HU4 HA HTQ HL HMD HV
  go_region_law ((refine HAP.out _ _ _ _ _ _ rfl _ _ rfl (by rfl) (by rfl) ?_; intro r2 W2 hq1 hq2 hq3))
  all_goals
    go_wp2
    go_ret2
    exact ⟨_, _, rfl, hq3⟩
end Go.Proofs.Ythoacakdmnijcaa
/-
  rgref5.Send, walked.
-/
namespace Go.Proofs.Ythoacakdmnijcaa
open Go.RowKit
set_option maxRecDepth 100000 in
set_option maxHeartbeats 4000000 in
theorem rsend_err (L : List Sp.Ob) (k : Int) (t : Sl × Sp.Msg) (v : Value) (S : Nat → Prop) (w : World) (hv : Objs w S v L) (hS : ∀ b, S b → b < w.heap.size) (hbm : Bytes w S (.slice t.1.a t.1.n t.1.c) t.2.data) (hN : Ch.noSend L k t.2.data.length ≠ 0) :
    Calls Try.prog 23 #[v, .int .i64 k, msgV t] w fun e w' => e = .returned (.tuple #[.slice none 0 0, .int .i64 (Ch.noSend L k t.2.data.length)]) ∧ Below w.heap.size w w' := by
  have hm : t.1.n = t.2.data.length := by have := Row.eqNil hbm; rw [List.length_map] at this; exact this
  have hml : t.2.data.length ≤ maxLen := by obtain ⟨_, _, _, h⟩ := Row.form hbm; rw [List.length_map] at h; exact h
  obtain ⟨⟨ma, mn, mc⟩, md, mh, mo, mr⟩ := t
  dsimp only at hm hml hN
  subst hm
  have HV : Hid (∀ w', Below w.heap.size w w' → Objs w' S v L) := fun w' h => hv.on ((On.of h).less hS)
  have HE : Hid (∀ w' (j : Int), Below w.heap.size w w' → Calls Try.prog 33 #[v, .int .i64 j, .int .i64 4] w' fun e w'' => e = .returned (.bool (Sp.is L j 4)) ∧ w'' = w') := fun w' j h => is_any L j 4 v S w' (hv.on ((On.of h).less hS))
  have HB : Hid (Below w.heap.size w (w.alloc (.cells #[.slice ma md.length mc, .bool mh, .int .i64 mo, .int .i64 mr] 49))) := (Below.refl _ _).alloc (Nat.le_refl _) _
  have hK := Blk.new w #[.slice ma md.length mc, .bool mh, .int .i64 mo, .int .i64 mr] 49
  unfold msgV maxLen at *
  dsimp only
  cases he : Sp.is L k 4 with
  | false =>
    have HN : Hid (Ch.noSend L k md.length = 8) := by unfold Hid Ch.noSend; rw [if_pos he]
    rw [HN.out]
    have HE1 := HE.out _ k HB.out
    rw [he] at HE1
    have HE2 : Hid _ := HE1
    obtain ⟨a, c, rfl, -⟩ := hv.form
    clear hv hS hK he HE1 hN hbm
    go_enter Try.func23, Try.ntmps23
    go_wp2_with fail
    refine Calls.mono HE2.out ?_
    rintro e w2 ⟨rfl, hw⟩
    rw [hw]
    clear hw
    go_wp2
    go_ret2
    exact ⟨rfl, HB.out⟩
  | true =>
    obtain ⟨n, o, rfl, hx, hk4, hob⟩ := is_end he
    have hpe : Ch.peerOf L (n : Int) = o.peer := by unfold Ch.peerOf; rw [hob]
    have hnl := (List.getElem?_eq_some_iff.1 hx).1
    have HE1 := HE.out _ (n : Int) HB.out
    rw [he] at HE1
    have HE2 : Hid _ := HE1
    have HE3 := HE.out _ o.peer HB.out
    obtain ⟨b, of, c, s, hve, hSb, hc, hcm, -, c0, c1, c2, c3, c4, c5, c6, c7, c8⟩ := (HV.out _ HB.out).open hx
    subst hve
    unfold maxLen at hcm
    cases hp : Sp.is L o.peer 4 with
    | false =>
      have HN : Hid (Ch.noSend L (n : Int) md.length = 17) := by unfold Hid Ch.noSend; rw [if_neg (by rw [he]; decide), hpe, if_pos hp]
      rw [HN.out]
      rw [hp] at HE3
      have HE4 : Hid _ := HE3
      clear hv hS hK he HE1 HE3 hp hx hob hpe c0 c1 c2 c3 c5 c6 c7 c8 hN hbm
      go_enter Try.func23, Try.ntmps23
      go_wp2_with fail
      refine Calls.mono HE2.out ?_
      rintro e w2 ⟨rfl, hw⟩
      rw [hw]
      clear hw
      go_wp2_with fail
      refine Calls.mono HE4.out ?_
      rintro e w2 ⟨rfl, hw⟩
      rw [hw]
      clear hw
      go_wp2
      go_ret2
      exact ⟨rfl, HB.out⟩
    | true =>
      obtain ⟨q, oq, hqe, hxq, hkq, hobq⟩ := is_end hp
      have hwa : Ch.waits L o.peer = oq.queue.length := by unfold Ch.waits; rw [hobq]
      have hql := (List.getElem?_eq_some_iff.1 hxq).1
      rw [hp] at HE3
      have HE4 : Hid _ := HE3
      obtain ⟨b', of', c', s', hve', -, -, -, hli', d0, d1, d2, d3, d4, d5, d6, d7, d8⟩ := (HV.out _ HB.out).open hxq
      obtain ⟨e1, -, e2⟩ := Value.slice.inj hve'
      obtain ⟨rfl, rfl, -⟩ := Addr.mk.inj (Option.some.inj e1)
      obtain ⟨ts, ht1, ht2, -⟩ := hli'.2.2
      have hsn : s'.q.n = oq.queue.length := by
        have := Row.eqNil ht2
        rw [List.length_map] at this
        rw [this, ht1, List.length_map]
      rw [hsn] at d5
      have hk0 := hK.cell 0
      have hqm : oq.queue.length ≤ maxLen := by
        obtain ⟨_, _, hh, hh2⟩ := ht2.form
        rw [List.length_map] at hh2
        rw [ht1, List.length_map]; exact hh2
      unfold maxLen at hqm
      have HN0 : Ch.noSend L (n : Int) md.length = if 60 < md.length then 4 else if 4 ≤ oq.queue.length then 15 else 0 := by unfold Ch.noSend; rw [if_neg (by rw [he]; decide), hpe, if_neg (by rw [hp]; decide), hwa]
      rw [HN0] at hN ⊢
      rw [hqe] at HE4 c4
      clear hv hS he HE1 HE3 hp hx hob hpe hobq hwa hli' ht1 ht2 hxq hve' e1 e2 c0 c1 c2 c3 c5 c6 c7 c8 d0 d1 d2 d3 d4 d6 d7 d8 hsn hqe hK HN0 hbm
      by_cases h60 : 60 < md.length
      · rw [if_pos h60]
        clear hN
        go_enter Try.func23, Try.ntmps23
        go_wp2_with fail
        refine Calls.mono HE2.out ?_
        rintro e w2 ⟨rfl, hw⟩
        rw [hw]
        clear hw
        go_wp2_with fail
        refine Calls.mono HE4.out ?_
        rintro e w2 ⟨rfl, hw⟩
        rw [hw]
        clear hw
        go_wp2
        go_ret2
        exact ⟨rfl, HB.out⟩
      · rw [if_neg h60] at hN ⊢
        have h4 : 4 ≤ oq.queue.length := by
          rcases Nat.lt_or_ge oq.queue.length 4 with h | h
          · rw [if_neg (by omega)] at hN; exact absurd rfl hN
          · exact h
        rw [if_pos h4]
        clear hN
        go_enter Try.func23, Try.ntmps23
        go_wp2_with fail
        refine Calls.mono HE2.out ?_
        rintro e w2 ⟨rfl, hw⟩
        rw [hw]
        clear hw
        go_wp2_with fail
        refine Calls.mono HE4.out ?_
        rintro e w2 ⟨rfl, hw⟩
        rw [hw]
        clear hw
        go_wp2
        go_ret2
        exact ⟨rfl, HB.out⟩
set_option maxRecDepth 100000 in
set_option maxHeartbeats 8000000 in
theorem rsend_ok (L : List Sp.Ob) (i q : Nat) (o oq : Sp.Ob) (t : Sl × Sp.Msg) (v : Value) (S : Nat → Prop) (w : World) (hv : Objs w S v L) (hS : ∀ b, S b → b < w.heap.size) (hbm : Bytes w S (.slice t.1.a t.1.n t.1.c) t.2.data) (hn : L.length ≤ 1000) (hi : L[i]? = some o) (hk : o.kind = 4) (hop : o.peer = q) (hq : L[q]? = some oq) (hkq : oq.kind = 4) (hd60 : t.2.data.length ≤ 60) (hq4 : oq.queue.length < 4) :
    Calls Try.prog 23 #[v, .int .i64 i, msgV t] w fun e w' => ∃ a c, e = .returned (.tuple #[.slice a L.length c, .int .i64 0]) ∧ Objs w' (fun b => b < w'.heap.size) (.slice a L.length c) (Ch.withQ L q oq (oq.queue ++ [t.2])) ∧ Below w.heap.size w w' := by
  have hm : t.1.n = t.2.data.length := by have := Row.eqNil hbm; rw [List.length_map] at this; exact this
  obtain ⟨⟨ma, mn, mc⟩, md, mh, mo, mr⟩ := t
  dsimp only at hm hbm hd60
  subst hm
  unfold msgV
  dsimp only
  have his : ∀ (j : Nat) (x : Sp.Ob), L[j]? = some x → x.kind = 4 → Sp.is L (j : Int) 4 = true := fun j x hx hk => by
    unfold Sp.is
    rw [objAt_of hx (by omega)]
    simp [hk]
  have HE : Hid (∀ w' (j : Nat) (x : Sp.Ob), L[j]? = some x → x.kind = 4 → Below w.heap.size w w' → Calls Try.prog 33 #[v, .int .i64 j, .int .i64 4] w' fun e w'' => e = .returned (.bool true) ∧ w'' = w') := fun w' j x hx hk h => by
    have := is_any L j 4 v S w' (hv.on ((On.of h).less hS))
    rw [his j x hx hk] at this
    exact this
  have HB : Hid (Below w.heap.size w (w.alloc (.cells #[.slice ma md.length mc, .bool mh, .int .i64 mo, .int .i64 mr] 49))) := (Below.refl _ _).alloc (Nat.le_refl _) _
  have HK : Hid (Blk (w.alloc (.cells #[.slice ma md.length mc, .bool mh, .int .i64 mo, .int .i64 mr] 49)) w.heap.size #[.slice ma md.length mc, .bool mh, .int .i64 mo, .int .i64 mr] 49) := Blk.new _ _ _
  have HE1 : Hid _ := HE.out _ i o hi hk HB.out
  have HE2 : Hid _ := HE.out _ q oq hq hkq HB.out
  have hil := (List.getElem?_eq_some_iff.1 hi).1
  have hql := (List.getElem?_eq_some_iff.1 hq).1
  obtain ⟨b, of, c, s, hve, hSb, hc, hcm, -, c0, c1, c2, c3, c4, c5, c6, c7, c8⟩ := (hv.on ((On.of HB.out).less hS)).open hi
  obtain ⟨b', of', c', s', hve', -, -, -, hli', d0, d1, d2, d3, d4, d5, d6, d7, d8⟩ := (hv.on ((On.of HB.out).less hS)).open hq
  subst hve
  obtain ⟨e1, -, e2⟩ := Value.slice.inj hve'
  obtain ⟨rfl, rfl, -⟩ := Addr.mk.inj (Option.some.inj e1)
  unfold maxLen at hcm
  obtain ⟨us, hu1, hu2, hu3⟩ := hli'.2.2
  have hun : us.length = oq.queue.length := by rw [hu1, List.length_map]
  have hsn : s'.q.n = us.length := by
    have := Row.eqNil hu2
    rw [List.length_map] at this
    exact this
  have HLI : Hid (Lists (w.alloc (.cells #[.slice ma md.length mc, .bool mh, .int .i64 mo, .int .i64 mr] 49)) S (s', oq)) := hli'
  have HU1 : Hid (oq.queue = us.map Prod.snd) := hu1
  have HU2 : Hid (Row (w.alloc (.cells #[.slice ma md.length mc, .bool mh, .int .i64 mo, .int .i64 mr] 49)) S 4 (.slice s'.q.a s'.q.n s'.q.c) (us.map msgC)) := hu2
  have HU3 : Hid (∀ t ∈ us, Bytes (w.alloc (.cells #[.slice ma md.length mc, .bool mh, .int .i64 mo, .int .i64 mr] 49)) S (.slice t.1.a t.1.n t.1.c) t.2.data) := hu3
  have HV1 : Hid (Objs (w.alloc (.cells #[.slice ma md.length mc, .bool mh, .int .i64 mo, .int .i64 mr] 49)) S (.slice (some ⟨b, of, none⟩) L.length c) L) := hv.on ((On.of HB.out).less hS)
  have HBM : Hid (Bytes (w.alloc (.cells #[.slice ma md.length mc, .bool mh, .int .i64 mo, .int .i64 mr] 49)) S (.slice ma md.length mc) md) := Row.on hbm ((On.of HB.out).less hS)
  have HS : Hid (∀ b, S b → b < w.heap.size) := hS
  have HQ : Hid (L[q]? = some oq) := hq
  have HN : Hid (L.length ≤ 1000) := hn
  have k0 := HK.out.cell 0
  have hqz : (s'.q.n : Int) < 4 := by omega
  have hmz : ¬ (60 : Int) < (md.length : Int) := by omega
  have hnz : (L.length : Int) ≤ 1000 := by omega
  have HUN : Hid (us.length < 4) := by unfold Hid; omega
  rw [hop] at c4
  have hz1 : (w.alloc (.cells #[.slice ma md.length mc, .bool mh, .int .i64 mo, .int .i64 mr] 49)).heap.size = w.heap.size + 1 := by simp
  clear hv hS hbm hi hk hop hq hkq hd60 hq4 his HE hve' e1 e2 hu1 hu2 hu3 hun hsn hli' hn c0 c1 c2 c3 c5 c6 c7 c8
  go_enter Try.func23, Try.ntmps23
  go_wp2_with fail
  generalize (w.alloc (.cells #[.slice ma md.length mc, .bool mh, .int .i64 mo, .int .i64 mr] 49)) = w1 at *
  refine Calls.mono HE1.out ?_
  rintro e w2 ⟨rfl, hw⟩
  rw [hw]
  clear hw
  go_wp2_with fail
  refine Calls.mono HE2.out ?_
  rintro e w2 ⟨rfl, hw⟩
  rw [hw]
  clear hw
  go_upto_region 11 with fail
  have hbx : Blk (w1.alloc (.cells #[.int .i64 oq.kind, .slice s'.d.a s'.d.n s'.d.c, .slice s'.e.a s'.e.n s'.e.c, .string oq.target, .int .i64 oq.peer, .slice s'.q.a s'.q.n s'.q.c, .int .i64 oq.proc, .int .i64 oq.links, .int .i64 oq.up] 40)) w1.heap.size #[.int .i64 oq.kind, .slice s'.d.a s'.d.n s'.d.c, .slice s'.e.a s'.e.n s'.e.c, .string oq.target, .int .i64 oq.peer, .slice s'.q.a s'.q.n s'.q.c, .int .i64 oq.proc, .int .i64 oq.links, .int .i64 oq.up] 40 := Blk.new w1 _ _
  rw [hz1] at hbx
  have hpx : Blk (w1.alloc (.cells #[.int .i64 oq.kind, .slice s'.d.a s'.d.n s'.d.c, .slice s'.e.a s'.e.n s'.e.c, .string oq.target, .int .i64 oq.peer, .slice s'.q.a s'.q.n s'.q.c, .int .i64 oq.proc, .int .i64 oq.links, .int .i64 oq.up] 40)) w.heap.size #[.slice ma md.length mc, .bool mh, .int .i64 mo, .int .i64 mr] 49 := Blk.alloc HK.out _
  have hon2 := On.alloc w1 (.cells #[.int .i64 oq.kind, .slice s'.d.a s'.d.n s'.d.c, .slice s'.e.a s'.e.n s'.e.c, .string oq.target, .int .i64 oq.peer, .slice s'.q.a s'.q.n s'.q.c, .int .i64 oq.proc, .int .i64 oq.links, .int .i64 oq.up] 40)
  have hB2 : Below w.heap.size w (w1.alloc (.cells #[.int .i64 oq.kind, .slice s'.d.a s'.d.n s'.d.c, .slice s'.e.a s'.e.n s'.e.c, .string oq.target, .int .i64 oq.peer, .slice s'.q.a s'.q.n s'.q.c, .int .i64 oq.proc, .int .i64 oq.links, .int .i64 oq.up] 40)) := HB.out.alloc HB.out.size _
  have hz2 : (w1.alloc (.cells #[.int .i64 oq.kind, .slice s'.d.a s'.d.n s'.d.c, .slice s'.e.a s'.e.n s'.e.c, .string oq.target, .int .i64 oq.peer, .slice s'.q.a s'.q.n s'.q.c, .int .i64 oq.proc, .int .i64 oq.links, .int .i64 oq.up] 40)).heap.size = w.heap.size + 2 := by simp; omega
  generalize (w1.alloc (.cells #[.int .i64 oq.kind, .slice s'.d.a s'.d.n s'.d.c, .slice s'.e.a s'.e.n s'.e.c, .string oq.target, .int .i64 oq.peer, .slice s'.q.a s'.q.n s'.q.c, .int .i64 oq.proc, .int .i64 oq.links, .int .i64 oq.up] 40)) = w2 at *
  have hS1 : ∀ b, S b → b < w1.heap.size := fun b hb => by have := HS.out b hb; omega
  refine rsend11_wp _ _ w2 w.heap.size (w.heap.size + 1) S us (.slice s'.q.a s'.q.n s'.q.c) (⟨ma, md.length, mc⟩, ⟨md, mh, mo, mr⟩) _ _ _ _ _ _ _ _ (by have := HUN.out; omega) (Row.on HU2.out (hon2.less hS1)) (fun b hb => by have := hS1 b hb; omega) hpx hbx _ _ _ _ _ _ _ _ _ _ _ _ _ _ _ _ _ _ _ _ _ _ _ _ _ _ _ _ _ _ _ _ _ _ _ _ _ _ _ _ _ _ _ _ _ _ _ _ ?_
  intro y38 y39 y40 y41 y42 y43 y44 y45 r w3 hb3 hr3 hon3 hz3 hB3
  dsimp only
  have HB3 : Hid (Below w.heap.size w w3) := hB2.trans (hB3 _ (by omega))
  have k3 := hb3.cell
  have hzz : w.heap.size + 2 ≤ w3.heap.size := by omega
  have hon13 : On S w1 w3 := (hon2.less hS1).trans (hon3.less fun b hb => by have := hS1 b hb; have := HS.out b hb; omega)
  have hLq : Lists w3 (Or' S w2.heap.size w3.heap.size) (⟨s'.d, s'.e, r⟩, { oq with queue := oq.queue ++ [⟨md, mh, mo, mr⟩] }) := by
    refine ⟨Row.more (Row.on HLI.out.1 hon13) fun b hb => Or.inl hb, Row.more (Row.on HLI.out.2.1 hon13) fun b hb => Or.inl hb, us ++ [((⟨ma, md.length, mc⟩ : Sl), (⟨md, mh, mo, mr⟩ : Sp.Msg))], by rw [List.map_append, HU1.out]; rfl, hr3.more fun b hb => Or.inr ⟨by omega, hb.2⟩, fun t ht => ?_⟩
    rcases List.mem_append.1 ht with h | h
    · exact Row.more (Row.on (HU3.out t h) hon13) fun b hb => Or.inl hb
    · simp at h
      subst h
      exact Row.more (Row.on HBM.out hon13) fun b hb => Or.inl hb
  have hW := rwith_any L q ⟨s'.d, s'.e, r⟩ { oq with queue := oq.queue ++ [⟨md, mh, mo, mr⟩] } (.slice (some ⟨b, of, none⟩) L.length c) (Or' S w2.heap.size w3.heap.size) w3 ((HV1.out.on hon13).more fun b hb => Or.inl hb) (fun b hb => hb.elim (fun h => by have := HS.out b h; omega) fun h => h.2) HN.out (by omega) hLq
  have eW : Sp.rwith L q { oq with queue := oq.queue ++ [⟨md, mh, mo, mr⟩] } = Ch.withQ L q oq (oq.queue ++ [⟨md, mh, mo, mr⟩]) := by
    unfold Sp.rwith Ch.withQ
    rw [if_neg (by omega)]
  have eL : (Ch.withQ L q oq (oq.queue ++ [⟨md, mh, mo, mr⟩])).length = L.length := by unfold Ch.withQ; rw [List.length_set]
  rw [eW, eL, objV_eq] at hW
  have HW : Hid _ := hW
  clear hW hb3 hr3 hon3 hB3 hbx hpx hon2 hB2 hon13 hLq eW eL HLI HU1 HU2 HU3 HV1 HBM HK HB d0 d1 d2 d3 d4 d5 d6 d7 d8 k0 c4
  go_wp2_with fail
  refine Calls.mono HW.out ?_
  rintro e w4 ⟨a4, c4', rfl, hO4, hb4⟩
  have HO4 : Hid (Objs w4 (fun b => b < w4.heap.size) (.slice a4 L.length c4') (Ch.withQ L q oq (oq.queue ++ [⟨md, mh, mo, mr⟩]))) := hO4.more fun b hb => by
    have := hb4.size
    rcases hb with (h | h) | h
    · have := HS.out b h; omega
    · omega
    · exact h.2
  have HB4 : Hid (Below w.heap.size w w4) := HB3.out.trans (hb4.mono HB3.out.size)
  clear hO4 hb4 HW
  go_wp2
  go_ret2
  exact ⟨a4, c4', rfl, HO4.out, HB4.out⟩
end Go.Proofs.Ythoacakdmnijcaa
/-
  slices.Delete at messages, walked.
-/
namespace Go.Proofs.Ythoacakdmnijcaa
open Go.RowKit
set_option maxHeartbeats 4000000 in
theorem mdelete_walk (i n c g : Nat) (w W1 : World) (news : List Value) (A : Addr) (hA : (if c = i + 1 then some (⟨g, 0, none⟩ : Addr) else some ⟨g, (i + 1) * 4, none⟩) = some A) (hsrc : Hid (∀ t u, news[t]? = some u → w.drew.cell? (A.add t) = some u)) (s1 : Hid (news.length = (n - (i + 1)) * 4)) (s2 : Hid (∀ u ∈ news, u.oneCell' = true))
    (s3 : Hid (∀ t, t < news.length → (w.drew.cell? ⟨g, 0 + i * 4 + t, none⟩).isSome = true ∧ w.drew.frozen? ⟨g, 0 + i * 4 + t, none⟩ = false)) (hW : Hid (W1 = w.drew.setCells g (0 + i * 4) news)) (hin : i < n) (hnc : n ≤ c) (_hcm : c ≤ 9223372036854775807)
    (W2 : World) (hcl : ∀ ty, (Builtin.clear_ #[38] ty #[.slice (some ⟨g, (i + (n - (i + 1))) * 4, none⟩) (n - (i + (n - (i + 1)))) (c - (i + (n - (i + 1))))]).run Try.prog W1 = .ok (.tuple #[]) W2) :
    Calls Try.prog 52 #[.slice (some ⟨g, 0, none⟩) n c, .int .i64 i, .int .i64 ((i : Int) + 1)] w fun e w' => e = .returned (.slice (some ⟨g, 0, none⟩) (i + (n - (i + 1))) c) ∧ w' = W2 := by
  have hic : i ≤ c := by omega
  have hjc : i + 1 ≤ c := by omega
  have hp1 : (0 : Int) ≤ (i : Int) + 1 := by omega
  have hp2 : (i : Int) + 1 ≤ (n : Int) := by omega
  have hp3 : (i : Int) + 1 ≤ (c : Int) := by omega
  go_enter Try.func52, Try.ntmps52
  go_wp2_with fail
  go_region_law (obtain ⟨i0, hti, -, hz1, -⟩ := info_parts Try.infoMsg; refine step_append_room rfl (.tmp 22) (.tmp 25) 38 rfl 49 i0 4 Try.underlying38 hti hz1 g 0 i c (by simp [Act.eval, Act.put]) A (n - (i + 1)) (c - (i + 1)) news (by simp [Act.eval, Act.put]) s1.out hsrc.out s2.out (by omega) s3.out ?_; clear hti hz1; rw [← hW.out])
  go_wp2
  go_ret
  exact ⟨rfl, rfl⟩
set_option maxHeartbeats 4000000 in
theorem mdelete_any (es : List (Sl × Sp.Msg)) (i base g n c : Nat) (w : World) (hM : Mine w base 49 4 (.slice (some ⟨g, 0, none⟩) n c) (es.map msgC)) (hi : i < es.length) :
    Calls Try.prog 52 #[.slice (some ⟨g, 0, none⟩) n c, .int .i64 i, .int .i64 ((i : Int) + 1)] w fun e w' => e = .returned (.slice (some ⟨g, 0, none⟩) (n - 1) c) ∧ Mine w' base 49 4 (.slice (some ⟨g, 0, none⟩) (n - 1) c) ((es.take i ++ es.drop (i + 1)).map msgC) ∧ On (fun b => b ≠ g) w w' ∧ w'.heap.size = w.heap.size ∧ ∀ B, B ≤ g → Below B w w' := by
  have hE := (even_msg es).flatten
  rcases hM.2 with ⟨hn', _⟩ | ⟨g', cap, cur, hv, hbg, hg, hnc, hcm, hcs, htake⟩
  · cases hn'
  rw [List.length_map] at hv hnc htake hE
  obtain ⟨q1, rfl, rfl⟩ := Value.slice.inj hv
  obtain ⟨rfl, -, -⟩ := Addr.mk.inj (Option.some.inj q1)
  have hblk : Blk w g cur.toList.toArray 49 := by rw [Array.toArray_toList]; exact hg
  obtain ⟨l, hl⟩ : ∃ l, l = cur.toList := ⟨_, rfl⟩
  rw [← hl] at hblk htake
  have hll : l.length = c * 4 := by rw [hl, Array.length_toList, hcs]
  have hlt : ∀ j u, (es.map msgC).flatten[j]? = some u → l[j]? = some u := fun j u hj => by
    rw [← htake, List.getElem?_take] at hj
    split at hj
    · exact hj
    · cases hj
  obtain ⟨news, hnews⟩ : ∃ news, news = ((es.drop (i + 1)).map msgC).flatten := ⟨_, rfl⟩
  have hnl : news.length = (es.length - (i + 1)) * 4 := by rw [hnews, (even_msg _).flatten, List.length_map, List.length_drop]
  have hnat : ∀ t u, news[t]? = some u → l[(i + 1) * 4 + t]? = some u := fun t u hu => by
    refine hlt _ u ?_
    have h2 : (es.map msgC).flatten = ((es.take (i + 1)).map msgC).flatten ++ news := by rw [hnews, ← List.flatten_append, ← List.map_append, List.take_append_drop]
    have h3 : ((es.take (i + 1)).map msgC).flatten.length = (i + 1) * 4 := by rw [(even_msg _).flatten, List.length_map, List.length_take, Nat.min_eq_left hi]
    rw [h2, List.getElem?_append_right (by omega), h3, Nat.add_sub_cancel_left]
    exact hu
  unfold maxLen at hcm
  obtain ⟨A, hA, hsrc⟩ : ∃ A : Addr, (if c = i + 1 then some (⟨g, 0, none⟩ : Addr) else some ⟨g, (i + 1) * 4, none⟩) = some A ∧ Hid (∀ t u, news[t]? = some u → w.drew.cell? (A.add t) = some u) := by
    by_cases h : c = i + 1
    · refine ⟨⟨g, 0, none⟩, by simp [h], fun t u hu => ?_⟩
      have h0 : news.length = 0 := by rw [hnl]; omega
      rw [List.length_eq_zero_iff.1 h0] at hu
      simp at hu
    · refine ⟨⟨g, (i + 1) * 4, none⟩, by simp [h], fun t u hu => ?_⟩
      rw [Addr.add_lit]
      show w.cell? _ = _
      rw [hblk.cell]
      simpa using hnat t u hu
  have s1 : Hid (news.length = (es.length - (i + 1)) * 4) := hnl
  have s2 : Hid (∀ u ∈ news, u.oneCell' = true) := by rw [hnews]; exact (ones_msg _).flatten
  have s3 : Hid (∀ t, t < news.length → (w.drew.cell? ⟨g, 0 + i * 4 + t, none⟩).isSome = true ∧ w.drew.frozen? ⟨g, 0 + i * 4 + t, none⟩ = false) := by
    intro t ht
    refine ⟨?_, hblk.free _⟩
    show (w.cell? _).isSome = true
    rw [hblk.cell]
    simp
    omega
  obtain ⟨W1, hW1⟩ : ∃ W1, W1 = w.drew.setCells g (0 + i * 4) news := ⟨_, rfl⟩
  have hB1 : Blk W1 g (setL l (i * 4) news).toArray 49 := by
    rw [hW1, Nat.zero_add]
    exact Blk.sets news (i * 4) (w := w.drew) hblk
  have hl1 : (setL l (i * 4) news).length = c * 4 := by rw [setL_length, hll]
  have hcl : ∀ ty, (Builtin.clear_ #[38] ty #[.slice (some ⟨g, (i + (es.length - (i + 1))) * 4, none⟩) (es.length - (i + (es.length - (i + 1)))) (c - (i + (es.length - (i + 1))))]).run Try.prog W1 = .ok (.tuple #[]) (W1.setCells g ((i + (es.length - (i + 1))) * 4) [.slice none 0 0, .bool false, .int .i64 0, .int .i64 0]) := by
    intro ty
    have e1 : es.length - (i + (es.length - (i + 1))) = 1 := by omega
    rw [e1]
    have hst := run_storeCells_cells (P := Try.prog) g ((i + (es.length - (i + 1))) * 4) [.slice none 0 0, .bool false, .int .i64 0, .int .i64 0] 0 W1 (fun j hj => by
      simp only [List.length_cons, List.length_nil] at hj
      rw [hB1.cell]
      simp [setL_length, hll]
      omega) (fun j hj => hB1.free _) (by intro v hv'; simp at hv'; rcases hv' with rfl | rfl | rfl | rfl <;> rfl)
    simp only [Nat.add_zero] at hst
    have hzv := Try.zeroValue49
    have hzc : (Builtin.zeroCells (Value.agg #[.slice none 0 0, .bool false, .int .i64 0, .int .i64 0]).cells 1).toList = [.slice none 0 0, .bool false, .int .i64 0, .int .i64 0] := by simp [Builtin.zeroCells, Value.cells, Array.range_succ]
    simp [Builtin.clear_, run_underlying Try.underlying38, hzv, hzc, hst]
  have hwalk := mdelete_walk i es.length c g w W1 news A hA hsrc s1 s2 s3 hW1 hi hnc hcm _ hcl
  have e1 : i + (es.length - (i + 1)) = es.length - 1 := by omega
  rw [e1] at hwalk
  refine Calls.mono hwalk ?_
  rintro e w' ⟨rfl, rfl⟩
  have hB2 := Blk.sets [.slice none 0 0, .bool false, .int .i64 0, .int .i64 0] ((es.length - 1) * 4) hB1
  have hon : On (fun b => b ≠ g) w (W1.setCells g ((es.length - 1) * 4) [.slice none 0 0, .bool false, .int .i64 0, .int .i64 0]) := by
    have h1 : On (fun b => b ≠ g) w.drew W1 := by rw [hW1]; exact On.sets _ _ _ _
    exact (show On (fun b => b ≠ g) w w.drew from fun _ _ => rfl).trans (h1.trans (On.sets _ _ _ _))
  have hsz : (W1.setCells g ((es.length - 1) * 4) [.slice none 0 0, .bool false, .int .i64 0, .int .i64 0]).heap.size = w.heap.size := by
    rw [size_sets, hW1, size_sets]; rfl
  have hlen : (es.take i ++ es.drop (i + 1)).length = es.length - 1 := by rw [List.length_append, List.length_take, List.length_drop]; omega
  refine ⟨rfl, ⟨?_, Or.inr ⟨g, c, _, ?_, hbg, hB2, ?_, ?_, ?_, ?_⟩⟩, hon, hsz, fun B hB => ?_⟩
  · exact (even_msg _).flatten
  · rw [List.length_map, hlen]
  · rw [List.length_map, hlen]; omega
  · unfold maxLen; omega
  · simp [setL_length, hll]
  · rw [List.length_map, hlen]
    apply List.ext_getElem?
    intro j
    rw [List.getElem?_take]
    have h3 : ((es.take i).map msgC).flatten.length = i * 4 := by rw [(even_msg _).flatten, List.length_map, List.length_take, Nat.min_eq_left (Nat.le_of_lt hi)]
    have h4 : ((es.take i ++ es.drop (i + 1)).map msgC).flatten = ((es.take i).map msgC).flatten ++ news := by rw [hnews, List.map_append, List.flatten_append]
    split
    · rename_i hj
      simp only
      rw [setL_at _ _ _ _ (by rw [setL_length, hll]; simp; omega), if_neg (by omega), setL_at _ _ _ _ (by rw [hll, hnl]; omega), h4]
      by_cases hji : j < i * 4
      · rw [if_neg (by omega), List.getElem?_append_left (by omega)]
        have h5 : (es.map msgC).flatten = ((es.take i).map msgC).flatten ++ ((es.drop i).map msgC).flatten := by rw [← List.flatten_append, ← List.map_append, List.take_append_drop]
        have hx : ((es.take i).map msgC).flatten[j]? = some (((es.take i).map msgC).flatten[j]'(by omega)) := List.getElem?_eq_getElem _
        rw [hx]
        exact hlt j _ (by rw [h5, List.getElem?_append_left (by omega)]; exact hx)
      · rw [if_pos (by rw [hnl]; omega), List.getElem?_append_right (by omega), h3]
    · rename_i hj
      rw [h4, List.getElem?_eq_none (by rw [List.length_append, h3, hnl]; omega)]
  · rw [hW1]
    exact Below.sets _ _ (Below.sets _ _ (show Below B w w.drew from ⟨rfl, rfl, rfl, Nat.le_refl _, fun _ _ => rfl⟩) hB) hB
end Go.Proofs.Ythoacakdmnijcaa
/-
  channel.Recv, walked.
-/
namespace Go.Proofs.Ythoacakdmnijcaa
open Go.RowKit
theorem Blk.four {w : World} {b : Nat} {t : TypeId} {x0 x1 x2 x3 : Value} (h : Blk w b #[x0, x1, x2, x3] t) (c0 c1 c2 c3 : Value) (W : World)
    (hW : W = ((((w.setCell ⟨b, 0, none⟩ c0).setCell ⟨b, 1, none⟩ c1).setCell ⟨b, 2, none⟩ c2).setCell ⟨b, 3, none⟩ c3)) :
    Blk W b #[c0, c1, c2, c3] t ∧ On (fun k => k ≠ b) w W ∧ W.heap.size = w.heap.size ∧ ∀ B, B ≤ b → Below B w W := by
  subst hW
  have h0 : Blk _ b #[c0, x1, x2, x3] t := (h).set 0 c0
  have h1 : Blk _ b #[c0, c1, x2, x3] t := (h0).set 1 c1
  have h2 : Blk _ b #[c0, c1, c2, x3] t := (h1).set 2 c2
  have h3 : Blk _ b #[c0, c1, c2, c3] t := (h2).set 3 c3
  refine ⟨h3, (((On.set w ⟨b, 0, none⟩ c0).trans (On.set _ ⟨b, 1, none⟩ c1)).trans (On.set _ ⟨b, 2, none⟩ c2)).trans (On.set _ ⟨b, 3, none⟩ c3), by simp, fun B hB => ?_⟩
  exact ((((Below.refl B w).setCell (p := ⟨b, 0, none⟩) hB c0).setCell (p := ⟨b, 1, none⟩) hB c1).setCell (p := ⟨b, 2, none⟩) hB c2).setCell (p := ⟨b, 3, none⟩) hB c3
def msg0 : Sp.Msg := ⟨[], false, 0, 0⟩
set_option maxRecDepth 100000 in
set_option maxHeartbeats 2000000 in
theorem crecv_err (L : List Sp.Ob) (k : Int) (v : Value) (S : Nat → Prop) (w : World) (hv : Objs w S v L) (hS : ∀ b, S b → b < w.heap.size) (he : Ch.noRecv L k ≠ 0) :
    Calls Try.prog 24 #[v, .int .i64 k] w fun e w' => e = .returned (.tuple #[.slice none 0 0, msgV (nilSl, msg0), .int .i64 (Ch.noRecv L k)]) ∧ Below w.heap.size w w' := by
  have HN : Hid (∀ w', Below w.heap.size w w' → Calls Try.prog 51 #[v, .int .i64 k] w' fun e w'' => e = .returned (.int .i64 (Ch.noRecv L k)) ∧ w'' = w') := fun w' h => noRecv_any L k v S w' (hv.on ((On.of h).less hS))
  have hE : (Ch.noRecv L k != 0) = true := by simpa using he
  generalize Ch.noRecv L k = E at *
  unfold msgV nilSl msg0
  obtain ⟨a, c, rfl, -⟩ := hv.form
  clear hv hS he
  have HB : Hid (Below w.heap.size w (w.alloc (.cells #[.slice none 0 0, .bool false, .int .i64 0, .int .i64 0] 49))) := (Below.refl _ _).alloc (Nat.le_refl _) _
  have HK : Hid (Blk (w.alloc (.cells #[.slice none 0 0, .bool false, .int .i64 0, .int .i64 0] 49)) w.heap.size #[.slice none 0 0, .bool false, .int .i64 0, .int .i64 0] 49) := Blk.new _ _ _
  go_enter Try.func24, Try.ntmps24
  go_wp2_with fail
  generalize w.alloc (.cells #[.slice none 0 0, .bool false, .int .i64 0, .int .i64 0] 49) = w1 at *
  refine Calls.mono (HN.out _ HB.out) ?_
  rintro e w2 ⟨rfl, hw⟩
  rw [hw]
  clear hw
  have k0 := Blk.cell HK.out
  have kf := Blk.free HK.out
  go_wp2
  generalize hW : ((((w1.setCell ⟨w.heap.size, 0, none⟩ (.slice none 0 0)).setCell ⟨w.heap.size, 1, none⟩ (.bool false)).setCell ⟨w.heap.size, 2, none⟩ (.int .i64 0)).setCell ⟨w.heap.size, 3, none⟩ (.int .i64 0)) = W
  obtain ⟨hb, -, -, hB⟩ := Blk.four HK.out _ _ _ _ W hW.symm
  have hcW := hb.cell
  exact bodyPost_ret (v := .tuple #[.slice none 0 0, .agg #[.slice none 0 0, .bool false, .int .i64 0, .int .i64 0], .int .i64 E]) (by simp [results, Try.results24, go_sem, hcW]) rfl ⟨rfl, HB.out.trans (hB _ (Nat.le_refl _))⟩
theorem noRecv_zero {L : List Sp.Ob} {k : Int} (h : Ch.noRecv L k = 0) : ∃ (i : Nat) (o : Sp.Ob), k = i ∧ L[i]? = some o ∧ o.kind = 4 ∧ 0 < o.queue.length := by
  unfold Ch.noRecv at h
  cases he : Sp.is L k 4 with
  | false => rw [if_pos he] at h; exact absurd h (by decide)
  | true =>
    rw [if_neg (by rw [he]; decide)] at h
    obtain ⟨i, o, rfl, hx, hk, ho⟩ := is_end he
    have hw : Ch.waits L (i : Int) = o.queue.length := by unfold Ch.waits; rw [ho]
    rw [hw] at h
    split at h
    · exact ⟨i, o, rfl, hx, hk, by assumption⟩
    · split at h
      · exact absurd h (by decide)
      · exact absurd h (by decide)
set_option maxRecDepth 100000 in
set_option maxHeartbeats 8000000 in
theorem crecv_ok (L : List Sp.Ob) (i : Nat) (o : Sp.Ob) (md : Sp.Msg) (rest : List Sp.Msg) (v : Value) (S : Nat → Prop) (w : World) (hv : Objs w S v L) (hS : ∀ b, S b → b < w.heap.size) (hf : ∀ o ∈ L, Fits o) (hn : L.length ≤ 1000000) (h0 : Ch.noRecv L i = 0) (hi : L[i]? = some o) (hq : o.queue = md :: rest) :
    Calls Try.prog 24 #[v, .int .i64 i] w fun e w' => ∃ a c r, e = .returned (.tuple #[.slice a L.length c, msgV (r, md), .int .i64 0]) ∧ Objs w' (fun b => w.heap.size ≤ b ∧ b < w'.heap.size) (.slice a L.length c) (Ch.withQ L i o rest) ∧ Bytes w' (fun b => w.heap.size ≤ b ∧ b < w'.heap.size) (.slice r.a r.n r.c) md.data ∧ Below w.heap.size w w' := by
  have HN : Hid (∀ w', Below w.heap.size w w' → Calls Try.prog 51 #[v, .int .i64 i] w' fun e w'' => e = .returned (.int .i64 0) ∧ w'' = w') := fun w' h => by
    have := noRecv_any L i v S w' (hv.on ((On.of h).less hS))
    rw [h0] at this
    exact this
  have HO : Hid (∀ W, Below w.heap.size w W → Calls Try.prog 36 #[v] W fun e w' => e = .returned (.slice (some ⟨W.heap.size, 0, none⟩) L.length L.length) ∧ ∃ (ts : List (Sls × Sp.Ob)) (m : Nat → Nat), L = ts.map Prod.snd ∧ Mine w' W.heap.size 40 9 (.slice (some ⟨W.heap.size, 0, none⟩) L.length L.length) (ts.map objC) ∧ OwnAll w' (W.heap.size + 1) ts m ∧ Below W.heap.size W w') := fun W hW => own_any L v S W (hv.on ((On.of hW).less hS)) (fun b hb => Nat.lt_of_lt_of_le (hS b hb) hW.size) hf hn
  have HI : Hid (L[i]? = some o) := hi
  have HQ : Hid (o.queue = md :: rest) := hq
  have hil : i < L.length := (List.getElem?_eq_some_iff.1 hi).1
  have hnz : (L.length : Int) ≤ 1000000 := by omega
  obtain ⟨a, c, rfl, -⟩ := hv.form
  have HB : Hid (Below w.heap.size w (w.alloc (.cells #[.slice none 0 0, .bool false, .int .i64 0, .int .i64 0] 49))) := (Below.refl _ _).alloc (Nat.le_refl _) _
  have HK : Hid (Blk (w.alloc (.cells #[.slice none 0 0, .bool false, .int .i64 0, .int .i64 0] 49)) w.heap.size #[.slice none 0 0, .bool false, .int .i64 0, .int .i64 0] 49) := Blk.new _ _ _
  clear hv hS hf h0 hi hq hn
  go_enter Try.func24, Try.ntmps24
  go_wp2_with fail
  generalize w.alloc (.cells #[.slice none 0 0, .bool false, .int .i64 0, .int .i64 0] 49) = w1 at *
  refine Calls.mono (HN.out _ HB.out) ?_
  rintro e w2 ⟨rfl, hw⟩
  rw [hw]
  clear hw HN
  have hz1 : w.heap.size < w1.heap.size := HK.out.lt
  go_wp2_with fail
  refine Calls.mono (HO.out _ HB.out) ?_
  rintro e w3 ⟨rfl, ts, m, hL, hM, hA, hb3⟩
  have HB3 : Hid (Below w.heap.size w w3) := HB.out.trans (hb3.mono HB.out.size)
  have hz23 : w1.heap.size < w3.heap.size := (hM.lt _ rfl).2
  have HK3 : Hid (Blk w3 w.heap.size #[.slice none 0 0, .bool false, .int .i64 0, .int .i64 0] 49) := HK.out.below hb3 hz1
  have HL : Hid (L = ts.map Prod.snd) := hL
  have HM : Hid (Mine w3 w1.heap.size 40 9 (.slice (some ⟨w1.heap.size, 0, none⟩) L.length L.length) (ts.map objC)) := hM
  have HA : Hid (OwnAll w3 (w1.heap.size + 1) ts m) := hA
  obtain ⟨sq, htq⟩ := ts_at hL.symm HI.out
  obtain ⟨⟨da, dn, dc⟩, ⟨ea, en, ec⟩, ⟨qa, qn, qc⟩⟩ := sq
  obtain ⟨m1, m2, o1, o2, o3, o4, -, -, -, us, hu1, hu2, hu3, hu4⟩ := hA.2.2.2 i _ htq
  have hlo := hA.lo i
  have hme3 : w1.heap.size + 1 ≤ m2 := by omega
  have hm2 : m2 ≤ w3.heap.size := by omega
  dsimp only at hu1 hu2 hu3 hu4
  rw [HQ.out] at hu1
  obtain ⟨⟨r, md'⟩, us', rfl, hmd, hus⟩ : ∃ t us', us = t :: us' ∧ t.2 = md ∧ us'.map Prod.snd = rest := by
    cases us with
    | nil => cases hu1
    | cons t us' => rw [List.map_cons] at hu1; obtain ⟨h1, h2⟩ := List.cons.inj hu1; exact ⟨t, us', rfl, h1.symm, h2.symm⟩
  dsimp only at hmd
  subst hmd
  obtain ⟨va, vc, hvf, -, hvg⟩ := hu2.form
  obtain ⟨gQ, hgQ, hgQ1, hgQ2⟩ := hvg (by simp)
  obtain ⟨e1, e2, e3⟩ := Value.slice.inj hvf
  subst e2 e3
  rw [← e1] at hgQ
  subst hgQ
  rw [List.length_map, List.length_cons] at hu2 htq hu3 hu4
  have HTQ : Hid (ts[i]? = some (⟨⟨da, dn, dc⟩, ⟨ea, en, ec⟩, ⟨some ⟨gQ, 0, none⟩, us'.length + 1, qc⟩⟩, o)) := htq
  have HU2 : Hid (Mine w3 m2 49 4 (.slice (some ⟨gQ, 0, none⟩) (us'.length + 1) qc) (((r, md') :: us').map msgC)) := hu2
  have HU4 : Hid (∀ t ∈ (r, md') :: us', Bytes w3 (fun b => m2 ≤ b ∧ b < w3.heap.size ∧ b ≠ gQ) (.slice t.1.a t.1.n t.1.c) t.2.data) := fun t ht => Row.more (hu4 t ht) fun b hb => ⟨hb.1, by omega, fun e => hb.2.2 (by rw [e]; rfl)⟩
  have HUS : Hid (us'.map Prod.snd = rest) := hus
  obtain ⟨cur, hblk, -, -, -, -, hcur⟩ := hM.blk
  have c5 : w3.cell? ⟨w1.heap.size, i * 9 + 5, none⟩ = some (.slice (some ⟨gQ, 0, none⟩) (us'.length + 1) qc) := by
    rw [hblk.cell]
    exact hcur _ _ (flatten_at (even_obj ts) i _ (by rw [List.getElem?_map, htq]; rfl) 5 _ rfl)
  have cf := hblk.free
  obtain ⟨cur2, hblk2, -, hqc, hqm, -, hcur2⟩ := hu2.blk
  have hcell : ∀ j u, (msgC (r, md'))[j]? = some u → w3.cell? ⟨gQ, j, none⟩ = some u := fun j u hj => by
    rw [hblk2.cell]
    have := hcur2 _ _ (flatten_at (even_msg ((r, md') :: us')) 0 _ rfl j u hj)
    simpa using this
  have q0 := hcell 0 _ rfl
  have q1 := hcell 1 _ rfl
  have q2 := hcell 2 _ rfl
  have q3 := hcell 3 _ rfl
  dsimp only at q0 q1 q2 q3
  unfold maxLen at hqm
  clear hL hM hA htq hb3 HO o1 o2 o3 o4 hu1 hu2 hu3 hu4 hus hlo hblk hcur hblk2 hcur2 hcell hvf hvg e1
  go_wp2_with fail
  have HB4 : Hid (Below w.heap.size w (w3.alloc (.cells #[.slice r.a r.n r.c, .bool md'.has, .int .i64 md'.op, .int .i64 md'.rt] 49))) := HB3.out.alloc (by omega) _
  have hK4 : Blk (w3.alloc (.cells #[.slice r.a r.n r.c, .bool md'.has, .int .i64 md'.op, .int .i64 md'.rt] 49)) w3.heap.size #[.slice r.a r.n r.c, .bool md'.has, .int .i64 md'.op, .int .i64 md'.rt] 49 := Blk.new _ _ _
  have HK4 : Hid (Blk (w3.alloc (.cells #[.slice r.a r.n r.c, .bool md'.has, .int .i64 md'.op, .int .i64 md'.rt] 49)) w3.heap.size #[.slice r.a r.n r.c, .bool md'.has, .int .i64 md'.op, .int .i64 md'.rt] 49) := hK4
  have HON4 : Hid (On (fun b => b < w3.heap.size) w3 (w3.alloc (.cells #[.slice r.a r.n r.c, .bool md'.has, .int .i64 md'.op, .int .i64 md'.rt] 49))) := On.alloc _ _
  have hz4 : (w3.alloc (.cells #[.slice r.a r.n r.c, .bool md'.has, .int .i64 md'.op, .int .i64 md'.rt] 49)).heap.size = w3.heap.size + 1 := by simp
  generalize w3.alloc (.cells #[.slice r.a r.n r.c, .bool md'.has, .int .i64 md'.op, .int .i64 md'.rt] 49) = w4 at *
  have HD : Calls Try.prog 52 #[.slice (some ⟨gQ, 0, none⟩) (us'.length + 1) qc, .int .i64 0, .int .i64 1] w4 fun e w' => e = .returned (.slice (some ⟨gQ, 0, none⟩) us'.length qc) ∧ Mine w' m2 49 4 (.slice (some ⟨gQ, 0, none⟩) us'.length qc) (us'.map msgC) ∧ On (fun b => b ≠ gQ) w4 w' ∧ w'.heap.size = w4.heap.size ∧ ∀ B, B ≤ gQ → Below B w4 w' := mdelete_any ((r, md') :: us') 0 m2 gQ (us'.length + 1) qc w4 (HU2.out.on HON4.out fun g hg => (HU2.out.lt g hg).2) (by simp)
  refine Calls.mono HD ?_
  rintro e w5 ⟨rfl, hm5, hon5, hz5, hb5⟩
  have HM5 : Hid (Mine w5 m2 49 4 (.slice (some ⟨gQ, 0, none⟩) us'.length qc) (us'.map msgC)) := hm5
  have HON5 : Hid (On (fun b => b < w3.heap.size ∧ b ≠ gQ) w3 w5) := (HON4.out.less fun b hb => hb.1).trans (hon5.less fun b hb => hb.2)
  have HB5 : Hid (Below w.heap.size w w5) := HB4.out.trans (hb5 _ (by omega))
  have HK5 : Hid (Blk w5 w3.heap.size #[.slice r.a r.n r.c, .bool md'.has, .int .i64 md'.op, .int .i64 md'.rt] 49) := hK4.on hon5 (by show w3.heap.size ≠ gQ; omega)
  have hMo : Mine w5 w1.heap.size 40 9 (.slice (some ⟨w1.heap.size, 0, none⟩) L.length L.length) (ts.map objC) := HM.out.on HON5.out fun g hg => by
    simp [Value.ownBlock] at hg
    subst hg
    exact ⟨by omega, by omega⟩
  have HMO : Hid (Mine w5 w1.heap.size 40 9 (.slice (some ⟨w1.heap.size, 0, none⟩) L.length L.length) (ts.map objC)) := hMo
  have HKr : Hid (Blk w5 w.heap.size #[.slice none 0 0, .bool false, .int .i64 0, .int .i64 0] 49) := HK3.out.on HON5.out ⟨by omega, by omega⟩
  obtain ⟨cur, hblk, -, -, -, -, hcur⟩ := hMo.blk
  have d5 : w5.cell? ⟨w1.heap.size, i * 9 + 5, none⟩ = some (.slice (some ⟨gQ, 0, none⟩) (us'.length + 1) qc) := by
    rw [hblk.cell]
    exact hcur _ _ (flatten_at (even_obj ts) i _ (by rw [List.getElem?_map, HTQ.out]; rfl) 5 _ rfl)
  have df := hblk.free
  clear HD hm5 hon5 hb5 hK4 HB4 HON4 HK4 hMo hblk hcur q0 q1 q2 q3 c5 cf HM HU2 HB3
  go_wp2_with fail
  have on6 := On.set w5 ⟨w1.heap.size, i * 9 + 5, none⟩ (.slice (some ⟨gQ, 0, none⟩) us'.length qc)
  have hM6 := HMO.out.set (even_obj ts) i 5 _ (.slice (some ⟨gQ, 0, none⟩) us'.length qc) (by rw [List.getElem?_map, HTQ.out]; rfl) (by decide)
  have hU6 := HM5.out.on on6 fun g hg => by simp [Value.ownBlock] at hg; subst hg; show gQ ≠ w1.heap.size; omega
  have hK6 : Blk (w5.setCell ⟨w1.heap.size, i * 9 + 5, none⟩ (.slice (some ⟨gQ, 0, none⟩) us'.length qc)) w3.heap.size #[.slice r.a r.n r.c, .bool md'.has, .int .i64 md'.op, .int .i64 md'.rt] 49 := HK5.out.on on6 (by show w3.heap.size ≠ w1.heap.size; omega)
  have hR6 : Blk (w5.setCell ⟨w1.heap.size, i * 9 + 5, none⟩ (.slice (some ⟨gQ, 0, none⟩) us'.length qc)) w.heap.size #[.slice none 0 0, .bool false, .int .i64 0, .int .i64 0] 49 := HKr.out.on on6 (by show w.heap.size ≠ w1.heap.size; omega)
  have hB6 : Below w.heap.size w (w5.setCell ⟨w1.heap.size, i * 9 + 5, none⟩ (.slice (some ⟨gQ, 0, none⟩) us'.length qc)) := HB5.out.setCell (by show w.heap.size ≤ w1.heap.size; omega) _
  have hz6 : (w5.setCell ⟨w1.heap.size, i * 9 + 5, none⟩ (.slice (some ⟨gQ, 0, none⟩) us'.length qc)).heap.size = w5.heap.size := by simp
  have hon36 : On (fun b => b < w3.heap.size ∧ b ≠ gQ ∧ b ≠ w1.heap.size) w3 (w5.setCell ⟨w1.heap.size, i * 9 + 5, none⟩ (.slice (some ⟨gQ, 0, none⟩) us'.length qc)) := (HON5.out.less fun b hb => ⟨hb.1, hb.2.1⟩).trans (on6.less fun b hb => hb.2.2)
  generalize w5.setCell ⟨w1.heap.size, i * 9 + 5, none⟩ (.slice (some ⟨gQ, 0, none⟩) us'.length qc) = w6 at *
  have HR6 : Hid (Blk w6 w.heap.size #[.slice none 0 0, .bool false, .int .i64 0, .int .i64 0] 49) := hR6
  have k6 := hK6.cell
  have r6 := hR6.cell
  have rf6 := hR6.free
  have eM : (ts.map objC).set i ((objC (⟨⟨da, dn, dc⟩, ⟨ea, en, ec⟩, ⟨some ⟨gQ, 0, none⟩, us'.length + 1, qc⟩⟩, o)).set 5 (.slice (some ⟨gQ, 0, none⟩) us'.length qc)) = (ts.set i (⟨⟨da, dn, dc⟩, ⟨ea, en, ec⟩, ⟨some ⟨gQ, 0, none⟩, us'.length, qc⟩⟩, { o with queue := rest })).map objC := by
    rw [List.map_set]
    rfl
  rw [eM] at hM6
  have hQ6 : Queue w6 (fun b => w1.heap.size + 1 ≤ b ∧ b < w6.heap.size) (.slice (some ⟨gQ, 0, none⟩) us'.length qc) rest :=
    ⟨us', HUS.out.symm, (hU6.row (even_msg us')).more fun b hb => ⟨by omega, hb.2⟩, fun t ht => Row.more (Row.on (HU4.out t (List.mem_cons_of_mem _ ht)) (hon36.less fun b hb => ⟨hb.2.1, hb.2.2, by omega⟩)) fun b hb => ⟨by omega, by omega⟩⟩
  have HLL : Hid (∀ t ∈ ts.set i (⟨⟨da, dn, dc⟩, ⟨ea, en, ec⟩, ⟨some ⟨gQ, 0, none⟩, us'.length, qc⟩⟩, { o with queue := rest }), Lists w6 (fun b => w1.heap.size + 1 ≤ b ∧ b < w6.heap.size) t) := turnq_lists HA.out HTQ.out (hon36.less fun b hb => ⟨hb.2.1, fun e => hb.2.2 (by rw [e]; rfl), by omega⟩) (by omega) hQ6
  have HM6 : Hid (Mine w6 w1.heap.size 40 9 (.slice (some ⟨w1.heap.size, 0, none⟩) L.length L.length) ((ts.set i (⟨⟨da, dn, dc⟩, ⟨ea, en, ec⟩, ⟨some ⟨gQ, 0, none⟩, us'.length, qc⟩⟩, { o with queue := rest })).map objC)) := hM6
  have HBY : Hid (Bytes w6 (fun b => w1.heap.size + 1 ≤ b ∧ b < w6.heap.size) (.slice r.a r.n r.c) md'.data) := Row.more (Row.on (HU4.out (r, md') List.mem_cons_self) (hon36.less fun b hb => ⟨hb.2.1, hb.2.2, by omega⟩)) fun b hb => ⟨by omega, by omega⟩
  have HB6 : Hid (Below w.heap.size w w6) := hB6
  have HEW : Hid (Ch.withQ L i o rest = (ts.set i (⟨⟨da, dn, dc⟩, ⟨ea, en, ec⟩, ⟨some ⟨gQ, 0, none⟩, us'.length, qc⟩⟩, { o with queue := rest })).map Prod.snd) := by
    unfold Hid Ch.withQ
    rw [List.map_set, HL.out]
  have hl1 : w.heap.size < w6.heap.size := by omega
  have hl3 : w3.heap.size < w6.heap.size := by omega
  have HZ1 : Hid (w.heap.size < w1.heap.size) := hz1
  clear on6 hU6 hK6 hR6 hB6 hz6 hon36 eM hM6 hQ6 d5 df HMO HK5 HKr HB5 HM5 HON5 HU4 HTQ HA HUS HL
  go_region
  go_wp2
  generalize hW : ((((w6.setCell ⟨w.heap.size, 0, none⟩ (.slice r.a r.n r.c)).setCell ⟨w.heap.size, 1, none⟩ (.bool md'.has)).setCell ⟨w.heap.size, 2, none⟩ (.int .i64 md'.op)).setCell ⟨w.heap.size, 3, none⟩ (.int .i64 md'.rt)) = W
  obtain ⟨hb, hon, hsz, hB⟩ := Blk.four HR6.out _ _ _ _ W hW.symm
  have hcW : ∀ j, W.drew.cell? ⟨w.heap.size, j, none⟩ = (#[.slice r.a r.n r.c, .bool md'.has, .int .i64 md'.op, .int .i64 md'.rt] : Array Value)[j]? := hb.cell
  have hon' : On (fun k => k ≠ w.heap.size) w6 W.drew := hon
  have hsz' : W.drew.heap.size = w6.heap.size := hsz
  have hzo := HZ1.out
  refine bodyPost_ret (v := .tuple #[.slice (some ⟨w1.heap.size, 0, none⟩) L.length L.length, .agg #[.slice r.a r.n r.c, .bool md'.has, .int .i64 md'.op, .int .i64 md'.rt], .int .i64 0]) (by simp [results, Try.results24, go_sem, hcW]) rfl ⟨_, _, r, rfl, ?_, ?_, (HB6.out.trans (hB _ (Nat.le_refl _))).drew⟩
  · rw [HEW.out]
    exact (HM6.out.on hon' fun g hg => by simp [Value.ownBlock] at hg; subst hg; show w1.heap.size ≠ w.heap.size; omega).objs (fun b hb => ⟨by omega, by omega⟩) fun t ht => ((HLL.out t ht).on (hon'.less fun b hb => by show b ≠ w.heap.size; omega)).more fun b hb => ⟨by omega, by omega⟩
  · exact Row.more (Row.on HBY.out (hon'.less fun b hb => by show b ≠ w.heap.size; omega)) fun b hb => ⟨by omega, by omega⟩
end Go.Proofs.Ythoacakdmnijcaa
/-
  rgref5.Recv, walked.
-/
namespace Go.Proofs.Ythoacakdmnijcaa
open Go.RowKit
theorem ref_is {L : List Sp.Ob} {v : Value} {S : Nat → Prop} {w : World} (hv : Objs w S v L) (hS : ∀ b, S b → b < w.heap.size) (w' : World) (j : Int) (x : Bool) (hx : Sp.is L j 4 = x) (h : Below w.heap.size w w') : Calls Try.prog 33 #[v, .int .i64 j, .int .i64 4] w' fun e w'' => e = .returned (.bool x) ∧ w'' = w' := by
  have := is_any L j 4 v S w' (hv.on ((On.of h).less hS))
  rw [hx] at this
  exact this
set_option maxRecDepth 100000 in
set_option maxHeartbeats 4000000 in
theorem rrecv_err (L : List Sp.Ob) (k : Int) (v : Value) (S : Nat → Prop) (w : World) (hv : Objs w S v L) (hS : ∀ b, S b → b < w.heap.size) (hN : Ch.noRecv L k ≠ 0) :
    Calls Try.prog 25 #[v, .int .i64 k] w fun e w' => e = .returned (.tuple #[.slice none 0 0, msgV (nilSl, msg0), .int .i64 (Ch.noRecv L k)]) ∧ Below w.heap.size w w' := by
  unfold msgV nilSl msg0
  have HIS : Hid (∀ (w' : World) (j : Int) (x : Bool), Sp.is L j 4 = x → Below w.heap.size w w' → Calls Try.prog 33 #[v, .int .i64 j, .int .i64 4] w' fun e w'' => e = .returned (.bool x) ∧ w'' = w') := fun w' j x hx h => ref_is hv hS w' j x hx h
  have HB : Hid (Below w.heap.size w (w.alloc (.cells #[.slice none 0 0, .bool false, .int .i64 0, .int .i64 0] 49))) := (Below.refl _ _).alloc (Nat.le_refl _) _
  have HK : Hid (Blk (w.alloc (.cells #[.slice none 0 0, .bool false, .int .i64 0, .int .i64 0] 49)) w.heap.size #[.slice none 0 0, .bool false, .int .i64 0, .int .i64 0] 49) := Blk.new _ _ _
  cases he : Sp.is L k 4 with
  | false =>
    have HE : Hid (Ch.noRecv L k = 8) := by unfold Hid Ch.noRecv; rw [if_pos he]
    rw [HE.out]
    have HE1 : Hid (Calls Try.prog 33 #[v, .int .i64 k, .int .i64 4] (w.alloc (.cells #[.slice none 0 0, .bool false, .int .i64 0, .int .i64 0] 49)) fun e w'' => e = .returned (.bool false) ∧ w'' = (w.alloc (.cells #[.slice none 0 0, .bool false, .int .i64 0, .int .i64 0] 49))) := HIS.out _ k false he HB.out
    obtain ⟨a, c, rfl, -⟩ := hv.form
    clear hv hS hN he HIS
    go_enter Try.func25, Try.ntmps25
    go_wp2_with fail
    generalize (w.alloc (.cells #[.slice none 0 0, .bool false, .int .i64 0, .int .i64 0] 49)) = w1 at *
    refine Calls.mono HE1.out ?_
    rintro e w2 ⟨rfl, hw⟩
    rw [hw]
    clear hw
    have k0 := Blk.cell HK.out
    have kf := Blk.free HK.out
    go_wp2
    generalize hW : ((((w1.setCell ⟨w.heap.size, 0, none⟩ (.slice none 0 0)).setCell ⟨w.heap.size, 1, none⟩ (.bool false)).setCell ⟨w.heap.size, 2, none⟩ (.int .i64 0)).setCell ⟨w.heap.size, 3, none⟩ (.int .i64 0)) = W
    obtain ⟨hb, -, -, hB⟩ := Blk.four HK.out _ _ _ _ W hW.symm
    have hcW := hb.cell
    exact bodyPost_ret (v := .tuple #[.slice none 0 0, .agg #[.slice none 0 0, .bool false, .int .i64 0, .int .i64 0], .int .i64 8]) (by simp [results, Try.results25, go_sem, hcW]) rfl ⟨rfl, HB.out.trans (hB _ (Nat.le_refl _))⟩
  | true =>
    obtain ⟨n, o, rfl, hx, hk4, hob⟩ := is_end he
    have hpe : Ch.peerOf L (n : Int) = o.peer := by unfold Ch.peerOf; rw [hob]
    have hwa : Ch.waits L (n : Int) = o.queue.length := by unfold Ch.waits; rw [hob]
    have hnl := (List.getElem?_eq_some_iff.1 hx).1
    have hN0 : Ch.noRecv L (n : Int) = if 0 < o.queue.length then 0 else if Sp.is L o.peer 4 = false then 17 else 16 := by unfold Ch.noRecv; rw [if_neg (by rw [he]; decide), hwa, hpe]
    have hq0 : o.queue.length = 0 := by
      rcases Nat.eq_zero_or_pos o.queue.length with h | h
      · exact h
      · rw [hN0, if_pos h] at hN; exact absurd rfl hN
    rw [hN0, if_neg (by omega)]
    have HE1 : Hid (Calls Try.prog 33 #[v, .int .i64 n, .int .i64 4] (w.alloc (.cells #[.slice none 0 0, .bool false, .int .i64 0, .int .i64 0] 49)) fun e w'' => e = .returned (.bool true) ∧ w'' = (w.alloc (.cells #[.slice none 0 0, .bool false, .int .i64 0, .int .i64 0] 49))) := HIS.out _ n true he HB.out
    have HE2 : Hid (∀ (w' : World), Below w.heap.size w w' → Calls Try.prog 33 #[v, .int .i64 o.peer, .int .i64 4] w' fun e w'' => e = .returned (.bool (Sp.is L o.peer 4)) ∧ w'' = w') := fun w' h => HIS.out w' o.peer _ rfl h
    obtain ⟨b, of, c, s, hve, hSb, hc, hcm, hli, c0, c1, c2, c3, c4, c5, c6, c7, c8⟩ := (hv.on ((On.of HB.out).less hS)).open hx
    subst hve
    obtain ⟨us, hu1, hu2, -⟩ := hli.2.2
    have hsn : s.q.n = o.queue.length := by
      have := Row.eqNil hu2
      rw [List.length_map] at this
      rw [this, hu1, List.length_map]
    rw [hq0] at hsn
    rw [hsn] at c5
    unfold maxLen at hcm
    have hz1 : (w.alloc (.cells #[.slice none 0 0, .bool false, .int .i64 0, .int .i64 0] 49)).heap.size = w.heap.size + 1 := by simp
    generalize Sp.is L o.peer 4 = pe at *
    clear hv hS hN he HIS hx hob hpe hwa hN0 hq0 hli hsn hu1 hu2 hk4
    go_enter Try.func25, Try.ntmps25
    go_wp2_with fail
    generalize (w.alloc (.cells #[.slice none 0 0, .bool false, .int .i64 0, .int .i64 0] 49)) = w1 at *
    refine Calls.mono HE1.out ?_
    rintro e w2 ⟨rfl, hw⟩
    rw [hw]
    clear hw
    go_wp2_with fail
    have HK2 : Hid (Blk (w1.alloc (.cells #[.int .i64 o.kind, .slice s.d.a s.d.n s.d.c, .slice s.e.a s.e.n s.e.c, .string o.target, .int .i64 o.peer, .slice s.q.a 0 s.q.c, .int .i64 o.proc, .int .i64 o.links, .int .i64 o.up] 40)) w.heap.size #[.slice none 0 0, .bool false, .int .i64 0, .int .i64 0] 49) := Blk.alloc HK.out _
    have HB2 : Hid (Below w.heap.size w (w1.alloc (.cells #[.int .i64 o.kind, .slice s.d.a s.d.n s.d.c, .slice s.e.a s.e.n s.e.c, .string o.target, .int .i64 o.peer, .slice s.q.a 0 s.q.c, .int .i64 o.proc, .int .i64 o.links, .int .i64 o.up] 40))) := HB.out.alloc HB.out.size _
    generalize (w1.alloc (.cells #[.int .i64 o.kind, .slice s.d.a s.d.n s.d.c, .slice s.e.a s.e.n s.e.c, .string o.target, .int .i64 o.peer, .slice s.q.a 0 s.q.c, .int .i64 o.proc, .int .i64 o.links, .int .i64 o.up] 40)) = w2 at *
    refine Calls.mono (HE2.out w2 HB2.out) ?_
    rintro e w3 ⟨rfl, hw⟩
    rw [hw]
    clear hw
    have k0 := Blk.cell HK2.out
    have kf := Blk.free HK2.out
    clear c0 c1 c2 c3 c4 c5 c6 c7 c8
    cases pe
    all_goals
      go_wp2
      generalize hW : ((((w2.setCell ⟨w.heap.size, 0, none⟩ (.slice none 0 0)).setCell ⟨w.heap.size, 1, none⟩ (.bool false)).setCell ⟨w.heap.size, 2, none⟩ (.int .i64 0)).setCell ⟨w.heap.size, 3, none⟩ (.int .i64 0)) = W
      obtain ⟨hb, -, -, hB⟩ := Blk.four HK2.out _ _ _ _ W hW.symm
      have hcW := hb.cell
      first
        | exact bodyPost_ret (v := .tuple #[.slice none 0 0, .agg #[.slice none 0 0, .bool false, .int .i64 0, .int .i64 0], .int .i64 17]) (by simp [results, Try.results25, go_sem, hcW]) rfl ⟨rfl, HB2.out.trans (hB _ (Nat.le_refl _))⟩
        | exact bodyPost_ret (v := .tuple #[.slice none 0 0, .agg #[.slice none 0 0, .bool false, .int .i64 0, .int .i64 0], .int .i64 16]) (by simp [results, Try.results25, go_sem, hcW]) rfl ⟨rfl, HB2.out.trans (hB _ (Nat.le_refl _))⟩
set_option maxRecDepth 100000 in
set_option maxHeartbeats 8000000 in
theorem rrecv_ok (L : List Sp.Ob) (i : Nat) (o : Sp.Ob) (md : Sp.Msg) (rest : List Sp.Msg) (v : Value) (S : Nat → Prop) (w : World) (hv : Objs w S v L) (hS : ∀ b, S b → b < w.heap.size) (hn : L.length ≤ 1000) (hi : L[i]? = some o) (hk : o.kind = 4) (hq : o.queue = md :: rest) (hql : rest.length ≤ 1000) :
    Calls Try.prog 25 #[v, .int .i64 i] w fun e w' => ∃ a c r, e = .returned (.tuple #[.slice a L.length c, msgV (r, md), .int .i64 0]) ∧ Objs w' (fun b => b < w'.heap.size) (.slice a L.length c) (Ch.withQ L i o rest) ∧ Bytes w' (fun b => b < w'.heap.size) (.slice r.a r.n r.c) md.data ∧ Below w.heap.size w w' := by
  have HB : Hid (Below w.heap.size w (w.alloc (.cells #[.slice none 0 0, .bool false, .int .i64 0, .int .i64 0] 49))) := (Below.refl _ _).alloc (Nat.le_refl _) _
  have HK : Hid (Blk (w.alloc (.cells #[.slice none 0 0, .bool false, .int .i64 0, .int .i64 0] 49)) w.heap.size #[.slice none 0 0, .bool false, .int .i64 0, .int .i64 0] 49) := Blk.new _ _ _
  have his : Sp.is L (i : Int) 4 = true := by
    unfold Sp.is
    rw [objAt_of hi (by omega)]
    simp [hk]
  have HE1 : Hid (Calls Try.prog 33 #[v, .int .i64 i, .int .i64 4] (w.alloc (.cells #[.slice none 0 0, .bool false, .int .i64 0, .int .i64 0] 49)) fun e w'' => e = .returned (.bool true) ∧ w'' = (w.alloc (.cells #[.slice none 0 0, .bool false, .int .i64 0, .int .i64 0] 49))) := ref_is hv hS _ i true his HB.out
  have hil := (List.getElem?_eq_some_iff.1 hi).1
  have HV1 : Hid (Objs (w.alloc (.cells #[.slice none 0 0, .bool false, .int .i64 0, .int .i64 0] 49)) S v L) := hv.on ((On.of HB.out).less hS)
  obtain ⟨b, of, c, s, hve, hSb, hc, hcm, hli, c0, c1, c2, c3, c4, c5, c6, c7, c8⟩ := HV1.out.open hi
  subst hve
  unfold maxLen at hcm
  obtain ⟨us0, hu1, hu2, hu3⟩ := hli.2.2
  dsimp only at hu1 hu2 hu3
  rw [hq] at hu1
  obtain ⟨⟨r, md'⟩, us, rfl, hmd, hus⟩ : ∃ t us', us0 = t :: us' ∧ t.2 = md ∧ us'.map Prod.snd = rest := by
    cases us0 with
    | nil => cases hu1
    | cons t us' => rw [List.map_cons] at hu1; obtain ⟨h1, h2⟩ := List.cons.inj hu1; exact ⟨t, us', rfl, h1.symm, h2.symm⟩
  dsimp only at hmd
  subst hmd
  obtain ⟨qb, qo, qc, hqv, hqS, hqc, hqm, hq5⟩ := hu2.some (by simp)
  obtain ⟨e1, e2, e3⟩ := Value.slice.inj hqv
  rw [e1, e2, e3] at c5
  rw [List.length_map, List.length_cons] at c5 hqc hqv
  unfold maxLen at hqm
  have m0 := hq5 0 (msgC (r, md')) rfl 0 _ rfl
  have m1 := hq5 0 (msgC (r, md')) rfl 1 _ rfl
  have m2 := hq5 0 (msgC (r, md')) rfl 2 _ rfl
  have m3 := hq5 0 (msgC (r, md')) rfl 3 _ rfl
  simp only [Nat.zero_mul, Nat.add_zero] at m0 m1 m2 m3
  have HU5 : Hid (∀ A, (qc = 1 ∧ A = some (⟨qb, qo, none⟩ : Addr)) ∨ (¬ qc = 1 ∧ A = some (⟨qb, qo + 4, none⟩ : Addr)) → Row (w.alloc (.cells #[.slice none 0 0, .bool false, .int .i64 0, .int .i64 0] 49)) S 4 (.slice A us.length (qc - 1)) (us.map msgC)) := fun A hA => by
    by_cases h0 : us.length = 0
    · have : us = [] := List.length_eq_zero_iff.1 h0
      subst this
      exact Row.nil _ _ _ _ _
    · rcases hA with ⟨h1, _⟩ | ⟨h1, rfl⟩
      · omega
      · refine Or.inr ⟨qb, qo + 4, qc - 1, by rw [List.length_map], hqS, by rw [List.length_map]; omega, by unfold maxLen; omega, fun j cs hj p u hp => ?_⟩
        have := hq5 (j + 1) cs (by rw [List.map_cons, List.getElem?_cons_succ]; exact hj) p u hp
        rw [show qo + (j + 1) * 4 + p = qo + 4 + j * 4 + p by omega] at this
        exact this
  have HLI : Hid (Lists (w.alloc (.cells #[.slice none 0 0, .bool false, .int .i64 0, .int .i64 0] 49)) S (s, o)) := hli
  have HU3 : Hid (∀ t ∈ (r, md') :: us, Bytes (w.alloc (.cells #[.slice none 0 0, .bool false, .int .i64 0, .int .i64 0] 49)) S (.slice t.1.a t.1.n t.1.c) t.2.data) := hu3
  have HUS : Hid (us.map Prod.snd = rest) := hus
  have HS : Hid (∀ b, S b → b < w.heap.size) := hS
  have HN : Hid (L.length ≤ 1000) := hn
  have HUL : Hid (us.length ≤ 1000) := by
    have h := congrArg List.length hus
    rw [List.length_map] at h
    unfold Hid
    omega
  have hz1 : (w.alloc (.cells #[.slice none 0 0, .bool false, .int .i64 0, .int .i64 0] 49)).heap.size = w.heap.size + 1 := by simp
  have hqn : us.length ≤ 1000 := HUL.out
  have hqbl : qb < w.heap.size := hS _ hqS
  have hbbl : b < w.heap.size := hS _ hSb
  clear hv hS hn hi hk hq hql his hli hu1 hu2 hu3 hus hq5 hqv e1 e2 e3 hqS hSb
  go_enter Try.func25, Try.ntmps25
  go_wp2_with fail
  generalize (w.alloc (.cells #[.slice none 0 0, .bool false, .int .i64 0, .int .i64 0] 49)) = w1 at *
  refine Calls.mono HE1.out ?_
  rintro e w2 ⟨rfl, hw⟩
  rw [hw]
  clear hw
  by_cases hq1 : qc = 1
  · subst hq1
    have HU0 : Hid (us = []) := List.length_eq_zero_iff.1 (by omega)
    go_wp2_with (with_reducible refine stop_at (.call { callee := .builtin .append, args := #[.tmp 26, .tmp 29], argTypes := #[38, 38] }) rfl ?_)
    unfold Hold
    have hx0 : Blk (w1.alloc (.cells #[.int .i64 o.kind, .slice s.d.a s.d.n s.d.c, .slice s.e.a s.e.n s.e.c, .string o.target, .int .i64 o.peer, .slice (some ⟨qb, qo, none⟩) (us.length + 1) 1, .int .i64 o.proc, .int .i64 o.links, .int .i64 o.up] 40)) (w.heap.size + 1) #[.int .i64 o.kind, .slice s.d.a s.d.n s.d.c, .slice s.e.a s.e.n s.e.c, .string o.target, .int .i64 o.peer, .slice (some ⟨qb, qo, none⟩) (us.length + 1) 1, .int .i64 o.proc, .int .i64 o.links, .int .i64 o.up] 40 := by rw [← hz1]; exact Blk.new w1 _ _
    have hx1 := (hx0.alloc (.cells #[.slice r.a r.n r.c, .bool md'.has, .int .i64 md'.op, .int .i64 md'.rt] 49)).alloc (.cells #[] 49)
    have hy1 : Blk (((w1.alloc (.cells #[.int .i64 o.kind, .slice s.d.a s.d.n s.d.c, .slice s.e.a s.e.n s.e.c, .string o.target, .int .i64 o.peer, .slice (some ⟨qb, qo, none⟩) (us.length + 1) 1, .int .i64 o.proc, .int .i64 o.links, .int .i64 o.up] 40)).alloc (.cells #[.slice r.a r.n r.c, .bool md'.has, .int .i64 md'.op, .int .i64 md'.rt] 49)).alloc (.cells #[] 49)) (w.heap.size + 2) #[.slice r.a r.n r.c, .bool md'.has, .int .i64 md'.op, .int .i64 md'.rt] 49 := by
      have h := (Blk.new (w1.alloc (.cells #[.int .i64 o.kind, .slice s.d.a s.d.n s.d.c, .slice s.e.a s.e.n s.e.c, .string o.target, .int .i64 o.peer, .slice (some ⟨qb, qo, none⟩) (us.length + 1) 1, .int .i64 o.proc, .int .i64 o.links, .int .i64 o.up] 40)) #[.slice r.a r.n r.c, .bool md'.has, .int .i64 md'.op, .int .i64 md'.rt] 49).alloc (.cells #[] 49)
      have e : (w1.alloc (.cells #[.int .i64 o.kind, .slice s.d.a s.d.n s.d.c, .slice s.e.a s.e.n s.e.c, .string o.target, .int .i64 o.peer, .slice (some ⟨qb, qo, none⟩) (us.length + 1) 1, .int .i64 o.proc, .int .i64 o.links, .int .i64 o.up] 40)).heap.size = w.heap.size + 2 := by simp; omega
      rw [e] at h
      exact h
    have hn1 : Blk (((w1.alloc (.cells #[.int .i64 o.kind, .slice s.d.a s.d.n s.d.c, .slice s.e.a s.e.n s.e.c, .string o.target, .int .i64 o.peer, .slice (some ⟨qb, qo, none⟩) (us.length + 1) 1, .int .i64 o.proc, .int .i64 o.links, .int .i64 o.up] 40)).alloc (.cells #[.slice r.a r.n r.c, .bool md'.has, .int .i64 md'.op, .int .i64 md'.rt] 49)).alloc (.cells #[] 49)) (w.heap.size + 3) #[] 49 := by
      have h := Blk.new ((w1.alloc (.cells #[.int .i64 o.kind, .slice s.d.a s.d.n s.d.c, .slice s.e.a s.e.n s.e.c, .string o.target, .int .i64 o.peer, .slice (some ⟨qb, qo, none⟩) (us.length + 1) 1, .int .i64 o.proc, .int .i64 o.links, .int .i64 o.up] 40)).alloc (.cells #[.slice r.a r.n r.c, .bool md'.has, .int .i64 md'.op, .int .i64 md'.rt] 49)) #[] 49
      have e : ((w1.alloc (.cells #[.int .i64 o.kind, .slice s.d.a s.d.n s.d.c, .slice s.e.a s.e.n s.e.c, .string o.target, .int .i64 o.peer, .slice (some ⟨qb, qo, none⟩) (us.length + 1) 1, .int .i64 o.proc, .int .i64 o.links, .int .i64 o.up] 40)).alloc (.cells #[.slice r.a r.n r.c, .bool md'.has, .int .i64 md'.op, .int .i64 md'.rt] 49)).heap.size = w.heap.size + 3 := by simp; omega
      rw [e] at h
      exact h
    have hr1 := ((HK.out.alloc (.cells #[.int .i64 o.kind, .slice s.d.a s.d.n s.d.c, .slice s.e.a s.e.n s.e.c, .string o.target, .int .i64 o.peer, .slice (some ⟨qb, qo, none⟩) (us.length + 1) 1, .int .i64 o.proc, .int .i64 o.links, .int .i64 o.up] 40)).alloc (.cells #[.slice r.a r.n r.c, .bool md'.has, .int .i64 md'.op, .int .i64 md'.rt] 49)).alloc (.cells #[] 49)
    have hon1 : On (fun b => b < w1.heap.size) w1 (((w1.alloc (.cells #[.int .i64 o.kind, .slice s.d.a s.d.n s.d.c, .slice s.e.a s.e.n s.e.c, .string o.target, .int .i64 o.peer, .slice (some ⟨qb, qo, none⟩) (us.length + 1) 1, .int .i64 o.proc, .int .i64 o.links, .int .i64 o.up] 40)).alloc (.cells #[.slice r.a r.n r.c, .bool md'.has, .int .i64 md'.op, .int .i64 md'.rt] 49)).alloc (.cells #[] 49)) := ((On.alloc w1 _).trans ((On.alloc _ _).less fun b hb => by simp; omega)).trans ((On.alloc _ _).less fun b hb => by simp; omega)
    have hB1 : Below w.heap.size w (((w1.alloc (.cells #[.int .i64 o.kind, .slice s.d.a s.d.n s.d.c, .slice s.e.a s.e.n s.e.c, .string o.target, .int .i64 o.peer, .slice (some ⟨qb, qo, none⟩) (us.length + 1) 1, .int .i64 o.proc, .int .i64 o.links, .int .i64 o.up] 40)).alloc (.cells #[.slice r.a r.n r.c, .bool md'.has, .int .i64 md'.op, .int .i64 md'.rt] 49)).alloc (.cells #[] 49)) := ((HB.out.alloc HB.out.size _).alloc (by simp; omega) _).alloc (by simp; omega) _
    have hzA : (((w1.alloc (.cells #[.int .i64 o.kind, .slice s.d.a s.d.n s.d.c, .slice s.e.a s.e.n s.e.c, .string o.target, .int .i64 o.peer, .slice (some ⟨qb, qo, none⟩) (us.length + 1) 1, .int .i64 o.proc, .int .i64 o.links, .int .i64 o.up] 40)).alloc (.cells #[.slice r.a r.n r.c, .bool md'.has, .int .i64 md'.op, .int .i64 md'.rt] 49)).alloc (.cells #[] 49)).heap.size = w.heap.size + 4 := by simp; omega
    generalize ((w1.alloc (.cells #[.int .i64 o.kind, .slice s.d.a s.d.n s.d.c, .slice s.e.a s.e.n s.e.c, .string o.target, .int .i64 o.peer, .slice (some ⟨qb, qo, none⟩) (us.length + 1) 1, .int .i64 o.proc, .int .i64 o.links, .int .i64 o.up] 40)).alloc (.cells #[.slice r.a r.n r.c, .bool md'.has, .int .i64 md'.op, .int .i64 md'.rt] 49)).alloc (.cells #[] 49) = w3 at *
    have hS1 : ∀ b, S b → b < w1.heap.size := fun b hb => by have := HS.out b hb; omega
    obtain ⟨i0, hi0, hz0, hzb, hzc⟩ := info_parts Try.infoMsg
    refine wpList_append_row rfl _ _ _ rfl (w.heap.size + 3) 49 i0 (.agg #[.slice none 0 0, .bool false, .int .i64 0, .int .i64 0]) 4 48 Try.underlying38 hi0 hz0 hzb hzc rfl (by decide) (.slice (some ⟨w.heap.size + 3, 0, none⟩) 0 0) [] rfl ⟨by simp, Or.inr ⟨w.heap.size + 3, 0, #[], rfl, Nat.le_refl _, hn1, Nat.le_refl _, Nat.zero_le _, by simp, by simp⟩⟩ (.slice (some ⟨qb, qo, none⟩) 0 0) S (us.map msgC) rfl (by rw [HU0.out]; exact Row.nil _ _ _ _ _) (even_msg us) (ones_msg us) ?_ (by decide) (by omega) ?_
    · rw [List.length_nil, List.length_map]; omega
    intro v4 w4 ho4 hg4
    rw [List.nil_append] at ho4
    obtain ⟨r4, rfl⟩ := ho4.sl
    have hgk : ∀ k, (Value.slice (some ⟨w.heap.size + 3, 0, none⟩) 0 0).ownBlock = some k → k = w.heap.size + 3 := fun k hk => by simp [Value.ownBlock] at hk; exact hk.symm
    have hon4 : On (fun b => b < w3.heap.size ∧ b ≠ w.heap.size + 3) w3 w4 := fun b hb => hg4.block b hb.1 fun e => hb.2 (hgk b e.symm)
    have hB4 : Below w.heap.size w w4 := hB1.grown hg4 (by omega) (fun k hk => by rw [hgk k hk]; omega)
    have hz4 : w3.heap.size ≤ w4.heap.size := (Below.grown (Below.refl 0 w3) hg4 (Nat.zero_le _) (fun _ _ => Nat.zero_le _)).size
    have hx4 := hx1.on hon4 ⟨by omega, by omega⟩
    have hy4 := hy1.on hon4 ⟨by omega, by omega⟩
    have hr4 := hr1.on hon4 ⟨by omega, by omega⟩
    have x4 := hx4.cell
    have xf4 := hx4.free
    have HX4 : Hid (Blk w4 (w.heap.size + 1) #[.int .i64 o.kind, .slice s.d.a s.d.n s.d.c, .slice s.e.a s.e.n s.e.c, .string o.target, .int .i64 o.peer, .slice (some ⟨qb, qo, none⟩) (us.length + 1) 1, .int .i64 o.proc, .int .i64 o.links, .int .i64 o.up] 40) := hx4
    have HY4 : Hid (Blk w4 (w.heap.size + 2) #[.slice r.a r.n r.c, .bool md'.has, .int .i64 md'.op, .int .i64 md'.rt] 49) := hy4
    have HR4 : Hid (Blk w4 w.heap.size #[.slice none 0 0, .bool false, .int .i64 0, .int .i64 0] 49) := hr4
    have HM4 : Hid (Mine w4 (w.heap.size + 3) 49 4 (.slice r4.a r4.n r4.c) (us.map msgC)) := ho4
    have HON4 : Hid (On (fun b => b < w1.heap.size) w1 w4) := hon1.trans (hon4.less fun b hb => ⟨by omega, by omega⟩)
    have HB4 : Hid (Below w.heap.size w w4) := hB4
    clear hi0 hz0 hzb hzc ho4 hg4 hgk hon4 hB4 hx4 hy4 hr4 hx0 hx1 hy1 hn1 hr1 hon1 hB1 c0 c1 c2 c3 c4 c5 c6 c7 c8 m0 m1 m2 m3
    go_upto_region 7 with fail
    have on5 := On.set w4 ⟨w.heap.size + 1, 5, none⟩ (.slice r4.a r4.n r4.c)
    have hx5 : Blk (w4.setCell ⟨w.heap.size + 1, 5, none⟩ (.slice r4.a r4.n r4.c)) (w.heap.size + 1) #[.int .i64 o.kind, .slice s.d.a s.d.n s.d.c, .slice s.e.a s.e.n s.e.c, .string o.target, .int .i64 o.peer, .slice r4.a r4.n r4.c, .int .i64 o.proc, .int .i64 o.links, .int .i64 o.up] 40 := HX4.out.set 5 _
    have hy5 := HY4.out.on on5 (by show w.heap.size + 2 ≠ w.heap.size + 1; omega)
    have hr5 := HR4.out.on on5 (by show w.heap.size ≠ w.heap.size + 1; omega)
    have hm5 := HM4.out.on on5 fun g hg => by have := (HM4.out.lt g hg).1; show g ≠ w.heap.size + 1; omega
    have hon5 : On S w1 (w4.setCell ⟨w.heap.size + 1, 5, none⟩ (.slice r4.a r4.n r4.c)) := (HON4.out.less hS1).trans (on5.less fun b hb => by have := HS.out b hb; show b ≠ w.heap.size + 1; omega)
    have hB5 : Below w.heap.size w (w4.setCell ⟨w.heap.size + 1, 5, none⟩ (.slice r4.a r4.n r4.c)) := HB4.out.setCell (by show w.heap.size ≤ w.heap.size + 1; omega) _
    have hz5 : (w4.setCell ⟨w.heap.size + 1, 5, none⟩ (.slice r4.a r4.n r4.c)).heap.size = w4.heap.size := by simp
    generalize w4.setCell ⟨w.heap.size + 1, 5, none⟩ (.slice r4.a r4.n r4.c) = w5 at *
    have HW : Hid (Calls Try.prog 30 #[.slice (some ⟨b, of, none⟩) L.length c, .int .i64 i, .agg #[.int .i64 o.kind, .slice s.d.a s.d.n s.d.c, .slice s.e.a s.e.n s.e.c, .string o.target, .int .i64 o.peer, .slice r4.a r4.n r4.c, .int .i64 o.proc, .int .i64 o.links, .int .i64 o.up]] w5.drew fun e w' => ∃ a c, e = .returned (.slice a L.length c) ∧ Objs w' (fun b => b < w'.heap.size ∧ b ≠ w.heap.size) (.slice a L.length c) (Ch.withQ L i o rest) ∧ (∀ j, w'.cell? ⟨w.heap.size + 2, j, none⟩ = (#[.slice r.a r.n r.c, .bool md'.has, .int .i64 md'.op, .int .i64 md'.rt] : Array Value)[j]?) ∧ Blk w' w.heap.size #[.slice none 0 0, .bool false, .int .i64 0, .int .i64 0] 49 ∧ Bytes w' (fun b => b < w.heap.size) (.slice r.a r.n r.c) md'.data ∧ Below w.heap.size w w') := by
      have hLq : Lists w5 (Or' S (w.heap.size + 3) w5.heap.size) (⟨s.d, s.e, r4⟩, { o with queue := rest }) :=
        ⟨Row.more (Row.on HLI.out.1 hon5) fun b hb => Or.inl hb, Row.more (Row.on HLI.out.2.1 hon5) fun b hb => Or.inl hb, us, HUS.out.symm, (hm5.row (even_msg us)).more fun b hb => Or.inr hb, fun t ht => Row.more (Row.on (HU3.out t (List.mem_cons_of_mem _ ht)) hon5) fun b hb => Or.inl hb⟩
      have hW := rwith_any L i ⟨s.d, s.e, r4⟩ { o with queue := rest } (.slice (some ⟨b, of, none⟩) L.length c) (Or' S (w.heap.size + 3) w5.heap.size) w5.drew ((HV1.out.on hon5).more fun b hb => Or.inl hb) (fun b hb => hb.elim (fun h => by have := HS.out b h; show b < w5.heap.size; omega) fun h => h.2) HN.out (by omega) hLq
      have eW : Sp.rwith L i { o with queue := rest } = Ch.withQ L i o rest := by
        unfold Sp.rwith Ch.withQ
        rw [if_neg (by omega)]
      have eL : (Ch.withQ L i o rest).length = L.length := by unfold Ch.withQ; rw [List.length_set]
      rw [eW, eL, objV_eq] at hW
      refine hW.mono ?_
      rintro e w' ⟨a, c', rfl, ho, hb⟩
      have hbz : w5.heap.size ≤ w'.heap.size := hb.size
      have hb' : Below w5.heap.size w5 w' := (Below.refl _ _).drew.trans hb
      exact ⟨a, c', rfl, ho.more fun b hb => by
        rcases hb with (h | h) | h
        · have := HS.out b h; exact ⟨by omega, by omega⟩
        · exact ⟨by omega, by omega⟩
        · exact ⟨h.2, by have h1 : w5.heap.size ≤ b := h.1; omega⟩, (hy5.below hb' hy5.lt).cell, hr5.below hb' hr5.lt, Row.more (Row.on (HU3.out (r, md') List.mem_cons_self) (hon5.trans ((On.of hb').less fun b hb => by have := HS.out b hb; omega))) fun b hb => HS.out b hb, hB5.trans (hb'.mono hB5.size)⟩
    have x5 := hx5.cell
    have y5 := hy5.cell
    have hl5 : w.heap.size + 4 ≤ w5.heap.size := by omega
    clear on5 hx5 hy5 hr5 hm5 hon5 hB5 hz5 x4 xf4 HX4 HY4 HR4 HM4 HON4 HB4
    go_region_with (go_at_call 30; refine Calls.mono HW.out ?_; rintro e w6 ⟨a6, c6, rfl, ho6, hy6, hr6, hd6, hb6⟩; have z6 := hr6.cell; have zf6 := hr6.free; have HO6 : Hid (Objs w6 (fun b => b < w6.heap.size ∧ b ≠ w.heap.size) (.slice a6 L.length c6) (Ch.withQ L i o rest)) := ho6; have HR6 : Hid (Blk w6 w.heap.size #[.slice none 0 0, .bool false, .int .i64 0, .int .i64 0] 49) := hr6; have HD6 : Hid (Bytes w6 (fun b => b < w.heap.size) (.slice r.a r.n r.c) md'.data) := hd6; have HB6 : Hid (Below w.heap.size w w6) := hb6; clear ho6 hr6 hd6 hb6)
    all_goals
      go_wp2
      generalize hW : ((((w6.setCell ⟨w.heap.size, 0, none⟩ (.slice r.a r.n r.c)).setCell ⟨w.heap.size, 1, none⟩ (.bool md'.has)).setCell ⟨w.heap.size, 2, none⟩ (.int .i64 md'.op)).setCell ⟨w.heap.size, 3, none⟩ (.int .i64 md'.rt)) = W
      obtain ⟨hbF, honF, hszF, hBF⟩ := Blk.four HR6.out _ _ _ _ W hW.symm
      have hcW : ∀ j, W.cell? ⟨w.heap.size, j, none⟩ = (#[.slice r.a r.n r.c, .bool md'.has, .int .i64 md'.op, .int .i64 md'.rt] : Array Value)[j]? := hbF.cell
      have hzo : w.heap.size < w6.heap.size := HR6.out.lt
      refine bodyPost_ret (v := .tuple #[.slice a6 L.length c6, .agg #[.slice r.a r.n r.c, .bool md'.has, .int .i64 md'.op, .int .i64 md'.rt], .int .i64 0]) (by simp [results, Try.results25, go_sem, hcW]) rfl ⟨a6, c6, r, rfl, ?_, ?_, HB6.out.trans (hBF _ (Nat.le_refl _))⟩
      · exact (HO6.out.on (honF.less fun b hb => hb.2)).more fun b hb => by omega
      · exact Row.more (Row.on HD6.out (honF.less fun b hb => by show b ≠ w.heap.size; omega)) fun b hb => by omega
  · go_wp2_with (with_reducible refine stop_at (.call { callee := .builtin .append, args := #[.tmp 26, .tmp 29], argTypes := #[38, 38] }) rfl ?_)
    unfold Hold
    have hx0 : Blk (w1.alloc (.cells #[.int .i64 o.kind, .slice s.d.a s.d.n s.d.c, .slice s.e.a s.e.n s.e.c, .string o.target, .int .i64 o.peer, .slice (some ⟨qb, qo, none⟩) (us.length + 1) qc, .int .i64 o.proc, .int .i64 o.links, .int .i64 o.up] 40)) (w.heap.size + 1) #[.int .i64 o.kind, .slice s.d.a s.d.n s.d.c, .slice s.e.a s.e.n s.e.c, .string o.target, .int .i64 o.peer, .slice (some ⟨qb, qo, none⟩) (us.length + 1) qc, .int .i64 o.proc, .int .i64 o.links, .int .i64 o.up] 40 := by rw [← hz1]; exact Blk.new w1 _ _
    have hx1 := (hx0.alloc (.cells #[.slice r.a r.n r.c, .bool md'.has, .int .i64 md'.op, .int .i64 md'.rt] 49)).alloc (.cells #[] 49)
    have hy1 : Blk (((w1.alloc (.cells #[.int .i64 o.kind, .slice s.d.a s.d.n s.d.c, .slice s.e.a s.e.n s.e.c, .string o.target, .int .i64 o.peer, .slice (some ⟨qb, qo, none⟩) (us.length + 1) qc, .int .i64 o.proc, .int .i64 o.links, .int .i64 o.up] 40)).alloc (.cells #[.slice r.a r.n r.c, .bool md'.has, .int .i64 md'.op, .int .i64 md'.rt] 49)).alloc (.cells #[] 49)) (w.heap.size + 2) #[.slice r.a r.n r.c, .bool md'.has, .int .i64 md'.op, .int .i64 md'.rt] 49 := by
      have h := (Blk.new (w1.alloc (.cells #[.int .i64 o.kind, .slice s.d.a s.d.n s.d.c, .slice s.e.a s.e.n s.e.c, .string o.target, .int .i64 o.peer, .slice (some ⟨qb, qo, none⟩) (us.length + 1) qc, .int .i64 o.proc, .int .i64 o.links, .int .i64 o.up] 40)) #[.slice r.a r.n r.c, .bool md'.has, .int .i64 md'.op, .int .i64 md'.rt] 49).alloc (.cells #[] 49)
      have e : (w1.alloc (.cells #[.int .i64 o.kind, .slice s.d.a s.d.n s.d.c, .slice s.e.a s.e.n s.e.c, .string o.target, .int .i64 o.peer, .slice (some ⟨qb, qo, none⟩) (us.length + 1) qc, .int .i64 o.proc, .int .i64 o.links, .int .i64 o.up] 40)).heap.size = w.heap.size + 2 := by simp; omega
      rw [e] at h
      exact h
    have hn1 : Blk (((w1.alloc (.cells #[.int .i64 o.kind, .slice s.d.a s.d.n s.d.c, .slice s.e.a s.e.n s.e.c, .string o.target, .int .i64 o.peer, .slice (some ⟨qb, qo, none⟩) (us.length + 1) qc, .int .i64 o.proc, .int .i64 o.links, .int .i64 o.up] 40)).alloc (.cells #[.slice r.a r.n r.c, .bool md'.has, .int .i64 md'.op, .int .i64 md'.rt] 49)).alloc (.cells #[] 49)) (w.heap.size + 3) #[] 49 := by
      have h := Blk.new ((w1.alloc (.cells #[.int .i64 o.kind, .slice s.d.a s.d.n s.d.c, .slice s.e.a s.e.n s.e.c, .string o.target, .int .i64 o.peer, .slice (some ⟨qb, qo, none⟩) (us.length + 1) qc, .int .i64 o.proc, .int .i64 o.links, .int .i64 o.up] 40)).alloc (.cells #[.slice r.a r.n r.c, .bool md'.has, .int .i64 md'.op, .int .i64 md'.rt] 49)) #[] 49
      have e : ((w1.alloc (.cells #[.int .i64 o.kind, .slice s.d.a s.d.n s.d.c, .slice s.e.a s.e.n s.e.c, .string o.target, .int .i64 o.peer, .slice (some ⟨qb, qo, none⟩) (us.length + 1) qc, .int .i64 o.proc, .int .i64 o.links, .int .i64 o.up] 40)).alloc (.cells #[.slice r.a r.n r.c, .bool md'.has, .int .i64 md'.op, .int .i64 md'.rt] 49)).heap.size = w.heap.size + 3 := by simp; omega
      rw [e] at h
      exact h
    have hr1 := ((HK.out.alloc (.cells #[.int .i64 o.kind, .slice s.d.a s.d.n s.d.c, .slice s.e.a s.e.n s.e.c, .string o.target, .int .i64 o.peer, .slice (some ⟨qb, qo, none⟩) (us.length + 1) qc, .int .i64 o.proc, .int .i64 o.links, .int .i64 o.up] 40)).alloc (.cells #[.slice r.a r.n r.c, .bool md'.has, .int .i64 md'.op, .int .i64 md'.rt] 49)).alloc (.cells #[] 49)
    have hon1 : On (fun b => b < w1.heap.size) w1 (((w1.alloc (.cells #[.int .i64 o.kind, .slice s.d.a s.d.n s.d.c, .slice s.e.a s.e.n s.e.c, .string o.target, .int .i64 o.peer, .slice (some ⟨qb, qo, none⟩) (us.length + 1) qc, .int .i64 o.proc, .int .i64 o.links, .int .i64 o.up] 40)).alloc (.cells #[.slice r.a r.n r.c, .bool md'.has, .int .i64 md'.op, .int .i64 md'.rt] 49)).alloc (.cells #[] 49)) := ((On.alloc w1 _).trans ((On.alloc _ _).less fun b hb => by simp; omega)).trans ((On.alloc _ _).less fun b hb => by simp; omega)
    have hB1 : Below w.heap.size w (((w1.alloc (.cells #[.int .i64 o.kind, .slice s.d.a s.d.n s.d.c, .slice s.e.a s.e.n s.e.c, .string o.target, .int .i64 o.peer, .slice (some ⟨qb, qo, none⟩) (us.length + 1) qc, .int .i64 o.proc, .int .i64 o.links, .int .i64 o.up] 40)).alloc (.cells #[.slice r.a r.n r.c, .bool md'.has, .int .i64 md'.op, .int .i64 md'.rt] 49)).alloc (.cells #[] 49)) := ((HB.out.alloc HB.out.size _).alloc (by simp; omega) _).alloc (by simp; omega) _
    have hzA : (((w1.alloc (.cells #[.int .i64 o.kind, .slice s.d.a s.d.n s.d.c, .slice s.e.a s.e.n s.e.c, .string o.target, .int .i64 o.peer, .slice (some ⟨qb, qo, none⟩) (us.length + 1) qc, .int .i64 o.proc, .int .i64 o.links, .int .i64 o.up] 40)).alloc (.cells #[.slice r.a r.n r.c, .bool md'.has, .int .i64 md'.op, .int .i64 md'.rt] 49)).alloc (.cells #[] 49)).heap.size = w.heap.size + 4 := by simp; omega
    generalize ((w1.alloc (.cells #[.int .i64 o.kind, .slice s.d.a s.d.n s.d.c, .slice s.e.a s.e.n s.e.c, .string o.target, .int .i64 o.peer, .slice (some ⟨qb, qo, none⟩) (us.length + 1) qc, .int .i64 o.proc, .int .i64 o.links, .int .i64 o.up] 40)).alloc (.cells #[.slice r.a r.n r.c, .bool md'.has, .int .i64 md'.op, .int .i64 md'.rt] 49)).alloc (.cells #[] 49) = w3 at *
    have hS1 : ∀ b, S b → b < w1.heap.size := fun b hb => by have := HS.out b hb; omega
    obtain ⟨i0, hi0, hz0, hzb, hzc⟩ := info_parts Try.infoMsg
    refine wpList_append_row rfl _ _ _ rfl (w.heap.size + 3) 49 i0 (.agg #[.slice none 0 0, .bool false, .int .i64 0, .int .i64 0]) 4 48 Try.underlying38 hi0 hz0 hzb hzc rfl (by decide) (.slice (some ⟨w.heap.size + 3, 0, none⟩) 0 0) [] rfl ⟨by simp, Or.inr ⟨w.heap.size + 3, 0, #[], rfl, Nat.le_refl _, hn1, Nat.le_refl _, Nat.zero_le _, by simp, by simp⟩⟩ (.slice (some ⟨qb, qo + 4, none⟩) us.length (qc - 1)) S (us.map msgC) rfl (Row.on (HU5.out (some ⟨qb, qo + 4, none⟩) (by first | exact Or.inr ⟨hq1, rfl⟩ | exact Or.inr rfl | simp [hq1])) (hon1.less hS1)) (even_msg us) (ones_msg us) ?_ (by decide) (by omega) ?_
    · rw [List.length_nil, List.length_map]; omega
    intro v4 w4 ho4 hg4
    rw [List.nil_append] at ho4
    obtain ⟨r4, rfl⟩ := ho4.sl
    have hgk : ∀ k, (Value.slice (some ⟨w.heap.size + 3, 0, none⟩) 0 0).ownBlock = some k → k = w.heap.size + 3 := fun k hk => by simp [Value.ownBlock] at hk; exact hk.symm
    have hon4 : On (fun b => b < w3.heap.size ∧ b ≠ w.heap.size + 3) w3 w4 := fun b hb => hg4.block b hb.1 fun e => hb.2 (hgk b e.symm)
    have hB4 : Below w.heap.size w w4 := hB1.grown hg4 (by omega) (fun k hk => by rw [hgk k hk]; omega)
    have hz4 : w3.heap.size ≤ w4.heap.size := (Below.grown (Below.refl 0 w3) hg4 (Nat.zero_le _) (fun _ _ => Nat.zero_le _)).size
    have hx4 := hx1.on hon4 ⟨by omega, by omega⟩
    have hy4 := hy1.on hon4 ⟨by omega, by omega⟩
    have hr4 := hr1.on hon4 ⟨by omega, by omega⟩
    have x4 := hx4.cell
    have xf4 := hx4.free
    have HX4 : Hid (Blk w4 (w.heap.size + 1) #[.int .i64 o.kind, .slice s.d.a s.d.n s.d.c, .slice s.e.a s.e.n s.e.c, .string o.target, .int .i64 o.peer, .slice (some ⟨qb, qo, none⟩) (us.length + 1) qc, .int .i64 o.proc, .int .i64 o.links, .int .i64 o.up] 40) := hx4
    have HY4 : Hid (Blk w4 (w.heap.size + 2) #[.slice r.a r.n r.c, .bool md'.has, .int .i64 md'.op, .int .i64 md'.rt] 49) := hy4
    have HR4 : Hid (Blk w4 w.heap.size #[.slice none 0 0, .bool false, .int .i64 0, .int .i64 0] 49) := hr4
    have HM4 : Hid (Mine w4 (w.heap.size + 3) 49 4 (.slice r4.a r4.n r4.c) (us.map msgC)) := ho4
    have HON4 : Hid (On (fun b => b < w1.heap.size) w1 w4) := hon1.trans (hon4.less fun b hb => ⟨by omega, by omega⟩)
    have HB4 : Hid (Below w.heap.size w w4) := hB4
    clear hi0 hz0 hzb hzc ho4 hg4 hgk hon4 hB4 hx4 hy4 hr4 hx0 hx1 hy1 hn1 hr1 hon1 hB1 c0 c1 c2 c3 c4 c5 c6 c7 c8 m0 m1 m2 m3
    go_upto_region 7 with fail
    have on5 := On.set w4 ⟨w.heap.size + 1, 5, none⟩ (.slice r4.a r4.n r4.c)
    have hx5 : Blk (w4.setCell ⟨w.heap.size + 1, 5, none⟩ (.slice r4.a r4.n r4.c)) (w.heap.size + 1) #[.int .i64 o.kind, .slice s.d.a s.d.n s.d.c, .slice s.e.a s.e.n s.e.c, .string o.target, .int .i64 o.peer, .slice r4.a r4.n r4.c, .int .i64 o.proc, .int .i64 o.links, .int .i64 o.up] 40 := HX4.out.set 5 _
    have hy5 := HY4.out.on on5 (by show w.heap.size + 2 ≠ w.heap.size + 1; omega)
    have hr5 := HR4.out.on on5 (by show w.heap.size ≠ w.heap.size + 1; omega)
    have hm5 := HM4.out.on on5 fun g hg => by have := (HM4.out.lt g hg).1; show g ≠ w.heap.size + 1; omega
    have hon5 : On S w1 (w4.setCell ⟨w.heap.size + 1, 5, none⟩ (.slice r4.a r4.n r4.c)) := (HON4.out.less hS1).trans (on5.less fun b hb => by have := HS.out b hb; show b ≠ w.heap.size + 1; omega)
    have hB5 : Below w.heap.size w (w4.setCell ⟨w.heap.size + 1, 5, none⟩ (.slice r4.a r4.n r4.c)) := HB4.out.setCell (by show w.heap.size ≤ w.heap.size + 1; omega) _
    have hz5 : (w4.setCell ⟨w.heap.size + 1, 5, none⟩ (.slice r4.a r4.n r4.c)).heap.size = w4.heap.size := by simp
    generalize w4.setCell ⟨w.heap.size + 1, 5, none⟩ (.slice r4.a r4.n r4.c) = w5 at *
    have HW : Hid (Calls Try.prog 30 #[.slice (some ⟨b, of, none⟩) L.length c, .int .i64 i, .agg #[.int .i64 o.kind, .slice s.d.a s.d.n s.d.c, .slice s.e.a s.e.n s.e.c, .string o.target, .int .i64 o.peer, .slice r4.a r4.n r4.c, .int .i64 o.proc, .int .i64 o.links, .int .i64 o.up]] w5.drew fun e w' => ∃ a c, e = .returned (.slice a L.length c) ∧ Objs w' (fun b => b < w'.heap.size ∧ b ≠ w.heap.size) (.slice a L.length c) (Ch.withQ L i o rest) ∧ (∀ j, w'.cell? ⟨w.heap.size + 2, j, none⟩ = (#[.slice r.a r.n r.c, .bool md'.has, .int .i64 md'.op, .int .i64 md'.rt] : Array Value)[j]?) ∧ Blk w' w.heap.size #[.slice none 0 0, .bool false, .int .i64 0, .int .i64 0] 49 ∧ Bytes w' (fun b => b < w.heap.size) (.slice r.a r.n r.c) md'.data ∧ Below w.heap.size w w') := by
      have hLq : Lists w5 (Or' S (w.heap.size + 3) w5.heap.size) (⟨s.d, s.e, r4⟩, { o with queue := rest }) :=
        ⟨Row.more (Row.on HLI.out.1 hon5) fun b hb => Or.inl hb, Row.more (Row.on HLI.out.2.1 hon5) fun b hb => Or.inl hb, us, HUS.out.symm, (hm5.row (even_msg us)).more fun b hb => Or.inr hb, fun t ht => Row.more (Row.on (HU3.out t (List.mem_cons_of_mem _ ht)) hon5) fun b hb => Or.inl hb⟩
      have hW := rwith_any L i ⟨s.d, s.e, r4⟩ { o with queue := rest } (.slice (some ⟨b, of, none⟩) L.length c) (Or' S (w.heap.size + 3) w5.heap.size) w5.drew ((HV1.out.on hon5).more fun b hb => Or.inl hb) (fun b hb => hb.elim (fun h => by have := HS.out b h; show b < w5.heap.size; omega) fun h => h.2) HN.out (by omega) hLq
      have eW : Sp.rwith L i { o with queue := rest } = Ch.withQ L i o rest := by
        unfold Sp.rwith Ch.withQ
        rw [if_neg (by omega)]
      have eL : (Ch.withQ L i o rest).length = L.length := by unfold Ch.withQ; rw [List.length_set]
      rw [eW, eL, objV_eq] at hW
      refine hW.mono ?_
      rintro e w' ⟨a, c', rfl, ho, hb⟩
      have hbz : w5.heap.size ≤ w'.heap.size := hb.size
      have hb' : Below w5.heap.size w5 w' := (Below.refl _ _).drew.trans hb
      exact ⟨a, c', rfl, ho.more fun b hb => by
        rcases hb with (h | h) | h
        · have := HS.out b h; exact ⟨by omega, by omega⟩
        · exact ⟨by omega, by omega⟩
        · exact ⟨h.2, by have h1 : w5.heap.size ≤ b := h.1; omega⟩, (hy5.below hb' hy5.lt).cell, hr5.below hb' hr5.lt, Row.more (Row.on (HU3.out (r, md') List.mem_cons_self) (hon5.trans ((On.of hb').less fun b hb => by have := HS.out b hb; omega))) fun b hb => HS.out b hb, hB5.trans (hb'.mono hB5.size)⟩
    have x5 := hx5.cell
    have y5 := hy5.cell
    have hl5 : w.heap.size + 4 ≤ w5.heap.size := by omega
    clear on5 hx5 hy5 hr5 hm5 hon5 hB5 hz5 x4 xf4 HX4 HY4 HR4 HM4 HON4 HB4
    go_region_with (go_at_call 30; refine Calls.mono HW.out ?_; rintro e w6 ⟨a6, c6, rfl, ho6, hy6, hr6, hd6, hb6⟩; have z6 := hr6.cell; have zf6 := hr6.free; have HO6 : Hid (Objs w6 (fun b => b < w6.heap.size ∧ b ≠ w.heap.size) (.slice a6 L.length c6) (Ch.withQ L i o rest)) := ho6; have HR6 : Hid (Blk w6 w.heap.size #[.slice none 0 0, .bool false, .int .i64 0, .int .i64 0] 49) := hr6; have HD6 : Hid (Bytes w6 (fun b => b < w.heap.size) (.slice r.a r.n r.c) md'.data) := hd6; have HB6 : Hid (Below w.heap.size w w6) := hb6; clear ho6 hr6 hd6 hb6)
    all_goals
      go_wp2
      generalize hW : ((((w6.setCell ⟨w.heap.size, 0, none⟩ (.slice r.a r.n r.c)).setCell ⟨w.heap.size, 1, none⟩ (.bool md'.has)).setCell ⟨w.heap.size, 2, none⟩ (.int .i64 md'.op)).setCell ⟨w.heap.size, 3, none⟩ (.int .i64 md'.rt)) = W
      obtain ⟨hbF, honF, hszF, hBF⟩ := Blk.four HR6.out _ _ _ _ W hW.symm
      have hcW : ∀ j, W.cell? ⟨w.heap.size, j, none⟩ = (#[.slice r.a r.n r.c, .bool md'.has, .int .i64 md'.op, .int .i64 md'.rt] : Array Value)[j]? := hbF.cell
      have hzo : w.heap.size < w6.heap.size := HR6.out.lt
      refine bodyPost_ret (v := .tuple #[.slice a6 L.length c6, .agg #[.slice r.a r.n r.c, .bool md'.has, .int .i64 md'.op, .int .i64 md'.rt], .int .i64 0]) (by simp [results, Try.results25, go_sem, hcW]) rfl ⟨a6, c6, r, rfl, ?_, ?_, HB6.out.trans (hBF _ (Nat.le_refl _))⟩
      · exact (HO6.out.on (honF.less fun b hb => hb.2)).more fun b hb => by omega
      · exact Row.more (Row.on HD6.out (honF.less fun b hb => by show b ≠ w.heap.size; omega)) fun b hb => by omega
end Go.Proofs.Ythoacakdmnijcaa
/-
  StoreBack: what comes, and goes: plain facts.
-/
namespace Go.Proofs.Ythoacakdmnijcaa
open Go.RowKit
def obN : Sp.Ob := ⟨1, [], [], ⟨#[]⟩, -1, [], -1, 0, 0⟩
theorem freeFrom_none : ∀ (L : List Sp.Ob) (k : Nat), (∀ o ∈ L, o.kind ≠ 0) → Sp.freeFrom L k = -1
  | [], _, _ => rfl
  | o :: t, k, h => by
    unfold Sp.freeFrom
    rw [if_neg (h o List.mem_cons_self)]
    exact freeFrom_none t (k + 1) fun x hx => h x (List.mem_cons_of_mem _ hx)
theorem tok_mem {L : List Sp.Ob} (h : Sp.TOk L) {o : Sp.Ob} (ho : o ∈ L) : ∃ i, Sp.OOk L i o := by
  obtain ⟨i, hi, rfl⟩ := List.getElem_of_mem ho
  exact ⟨i, h.all i _ (List.getElem?_eq_getElem hi)⟩
theorem fits_ok {L : List Sp.Ob} (h : Sp.TOk L) (hl : L.length ≤ 100) : ∀ o ∈ L, Fits o := fun o ho => by
  obtain ⟨i, hk⟩ := tok_mem h ho
  exact ⟨by have := hk.data; omega, by have := hk.many; omega, by have := hk.queue; omega, fun m hm => by rw [hk.mdata m hm]; decide⟩
theorem links_ok {L : List Sp.Ob} (h : Sp.TOk L) : ∀ o ∈ L, -4611686018427387904 ≤ o.links ∧ o.links ≤ 4611686018427387904 := fun o ho => by
  obtain ⟨i, hk⟩ := tok_mem h ho
  rcases hk.links with e | e <;> omega
theorem app_fits {L : List Sp.Ob} (h : Sp.TOk L) (hl : L.length ≤ 100) : ∀ o ∈ L ++ [obN], Fits o := fun o ho => by
  rcases List.mem_append.1 ho with h1 | h1
  · exact fits_ok h hl o h1
  · simp at h1
    subst h1
    exact ⟨by decide, by decide, by decide, fun m hm => by simp [obN] at hm⟩
theorem app_links {L : List Sp.Ob} (h : Sp.TOk L) : ∀ o ∈ L ++ [obN], -4611686018427387904 ≤ o.links ∧ o.links ≤ 4611686018427387904 := fun o ho => by
  rcases List.mem_append.1 ho with h1 | h1
  · exact links_ok h o h1
  · simp at h1
    subst h1
    exact ⟨by decide, by decide⟩
/-- Where one entry more stands; taken out, all is as it was. -/
theorem ins_at (x : Sp.Ent) : ∀ es : List Sp.Ent, (∀ e ∈ es, Sp.eqB e.name x.name = false) → ∃ i, (insE x es)[i]? = some x ∧ (insE x es).take i ++ (insE x es).drop (i + 1) = es ∧ ∀ j, j < i → ∀ y, (insE x es)[j]? = some y → Sp.eqB y.name x.name = false
  | [], _ => ⟨0, rfl, rfl, fun j hj => by omega⟩
  | e :: t, h => by
    unfold insE
    split
    · exact ⟨0, rfl, rfl, fun j hj => by omega⟩
    · obtain ⟨i, h1, h2, h3⟩ := ins_at x t fun y hy => h y (List.mem_cons_of_mem _ hy)
      refine ⟨i + 1, by simpa using h1, by simpa using h2, fun j hj y hy => ?_⟩
      match j, hy with
      | 0, hy =>
        simp at hy
        subst hy
        exact h _ List.mem_cons_self
      | j + 1, hy => exact h3 j (by omega) y (by simpa using hy)
theorem ins_place (x : Sp.Ent) (es : List Sp.Ent) (h : ∀ e ∈ es, Sp.eqB e.name x.name = false) : ∃ i : Nat, Sp.place (insE x es) x.name = (i : Int) ∧ (insE x es)[i]? = some x ∧ (insE x es).take i ++ (insE x es).drop (i + 1) = es ∧ (insE x es).find? (fun e => Sp.eqB e.name x.name) = some x := by
  obtain ⟨i, h1, h2, h3⟩ := ins_at x es h
  rcases place_cases x.name (insE x es) with ⟨_, g⟩ | ⟨j, y, g1, g2, g3, g4, g5⟩
  · have := List.find?_eq_none.1 g x (List.mem_of_getElem? h1)
    rw [eqB_self] at this
    exact absurd rfl this
  · have hij : j = i := by
      rcases Nat.lt_trichotomy j i with hlt | he | hgt
      · have := h3 j hlt y g2
        rw [g4] at this
        cases this
      · exact he
      · have := g5 i hgt x h1
        rw [eqB_self] at this
        cases this
    subst hij
    rw [h1] at g2
    cases g2
    exact ⟨j, g1, h1, h2, g3⟩
theorem name_none {es : List Sp.Ent} {name : ByteArray} (h : Sp.place es name = -1) : ∀ e ∈ es, Sp.eqB e.name name = false := fun e he => by
  rcases place_cases name es with ⟨_, g⟩ | ⟨j, y, g1, _⟩
  · have := List.find?_eq_none.1 g e he
    simpa using this
  · rw [g1] at h; omega
/-- Entered: one entry more, one link. -/
theorem back_in {L : List Sp.Ob} {d : Nat} {od : Sp.Ob} (hd : L[d]? = some od) (es : List Sp.Ent) : Sp.relinked (Sp.withEnts (L ++ [obN]) d es) L.length 1 (d : Int) = L.set d { od with ents := es } ++ [{ obN with links := 1 }] := by
  have hdl := (List.getElem?_eq_some_iff.1 hd).1
  unfold Sp.withEnts
  rw [List.getElem?_append_left hdl, hd]
  dsimp only
  unfold Sp.relinked
  rw [List.set_append_left _ _ hdl, List.getElem?_append_right (by simp)]
  simp only [List.length_set, Nat.sub_self, List.getElem?_cons_zero]
  rw [List.set_append_right _ _ (by simp)]
  simp only [List.length_set, Nat.sub_self, List.set_cons_zero]
  rfl
theorem back_out {L : List Sp.Ob} {d : Nat} {od : Sp.Ob} (hd : L[d]? = some od) (es : List Sp.Ent) : Sp.relinked (Sp.withEnts (L.set d { od with ents := es } ++ [{ obN with links := 1 }]) d od.ents) L.length (-1) (L.length : Int) = L ++ [obN] := by
  have hdl := (List.getElem?_eq_some_iff.1 hd).1
  have hself : L.set d od = L := by
    have := List.getElem?_eq_some_iff.1 hd
    obtain ⟨h1, h2⟩ := this
    rw [← h2, List.set_getElem_self]
  unfold Sp.withEnts
  rw [List.getElem?_append_left (by simpa using hdl), List.getElem?_set_self hdl]
  dsimp only
  rw [List.set_append_left _ _ (by simpa using hdl), List.set_set]
  unfold Sp.relinked
  rw [List.getElem?_append_right (by simp)]
  simp only [List.length_set, Nat.sub_self, List.getElem?_cons_zero]
  rw [List.set_append_right _ _ (by simp)]
  simp only [List.length_set, Nat.sub_self, List.set_cons_zero]
  have e : ({ ({ od with ents := es } : Sp.Ob) with ents := od.ents }) = od := rfl
  rw [e, hself]
  rfl
theorem back_find {L : List Sp.Ob} {d : Nat} {od : Sp.Ob} (x : Sp.Ent) (hd : L[d]? = some od) (hk : od.kind = 2) (M : List Sp.Ob) (es : List Sp.Ent) (hf : es.find? (fun e => Sp.eqB e.name x.name) = some x) : Sp.find (L.set d { od with ents := es } ++ M) (d : Int) x.name = x.obj := by
  have hdl := (List.getElem?_eq_some_iff.1 hd).1
  unfold Sp.find
  rw [objAt_of (o := { od with ents := es }) (by rw [List.getElem?_append_left (by simpa using hdl), List.getElem?_set_self hdl]) (by show od.kind ≠ 0; omega)]
  dsimp only
  rw [if_pos hk, hf]
end Go.Proofs.Ythoacakdmnijcaa
/-
  What lies there lies there later, too.
-/
namespace Go.Proofs.Ythoacakdmnijcaa
open Go.RowKit
theorem Objs.later {W W' : World} {v : Value} {L : List Sp.Ob} (h : Objs W (fun x => x < W.heap.size) v L) (hb : Below W.heap.size W W') : Objs W' (fun x => x < W'.heap.size) v L := (h.on (On.of hb)).more fun _ hx => Nat.lt_of_lt_of_le hx hb.size
theorem Row.later {k : Nat} {css : List (List Value)} {W W' : World} {v : Value} (h : Row W (fun x => x < W.heap.size) k v css) (hb : Below W.heap.size W W') : Row W' (fun x => x < W'.heap.size) k v css := (h.on (On.of hb)).more fun _ hx => Nat.lt_of_lt_of_le hx hb.size
end Go.Proofs.Ythoacakdmnijcaa
/-
  Package channel and the document's answer, side by side, over a store of Build's.
-/
namespace Go.Proofs.Ythoacakdmnijcaa
open Go.RowKit
theorem cor_lt {S : Nat → Prop} {w w' : World} (hS : ∀ b, S b → b < w.heap.size) (hb : Below w.heap.size w w') : ∀ b, Or' S w.heap.size w'.heap.size b → b < w'.heap.size := fun b h => h.elim (fun h => Nat.lt_of_lt_of_le (hS b h) hb.size) (fun h => h.2)
theorem cobjs_nil (w : World) (S : Nat → Prop) : Objs w S (.slice none 0 0) [] := ⟨[], rfl, Row.nil _ _ _ _ _, fun t ht => by simp at ht⟩
/-- Pair leaves these objects. -/
def PairsAs (f : Nat) (L R : List Sp.Ob) : Prop :=
  ∀ (v : Value) (S : Nat → Prop) (w : World), Objs w S v L → (∀ b, S b → b < w.heap.size) → Calls Try.prog f #[v] w fun e w' => ∃ v', e = .returned (.tuple #[v', .agg #[.int .i64 L.length, .int .i64 (L.length + 1 : Int)], .int .i64 0]) ∧ Objs w' (fun b => b < w'.heap.size) v' R ∧ Below w.heap.size w w'
theorem pair_two (L : List Sp.Ob) (hT : Sp.TOk L) (hL : L.length ≤ 14) : ∃ R, PairsAs 19 L R ∧ PairsAs 20 L R := by
  have hk : ∀ o ∈ L, o.kind ≠ 0 := fun o ho => by
    obtain ⟨i, hi, rfl⟩ := List.getElem_of_mem ho
    have := (hT.all i _ (List.getElem?_eq_getElem hi)).kind
    omega
  refine ⟨L ++ [obE (L.length + 1 : Int), obE L.length], fun v S w hv hS => ?_, fun v S w hv hS => ?_⟩
  · refine (cpair_ok L v S w hv hS (fits_ok hT (by omega)) (by omega) hk).mono ?_
    rintro e w' ⟨a, c, rfl, ho, hb⟩
    exact ⟨_, rfl, ho.more fun b hb => hb.2, hb⟩
  · refine (pair_ok L v S w hv hS (by omega) hk).mono ?_
    rintro e w' ⟨a, c, rfl, ho, hb⟩
    exact ⟨_, rfl, ho.more (cor_lt hS hb), hb⟩
/-- Send leaves these objects, and this error. -/
def SendsAs (f : Nat) (L : List Sp.Ob) (k : Int) (m : Sp.Msg) (R : List Sp.Ob) (er : Int) : Prop :=
  ∀ (s : Sl) (v : Value) (S : Nat → Prop) (w : World), Objs w S v L → (∀ b, S b → b < w.heap.size) → Bytes w S (.slice s.a s.n s.c) m.data → Calls Try.prog f #[v, .int .i64 k, msgV (s, m)] w fun e w' => ∃ v', e = .returned (.tuple #[v', .int .i64 er]) ∧ Objs w' (fun b => b < w'.heap.size) v' R ∧ Below w.heap.size w w'
theorem send_two (L : List Sp.Ob) (k : Int) (m : Sp.Msg) (hT : Sp.TOk L) (hL : L.length ≤ 14) : ∃ R er, SendsAs 22 L k m R er ∧ SendsAs 23 L k m R er := by
  by_cases h0 : Ch.noSend L k m.data.length = 0
  · obtain ⟨i, q, o, oq, rfl, hi, hk, hp, hq, hkq, h60, h4⟩ := noSend_zero h0
    refine ⟨Ch.withQ L q oq (oq.queue ++ [m]), 0, fun s v S w hv hS hb => ?_, fun s v S w hv hS hb => ?_⟩
    · refine (csend_ok L i q o oq (s, m) v S w hv hS hb (fits_ok hT (by omega)) (by omega) h0 hi hp hq h60 h4).mono ?_
      rintro e w' ⟨a, c, rfl, ho, hb⟩
      exact ⟨_, rfl, ho.more fun b hb => hb.2, hb⟩
    · refine (rsend_ok L i q o oq (s, m) v S w hv hS hb (by omega) hi hk hp hq hkq h60 h4).mono ?_
      rintro e w' ⟨a, c, rfl, ho, hb⟩
      exact ⟨_, rfl, ho, hb⟩
  · refine ⟨[], Ch.noSend L k m.data.length, fun s v S w hv hS hb => ?_, fun s v S w hv hS hb => ?_⟩
    · refine (csend_err L k (s, m) v S w hv hS hb h0).mono ?_
      rintro e w' ⟨rfl, hb⟩
      exact ⟨_, rfl, cobjs_nil _ _, hb⟩
    · refine (rsend_err L k (s, m) v S w hv hS hb h0).mono ?_
      rintro e w' ⟨rfl, hb⟩
      exact ⟨_, rfl, cobjs_nil _ _, hb⟩
/-- Recv leaves these objects, this message, and this error. -/
def RecvsAs (f : Nat) (L : List Sp.Ob) (k : Int) (m : Sp.Msg) (R : List Sp.Ob) (er : Int) : Prop :=
  ∀ (v : Value) (S : Nat → Prop) (w : World), Objs w S v L → (∀ b, S b → b < w.heap.size) → Calls Try.prog f #[v, .int .i64 k] w fun e w' => ∃ v' r, e = .returned (.tuple #[v', msgV (r, m), .int .i64 er]) ∧ Objs w' (fun b => b < w'.heap.size) v' R ∧ Bytes w' (fun b => b < w'.heap.size) (.slice r.a r.n r.c) m.data ∧ Below w.heap.size w w'
theorem recv_two (L : List Sp.Ob) (k : Int) (hT : Sp.TOk L) (hL : L.length ≤ 14) : ∃ R m er, RecvsAs 24 L k m R er ∧ RecvsAs 25 L k m R er := by
  by_cases h0 : Ch.noRecv L k = 0
  · obtain ⟨i, o, rfl, hi, hk, h1⟩ := noRecv_zero h0
    obtain ⟨m, rest, hq⟩ : ∃ m rest, o.queue = m :: rest := by
      cases hq : o.queue with
      | nil => rw [hq] at h1; simp at h1
      | cons m t => exact ⟨m, t, rfl⟩
    have hfo := fits_ok hT (by omega) o (List.mem_of_getElem? hi)
    have hql : rest.length ≤ 1000 := by
      have := (hT.all i o hi).queue
      rw [hq, List.length_cons] at this
      omega
    refine ⟨Ch.withQ L i o rest, m, 0, fun v S w hv hS => ?_, fun v S w hv hS => ?_⟩
    · refine (crecv_ok L i o m rest v S w hv hS (fits_ok hT (by omega)) (by omega) h0 hi hq).mono ?_
      rintro e w' ⟨a, c, r, rfl, ho, hr, hb⟩
      exact ⟨_, r, rfl, ho.more fun b hb => hb.2, Row.more hr fun b hb => hb.2, hb⟩
    · refine (rrecv_ok L i o m rest v S w hv hS (by omega) hi hk hq hql).mono ?_
      rintro e w' ⟨a, c, r, rfl, ho, hr, hb⟩
      exact ⟨_, r, rfl, ho, hr, hb⟩
  · refine ⟨[], msg0, Ch.noRecv L k, fun v S w hv hS => ?_, fun v S w hv hS => ?_⟩
    · refine (crecv_err L k v S w hv hS h0).mono ?_
      rintro e w' ⟨rfl, hb⟩
      exact ⟨_, nilSl, rfl, cobjs_nil _ _, Row.nil _ _ _ _ _, hb⟩
    · refine (rrecv_err L k v S w hv hS h0).mono ?_
      rintro e w' ⟨rfl, hb⟩
      exact ⟨_, nilSl, rfl, cobjs_nil _ _, Row.nil _ _ _ _ _, hb⟩
end Go.Proofs.Ythoacakdmnijcaa
/-
  Two ends behind a list, with what waits at each: what Pair, Send, Recv make of it.
-/
namespace Go.Proofs.Ythoacakdmnijcaa
open Go.RowKit
namespace Ch
def eQ (p : Int) (q : List Sp.Msg) : Sp.Ob := ⟨4, [], [], ⟨#[]⟩, p, q, -1, 0, 0⟩
def st (L : List Sp.Ob) (q : Bool → List Sp.Msg) : List Sp.Ob := L ++ [eQ (L.length + 1 : Int) (q false), eQ L.length (q true)]
def num (L : List Sp.Ob) (x : Bool) : Nat := L.length + x.toNat
def upd (q : Bool → List Sp.Msg) (y : Bool) (l : List Sp.Msg) : Bool → List Sp.Msg := fun z => if z = y then l else q z
def okQ (q : Bool → List Sp.Msg) : Prop := ∀ x, (q x).length ≤ 4 ∧ ∀ m ∈ q x, m.data.length ≤ 60
theorem st_len (L : List Sp.Ob) (q : Bool → List Sp.Msg) : (st L q).length = L.length + 2 := by unfold st; simp
theorem st_at (L : List Sp.Ob) (q : Bool → List Sp.Msg) (x : Bool) : (st L q)[num L x]? = some (eQ (num L (!x)) (q x)) := by
  unfold st num
  cases x with
  | false =>
    rw [List.getElem?_append_right (by simp)]
    simp
  | true =>
    rw [List.getElem?_append_right (by simp)]
    simp
theorem st_obj (L : List Sp.Ob) (q : Bool → List Sp.Msg) (x : Bool) : Sp.objAt (st L q) (num L x) = some (eQ (num L (!x)) (q x)) := by
  rw [objAt_nat, st_at]
  rfl
theorem st_is (L : List Sp.Ob) (q : Bool → List Sp.Msg) (x : Bool) : Sp.is (st L q) (num L x) 4 = true := by
  unfold Sp.is
  rw [st_obj]
  rfl
theorem st_peer (L : List Sp.Ob) (q : Bool → List Sp.Msg) (x : Bool) : peerOf (st L q) (num L x) = num L (!x) := by
  unfold peerOf
  rw [st_obj]
  rfl
theorem st_waits (L : List Sp.Ob) (q : Bool → List Sp.Msg) (x : Bool) : waits (st L q) (num L x) = (q x).length := by
  unfold waits
  rw [st_obj]
  rfl
theorem st_noSend (L : List Sp.Ob) (q : Bool → List Sp.Msg) (x : Bool) (n : Nat) : noSend (st L q) (num L x) n = if 60 < n then 4 else if 4 ≤ (q (!x)).length then 15 else 0 := by
  unfold noSend
  rw [st_is, if_neg (by decide), st_peer, st_is, if_neg (by decide), st_waits]
theorem st_noRecv (L : List Sp.Ob) (q : Bool → List Sp.Msg) (x : Bool) : noRecv (st L q) (num L x) = if 0 < (q x).length then 0 else 16 := by
  unfold noRecv
  rw [st_is, if_neg (by decide), st_waits, st_peer, st_is]
  rfl
theorem st_with (L : List Sp.Ob) (q : Bool → List Sp.Msg) (x : Bool) (l : List Sp.Msg) : withQ (st L q) (num L x) (eQ (num L (!x)) (q x)) l = st L (upd q x l) := by
  unfold withQ st num upd
  cases x with
  | false =>
    rw [List.set_append_right _ _ (by simp)]
    simp [eQ]
  | true =>
    rw [List.set_append_right _ _ (by simp)]
    simp [eQ]
theorem st_fits {L : List Sp.Ob} {q : Bool → List Sp.Msg} (hf : ∀ o ∈ L, Fits o) (hq : okQ q) : ∀ o ∈ st L q, Fits o := by
  intro o ho
  rcases List.mem_append.1 ho with h | h
  · exact hf o h
  · have key : ∀ (p : Int) (x : Bool), Fits (eQ p (q x)) := fun p x => ⟨Nat.zero_le _, Nat.zero_le _, by have := (hq x).1; show (q x).length ≤ _; omega, fun m hm => by have := (hq x).2 m hm; omega⟩
    simp at h
    rcases h with rfl | rfl
    · exact key _ _
    · exact key _ _
theorem okQ_none : okQ (fun _ => []) := fun _ => ⟨Nat.zero_le _, fun m hm => by simp at hm⟩
theorem okQ_upd {q : Bool → List Sp.Msg} (hq : okQ q) (y : Bool) {l : List Sp.Msg} (h1 : l.length ≤ 4) (h2 : ∀ m ∈ l, m.data.length ≤ 60) : okQ (upd q y l) := by
  intro x
  unfold upd
  split
  · exact ⟨h1, h2⟩
  · exact hq x
end Ch
theorem spair (L : List Sp.Ob) (v : Value) (S : Nat → Prop) (w : World) (hv : Objs w S v L) (hS : ∀ b, S b → b < w.heap.size) (hf : ∀ o ∈ L, Fits o) (hn : L.length < 38) (hnf : ∀ o ∈ L, o.kind ≠ 0) :
    Calls Try.prog 19 #[v] w fun e w' => ∃ a c, e = .returned (.tuple #[.slice a (L.length + 2) c, .agg #[.int .i64 L.length, .int .i64 (L.length + 1 : Int)], .int .i64 0]) ∧ Objs w' (fun b => b < w'.heap.size) (.slice a (L.length + 2) c) (Ch.st L fun _ => []) ∧ Below w.heap.size w w' := by
  refine (cpair_ok L v S w hv hS hf hn hnf).mono ?_
  rintro e w' ⟨a, c, rfl, ho, hb⟩
  exact ⟨a, c, rfl, ho.more fun b hb => hb.2, hb⟩
theorem ssend_ok (L : List Sp.Ob) (q : Bool → List Sp.Msg) (x : Bool) (t : Sl × Sp.Msg) (v : Value) (S : Nat → Prop) (w : World) (hv : Objs w S v (Ch.st L q)) (hS : ∀ b, S b → b < w.heap.size) (hm : Bytes w S (.slice t.1.a t.1.n t.1.c) t.2.data) (hf : ∀ o ∈ L, Fits o) (hq : Ch.okQ q) (hn : L.length ≤ 1000) (h60 : t.2.data.length ≤ 60) (h4 : (q (!x)).length < 4) :
    Calls Try.prog 22 #[v, .int .i64 (Ch.num L x), msgV t] w fun e w' => ∃ a c, e = .returned (.tuple #[.slice a (L.length + 2) c, .int .i64 0]) ∧ Objs w' (fun b => b < w'.heap.size) (.slice a (L.length + 2) c) (Ch.st L (Ch.upd q (!x) (q (!x) ++ [t.2]))) ∧ Below w.heap.size w w' := by
  have h := csend_ok (Ch.st L q) (Ch.num L x) (Ch.num L (!x)) (Ch.eQ (Ch.num L (!x)) (q x)) (Ch.eQ (Ch.num L x) (q (!x))) t v S w hv hS hm (Ch.st_fits hf hq) (by rw [Ch.st_len]; omega) (by rw [Ch.st_noSend, if_neg (by omega), if_neg (by omega)]) (Ch.st_at L q x) rfl (by have := Ch.st_at L q (!x); rw [Bool.not_not] at this; exact this) h60 h4
  have e := Ch.st_with L q (!x) (q (!x) ++ [t.2])
  rw [Bool.not_not] at e
  rw [show (Ch.eQ (Ch.num L x) (q (!x))).queue = q (!x) from rfl, e, Ch.st_len] at h
  refine h.mono ?_
  rintro e w' ⟨a, c, rfl, ho, hb⟩
  exact ⟨a, c, rfl, ho.more fun b hb => hb.2, hb⟩
theorem ssend_err (L : List Sp.Ob) (q : Bool → List Sp.Msg) (x : Bool) (t : Sl × Sp.Msg) (v : Value) (S : Nat → Prop) (w : World) (hv : Objs w S v (Ch.st L q)) (hS : ∀ b, S b → b < w.heap.size) (hm : Bytes w S (.slice t.1.a t.1.n t.1.c) t.2.data) (h : 60 < t.2.data.length ∨ 4 ≤ (q (!x)).length) :
    Calls Try.prog 22 #[v, .int .i64 (Ch.num L x), msgV t] w fun e w' => e = .returned (.tuple #[.slice none 0 0, .int .i64 (if 60 < t.2.data.length then 4 else 15)]) ∧ Below w.heap.size w w' := by
  have e : Ch.noSend (Ch.st L q) (Ch.num L x) t.2.data.length = if 60 < t.2.data.length then 4 else 15 := by
    rw [Ch.st_noSend]
    by_cases h1 : 60 < t.2.data.length
    · rw [if_pos h1, if_pos h1]
    · rw [if_neg h1, if_neg h1, if_pos (by omega)]
  have := csend_err (Ch.st L q) (Ch.num L x) t v S w hv hS hm (by rw [e]; split <;> decide)
  rw [e] at this
  exact this
theorem srecv_ok (L : List Sp.Ob) (q : Bool → List Sp.Msg) (x : Bool) (m : Sp.Msg) (rest : List Sp.Msg) (v : Value) (S : Nat → Prop) (w : World) (hv : Objs w S v (Ch.st L q)) (hS : ∀ b, S b → b < w.heap.size) (hf : ∀ o ∈ L, Fits o) (hq : Ch.okQ q) (hn : L.length ≤ 1000) (hm : q x = m :: rest) :
    Calls Try.prog 24 #[v, .int .i64 (Ch.num L x)] w fun e w' => ∃ a c r, e = .returned (.tuple #[.slice a (L.length + 2) c, msgV (r, m), .int .i64 0]) ∧ Objs w' (fun b => b < w'.heap.size) (.slice a (L.length + 2) c) (Ch.st L (Ch.upd q x rest)) ∧ Bytes w' (fun b => b < w'.heap.size) (.slice r.a r.n r.c) m.data ∧ Below w.heap.size w w' := by
  have h := crecv_ok (Ch.st L q) (Ch.num L x) (Ch.eQ (Ch.num L (!x)) (q x)) m rest v S w hv hS (Ch.st_fits hf hq) (by rw [Ch.st_len]; omega) (by rw [Ch.st_noRecv, if_pos (by rw [hm]; simp)]) (Ch.st_at L q x) hm
  rw [Ch.st_with, Ch.st_len] at h
  refine h.mono ?_
  rintro e w' ⟨a, c, r, rfl, ho, hr, hb⟩
  exact ⟨a, c, r, rfl, ho.more fun b hb => hb.2, Row.more hr fun b hb => hb.2, hb⟩
theorem srecv_err (L : List Sp.Ob) (q : Bool → List Sp.Msg) (x : Bool) (v : Value) (S : Nat → Prop) (w : World) (hv : Objs w S v (Ch.st L q)) (hS : ∀ b, S b → b < w.heap.size) (hm : q x = []) :
    Calls Try.prog 24 #[v, .int .i64 (Ch.num L x)] w fun e w' => e = .returned (.tuple #[.slice none 0 0, .agg #[.slice none 0 0, .bool false, .int .i64 0, .int .i64 0], .int .i64 16]) ∧ Below w.heap.size w w' := by
  have e : Ch.noRecv (Ch.st L q) (Ch.num L x) = 16 := by rw [Ch.st_noRecv, hm]; rfl
  have := crecv_err (Ch.st L q) (Ch.num L x) v S w hv hS (by rw [e]; decide)
  rw [e] at this
  exact this
end Go.Proofs.Ythoacakdmnijcaa
/-
  rglaw9.alive answers true.
-/
namespace Go.Proofs.Ythoacakdmnijcaa
open Go.RowKit
theorem partA0 (x y : Value) (k : IntKind) (a : Int) (hx : x = .int k a) (w : World) : (part 3 #[x, y] 0).run Try.prog w = .ok x w := by subst hx; kernel_rfl
theorem partA1 (x y : Value) (k : IntKind) (a : Int) (hx : y = .int k a) (w : World) : (part 3 #[x, y] 1).run Try.prog w = .ok y w := by subst hx; kernel_rfl
theorem eqA' (d : Nat) (a b c e : Int) (w : World) : (Op.equalIn (d + 2) 50 (.agg #[.int .i64 a, .int .i64 b]) (.agg #[.int .i64 c, .int .i64 e])).run Try.prog w = .ok (a == c && b == e) w := by
  have hs : ∀ w, (sizeOf 3).run Try.prog w = .ok 1 w := Try.sizeOf3
  have p0 := fun (x y : Int) (w : World) => partA0 (.int .i64 x) (.int .i64 y) .i64 x rfl w
  have p1 := fun (x y : Int) (w : World) => partA1 (.int .i64 x) (.int .i64 y) .i64 y rfl w
  have q := fun (x y : Int) (w : World) => run_equalIn_int w d 3 .i64 .i64 x y Try.underlying3
  rw [Op.equalIn]
  simp only [Sem.run_bind, run_underlying Try.underlying50, Result.andThen_ok, hs]
  simp only [Std.Legacy.Range.forIn_eq_forIn_range', Std.Legacy.Range.size]
  simp [List.range', p0, p1, q]
  by_cases h1 : a = c <;> by_cases h2 : b = e <;> simp [h1, h2]
theorem eqA (a b c e : Int) (w : World) : (Op.equalIn 10000 50 (.agg #[.int .i64 a, .int .i64 b]) (.agg #[.int .i64 c, .int .i64 e])).run Try.prog w = .ok (a == c && b == e) w := eqA' 9998 a b c e w
def obD (l : Int) : Sp.Ob := ⟨2, [], [], ⟨#[]⟩, 0, [], 0, l, 0⟩
theorem fits_obD (l : Int) : ∀ o ∈ [obD l], Fits o := by
  intro o ho
  simp at ho
  subst ho
  exact ⟨Nat.zero_le _, Nat.zero_le _, Nat.zero_le _, fun m hm => by simp [obD] at hm⟩
theorem kind_obD (l : Int) : ∀ o ∈ [obD l], o.kind ≠ 0 := by
  intro o ho
  simp at ho
  subst ho
  show (2 : Int) ≠ 0
  decide
theorem objs_obD (l : Int) (w : World) : Objs (w.alloc (.cells #[.int .i64 2, .slice none 0 0, .slice none 0 0, .string ⟨#[]⟩, .int .i64 0, .slice none 0 0, .int .i64 0, .int .i64 l, .int .i64 0] 40)) (fun b => b < w.heap.size + 1) (.slice (some ⟨w.heap.size, 0, none⟩) 1 1) [obD l] := by
  refine ⟨[(⟨nilSl, nilSl, nilSl⟩, obD l)], rfl, (obj_row (s := ⟨nilSl, nilSl, nilSl⟩) (o := obD l) (Blk.new w _ _)).more fun b hb => by omega, fun t ht => ?_⟩
  simp at ht
  subst ht
  exact ⟨Row.nil _ _ _ _ _, Row.nil _ _ _ _ _, [], rfl, Row.nil _ _ _ _ _, fun t ht => by simp at ht⟩
def msgHi : Sp.Msg := ⟨[104, 105], false, 0, 0⟩
theorem okQ_hi : Ch.okQ (Ch.upd (fun _ => []) true [msgHi]) := Ch.okQ_upd Ch.okQ_none true (Nat.succ_le_succ (Nat.zero_le _)) fun m hm => by
  rw [List.mem_singleton.1 hm]
  decide
set_option maxRecDepth 100000 in
set_option maxHeartbeats 8000000 in
theorem alive9_any (w : World) : Calls Try.prog 26 #[] w fun e w' => e = .returned (.bool true) ∧ Below w.heap.size w w' := by
  have kc := fun (w : World) (C : Array Value) (n c : Nat) => Lib.run_convert_bytes_const (P := Try.prog) w 22 5 C n c Try.underlying22 Try.underlying5
  have kc2 : ∀ (W : World) (A : Obj), (convert 22 22 (.slice (some ⟨W.heap.size + 1, 0, none⟩) 2 2)).run Try.prog ((W.alloc A).alloc (.cells #[.int .u8 104, .int .u8 105] 5)) = .ok (.slice (some ⟨W.heap.size + 1, 0, none⟩) 2 2) ((W.alloc A).alloc (.cells #[.int .u8 104, .int .u8 105] 5 (2, 3))) := fun W A => by
    have h := kc (W.alloc A) #[.int .u8 104, .int .u8 105] 2 2
    have e : (W.alloc A).heap.size = W.heap.size + 1 := by simp
    rw [e] at h
    exact h
  clear kc
  have heq : ∀ w, (Op.equalIn 10000 50 (.agg #[.int .i64 1, .int .i64 2]) (.agg #[.int .i64 1, .int .i64 2])).run Try.prog w = .ok true w := fun w => by rw [eqA]; rfl
  go_enter Try.func26, Try.ntmps26
  go_wp2_with fail
  have hB1 : Below w.heap.size w (w.alloc (.cells #[.int .i64 2, .slice none 0 0, .slice none 0 0, .string ⟨#[]⟩, .int .i64 0, .slice none 0 0, .int .i64 0, .int .i64 0, .int .i64 0] 40)) := (Below.refl _ _).alloc (Nat.le_refl _) _
  refine (spair [obD 0] _ _ _ (objs_obD 0 w) (fun b hb => by simp; omega) (fits_obD 0) (by decide) (kind_obD 0)).mono ?_
  rintro e w2 ⟨a2, c2, rfl, hO2, hb2⟩
  have HB2 : Hid (Below w.heap.size w w2) := hB1.trans (hb2.mono hB1.size)
  have HO2 : Hid (Objs w2 (fun b => b < w2.heap.size) (.slice a2 3 c2) (Ch.st [obD 0] fun _ => [])) := hO2
  clear hO2 hb2 hB1
  go_wp2_with fail
  have hL3 : Bytes ((w2.alloc (.cells #[.int .i64 1, .int .i64 2] 50)).alloc (.cells #[.int .u8 104, .int .u8 105] 5 (2, 3))) (fun b => b = (w2.alloc (.cells #[.int .i64 1, .int .i64 2] 50)).heap.size) (.slice (some ⟨(w2.alloc (.cells #[.int .i64 1, .int .i64 2] 50)).heap.size, 0, none⟩) 2 2) [104, 105] := lit_bytes _ [104, 105] (2, 3) (by decide)
  have hz3 : (w2.alloc (.cells #[.int .i64 1, .int .i64 2] 50)).heap.size = w2.heap.size + 1 := by simp
  rw [hz3] at hL3
  have hK3 : Blk ((w2.alloc (.cells #[.int .i64 1, .int .i64 2] 50)).alloc (.cells #[.int .u8 104, .int .u8 105] 5 (2, 3))) w2.heap.size #[.int .i64 1, .int .i64 2] 50 := (Blk.new w2 _ _).alloc _
  have hz4 : ((w2.alloc (.cells #[.int .i64 1, .int .i64 2] 50)).alloc (.cells #[.int .u8 104, .int .u8 105] 5 (2, 3))).heap.size = w2.heap.size + 2 := by simp
  have hB3 : Below w2.heap.size w2 ((w2.alloc (.cells #[.int .i64 1, .int .i64 2] 50)).alloc (.cells #[.int .u8 104, .int .u8 105] 5 (2, 3))) := ((Below.refl _ _).alloc (Nat.le_refl _) _).alloc (by simp) _
  generalize (w2.alloc (.cells #[.int .i64 1, .int .i64 2] 50)).alloc (.cells #[.int .u8 104, .int .u8 105] 5 (2, 3)) = w3 at *
  have hO3 : Objs w3 (fun b => b < w3.heap.size) (.slice a2 3 c2) (Ch.st [obD 0] fun _ => []) := HO2.out.later hB3
  have hS : Calls Try.prog 22 #[.slice a2 3 c2, .int .i64 1, .agg #[.slice (some ⟨w2.heap.size + 1, 0, none⟩) 2 2, .bool false, .int .i64 0, .int .i64 0]] w3 fun e w' => ∃ a c, e = .returned (.tuple #[.slice a 3 c, .int .i64 0]) ∧ Objs w' (fun b => b < w'.heap.size) (.slice a 3 c) (Ch.st [obD 0] (Ch.upd (fun _ => []) true [msgHi])) ∧ Below w3.heap.size w3 w' :=
    ssend_ok [obD 0] (fun _ => []) false (⟨some ⟨w2.heap.size + 1, 0, none⟩, 2, 2⟩, msgHi) (.slice a2 3 c2) (fun b => b < w3.heap.size) w3 hO3 (fun b hb => hb) (Row.more hL3 fun b hb => by omega) (fits_obD 0) Ch.okQ_none (by decide) (show [(104 : UInt8), 105].length ≤ 60 by decide) (by decide)
  refine Calls.mono hS ?_
  rintro e w4 ⟨a4, c4, rfl, hO4, hb4⟩
  have HB4 : Hid (Below w.heap.size w w4) := HB2.out.trans ((hB3.trans (hb4.mono hB3.size)).mono HB2.out.size)
  have hK4 : Blk w4 w2.heap.size #[.int .i64 1, .int .i64 2] 50 := hK3.below hb4 hK3.lt
  have HK4 : Hid (Blk w4 w2.heap.size #[.int .i64 1, .int .i64 2] 50) := hK4
  have HO4 : Hid (Objs w4 (fun b => b < w4.heap.size) (.slice a4 3 c4) (Ch.st [obD 0] (Ch.upd (fun _ => []) true [msgHi]))) := hO4
  have k4 := hK4.cell
  have l4 := hK4.lt
  clear hS hO3 hL3 hK3 hB3 hz3 hz4 hO4 hb4 hK4 HB2 HO2
  go_wp2_with fail
  have hR : Calls Try.prog 24 #[.slice a4 3 c4, .int .i64 2] w4 fun e w' => ∃ a c r, e = .returned (.tuple #[.slice a 3 c, msgV (r, msgHi), .int .i64 0]) ∧ Objs w' (fun b => b < w'.heap.size) (.slice a 3 c) (Ch.st [obD 0] (Ch.upd (Ch.upd (fun _ => []) true [msgHi]) true [])) ∧ Bytes w' (fun b => b < w'.heap.size) (.slice r.a r.n r.c) msgHi.data ∧ Below w4.heap.size w4 w' :=
    srecv_ok [obD 0] (Ch.upd (fun _ => []) true [msgHi]) true msgHi [] (.slice a4 3 c4) _ w4 HO4.out (fun b hb => hb) (fits_obD 0) okQ_hi (by decide) rfl
  refine Calls.mono hR ?_
  rintro e w5 ⟨a5, c5, r, rfl, -, hr5, hb5⟩
  unfold msgV
  dsimp only [msgHi]
  have HB5 : Hid (Below w.heap.size w w5) := HB4.out.trans (hb5.mono HB4.out.size)
  have hK5 : Blk w5 w2.heap.size #[.int .i64 1, .int .i64 2] 50 := HK4.out.below hb5 l4
  have HK5 : Hid (Blk w5 w2.heap.size #[.int .i64 1, .int .i64 2] 50) := hK5
  have HO5 : Hid (Objs w5 (fun b => b < w5.heap.size) (.slice a4 3 c4) (Ch.st [obD 0] (Ch.upd (fun _ => []) true [msgHi]))) := HO4.out.later hb5
  have HR5 : Hid (Bytes w5 (fun b => b < w5.heap.size) (.slice r.a r.n r.c) [104, 105]) := hr5
  have l5 := hK5.lt
  have k5 := hK5.cell
  clear hR hr5 hb5 hK5 HB4 HK4 HO4 k4 l4
  go_wp2_with fail
  have hB6 : Below w5.heap.size w5 (w5.alloc (.cells #[.slice r.a r.n r.c, .bool false, .int .i64 0, .int .i64 0] 49)) := (Below.refl _ _).alloc (Nat.le_refl _) _
  have hK6 : Blk (w5.alloc (.cells #[.slice r.a r.n r.c, .bool false, .int .i64 0, .int .i64 0] 49)) w2.heap.size #[.int .i64 1, .int .i64 2] 50 := Blk.alloc HK5.out _
  have hN6 : Blk (w5.alloc (.cells #[.slice r.a r.n r.c, .bool false, .int .i64 0, .int .i64 0] 49)) w5.heap.size #[.slice r.a r.n r.c, .bool false, .int .i64 0, .int .i64 0] 49 := Blk.new _ _ _
  generalize (w5.alloc (.cells #[.slice r.a r.n r.c, .bool false, .int .i64 0, .int .i64 0] 49)) = w6 at *
  have hR : Calls Try.prog 24 #[.slice a4 3 c4, .int .i64 1] w6 fun e w' => e = .returned (.tuple #[.slice none 0 0, .agg #[.slice none 0 0, .bool false, .int .i64 0, .int .i64 0], .int .i64 16]) ∧ Below w6.heap.size w6 w' :=
    srecv_err [obD 0] (Ch.upd (fun _ => []) true [msgHi]) false (.slice a4 3 c4) _ w6 (HO5.out.later hB6) (fun b hb => hb) rfl
  refine Calls.mono hR ?_
  rintro e w7 ⟨rfl, hb7⟩
  have HB7 : Hid (Below w.heap.size w w7) := HB5.out.trans ((hB6.trans (hb7.mono hB6.size)).mono HB5.out.size)
  have hK7 : Blk w7 w2.heap.size #[.int .i64 1, .int .i64 2] 50 := hK6.below hb7 hK6.lt
  have hN7 : Blk w7 w5.heap.size #[.slice r.a r.n r.c, .bool false, .int .i64 0, .int .i64 0] 49 := hN6.below hb7 hN6.lt
  have hR7 : Bytes w7 (fun b => b < w7.heap.size) (.slice r.a r.n r.c) [104, 105] := Row.later (Row.later HR5.out hB6) hb7
  have conv : ∀ o, (convert 22 9 (.slice r.a r.n r.c)).run Try.prog (w7.alloc o) = .ok (.string ⟨#[104, 105]⟩) (w7.alloc o) := fun o => conv_any [104, 105] _ _ (fun b => b < w7.heap.size) (Row.on hR7 (On.alloc w7 _))
  have k7 := hK7.cell
  have n7 := hN7.cell
  have l7 := hK7.lt
  have m7 := hN7.lt
  clear hR hB6 hK6 hN6 hb7 hR7 hK7 hN7 HB5 HK5 HO5 HR5 l5 k5
  go_wp2
  go_ret
  exact ⟨rfl, HB7.out.alloc HB7.out.size _⟩
end Go.Proofs.Ythoacakdmnijcaa
/-
  rglaw9.ChannelTells, walked.
-/
namespace Go.Proofs.Ythoacakdmnijcaa
open Go.RowKit
theorem fieldKC (a a1 a2 : Option Addr) (n n1 n2 c c1 c2 : Nat) (w : World) : (Instr.field 27 (.agg #[.slice a n c, .slice a1 n1 c1, .slice a2 n2 c2]) 0).run Try.prog w = .ok (.slice a n c) w := by kernel_rfl
/-- What Build makes: its objects. -/
theorem cbuild_objs (l : List UInt8) (v : Value) (w : World) (hv : Bytes w (fun b => b < w.heap.size) v l) :
    Calls Try.prog 9 #[v] w fun e w' => ∃ (a1 a2 a3 : Option Addr) (n2 n3 c1 c2 c3 : Nat) (L : List Sp.Ob), e = .returned (.agg #[.slice a1 L.length c1, .slice a2 n2 c2, .slice a3 n3 c3]) ∧ Objs w' (fun b => b < w'.heap.size) (.slice a1 L.length c1) L ∧ Sp.TOk L ∧ L.length ≤ 14 ∧ Below w.heap.size w w' := by
  refine (build_any l v w hv).mono ?_
  rintro e w2 ⟨vo, vp, vq, L, O, P, rfl, hK, hKO, hb2⟩
  obtain ⟨a2, c2, rfl, -⟩ := hK.1.form
  obtain ⟨a3, c3, rfl, -⟩ := Row.form hK.2.1
  obtain ⟨ts, -, h4, -⟩ := hK.2.2
  obtain ⟨a4, c4, rfl, -⟩ := Row.form h4
  exact ⟨a2, a3, a4, _, _, c2, c3, c4, L, rfl, hK.1.more fun b hb => hb.2, hKO.objs, hKO.len, hb2⟩
/-- The store, the message's box, its bytes lie there still. -/
def CW (w : World) (t : Sl × Sp.Msg) (vk : Value) (L : List Sp.Ob) (W : World) : Prop :=
  Below w.heap.size w W ∧ Objs W (fun b => b < W.heap.size) vk L ∧ Blk W w.heap.size #[.slice t.1.a t.1.n t.1.c, .bool t.2.has, .int .i64 t.2.op, .int .i64 t.2.rt] 49 ∧ Bytes W (fun b => b < W.heap.size) (.slice t.1.a t.1.n t.1.c) t.2.data
theorem CW.below {w : World} {t : Sl × Sp.Msg} {vk : Value} {L : List Sp.Ob} {W W' : World} (h : CW w t vk L W) (hb : Below W.heap.size W W') : CW w t vk L W' :=
  ⟨h.1.trans (hb.mono h.1.size), h.2.1.later hb, h.2.2.1.below hb h.2.2.1.lt, Row.later h.2.2.2 hb⟩
theorem CW.alloc {w : World} {t : Sl × Sp.Msg} {vk : Value} {L : List Sp.Ob} {W : World} (h : CW w t vk L W) (o : Obj) : CW w t vk L (W.alloc o) := h.below ((Below.refl _ _).alloc (Nat.le_refl _) _)
set_option maxRecDepth 100000 in
set_option maxHeartbeats 16000000 in
theorem ctells_any (l : List UInt8) (k : Int) (t : Sl × Sp.Msg) (v : Value) (w : World) (hv : Bytes w (fun b => b < w.heap.size) v l) (hm : Bytes w (fun b => b < w.heap.size) (.slice t.1.a t.1.n t.1.c) t.2.data) :
    Calls Try.prog 6 #[v, .int .i64 k, msgV t] w fun e w' => e = .returned (.bool true) ∧ Below w.heap.size w w' := by
  obtain ⟨va, vc, rfl, -⟩ := Row.form hv
  rw [List.length_map] at hv ⊢
  obtain ⟨⟨ma, mn, mc⟩, md, mh, mo, mr⟩ := t
  dsimp only at hm
  unfold msgV
  dsimp only
  have hK0 : Blk (w.alloc (.cells #[.slice ma mn mc, .bool mh, .int .i64 mo, .int .i64 mr] 49)) w.heap.size #[.slice ma mn mc, .bool mh, .int .i64 mo, .int .i64 mr] 49 := Blk.new _ _ _
  have hB0 : Below w.heap.size w (w.alloc (.cells #[.slice ma mn mc, .bool mh, .int .i64 mo, .int .i64 mr] 49)) := (Below.refl _ _).alloc (Nat.le_refl _) _
  have HV : Hid (Bytes (w.alloc (.cells #[.slice ma mn mc, .bool mh, .int .i64 mo, .int .i64 mr] 49)) (fun b => b < (w.alloc (.cells #[.slice ma mn mc, .bool mh, .int .i64 mo, .int .i64 mr] 49)).heap.size) (.slice va l.length vc) l) := Row.later hv hB0
  have HM : Hid (Bytes (w.alloc (.cells #[.slice ma mn mc, .bool mh, .int .i64 mo, .int .i64 mr] 49)) (fun b => b < (w.alloc (.cells #[.slice ma mn mc, .bool mh, .int .i64 mo, .int .i64 mr] 49)).heap.size) (.slice ma mn mc) md) := Row.later hm hB0
  have HK0 : Hid (Blk (w.alloc (.cells #[.slice ma mn mc, .bool mh, .int .i64 mo, .int .i64 mr] 49)) w.heap.size #[.slice ma mn mc, .bool mh, .int .i64 mo, .int .i64 mr] 49) := hK0
  have HB0 : Hid (Below w.heap.size w (w.alloc (.cells #[.slice ma mn mc, .bool mh, .int .i64 mo, .int .i64 mr] 49))) := hB0
  clear hv hm hK0 hB0
  go_enter Try.func6, Try.ntmps6
  go_wp2_with fail
  generalize (w.alloc (.cells #[.slice ma mn mc, .bool mh, .int .i64 mo, .int .i64 mr] 49)) = w1 at *
  refine (cbuild_objs l (.slice va l.length vc) w1 HV.out).mono ?_
  rintro e w2 ⟨a2, a3, a4, n3, n4, c2, c3, c4, L, rfl, hO, hT, hL, hb2⟩
  have hfk := fun (w : World) => fieldKC a2 a3 a4 L.length n3 n4 c2 c3 c4 w
  have HC2 : Hid (CW w (⟨ma, mn, mc⟩, ⟨md, mh, mo, mr⟩) (.slice a2 L.length c2) L w2) := ⟨HB0.out.trans (hb2.mono HB0.out.size), hO, HK0.out.below hb2 HK0.out.lt, Row.later HM.out hb2⟩
  obtain ⟨R1, hP1, hP2⟩ := pair_two L hT hL
  obtain ⟨R2, er2, hS1, hS2⟩ := send_two L k ⟨md, mh, mo, mr⟩ hT hL
  obtain ⟨R3, m3, er3, hR1, hR2⟩ := recv_two L k hT hL
  have HP1 : Hid (PairsAs 19 L R1) := hP1
  have HP2 : Hid (PairsAs 20 L R1) := hP2
  have HS1 : Hid (SendsAs 22 L k ⟨md, mh, mo, mr⟩ R2 er2) := hS1
  have HS2 : Hid (SendsAs 23 L k ⟨md, mh, mo, mr⟩ R2 er2) := hS2
  have HR1 : Hid (RecvsAs 24 L k m3 R3 er3) := hR1
  have HR2 : Hid (RecvsAs 25 L k m3 R3 er3) := hR2
  clear hO hT hb2 HV HM HK0 HB0 hP1 hP2 hS1 hS2 hR1 hR2
  have heq : ∀ w, (Op.equalIn 10000 50 (.agg #[.int .i64 (L.length : Int), .int .i64 ((L.length : Int) + 1)]) (.agg #[.int .i64 (L.length : Int), .int .i64 ((L.length : Int) + 1)])).run Try.prog w = .ok true w := fun w => by rw [eqA]; simp
  have heqC : ∀ w, (Op.equalIn 10000 47 (.agg #[.int .i64 m3.op, .int .i64 m3.rt]) (.agg #[.int .i64 m3.op, .int .i64 m3.rt])).run Try.prog w = .ok true w := fun w => eqCap m3.op m3.rt w
  have hgC := guardCap
  go_wp2_with fail
  refine Calls.mono (HP1.out _ _ w2 HC2.out.2.1 (fun b hb => hb)) ?_
  rintro e w3 ⟨x3, rfl, ho3, hb3⟩
  have HC3 : Hid (CW w (⟨ma, mn, mc⟩, ⟨md, mh, mo, mr⟩) (.slice a2 L.length c2) L (w3.alloc (.cells #[.int .i64 (L.length : Int), .int .i64 ((L.length : Int) + 1)] 50))) := (HC2.out.below hb3).alloc _
  have HX3 : Hid (Objs (w3.alloc (.cells #[.int .i64 (L.length : Int), .int .i64 ((L.length : Int) + 1)] 50)) (fun b => b < (w3.alloc (.cells #[.int .i64 (L.length : Int), .int .i64 ((L.length : Int) + 1)] 50)).heap.size) x3 R1) := ho3.later ((Below.refl _ _).alloc (Nat.le_refl _) _)
  have HE3 : Hid (Blk (w3.alloc (.cells #[.int .i64 (L.length : Int), .int .i64 ((L.length : Int) + 1)] 50)) w3.heap.size #[.int .i64 (L.length : Int), .int .i64 ((L.length : Int) + 1)] 50) := Blk.new _ _ _
  clear ho3 hb3 HC2 HP1
  go_wp2_with fail
  generalize (w3.alloc (.cells #[.int .i64 (L.length : Int), .int .i64 ((L.length : Int) + 1)] 50)) = w4 at *
  generalize w3.heap.size = g3 at *
  refine Calls.mono (HP2.out _ _ w4 HC3.out.2.1 (fun b hb => hb)) ?_
  rintro e w5 ⟨y5, rfl, ho5, hb5⟩
  have hB6 : Below w5.heap.size w5 (w5.alloc (.cells #[.int .i64 (L.length : Int), .int .i64 ((L.length : Int) + 1)] 50)) := (Below.refl _ _).alloc (Nat.le_refl _) _
  have HC6 : Hid (CW w (⟨ma, mn, mc⟩, ⟨md, mh, mo, mr⟩) (.slice a2 L.length c2) L (w5.alloc (.cells #[.int .i64 (L.length : Int), .int .i64 ((L.length : Int) + 1)] 50))) := (HC3.out.below hb5).alloc _
  have HX6 : Hid (Objs (w5.alloc (.cells #[.int .i64 (L.length : Int), .int .i64 ((L.length : Int) + 1)] 50)) (fun b => b < (w5.alloc (.cells #[.int .i64 (L.length : Int), .int .i64 ((L.length : Int) + 1)] 50)).heap.size) x3 R1) := (HX3.out.later hb5).later hB6
  have HY6 : Hid (Objs (w5.alloc (.cells #[.int .i64 (L.length : Int), .int .i64 ((L.length : Int) + 1)] 50)) (fun b => b < (w5.alloc (.cells #[.int .i64 (L.length : Int), .int .i64 ((L.length : Int) + 1)] 50)).heap.size) y5 R1) := ho5.later hB6
  have hE6 : Blk (w5.alloc (.cells #[.int .i64 (L.length : Int), .int .i64 ((L.length : Int) + 1)] 50)) g3 #[.int .i64 (L.length : Int), .int .i64 ((L.length : Int) + 1)] 50 := (HE3.out.below hb5 HE3.out.lt).alloc _
  have hF6 : Blk (w5.alloc (.cells #[.int .i64 (L.length : Int), .int .i64 ((L.length : Int) + 1)] 50)) w5.heap.size #[.int .i64 (L.length : Int), .int .i64 ((L.length : Int) + 1)] 50 := Blk.new _ _ _
  have e6 := hE6.cell
  have f6 := hF6.cell
  have el6 := hE6.lt
  have fl6 := hF6.lt
  have HSO : Hid (Calls Try.prog 21 #[x3, y5] (w5.alloc (.cells #[.int .i64 (L.length : Int), .int .i64 ((L.length : Int) + 1)] 50)) fun e w' => e = .returned (.bool true) ∧ Below (w5.alloc (.cells #[.int .i64 (L.length : Int), .int .i64 ((L.length : Int) + 1)] 50)).heap.size (w5.alloc (.cells #[.int .i64 (L.length : Int), .int .i64 ((L.length : Int) + 1)] 50)) w') := same_objs R1 _ _ _ _ _ HX6.out HY6.out (fun b hb => hb) (fun b hb => hb)
  clear ho5 hb5 hB6 hE6 hF6 HC3 HX3 HE3 HP2
  go_wp2_with fail
  refine Calls.mono HSO.out ?_
  rintro e w7 ⟨rfl, hb7⟩
  have HC7 : Hid (CW w (⟨ma, mn, mc⟩, ⟨md, mh, mo, mr⟩) (.slice a2 L.length c2) L w7) := HC6.out.below hb7
  have k7 := HC7.out.2.2.1.cell
  clear hb7 HSO HC6 HX6 HY6 e6 f6 el6 fl6
  go_wp2_with fail
  refine Calls.mono (HS1.out ⟨ma, mn, mc⟩ _ _ w7 HC7.out.2.1 (fun b hb => hb) HC7.out.2.2.2) ?_
  rintro e w8 ⟨x8, rfl, ho8, hb8⟩
  have HC8 : Hid (CW w (⟨ma, mn, mc⟩, ⟨md, mh, mo, mr⟩) (.slice a2 L.length c2) L w8) := HC7.out.below hb8
  have HX8 : Hid (Objs w8 (fun b => b < w8.heap.size) x8 R2) := ho8
  have k8 := HC8.out.2.2.1.cell
  clear ho8 hb8 HC7 HS1 k7
  go_wp2_with fail
  refine Calls.mono (HS2.out ⟨ma, mn, mc⟩ _ _ w8 HC8.out.2.1 (fun b hb => hb) HC8.out.2.2.2) ?_
  rintro e w9 ⟨y9, rfl, ho9, hb9⟩
  have HC9 : Hid (CW w (⟨ma, mn, mc⟩, ⟨md, mh, mo, mr⟩) (.slice a2 L.length c2) L w9) := HC8.out.below hb9
  have HSO : Hid (Calls Try.prog 21 #[x8, y9] w9 fun e w' => e = .returned (.bool true) ∧ Below w9.heap.size w9 w') := same_objs R2 _ _ _ _ _ (HX8.out.later hb9) ho9 (fun b hb => hb) (fun b hb => hb)
  clear ho9 hb9 HC8 HX8 HS2 k8
  go_wp2_with fail
  refine Calls.mono HSO.out ?_
  rintro e w10 ⟨rfl, hb10⟩
  have HC10 : Hid (CW w (⟨ma, mn, mc⟩, ⟨md, mh, mo, mr⟩) (.slice a2 L.length c2) L w10) := HC9.out.below hb10
  clear hb10 HSO HC9
  go_wp2_with fail
  refine Calls.mono (HR1.out _ _ w10 HC10.out.2.1 (fun b hb => hb)) ?_
  rintro e w11 ⟨x11, r11, rfl, ho11, hr11, hb11⟩
  unfold msgV
  dsimp only
  have hB12 : Below w11.heap.size w11 (w11.alloc (.cells #[.slice r11.a r11.n r11.c, .bool m3.has, .int .i64 m3.op, .int .i64 m3.rt] 49)) := (Below.refl _ _).alloc (Nat.le_refl _) _
  have HC12 : Hid (CW w (⟨ma, mn, mc⟩, ⟨md, mh, mo, mr⟩) (.slice a2 L.length c2) L (w11.alloc (.cells #[.slice r11.a r11.n r11.c, .bool m3.has, .int .i64 m3.op, .int .i64 m3.rt] 49))) := (HC10.out.below hb11).alloc _
  have HX12 : Hid (Objs (w11.alloc (.cells #[.slice r11.a r11.n r11.c, .bool m3.has, .int .i64 m3.op, .int .i64 m3.rt] 49)) (fun b => b < (w11.alloc (.cells #[.slice r11.a r11.n r11.c, .bool m3.has, .int .i64 m3.op, .int .i64 m3.rt] 49)).heap.size) x11 R3) := ho11.later hB12
  have HD12 : Hid (Bytes (w11.alloc (.cells #[.slice r11.a r11.n r11.c, .bool m3.has, .int .i64 m3.op, .int .i64 m3.rt] 49)) (fun b => b < (w11.alloc (.cells #[.slice r11.a r11.n r11.c, .bool m3.has, .int .i64 m3.op, .int .i64 m3.rt] 49)).heap.size) (.slice r11.a r11.n r11.c) m3.data) := Row.later hr11 hB12
  have HG12 : Hid (Blk (w11.alloc (.cells #[.slice r11.a r11.n r11.c, .bool m3.has, .int .i64 m3.op, .int .i64 m3.rt] 49)) w11.heap.size #[.slice r11.a r11.n r11.c, .bool m3.has, .int .i64 m3.op, .int .i64 m3.rt] 49) := Blk.new _ _ _
  clear ho11 hr11 hb11 hB12 HC10 HR1
  go_wp2_with fail
  generalize (w11.alloc (.cells #[.slice r11.a r11.n r11.c, .bool m3.has, .int .i64 m3.op, .int .i64 m3.rt] 49)) = w12 at *
  generalize w11.heap.size = g11 at *
  refine Calls.mono (HR2.out _ _ w12 HC12.out.2.1 (fun b hb => hb)) ?_
  rintro e w13 ⟨y13, r13, rfl, ho13, hr13, hb13⟩
  unfold msgV
  dsimp only
  have hB14 : Below w13.heap.size w13 (w13.alloc (.cells #[.slice r13.a r13.n r13.c, .bool m3.has, .int .i64 m3.op, .int .i64 m3.rt] 49)) := (Below.refl _ _).alloc (Nat.le_refl _) _
  have hX14 : Objs (w13.alloc (.cells #[.slice r13.a r13.n r13.c, .bool m3.has, .int .i64 m3.op, .int .i64 m3.rt] 49)) (fun b => b < (w13.alloc (.cells #[.slice r13.a r13.n r13.c, .bool m3.has, .int .i64 m3.op, .int .i64 m3.rt] 49)).heap.size) x11 R3 := (HX12.out.later hb13).later hB14
  have hY14 : Objs (w13.alloc (.cells #[.slice r13.a r13.n r13.c, .bool m3.has, .int .i64 m3.op, .int .i64 m3.rt] 49)) (fun b => b < (w13.alloc (.cells #[.slice r13.a r13.n r13.c, .bool m3.has, .int .i64 m3.op, .int .i64 m3.rt] 49)).heap.size) y13 R3 := ho13.later hB14
  have HDA : Hid (Bytes (w13.alloc (.cells #[.slice r13.a r13.n r13.c, .bool m3.has, .int .i64 m3.op, .int .i64 m3.rt] 49)) (fun b => b < (w13.alloc (.cells #[.slice r13.a r13.n r13.c, .bool m3.has, .int .i64 m3.op, .int .i64 m3.rt] 49)).heap.size) (.slice r11.a r11.n r11.c) m3.data) := Row.later (Row.later HD12.out hb13) hB14
  have HDB : Hid (Bytes (w13.alloc (.cells #[.slice r13.a r13.n r13.c, .bool m3.has, .int .i64 m3.op, .int .i64 m3.rt] 49)) (fun b => b < (w13.alloc (.cells #[.slice r13.a r13.n r13.c, .bool m3.has, .int .i64 m3.op, .int .i64 m3.rt] 49)).heap.size) (.slice r13.a r13.n r13.c) m3.data) := Row.later hr13 hB14
  have HGA : Hid (Blk (w13.alloc (.cells #[.slice r13.a r13.n r13.c, .bool m3.has, .int .i64 m3.op, .int .i64 m3.rt] 49)) g11 #[.slice r11.a r11.n r11.c, .bool m3.has, .int .i64 m3.op, .int .i64 m3.rt] 49) := (HG12.out.below hb13 HG12.out.lt).alloc _
  have HGB : Hid (Blk (w13.alloc (.cells #[.slice r13.a r13.n r13.c, .bool m3.has, .int .i64 m3.op, .int .i64 m3.rt] 49)) w13.heap.size #[.slice r13.a r13.n r13.c, .bool m3.has, .int .i64 m3.op, .int .i64 m3.rt] 49) := Blk.new _ _ _
  have HBF : Hid (Below w.heap.size w (w13.alloc (.cells #[.slice r13.a r13.n r13.c, .bool m3.has, .int .i64 m3.op, .int .i64 m3.rt] 49))) := HC12.out.1.trans ((hb13.trans (hB14.mono hb13.size)).mono HC12.out.1.size)
  have HSO : Hid (Calls Try.prog 21 #[x11, y13] (w13.alloc (.cells #[.slice r13.a r13.n r13.c, .bool m3.has, .int .i64 m3.op, .int .i64 m3.rt] 49)) fun e w' => e = .returned (.bool true) ∧ Below (w13.alloc (.cells #[.slice r13.a r13.n r13.c, .bool m3.has, .int .i64 m3.op, .int .i64 m3.rt] 49)).heap.size (w13.alloc (.cells #[.slice r13.a r13.n r13.c, .bool m3.has, .int .i64 m3.op, .int .i64 m3.rt] 49)) w') := same_objs R3 _ _ _ _ _ hX14 hY14 (fun b hb => hb) (fun b hb => hb)
  clear ho13 hr13 hb13 hB14 hX14 hY14 HC12 HX12 HD12 HG12 HR2
  go_wp2_with fail
  generalize (w13.alloc (.cells #[.slice r13.a r13.n r13.c, .bool m3.has, .int .i64 m3.op, .int .i64 m3.rt] 49)) = w14 at *
  generalize w13.heap.size = g13 at *
  refine Calls.mono HSO.out ?_
  rintro e w15 ⟨rfl, hb15⟩
  have ka := conv_any m3.data (.slice r11.a r11.n r11.c) w15 _ (Row.later HDA.out hb15)
  have kb := conv_any m3.data (.slice r13.a r13.n r13.c) w15 _ (Row.later HDB.out hb15)
  have ga := (HGA.out.below hb15 HGA.out.lt).cell
  have gb := (HGB.out.below hb15 HGB.out.lt).cell
  have la := (HGA.out.below hb15 HGA.out.lt).lt
  have lb := (HGB.out.below hb15 HGB.out.lt).lt
  have HBE : Hid (Below w.heap.size w w15) := HBF.out.trans (hb15.mono HBF.out.size)
  clear hb15 HSO HDA HDB HGA HGB HBF
  go_wp2
  go_ret
  exact ⟨by simp, HBE.out⟩
end Go.Proofs.Ythoacakdmnijcaa
/-
  Arguments opened: capabilities, messages, texts.
-/
namespace Go.Proofs.Ythoacakdmnijcaa
open Go.ChangeShapes Go.WideShapes Go.ChangeAt Go.RowKit Go.Deep
def txtC (s : ByteArray) : List Value := [.string s]
theorem Try.cellsCapC : Try.prog.cellsOf 47 = 2 := by kernel_rfl
theorem Try.cellsIntC : Try.prog.cellsOf 3 = 1 := by kernel_rfl
theorem Try.cellsBoolC : Try.prog.cellsOf 4 = 1 := by kernel_rfl
theorem Try.cellsByteC : Try.prog.cellsOf 5 = 1 := by kernel_rfl
theorem Try.cellsBytesC : Try.prog.cellsOf 22 = 1 := by kernel_rfl
theorem Try.cellsMsgC : Try.prog.cellsOf 49 = 4 := by kernel_rfl
theorem Try.cellsStrC : Try.prog.cellsOf 9 = 1 := by kernel_rfl
theorem cblock_lt {w : World} {a : Addr} {v : Value} (h : w.cell? a = some v) : a.block < w.heap.size := by
  rcases Nat.lt_or_ge a.block w.heap.size with h' | h'
  · exact h'
  · simp [World.cell?, Array.getElem?_eq_none h'] at h
section
variable {H : Type} {enc : TypeId × Value → H} {W : World}
set_option maxRecDepth 100000 in
theorem ctrod_cap {base : Nat} {sp : Nat → Bool} {held : Bool} {fuel : Nat} {cs : List Value} {x : DataW H × List MemPlace} (h : DataW.trod enc Try.prog W base sp held fuel 47 cs = some x) : ∃ p q : Int, cs = [.int .i64 p, .int .i64 q] := by
  obtain ⟨y0, y1, n, -, hl, t0, t1⟩ := trod_struct2 Try.underlying47 h
  rw [Try.cellsCapC] at hl
  match cs, hl with
  | [c0, c1], _ =>
    rw [Try.cellsIntC] at t0 t1
    obtain ⟨z0, hz0, _, _⟩ := DataW.trod_int Try.underlying3 t0
    obtain ⟨z1, hz1, _, _⟩ := DataW.trod_int Try.underlying3 t1
    simp at hz0 hz1
    exact ⟨z0, z1, by rw [hz0, hz1]⟩
set_option maxRecDepth 100000 in
theorem copen_cap {base b0 : Nat} {sp : Nat → Bool} {held : Bool} {r : Reach} {v : Value} {d : DataW H} {p : List MemPlace}
    (hv : Value.okWide Try.prog W r b0 47 v) (h : DataW.Trod enc Try.prog W base sp held 47 v d p) :
    ∃ a b : Int, v = .agg #[.int .i64 a, .int .i64 b] := by
  obtain ⟨cs, rfl, hsz⟩ := okWide_struct Try.underlying47 hv
  obtain ⟨fuel, hf⟩ := h
  obtain ⟨a, b, hab⟩ := ctrod_cap hf
  refine ⟨a, b, ?_⟩
  obtain ⟨l⟩ := cs
  simp [Value.cells] at hab
  rw [hab]
set_option maxRecDepth 100000 in
theorem ctrod_bytes {base : Nat} {sp : Nat → Bool} {held : Bool} {fuel : Nat} {cs : List Value} {x : DataW H × List MemPlace} (hf : DataW.trod enc Try.prog W base sp held fuel 22 cs = some x) :
    ∃ (s : Sl) (l : List UInt8), cs = [.slice s.a s.n s.c] ∧ Bytes W (fun x => x < W.heap.size) (.slice s.a s.n s.c) l := by
  rcases open_ints Try.underlying22 Try.underlying5 Try.cellsByteC hf with ⟨hcs, hx⟩ | ⟨a, len1, cap1, zs, hcs, _, hl, hm, hz, hx, hcell, hwz⟩
  · exact ⟨⟨none, 0, 0⟩, [], hcs, Row.nil _ _ _ _ _⟩
  · have hlm : len1 ≤ zs.length := by rw [hz]; split <;> omega
    by_cases h0 : len1 = 0
    · subst h0; exact ⟨⟨some a, 0, cap1⟩, [], hcs, Row.nil _ _ _ _ _⟩
    obtain ⟨ab, ao, spot⟩ := a
    have hspot : spot = none := by simpa [Addr.add] using World.cell?_spot (hcell 0 (by omega))
    subst hspot
    simp only [Addr.add_lit] at hcell
    have hlt : ab < W.heap.size := cblock_lt (hcell 0 (by omega))
    refine ⟨⟨some ⟨ab, ao, none⟩, len1, cap1⟩, (zs.take len1).map fun z => UInt8.ofNat z.toNat, hcs, Or.inr ⟨ab, ao, cap1, by simp; omega, hlt, by simp; omega, hm, ?_⟩⟩
    intro i cs hi j u hj
    rw [List.getElem?_map, List.getElem?_map] at hi
    by_cases hil : i < len1
    · have e : zs[i]? = some (zs.getD i 0) := by rw [List.getD_eq_getElem?_getD, List.getElem?_eq_getElem (by omega)]; rfl
      rw [List.getElem?_take_of_lt hil, e] at hi
      simp only [Option.map_some, Option.some.injEq] at hi
      have hb : 0 ≤ zs.getD i 0 ∧ zs.getD i 0 < 256 := by
        have := range_u8 hwz i
        rw [List.getD_eq_getElem?_getD]
        omega
      subst hi
      have hc := hcell i (by omega)
      generalize zs.getD i 0 = z at hb hc hj
      match j, hj with
      | 0, hj =>
        simp [byteC] at hj
        subst hj
        rw [Nat.mul_one, Nat.add_zero, hc]
        congr 2
        omega
      | j + 1, hj => simp [byteC] at hj
    · rw [List.getElem?_eq_none (by simp; omega)] at hi
      cases hi
set_option maxRecDepth 100000 in
theorem copen_bytes {base b0 : Nat} {held : Bool} {r : Reach} {v : Value} {d : DataW H} {q : List MemPlace} {sp : Nat → Bool}
    (hv : Value.okWide Try.prog W r b0 22 v) (h : DataW.Trod enc Try.prog W base sp held 22 v d q) :
    ∃ l : List UInt8, Bytes W (fun x => x < W.heap.size) v l := by
  obtain ⟨a1, len1, cap1, rfl⟩ := okWide_slice Try.underlying22 hv
  obtain ⟨fuel, hf⟩ := h
  obtain ⟨s, l, hcs, hb⟩ := ctrod_bytes hf
  simp [Value.cells] at hcs
  obtain ⟨rfl, rfl, rfl⟩ := hcs
  exact ⟨l, hb⟩
set_option maxRecDepth 100000 in
theorem copen_msg {base b0 : Nat} {sp : Nat → Bool} {held : Bool} {r : Reach} {v : Value} {d : DataW H} {p : List MemPlace}
    (hv : Value.okWide Try.prog W r b0 49 v) (h : DataW.Trod enc Try.prog W base sp held 49 v d p) :
    ∃ t : Sl × Sp.Msg, v = msgV t ∧ Bytes W (fun x => x < W.heap.size) (.slice t.1.a t.1.n t.1.c) t.2.data := by
  obtain ⟨cs, rfl, hsz⟩ := okWide_struct Try.underlying49 hv
  obtain ⟨fuel, hf⟩ := h
  obtain ⟨y0, y1, y2, n, -, hl, t0, t1, t2⟩ := trod_struct3 Try.underlying49 hf
  rw [Try.cellsMsgC] at hl
  obtain ⟨l⟩ := cs
  have hl' : l.length = 4 := by simpa [Value.cells] using hl
  match l, hl' with
  | [c0, c1, c2, c3], _ =>
    rw [Try.cellsBytesC] at t0
    rw [Try.cellsBoolC] at t1
    rw [Try.cellsCapC] at t2
    obtain ⟨s, d, hs, hb⟩ := ctrod_bytes t0
    obtain ⟨z, hz, _⟩ := DataW.trod_bool Try.underlying4 t1
    obtain ⟨a, b, hab⟩ := ctrod_cap t2
    simp [Value.cells] at hs hz hab
    refine ⟨(s, ⟨d, z, a, b⟩), ?_, hb⟩
    unfold msgV
    rw [hs, hz, hab.1, hab.2]
set_option maxRecDepth 100000 in
theorem copen_texts {base b0 : Nat} {held : Bool} {r : Reach} {v : Value} {d : DataW H} {q : List MemPlace} {sp : Nat → Bool}
    (hv : Value.okWide Try.prog W r b0 60 v) (h : DataW.Trod enc Try.prog W base sp held 60 v d q) :
    ∃ xs : List ByteArray, Row W (fun x => x < W.heap.size) 1 v (xs.map txtC) ∧ ∀ x ∈ xs, x.size ≤ maxLen := by
  obtain ⟨a1, len1, cap1, rfl⟩ := okWide_slice Try.underlying60 hv
  obtain ⟨fuel, hf⟩ := h
  rcases open_strs Try.underlying60 Try.underlying9 Try.cellsStrC hf with ⟨hcs, hx⟩ | ⟨a, len, cap, m, S, hcs, _, hl, hm, hmm, hx, hel⟩
  · simp [Value.cells] at hcs
    obtain ⟨rfl, rfl, rfl⟩ := hcs
    exact ⟨[], Row.nil _ _ _ _ _, fun x hx => by simp at hx⟩
  · simp [Value.cells] at hcs
    obtain ⟨rfl, rfl, rfl⟩ := hcs
    have hlm : len1 ≤ m := by rw [hmm]; split <;> omega
    by_cases h0 : len1 = 0
    · subst h0; exact ⟨[], Row.nil _ _ _ _ _, fun x hx => by simp at hx⟩
    have hcell : ∀ i, i < len1 → W.cell? (a.add i) = some (.string (S i)) := fun i hi => (hel i (by omega)).1
    obtain ⟨ab, ao, spot⟩ := a
    have hspot : spot = none := by simpa [Addr.add] using World.cell?_spot (hcell 0 (by omega))
    subst hspot
    simp only [Addr.add_lit] at hcell
    have hlt : ab < W.heap.size := cblock_lt (hcell 0 (by omega))
    refine ⟨(List.range len1).map S, Or.inr ⟨ab, ao, cap1, by simp, hlt, by simp; omega, hm, ?_⟩, ?_⟩
    · intro i cs hi j u hj
      rw [List.map_map, List.getElem?_map] at hi
      by_cases hil : i < len1
      · rw [List.getElem?_range hil] at hi
        simp at hi
        subst hi
        match j, hj with
        | 0, hj =>
          simp [txtC] at hj
          subst hj
          rw [Nat.mul_one, Nat.add_zero]
          exact hcell i hil
        | j + 1, hj => simp [txtC] at hj
      · rw [List.getElem?_eq_none (by simp; omega)] at hi
        cases hi
    · intro x hx
      obtain ⟨i, hi, rfl⟩ := List.mem_map.1 hx
      exact (hel i (by have := List.mem_range.1 hi; omega)).2
end
theorem claw_own : ownKnob Try.prog.godebug = none := by kernel_rfl
theorem claw_laidOut : laidOutB Try.prog = true := by kernel_rfl
end Go.Proofs.Ythoacakdmnijcaa
namespace Go.Proofs.Ythoacakdmnijcaa
open Go.ChangeShapes Go.WideShapes Go.ChangeAt Go.RowKit
open Go.ChangeMaps (open_string shut_string)
set_option maxRecDepth 100000 in
theorem channelTells_lifted (os : Os) (started : os.Started) (H : Type) (enc : TypeId × Value → H) :
    ReturnsInHanded {} Try.checked os 6 .any (Rows.channelTellsSpec.pre6 enc Try.prog Try.f6 Rows.channelTellsRow.domain false) (Rows.channelTellsSpec.post enc Try.prog Try.f6 false true false false) := by
  refine returnsInHanded_of_change_sized (C := Try.checked) claw_own started (by kernel_rfl) Try.func6
    (ChangeSpec.witness6 (enc := enc) (C := Try.checked) false ⟨#[], #[.slice none 0 0, .int .i64 0, .agg #[.slice none 0 0, .bool false, .int .i64 0, .int .i64 0]], []⟩ 8 (by kernel_rfl) (by kernel_rfl) (by kernel_rfl) (by kernel_rfl)) ?_
  intro W base args ds gs before hval0 hW _ hsz0 _
  have hval : ∀ (j : Nat) t v, Try.f6.params[j]? = some t → args[j]? = some v → Value.okWide Try.prog W .any base t v := hval0
  have hsz : (DataW.weightsEach Try.prog (Try.f6.params.toList ++ Rows.channelTellsSpec.plain.varTypes Try.prog) (ds ++ gs)).all (· ≤ reachBytes) = true := hsz0
  have hW' := hW
  obtain ⟨p, q, hA0, hV, rfl, hfz, hnd⟩ := hW
  have hA : DataW.TrodAll enc Try.prog W 0 (fun _ => true) true Try.f6.params.toList args.toList ds p := hA0
  rw [Try.params6] at hA hval hsz
  obtain ⟨v0, vs0, d0, ds0, p0, q0, hargs, rfl, rfl, h0, r0⟩ := trodAll_cons hA
  obtain ⟨v1, vs1, d1, ds1, p1, q1, rfl, rfl, rfl, h1, r1⟩ := trodAll_cons r0
  obtain ⟨v2, vs2, d2, ds2, p2, q2, rfl, rfl, rfl, h2, r2⟩ := trodAll_cons r1
  obtain ⟨rfl, rfl, rfl⟩ := trodAll_nil r2
  obtain rfl : args = #[v0, v1, v2] := by cases args; simp_all
  obtain ⟨rfl, rfl⟩ := trodVars_none hV
  have lt0 : ∀ x ∈ p0, x.block < W.heap.size := by obtain ⟨m, hm⟩ := h0; exact DataW.trod_lt m _ _ _ hm
  have lt1 : ∀ x ∈ p1, x.block < W.heap.size := by obtain ⟨m, hm⟩ := h1; exact DataW.trod_lt m _ _ _ hm
  have lt2 : ∀ x ∈ p2, x.block < W.heap.size := by obtain ⟨m, hm⟩ := h2; exact DataW.trod_lt m _ _ _ hm
  obtain ⟨l0, hD0⟩ := copen_bytes (hval 0 22 v0 rfl rfl) h0
  obtain ⟨z1, rfl, _, _, _⟩ := open_int Try.underlying3 (hval 1 3 v1 rfl rfl) h1
  obtain ⟨m2, rfl, hD2⟩ := copen_msg (hval 2 49 v2 rfl rfl) h2
  clear hA0 hval0 hsz hsz0
  refine (ctells_any l0 z1 m2 v0 W hD0 hD2).mono fun e W' ⟨he, bel⟩ => ?_
  subst he
  exact ⟨_, rfl, _, _, _, [], _, [], hW', trodAll_mk1 (shut_bool Try.underlying4 _), trodAll_cons_mk (Below.trod claw_laidOut (by kernel_rfl) (of_decide_eq_true (by kernel_rfl)) h0 bel lt0) (trodAll_cons_mk (Below.trod claw_laidOut (by kernel_rfl) (of_decide_eq_true (by kernel_rfl)) h1 bel lt1) (trodAll_cons_mk (Below.trod claw_laidOut (by kernel_rfl) (of_decide_eq_true (by kernel_rfl)) h2 bel lt2) trodAll_mk0)), rfl, bel.frame _, fun h => by cases h⟩
theorem channelTells_over : Rows.channelTellsRow.holds Try.pinned (OpenSpec.ofChange Rows.channelTellsSpec) :=
  OpenClaim.holds_of_wide 6 Try.f6 rfl rfl rfl rfl rfl rfl rfl ⟨rfl, rfl, rfl, rfl, rfl⟩ rfl rfl rfl rfl rfl (by kernel_rfl) Try.func6 (by kernel_rfl)
    (of_decide_eq_true (by kernel_rfl)) (by unfold Func.isWrapper; first | (rw [if_pos (by decide +kernel)]; kernel_rfl) | (rw [if_neg (by decide +kernel)]; exact ⟨rfl, rfl⟩))
    (fun os started H enc _ => channelTells_lifted os started H enc)
/-- The statement. -/
theorem channelTellsHolds : Rows.ChannelTellsSaid := channelTells_over
#print axioms channelTellsHolds
end Go.Proofs.Ythoacakdmnijcaa
