
/-
  rgref5.Sweep's rounds, plainly; what is left.
-/
import Derived.Test.YtdciohinlhbliaaJSB
import Derived.Test.YtdciohinlhbliaaBW50
namespace Go.Proofs.Ytdciohinlhbliaa
open Go.RowKit
namespace Wp
/-- Has a process a descriptor of it among objects? -/
def heldO (p : Int) (o : Sp.Ob) : Bool := o.kind == 5 && o.proc == p
def heldB (L : List Sp.Ob) (p : Int) : Bool := L.any (heldO p)
theorem setB_get {ms : List Bool} {k : Int} {i : Nat} (hi : i < ms.length) : (setB ms k).getD i false = (ms.getD i false || k == (i : Int)) := by
  unfold setB
  by_cases h0 : 0 ≤ k
  · obtain ⟨n, rfl⟩ := Int.eq_ofNat_of_zero_le h0
    rw [if_pos h0, Int.toNat_natCast, Bool.eq_iff_iff, getD_set, Bool.or_eq_true]
    constructor
    · rintro (h | ⟨rfl, _⟩)
      · exact Or.inl h
      · exact Or.inr (by simp)
    · rintro (h | h)
      · exact Or.inl h
      · have : (n : Int) = (i : Int) := by simpa using h
        have : n = i := by omega
        subst this
        exact Or.inr ⟨rfl, hi⟩
  · rw [if_neg h0]
    have : (k == (i : Int)) = false := by simp; omega
    rw [this, Bool.or_false]
theorem know_get {L : List Sp.Ob} {i : Nat} : ∀ {ms : List Bool}, i < ms.length → (L.foldl knowS ms).getD i false = (ms.getD i false || heldB L (i : Int)) := by
  induction L with
  | nil => intro ms _; simp [heldB]
  | cons o L ih =>
    intro ms hi
    rw [List.foldl_cons, ih (by unfold knowS; split <;> simp [setB_len, hi])]
    have : (knowS ms o).getD i false = (ms.getD i false || heldO (i : Int) o) := by
      unfold knowS heldO
      by_cases hk : o.kind = 5
      · rw [if_pos hk, setB_get hi]; simp [hk]
      · rw [if_neg hk]; simp [hk]
    rw [this, Bool.or_assoc]
    rfl
theorem known_get (L : List Sp.Ob) {n i : Nat} (hi : i < n) : (knownB L n).getD i false = heldB L (i : Int) := by
  unfold knownB
  rw [know_get (by simp; exact hi), rep_false, Bool.false_or]
/-- Objects looked through one by one: what waits at those that are marked. -/
def quTo (m : List Bool) (L : List Sp.Ob) (ms : List Bool) : Nat → List Bool
  | 0 => ms
  | k + 1 => if m.getD k false = true then (match L[k]? with | some o => hadO (quTo m L ms k) o | none => quTo m L ms k) else quTo m L ms k
theorem quTo_fo (m : List Bool) (n : Nat) (ts : List (Sls × Sp.Ob)) (ms : List Bool) : ∀ k, k ≤ ts.length → (((ts.mapIdx (fo m n)).map Prod.snd).take k).foldl hadO ms = quTo m (ts.map Prod.snd) ms k
  | 0, _ => rfl
  | k + 1, hk => by
    obtain ⟨t, ht⟩ : ∃ t, ts[k]? = some t := ⟨_, List.getElem?_eq_getElem (by omega)⟩
    have h1 : ((ts.mapIdx (fo m n)).map Prod.snd)[k]? = some (fo m n k t).2 := by rw [List.getElem?_map, List.getElem?_mapIdx, ht]; rfl
    have h2 : (ts.map Prod.snd)[k]? = some t.2 := by rw [List.getElem?_map, ht]; rfl
    rw [List.take_add_one, h1, List.foldl_append, quTo_fo m n ts ms k (by omega)]
    show hadO (quTo m (ts.map Prod.snd) ms k) (fo m n k t).2 = _
    rw [quTo, h2]
    unfold fo
    cases hm : m.getD k false with
    | false => rw [if_pos rfl, if_neg (by decide)]; rfl
    | true =>
      rw [if_neg (by decide), if_pos rfl]
      split <;> rfl
/-- Ends whose other end is a number of an object, or none. -/
def PeerOk (L : List Sp.Ob) : Prop := ∀ o ∈ L, o.kind = 4 → o.peer = -1 ∨ (0 ≤ o.peer ∧ o.peer < (L.length : Int))
/-- The document's word of an object that is left. -/
def foD (m : List Bool) (i : Nat) (t : Sls × Sp.Ob) : Sls × Sp.Ob := if m.getD i false = false then (sl0, obZ0) else if t.2.kind = 4 ∧ (decide (0 ≤ t.2.peer) && m.getD t.2.peer.toNat false) = false then (t.1, { t.2 with peer := -1 }) else t
theorem foD_eq {ts : List (Sls × Sp.Ob)} (h : PeerOk (ts.map Prod.snd)) (m : List Bool) (i : Nat) {t : Sls × Sp.Ob} (ht : t ∈ ts) : foD m i t = fo m ts.length i t := by
  have h0 := h t.2 (List.mem_map_of_mem ht)
  rw [List.length_map] at h0
  unfold foD fo foB
  split
  · rfl
  · by_cases hk : t.2.kind = 4
    · rcases h0 hk with hp | ⟨hp, hq⟩
      · rw [if_pos ⟨hk, by rw [hp]; rfl⟩, if_neg (by rw [hp]; simp)]
        obtain ⟨s, o⟩ := t
        dsimp only at hp ⊢
        rw [← hp]
      · cases hm : m.getD t.2.peer.toNat false with
        | false => rw [if_pos ⟨hk, by simp⟩, if_pos (by simp [hk, hp, hq])]
        | true => rw [if_neg (by simp [hp]), if_neg (by simp)]
    · rw [if_neg (fun h => hk h.1), if_neg (by simp [hk])]
theorem peer_rnd {x : Swp} (h : PeerOk (x.ts.map Prod.snd)) : PeerOk (x.rnd.ts.map Prod.snd) := by
  intro o ho hk
  obtain ⟨t, ht, rfl⟩ := List.mem_map.1 ho
  obtain ⟨i, hi, rfl⟩ := List.mem_mapIdx.1 (show t ∈ x.ts.mapIdx (fo (reachB x.kn) x.ts.length) from ht)
  have h0 := h x.ts[i].2 (List.mem_map_of_mem (List.getElem_mem hi))
  rw [List.length_map] at h0 ⊢
  rw [x.rnd_lens.1]
  unfold fo at hk ⊢
  split at hk
  · cases hk
  · split at hk
    · rename_i h1 h2
      rw [if_neg h1, if_pos h2]
      exact Or.inl rfl
    · rename_i h1 h2
      rw [if_neg h1, if_neg h2]
      exact h0 hk
/-- How many are left, looked for from the beginning. -/
def docN (G : Nat → Bool) (stay : Nat) : Nat → Nat
  | 0 => stay
  | k + 1 => if G k = false ∧ docN G stay k ≤ k then k + 1 else docN G stay k
theorem docN_le (G : Nat → Bool) (stay : Nat) : ∀ k, docN G stay k ≤ max stay k
  | 0 => by unfold docN; omega
  | k + 1 => by
    have := docN_le G stay k
    unfold docN
    split <;> omega
theorem docN_ge (G : Nat → Bool) (stay : Nat) : ∀ k, stay ≤ docN G stay k
  | 0 => Nat.le_refl _
  | k + 1 => by
    have := docN_ge G stay k
    unfold docN
    split <;> omega
theorem docN_trim (G : Nat → Bool) (stay : Nat) (hs : stay ≤ 1) : ∀ n, min (docN G stay n) n = trimN G stay n
  | 0 => by unfold trimN; omega
  | n + 1 => by
    have ih := docN_trim G stay hs n
    have hl := docN_le G stay n
    unfold docN trimN
    cases hg : G n with
    | true =>
      rw [if_neg (by simp)]
      by_cases h : stay ≤ n
      · rw [if_pos ⟨h, rfl⟩, ← ih]; omega
      · rw [if_neg (fun e => h e.1)]
        have := docN_ge G stay n
        omega
    | false =>
      rw [if_neg (show ¬ (stay ≤ n ∧ false = true) from fun e => by cases e.2)]
      by_cases h : docN G stay n ≤ n
      · rw [if_pos ⟨rfl, h⟩]; omega
      · rw [if_neg (fun e => h e.2)]; omega
def obG (ts : List (Sls × Sp.Ob)) (k : Nat) : Bool := match ts[k]? with | some t => t.2.kind == 0 | none => true
def opG (O : List Sp.Opn) (k : Nat) : Bool := match O[k]? with | some x => x.obj == -1 | none => true
def prG (ms : List Bool) (ps : List (Sl × Sp.Prc)) (k : Nat) : Bool := match ps[k]? with | some t => !t.2.live && !ms.getD k false | none => true
namespace Swp
/-- What is known of processes at the end. -/
def knE (x : Swp) : List Bool := knownB (x.ts.map Prod.snd) x.ps.length
/-- What is left of all rounds. -/
def cut (y : Swp) : Swp := ⟨y.ts.take (trimN (obG y.ts) 1 y.ts.length), y.O.take (trimN (opG y.O) 0 y.O.length), (y.ps.mapIdx (fp y.knE)).take (trimN (prG y.knE y.ps) 1 y.ps.length)⟩
def fin (x : Swp) : Swp := x.all.cut
end Swp
end Wp
end Go.Proofs.Ytdciohinlhbliaa


/-
  rgref5.held, and what rgref5.Sweep adds to a set, walked.
-/
namespace Go.Proofs.Ytdciohinlhbliaa
open Go.RowKit
open Wp
set_option maxRecDepth 100000 in
set_option maxHeartbeats 4000000 in
theorem rheldP_any (L : List Sp.Ob) (p : Int) (v : Value) (S : Nat → Prop) (w : World) (hv : Objs w S v L) (hS : ∀ b, S b → b < w.heap.size) :
    Calls Try.prog 48 #[v, .int .i64 p] w fun e w' => e = .returned (.bool (heldB L p)) ∧ Gw w w' := by
  obtain ⟨a, c, rfl, hm⟩ := hv.form
  have HV : Hid (Objs w S (.slice a L.length c) L) := hv
  have HS : Hid (∀ b, S b → b < w.heap.size) := hS
  unfold maxLen at hm
  clear hv hS
  go_enter Try.func48, Try.ntmps48
  go_wp2
  go_loopw [9] (fun i wr => ∃ k : Nat, k ≤ L.length ∧ i = .int .i64 k ∧ Gw w wr ∧ heldB (L.take k) p = false) (fun i _ => L.length - (intOf i).toNat)
  case atStart => exact ⟨0, Nat.zero_le _, rfl, Gw.refl w, rfl⟩
  case round =>
    obtain ⟨k, hk, rfl, hg, hno⟩ := hrel
    have HG : Hid (Gw w wr) := hg
    have HNO : Hid (heldB (L.take k) p = false) := hno
    by_cases hlt : k < L.length
    · have hx : L[k]? = some L[k] := List.getElem?_eq_getElem hlt
      have hnx : heldB (L.take (k + 1)) p = (heldB (L.take k) p || heldO p L[k]) := by
        unfold heldB
        rw [List.take_add_one, hx, List.any_append]
        simp
      have hall : heldO p L[k] = true → heldB L p = true := fun h => List.any_eq_true.2 ⟨_, List.getElem_mem hlt, h⟩
      obtain ⟨b, o, c', s, he, hSb, h3, h4, hl, c0, c1, c2, c3, c4, c5, c6, c7, c8⟩ := (HV.out.on (hg.1.less HS.out)).open hx
      obtain ⟨rfl, -, rfl⟩ := Value.slice.inj he
      have HNX : Hid _ := hnx
      have HALL : Hid _ := hall
      unfold maxLen at h4
      generalize L[k] = x at *
      clear he hl hx hg hno hnx hall
      by_cases hk5 : x.kind = 5
      · have hk5' : (x.kind == 5) = true := by simp [hk5]
        by_cases hpp : x.proc = p
        · have hpp' : (x.proc == p) = true := by simp [hpp]
          have HR : Hid (heldB L p = true) := HALL.out (by unfold heldO; rw [hk5', hpp']; rfl)
          clear hk5 hpp
          go_wp2
          go_ret
          exact ⟨by rw [HR.out]; rfl, HG.out.trans (Gw.new wr _)⟩
        · have hpp' : (x.proc == p) = false := by simp [hpp]
          have HR : Hid (heldB (L.take (k + 1)) p = false) := by unfold Hid; rw [HNX.out, HNO.out]; unfold heldO; rw [hk5', hpp']; rfl
          clear hk5 hpp
          go_wp2
          go_roundw
          case rel => exact ⟨k + 1, by omega, by go_num, HG.out.trans (Gw.new wr _), HR.out⟩
          case measure => simp [intOf]; omega
      · have hk5' : (x.kind == 5) = false := by simp [hk5]
        have HR : Hid (heldB (L.take (k + 1)) p = false) := by unfold Hid; rw [HNX.out, HNO.out]; unfold heldO; rw [hk5']; rfl
        clear hk5
        go_wp2
        go_roundw
        case rel => exact ⟨k + 1, by omega, by go_num, HG.out.trans (Gw.new wr _), HR.out⟩
        case measure => simp [intOf]; omega
    · obtain rfl : k = L.length := by omega
      have HR : Hid (heldB L p = false) := by rw [List.take_length] at hno; exact hno
      clear hg hno
      go_wp2
      go_ret
      exact ⟨by rw [HR.out]; rfl, HG.out⟩
/-- Block g is a map that says true, of the numbers below, of just those that are marked. -/
def MapN (w : World) (g N : Nat) (ms : List Bool) : Prop := ∃ (ks : List Int) (n : Nat), n ≤ N ∧ SetIs w g n ks ∧ ∀ k, k < ms.length → ((k : Int) ∈ ks ↔ ms.getD k false = true)
theorem MapN.by {w w' : World} {g N : Nat} {ms : List Bool} (h : MapN w g N ms) {S : Nat → Prop} (ho : On S w w') (hg : S g) : MapN w' g N ms := by
  obtain ⟨ks, n, h0, h1, h2⟩ := h
  exact ⟨ks, n, h0, h1.by ho hg, h2⟩
theorem MapN.lt {w : World} {g N : Nat} {ms : List Bool} (h : MapN w g N ms) : g < w.heap.size := by obtain ⟨ks, n, _, h1, _⟩ := h; exact h1.lt
theorem MapN.wide {w : World} {g N N' : Nat} {ms : List Bool} (h : MapN w g N ms) (hn : N ≤ N') : MapN w g N' ms := by obtain ⟨ks, n, h0, h1, h2⟩ := h; exact ⟨ks, n, Nat.le_trans h0 hn, h1, h2⟩
theorem MapN.made (w : World) (n : Nat) : MapN (w.alloc (.map #[] 0)) w.heap.size 0 (List.replicate n false) := ⟨[], 0, Nat.le_refl _, SetIs.made w, fun k _ => by rw [rep_false]; simp⟩
theorem MapN.look {w : World} {g N : Nat} {ms : List Bool} (h : MapN w g N ms) (k : Nat) (hk : k < ms.length) (hl : ms.length ≤ 1000000) :
    (Instr.lookup 29 (.map (some g)) (.int .i64 (k : Int)) false).run Try.prog w = .ok (.bool (ms.getD k false)) w := by
  obtain ⟨ks, n, h0, h1, h2⟩ := h
  rw [h1.look (k : Int) (WalkArith.wf_i64 (by omega))]
  congr 2
  rw [Bool.eq_iff_iff, decide_eq_true_iff, h2 k hk]
/-- Where the set of open files stands: nothing else has been touched. -/
structure OS (W w : World) (go N : Nat) (ms : List Bool) : Prop where
  map : MapN w go N ms
  on : On (fun b => b < W.heap.size ∧ b ≠ go) W w
  size : W.heap.size ≤ w.heap.size
  below : ∀ B, B ≤ go → Below B W w
  lt : go < W.heap.size
theorem OS.alloc {W w : World} {go N : Nat} {ms : List Bool} (h : OS W w go N ms) (o : Obj) : OS W (w.alloc o) go N ms := by
  have hz := h.size
  have hl := h.lt
  exact ⟨h.map.by (On.alloc w o) h.map.lt, h.on.trans ((On.alloc w o).less fun b hb => by omega), by simp; omega, fun B h1 => (h.below B h1).alloc (by omega) _, hl⟩
theorem OS.wide {W w : World} {go N N' : Nat} {ms : List Bool} (h : OS W w go N ms) (hn : N ≤ N') : OS W w go N' ms := ⟨h.map.wide hn, h.on, h.size, h.below, h.lt⟩
set_option maxRecDepth 100000 in
set_option maxHeartbeats 4000000 in
theorem radd_any (op rt : Int) (W w : World) (bo go N : Nat) (ms : List Bool) (h : OS W w go N ms) (hb : Blk W bo #[.map (some go)] 29) (hne : bo ≠ go) (hN : N ≤ 999) (h0 : 0 ≤ op ∧ op ≤ 1000000) :
    Calls Try.prog 47 #[hcapV op rt, .pointer (some ⟨bo, 0, none⟩)] w fun e w' => e = .returned (.tuple #[]) ∧ OS W w' go (N + 1) (setB ms op) ∧ On (fun b => b < w.heap.size ∧ b ≠ go) w w' ∧ w.heap.size ≤ w'.heap.size := by
  obtain ⟨k, rfl⟩ := Int.eq_ofNat_of_zero_le h0.1
  have hbl := hb.lt
  have hz := h.size
  have hbw := h.on.trans (w := W) (S := fun b => b < W.heap.size ∧ b ≠ go) (fun _ _ => rfl)
  have hb1 : Blk w bo #[.map (some go)] 29 := hb.on h.on ⟨hbl, hne⟩
  have c0 := (hb1.alloc (.cells #[.int .i64 (k : Int), .int .i64 rt] 50)).cell 0
  have cl := hb1.lt
  simp at c0
  obtain ⟨ks, n, hn, hset, hks⟩ := (h.alloc (.cells #[.int .i64 (k : Int), .int .i64 rt] 50)).map
  have HSET : Hid (SetIs (w.alloc (.cells #[.int .i64 (k : Int), .int .i64 rt] 50)) go n ks) := hset
  have HWF : Hid ((Lit.int .i64 (k : Int)).wf = true) := WalkArith.wf_i64 (by omega)
  have HF : Hid (∀ wu, SetIs wu go (n + 1) ((k : Int) :: ks) → (w.alloc (.cells #[.int .i64 (k : Int), .int .i64 rt] 50)).grownBy wu (some go) → OS W wu go (N + 1) (setB ms (k : Int)) ∧ On (fun b => b < w.heap.size ∧ b ≠ go) w wu ∧ w.heap.size ≤ wu.heap.size) := fun wu h1 h2 => by
    have ha := h.alloc (.cells #[.int .i64 (k : Int), .int .i64 rt] 50)
    have hza : (w.alloc (.cells #[.int .i64 (k : Int), .int .i64 rt] 50)).heap.size = w.heap.size + 1 := by simp
    have ho : On (fun b => b < (w.alloc (.cells #[.int .i64 (k : Int), .int .i64 rt] 50)).heap.size ∧ b ≠ go) (w.alloc (.cells #[.int .i64 (k : Int), .int .i64 rt] 50)) wu := fun b hb => h2.block b hb.1 fun e => hb.2 (Option.some.inj e)
    have hz2 := h2.size
    have ho2 : On (fun b => b < w.heap.size ∧ b ≠ go) w wu := ((On.alloc w _).less fun b hb => hb.1).trans (ho.less fun b hb => ⟨by omega, hb.2⟩)
    refine ⟨⟨⟨_, n + 1, by omega, h1, fun j hj => ?_⟩, h.on.trans (ho2.less fun b hb => ⟨by omega, hb.2⟩), by omega, fun B hB => (ha.below B hB).grown h2 (by have := h.lt; omega) (fun j hj => by cases hj; exact hB), h.lt⟩, ho2, by omega⟩
    rw [setB_len] at hj
    rw [List.mem_cons, hks j hj, setB_get hj, Bool.or_eq_true]
    constructor
    · rintro (h | h)
      · exact Or.inr (by simp [h])
      · exact Or.inl h
    · rintro (h | h)
      · exact Or.inr h
      · exact Or.inl (by have : (k : Int) = (j : Int) := by simpa using h
                         exact this.symm)
  clear h hb hset hks hb1 hbw
  unfold hcapV
  go_enter Try.func47, Try.ntmps47
  go_wp2_with (at_mapUpdate; refine wpList_setPut rfl _ _ _ rfl go n ks rfl HSET.out (by omega) (k : Int) HWF.out rfl rfl ?_)
  intro wu h1 h2
  have HU : Hid _ := HF.out wu h1 h2
  clear h1 h2 c0
  go_wp2
  go_end0
  exact ⟨rfl, HU.out⟩
end Go.Proofs.Ytdciohinlhbliaa


/-
  rgref5.Sweep: open files that wait at objects that one can come to.
-/
namespace Go.Proofs.Ytdciohinlhbliaa
open Go.RowKit
open Wp
set_option maxRecDepth 1000000 in
set_option maxHeartbeats 16000000 in
theorem squ_wp (Q : Exit → Act → World → Prop) (K : Act → World → Prop) (n1 : Nat) (hn1 : n1 = 47) (L : List Sp.Ob) (m ms0 : List Bool) (oa : Option Addr) (oc : Nat) (vp vq : Value) (R : Nat → Prop) (W0 W : World) (k0 bo go gh cn N0 : Nat) (hos : OS W0 W go N0 ms0) (hv : Objs W0 R (.slice oa L.length oc) L) (hR : ∀ b, R b → b < W0.heap.size ∧ b ≠ go) (hkern : Blk W0 k0 #[.slice oa L.length oc, vp, vq] 27) (hkg : k0 ≠ go) (hmap : MapB W0 gh cn m) (hgg : gh ≠ go) (hbo : Blk W0 bo #[.map (some go)] 29) (hbn : bo ≠ go) (hL : L.length ≤ 40) (hN : N0 ≤ 200) (hq4 : ∀ o ∈ L, o.queue.length ≤ 4) (hop : ∀ o ∈ L, ∀ q ∈ o.queue, 0 ≤ q.op ∧ q.op ≤ 1000000)
    (x0 x2 x3 x5 x7 x8 x9 x10 x11 x12 x13 x14 x15 x16 x17 x18 x19 x20 x21 x22 x23 x24 x25 x26 x27 x28 x29 x30 x31 x32 x33 x34 x35 x36 x37 x38 x39 x40 x41 x42 x43 x44 x45 x46 x47 x48 x49 x50 x51 x52 x53 x54 x55 x56 x57 x58 x59 x60 x63 x64 x65 x66 x67 x68 x69 x70 x71 x72 x73 x74 x75 x76 x77 x78 x79 x80 x81 x82 x83 x84 x85 x86 x87 x88 x89 x90 x91 x92 x93 x94 x95 x96 x97 x98 x99 x100 x101 x102 x103 x104 x105 x106 x107 x108 x109 x110 x111 x112 x113 x114 x115 x116 x117 x118 x119 x120 x121 x122 x123 x124 x125 x126 x127 x128 x129 x130 x131 x132 x133 x134 x135 x136 x137 x138 x139 x140 x141 x142 x143 x144 x145 x146 x147 x148 x149 x150 x151 x152 x153 x154 x155 x156 x157 x158 x159 x160 x161 x162 x163 x164 x165 x166 x167 x168 x169 x170 x171 x172 x173 x174 x175 x176 x177 x178 x179 x180 x181 x182 x183 x184 x185 x186 x187 x188 x189 x190 x191 x192 x193 x194 x195 x196 x197 x198 x199 x200 x201 x202 x203 x204 x205 x206 x207 x208 x209 x210 x211 x212 x213 x214 x215 x216 x217 x218 x219 x220 x221 x222 x223 x224 x225 x226 x227 x228 x229 x230 x231 x232 x233 x234 x235 x236 x237 x238 x239 x240 x241 x242 x243 x244 x245 x246 x247 x248 x249 x250 x251 x252 x253 x254 x255 x256 x257 x258 x259 x260 x261 x262 x263 x264 x265 x266 x267 x268 x269 x270 x271 x272 x273 x274 x275 x276 x277 x278 x279 x280 x281 x282 x283 : Value)
    (h : ∀ (y11 y13 y63 y64 y65 y66 y67 y68 y69 y70 y71 y72 y73 y74 y75 y76 y77 y78 y79 y80 y81 y82 y83 y84 y85 y86 y87 y88 : Value) (W' : World), OS W0 W' go (N0 + 4 * L.length) (quTo m L ms0 L.length) → K ⟨#[x0, .pointer (some ⟨k0, 0, none⟩), x2, x3, .map (some gh), x5, .func (.func n1) #[] #[.pointer (some ⟨bo, 0, none⟩)], x7, x8, x9, x10, y11, x12, y13, x14, x15, x16, x17, x18, x19, x20, x21, x22, x23, x24, x25, x26, x27, x28, x29, x30, x31, x32, x33, x34, x35, x36, x37, x38, x39, x40, x41, x42, x43, x44, x45, x46, x47, x48, x49, x50, x51, x52, x53, x54, x55, x56, x57, x58, x59, x60, .int .i64 L.length, .int .i64 L.length, y63, y64, y65, y66, y67, y68, y69, y70, y71, y72, y73, y74, y75, y76, y77, y78, y79, y80, y81, y82, y83, y84, y85, y86, y87, y88, x89, x90, x91, x92, x93, x94, x95, x96, x97, x98, x99, x100, x101, x102, x103, x104, x105, x106, x107, x108, x109, x110, x111, x112, x113, x114, x115, x116, x117, x118, x119, x120, x121, x122, x123, x124, x125, x126, x127, x128, x129, x130, x131, x132, x133, x134, x135, x136, x137, x138, x139, x140, x141, x142, x143, x144, x145, x146, x147, x148, x149, x150, x151, x152, x153, x154, x155, x156, x157, x158, x159, x160, x161, x162, x163, x164, x165, x166, x167, x168, x169, x170, x171, x172, x173, x174, x175, x176, x177, x178, x179, x180, x181, x182, x183, x184, x185, x186, x187, x188, x189, x190, x191, x192, x193, x194, x195, x196, x197, x198, x199, x200, x201, x202, x203, x204, x205, x206, x207, x208, x209, x210, x211, x212, x213, x214, x215, x216, x217, x218, x219, x220, x221, x222, x223, x224, x225, x226, x227, x228, x229, x230, x231, x232, x233, x234, x235, x236, x237, x238, x239, x240, x241, x242, x243, x244, x245, x246, x247, x248, x249, x250, x251, x252, x253, x254, x255, x256, x257, x258, x259, x260, x261, x262, x263, x264, x265, x266, x267, x268, x269, x270, x271, x272, x273, x274, x275, x276, x277, x278, x279, x280, x281, x282, x283], []⟩ W') :
    Code.wp Try.prog ((Try.f15.body.bind (findBlock 6)).getD .skip) (Exit.then K Q) ⟨#[x0, .pointer (some ⟨k0, 0, none⟩), x2, x3, .map (some gh), x5, .func (.func n1) #[] #[.pointer (some ⟨bo, 0, none⟩)], x7, x8, x9, x10, x11, x12, x13, x14, x15, x16, x17, x18, x19, x20, x21, x22, x23, x24, x25, x26, x27, x28, x29, x30, x31, x32, x33, x34, x35, x36, x37, x38, x39, x40, x41, x42, x43, x44, x45, x46, x47, x48, x49, x50, x51, x52, x53, x54, x55, x56, x57, x58, x59, x60, .int .i64 L.length, .int .i64 0, x63, x64, x65, x66, x67, x68, x69, x70, x71, x72, x73, x74, x75, x76, x77, x78, x79, x80, x81, x82, x83, x84, x85, x86, x87, x88, x89, x90, x91, x92, x93, x94, x95, x96, x97, x98, x99, x100, x101, x102, x103, x104, x105, x106, x107, x108, x109, x110, x111, x112, x113, x114, x115, x116, x117, x118, x119, x120, x121, x122, x123, x124, x125, x126, x127, x128, x129, x130, x131, x132, x133, x134, x135, x136, x137, x138, x139, x140, x141, x142, x143, x144, x145, x146, x147, x148, x149, x150, x151, x152, x153, x154, x155, x156, x157, x158, x159, x160, x161, x162, x163, x164, x165, x166, x167, x168, x169, x170, x171, x172, x173, x174, x175, x176, x177, x178, x179, x180, x181, x182, x183, x184, x185, x186, x187, x188, x189, x190, x191, x192, x193, x194, x195, x196, x197, x198, x199, x200, x201, x202, x203, x204, x205, x206, x207, x208, x209, x210, x211, x212, x213, x214, x215, x216, x217, x218, x219, x220, x221, x222, x223, x224, x225, x226, x227, x228, x229, x230, x231, x232, x233, x234, x235, x236, x237, x238, x239, x240, x241, x242, x243, x244, x245, x246, x247, x248, x249, x250, x251, x252, x253, x254, x255, x256, x257, x258, x259, x260, x261, x262, x263, x264, x265, x266, x267, x268, x269, x270, x271, x272, x273, x274, x275, x276, x277, x278, x279, x280, x281, x282, x283], []⟩ W := by
  subst hn1
  have HH : Hid _ := h
  have hm : L.length ≤ maxLen := by obtain ⟨_, _, h1, h2⟩ := hv.form; cases h1; exact h2
  have HD : Hid (OS W0 W go N0 ms0) := hos
  have HV : Hid (Objs W0 R (.slice oa L.length oc) L) := hv
  have HR : Hid (∀ b, R b → b < W0.heap.size ∧ b ≠ go) := hR
  have HK : Hid (Blk W0 k0 #[.slice oa L.length oc, vp, vq] 27) := hkern
  have HMP : Hid (MapB W0 gh cn m) := hmap
  have HGO : Hid (gh < W0.heap.size ∧ gh ≠ go) := ⟨hmap.lt, hgg⟩
  have HBO : Hid (Blk W0 bo #[.map (some go)] 29) := hbo
  have HBN : Hid (bo ≠ go) := hbn
  have HQ4 : Hid (∀ o ∈ L, o.queue.length ≤ 4) := hq4
  have HOPS : Hid (∀ o ∈ L, ∀ q ∈ o.queue, 0 ≤ q.op ∧ q.op ≤ 1000000) := hop
  have hkl := hkern.lt
  have eg : Enters Try.prog 47 := by unfold Enters; intro args w; rfl
  unfold Enters at eg
  unfold maxLen at hm
  clear h hos hv hR hkern hmap hbo hq4 hop
  conv => arg 2; whnf
  go_wp2_with fail
  go_loopw [62] (fun v wr => ∃ i : Nat, i ≤ L.length ∧ v = .int .i64 i ∧ OS W0 wr go (N0 + 4 * i) (quTo m L ms0 i)) (fun v _ => L.length - (intOf v).toNat)
  case atStart => exact ⟨0, Nat.zero_le _, rfl, HD.out⟩
  case round =>
    obtain ⟨i, hi, rfl, hI⟩ := hrel
    have HI : Hid (OS W0 wr go (N0 + 4 * i) (quTo m L ms0 i)) := hI
    by_cases hlt : i < L.length
    · have hx : L[i]? = some L[i] := List.getElem?_eq_getElem hlt
      obtain ⟨b, o, c', s, he, hSb, h3, h4, hl, -, -, -, -, -, c5, -, -, -⟩ := HV.out.open hx
      obtain ⟨rfl, -, rfl⟩ := Value.slice.inj he
      obtain ⟨⟨da, dn, dc⟩, ⟨ea, en, ec⟩, ⟨qa, qn, qc⟩⟩ := s
      dsimp only at c5 hl
      have c5 := (hI.on.cell (HR.out b hSb)).trans c5
      have HXM : Hid (L[i] ∈ L) := List.getElem_mem hlt
      have HNX : Hid (quTo m L ms0 (i + 1) = if m.getD i false = true then hadO (quTo m L ms0 i) L[i] else quTo m L ms0 i) := by unfold Hid; rw [quTo, hx]
      have hk1 := HK.out.on hI.on ⟨hkl, hkg⟩
      have k0c := hk1.cell 0
      have k0l := hk1.lt
      simp at k0c
      unfold maxLen at h4
      generalize L[i] = x at *
      obtain ⟨-, -, us, hus, hqr, -⟩ := hl
      dsimp only at hus hqr
      have hqn : qn = us.length := by have := Row.eqNil hqr; rw [List.length_map] at this; exact this
      subst hqn
      have HQR : Hid (Row W0 R 4 (.slice qa us.length qc) (us.map msgC)) := hqr
      have HUS : Hid (x.queue = us.map Prod.snd) := hus
      have hum : us.length ≤ maxLen := by obtain ⟨_, _, h1, h2⟩ := Row.form hqr; rw [List.length_map] at h2; exact h2
      unfold maxLen at hum
      clear hx he hqr hus hk1 hSb hI
      cases hg : m.getD i false with
      | true =>
        go_wp2_with fail
        go_loopw [72] (fun v wz => ∃ j : Nat, j ≤ us.length ∧ v = .int .i64 j ∧ OS W0 wz go (N0 + 4 * i + j) ((x.queue.take j).foldl hadM (quTo m L ms0 i))) (fun v _ => us.length - (intOf v).toNat)
        case atStart => exact ⟨0, Nat.zero_le _, rfl, HI.out⟩
        case round =>
          rename World => wz
          obtain ⟨j, hj, rfl, hIj⟩ := hrel
          have HIJ : Hid (OS W0 wz go (N0 + 4 * i + j) ((x.queue.take j).foldl hadM (quTo m L ms0 i))) := hIj
          by_cases hjl : j < us.length
          · obtain ⟨⟨⟨sla, sln, slc⟩, mm⟩, hxm⟩ : ∃ x, us[j]? = some x := ⟨_, List.getElem?_eq_getElem hjl⟩
            have hq : x.queue[j]? = some mm := by rw [HUS.out, List.getElem?_map, hxm]; rfl
            have htk : x.queue.take (j + 1) = x.queue.take j ++ [mm] := by rw [List.take_add_one, hq]; rfl
            obtain ⟨b2, of2, c2', he2, hSb2, hc2, hcm2, h52⟩ := (Row.on HQR.out (hIj.on.less HR.out)).some (by rw [List.length_map]; omega)
            obtain ⟨rfl, -, rfl⟩ := Value.slice.inj he2
            have hi2 := h52 j (msgC (⟨sla, sln, slc⟩, mm)) (by rw [List.getElem?_map, hxm]; rfl)
            have d0 := hi2 0 _ rfl
            have d1 := hi2 1 _ rfl
            have d2 := hi2 2 _ rfl
            have d3 := hi2 3 _ rfl
            rw [Nat.add_zero] at d0
            rw [List.length_map] at hc2
            unfold maxLen at hcm2
            have hal := hIj.alloc (.cells #[.slice sla sln slc, .bool mm.has, .int .i64 mm.op, .int .i64 mm.rt] 83)
            have hlook := (HMP.out.by hal.on HGO.out).look_nat i (by omega)
            rw [hg] at hlook
            have HAL : Hid _ := hal
            have HOP : Hid (0 ≤ mm.op ∧ mm.op ≤ 1000000) := HOPS.out x HXM.out mm (List.mem_of_getElem? hq)
            have hjs : j < 4 := by have := HQ4.out x HXM.out; rw [HUS.out, List.length_map] at this; omega
            cases hhas : mm.has with
            | true =>
              have HC : Hid (Calls Try.prog 47 #[.agg #[.int .i64 mm.op, .int .i64 mm.rt], .pointer (some ⟨bo, 0, none⟩)] (wz.alloc (.cells #[.slice sla sln slc, .bool true, .int .i64 mm.op, .int .i64 mm.rt] 83)) fun e w2 => e = .returned (.tuple #[]) ∧ OS W0 w2 go (N0 + 4 * i + (j + 1)) ((x.queue.take (j + 1)).foldl hadM (quTo m L ms0 i))) := by
                have h1 := HAL.out
                rw [hhas] at h1
                refine (radd_any mm.op mm.rt W0 _ bo go _ _ h1 HBO.out HBN.out (by omega) HOP.out).mono ?_
                rintro e w2 ⟨rfl, g1, -, -⟩
                refine ⟨rfl, ?_⟩
                rw [htk, List.foldl_append]
                show OS W0 w2 go (N0 + 4 * i + (j + 1)) (hadM _ mm)
                unfold hadM
                rw [if_pos hhas]
                exact g1
              rw [hhas] at d1 hlook
              clear he2 h52 hi2 hq htk hhas hxm hIj hal
              go_wp2_with fail
              refine Calls.mono HC.out ?_
              rintro e w2 ⟨rfl, hI2⟩
              have HI2 : Hid (OS W0 w2 go (N0 + 4 * i + (j + 1)) ((x.queue.take (j + 1)).foldl hadM (quTo m L ms0 i))) := hI2
              clear hI2 d0 d1 d2 d3 hlook
              go_wp2
              go_roundw
              case rel => exact ⟨j + 1, by omega, by go_num, HI2.out⟩
              case measure => simp [intOf]; omega
            | false =>
              have HC : Hid (OS W0 (wz.alloc (.cells #[.slice sla sln slc, .bool false, .int .i64 mm.op, .int .i64 mm.rt] 83)) go (N0 + 4 * i + (j + 1)) ((x.queue.take (j + 1)).foldl hadM (quTo m L ms0 i))) := by
                have h1 := HAL.out.wide (N' := N0 + 4 * i + (j + 1)) (by omega)
                rw [hhas] at h1
                unfold Hid
                rw [htk, List.foldl_append]
                show OS W0 _ go _ (hadM _ mm)
                unfold hadM
                rw [if_neg (by rw [hhas]; decide)]
                exact h1
              rw [hhas] at d1 hlook
              clear he2 h52 hi2 hq htk hhas hxm hIj hal
              go_wp2
              go_roundw
              case rel => exact ⟨j + 1, by omega, by go_num, HC.out⟩
              case measure => simp [intOf]; omega
          · obtain rfl : j = us.length := by omega
            have HF : Hid (OS W0 wz go (N0 + 4 * (i + 1)) (quTo m L ms0 (i + 1))) := by
              have h4 := HQ4.out x HXM.out
              have hlq : us.length = x.queue.length := by rw [HUS.out, List.length_map]
              have h1 := hIj.wide (N' := N0 + 4 * (i + 1)) (by omega)
              unfold Hid
              rw [HNX.out, hg]
              rw [if_pos rfl]
              rw [hlq, List.take_length] at h1
              exact h1
            clear hIj
            go_wp2
            go_roundw
            case rel => exact ⟨i + 1, by omega, by go_num, HF.out⟩
            case measure => simp [intOf]; omega
      | false =>
        go_wp2_with fail
        go_loopw [72] (fun v wz => ∃ j : Nat, j ≤ us.length ∧ v = .int .i64 j ∧ OS W0 wz go (N0 + 4 * i + j) (quTo m L ms0 i)) (fun v _ => us.length - (intOf v).toNat)
        case atStart => exact ⟨0, Nat.zero_le _, rfl, HI.out⟩
        case round =>
          rename World => wz
          obtain ⟨j, hj, rfl, hIj⟩ := hrel
          have HIJ : Hid (OS W0 wz go (N0 + 4 * i + j) (quTo m L ms0 i)) := hIj
          by_cases hjl : j < us.length
          · obtain ⟨⟨⟨sla, sln, slc⟩, mm⟩, hxm⟩ : ∃ x, us[j]? = some x := ⟨_, List.getElem?_eq_getElem hjl⟩
            have hq : x.queue[j]? = some mm := by rw [HUS.out, List.getElem?_map, hxm]; rfl
            have htk : x.queue.take (j + 1) = x.queue.take j ++ [mm] := by rw [List.take_add_one, hq]; rfl
            obtain ⟨b2, of2, c2', he2, hSb2, hc2, hcm2, h52⟩ := (Row.on HQR.out (hIj.on.less HR.out)).some (by rw [List.length_map]; omega)
            obtain ⟨rfl, -, rfl⟩ := Value.slice.inj he2
            have hi2 := h52 j (msgC (⟨sla, sln, slc⟩, mm)) (by rw [List.getElem?_map, hxm]; rfl)
            have d0 := hi2 0 _ rfl
            have d1 := hi2 1 _ rfl
            have d2 := hi2 2 _ rfl
            have d3 := hi2 3 _ rfl
            rw [Nat.add_zero] at d0
            rw [List.length_map] at hc2
            unfold maxLen at hcm2
            have hal := hIj.alloc (.cells #[.slice sla sln slc, .bool mm.has, .int .i64 mm.op, .int .i64 mm.rt] 83)
            have hlook := (HMP.out.by hal.on HGO.out).look_nat i (by omega)
            rw [hg] at hlook
            have HAL : Hid _ := hal
            have HOP : Hid (0 ≤ mm.op ∧ mm.op ≤ 1000000) := HOPS.out x HXM.out mm (List.mem_of_getElem? hq)
            have hjs : j < 4 := by have := HQ4.out x HXM.out; rw [HUS.out, List.length_map] at this; omega
            have HC : Hid (OS W0 (wz.alloc (.cells #[.slice sla sln slc, .bool mm.has, .int .i64 mm.op, .int .i64 mm.rt] 83)) go (N0 + 4 * i + (j + 1)) (quTo m L ms0 i)) := HAL.out.wide (by omega)
            clear he2 h52 hi2 hq htk hxm hIj hal
            go_wp2
            go_roundw
            case rel => exact ⟨j + 1, by omega, by go_num, HC.out⟩
            case measure => simp [intOf]; omega
          · obtain rfl : j = us.length := by omega
            have HF : Hid (OS W0 wz go (N0 + 4 * (i + 1)) (quTo m L ms0 (i + 1))) := by
              have h4 := HQ4.out x HXM.out
              have hlq : us.length = x.queue.length := by rw [HUS.out, List.length_map]
              have h1 := hIj.wide (N' := N0 + 4 * (i + 1)) (by omega)
              unfold Hid
              rw [HNX.out, hg]
              rw [if_neg (by decide)]
              exact h1
            clear hIj
            go_wp2
            go_roundw
            case rel => exact ⟨i + 1, by omega, by go_num, HF.out⟩
            case measure => simp [intOf]; omega
    · obtain rfl : i = L.length := by omega
      have HI : Hid _ := hI
      clear hI
      go_wp2
      exact HH.out _ _ _ _ _ _ _ _ _ _ _ _ _ _ _ _ _ _ _ _ _ _ _ _ _ _ _ _ _ HI.out
end Go.Proofs.Ytdciohinlhbliaa


/-
  rgref5.Sweep: rows that are made anew, thing by thing.
-/
namespace Go.Proofs.Ytdciohinlhbliaa
open Go.RowKit
open Wp
/-- Where a row stands that is made anew: in a cell of a box; nothing else has been touched. -/
structure NX (W wr : World) (bn : Nat) (box : Sl → Array Value) (e k : Nat) (r : Sl) (css : List (List Value)) : Prop where
  bx : Blk wr bn (box r) 27
  row : Mine wr W.heap.size e k (.slice r.a r.n r.c) css
  on : On (fun b => b < W.heap.size ∧ b ≠ bn) W wr
  size : W.heap.size ≤ wr.heap.size
  below : ∀ B, B ≤ bn → Below B W wr
theorem NX.more {W wr W2 W3 : World} {bn : Nat} {box : Sl → Array Value} {e k : Nat} {r r' : Sl} {css dss : List (List Value)} (h : NX W wr bn box e k r css) (hbn : bn < W.heap.size) (h2 : Gw wr W2) (h3 : W2.grownBy W3 (Value.slice r.a r.n r.c).ownBlock) (hm : Mine W3 W.heap.size e k (.slice r'.a r'.n r'.c) dss) (i : Nat) (hbox : (box r).setIfInBounds i (.slice r'.a r'.n r'.c) = box r') :
    Blk W3 bn (box r) 27 ∧ NX W (W3.setCell ⟨bn, i, none⟩ (.slice r'.a r'.n r'.c)) bn box e k r' dss := by
  have hz := h.size
  have hz2 := h2.2.1
  have hz3 := h3.size
  have o3 : On (fun b => b < W.heap.size) W2 W3 := fun b hb => h3.block b (by omega) fun e => by have := (h.row.lt b e.symm).1; omega
  have ob : Blk W3 bn (box r) 27 := (h.bx.on h2.1 h.bx.lt).on o3 hbn
  have os := On.set W3 ⟨bn, i, none⟩ (.slice r'.a r'.n r'.c)
  have hb := ob.set i (.slice r'.a r'.n r'.c)
  rw [hbox] at hb
  refine ⟨ob, hb, hm.on os fun g hg => by have := (hm.lt g hg).1; show g ≠ bn; omega, ((h.on.trans (h2.1.less fun b hb => by omega)).trans (o3.less fun b hb => hb.1)).trans (os.less fun b hb => hb.2), by simp; omega, fun B hB => (((h.below B hB).trans (h2.2.2 B (by omega))).grown h3 (by omega) fun j hj => by have := (h.row.lt j hj).1; omega).setCell (p := ⟨bn, i, none⟩) hB _⟩
section
variable {ops : Array Oper} {rest : List Oper} {o : Oper} {a : Act} {w : World} {Q : Exit → Act → World → Prop}
theorem more_obj (hgd : o.guard = none) (s x : Operand) (ho : o.op = .call { callee := .builtin .append, args := #[s, x], argTypes := #[23, 23] }) (base : Nat) (v : Value) (ts : List (Sls × Sp.Ob)) (hs : a.eval s = v) (hown : Mine w base 40 9 v (ts.map objC)) (b : Nat) (hxv : a.eval x = .slice (some ⟨b, 0, none⟩) 1 1) (t : Sls × Sp.Ob) (hb : Blk w b (objC t).toArray 40) (hn : ts.length ≤ 1000) (hbase : base ≤ w.heap.size)
    (h : ∀ r : Sl, ∀ w', Mine w' base 40 9 (.slice r.a r.n r.c) ((ts ++ [t]).map objC) → w.grownBy w' v.ownBlock → wpList Try.prog ops Q rest (a.put o.dst (.slice r.a r.n r.c)) w') : wpList Try.prog ops Q (o :: rest) a w := by
  obtain ⟨i0, hi, hz0, hz1, hz2⟩ := info_parts Try.infoObj
  refine wpList_append_one hgd s x _ ho base 40 40 i0 (.agg #[.int .i64 0, .slice none 0 0, .slice none 0 0, .string ⟨#[]⟩, .int .i64 0, .slice none 0 0, .int .i64 0, .int .i64 0, .int .i64 0]) 9 _ Try.underlying23 hi hz0 hz1 rfl rfl (by decide) v (ts.map objC) hs hown (even_obj ts) b hxv (objC t) hb rfl (fun u hu => ones_obj [t] _ (List.mem_singleton.2 rfl) u hu) (by rw [List.length_map, hz2]; omega) (by rw [hz2]; decide) hbase ?_
  intro r w' h1 h2 _
  rw [show ts.map objC ++ [objC t] = (ts ++ [t]).map objC by rw [List.map_append]; rfl] at h1
  exact h r w' h1 h2
theorem more_opn (hgd : o.guard = none) (s x : Operand) (ho : o.op = .call { callee := .builtin .append, args := #[s, x], argTypes := #[24, 24] }) (base : Nat) (v : Value) (ts : List Sp.Opn) (hs : a.eval s = v) (hown : Mine w base 54 2 v (ts.map opnC)) (b : Nat) (hxv : a.eval x = .slice (some ⟨b, 0, none⟩) 1 1) (t : Sp.Opn) (hb : Blk w b (opnC t).toArray 54) (hn : ts.length ≤ 1000) (hbase : base ≤ w.heap.size)
    (h : ∀ r : Sl, ∀ w', Mine w' base 54 2 (.slice r.a r.n r.c) ((ts ++ [t]).map opnC) → w.grownBy w' v.ownBlock → wpList Try.prog ops Q rest (a.put o.dst (.slice r.a r.n r.c)) w') : wpList Try.prog ops Q (o :: rest) a w := by
  obtain ⟨i0, hi, hz0, hz1, hz2⟩ := info_parts Try.infoOpen
  refine wpList_append_one hgd s x _ ho base 54 54 i0 (.agg #[.int .i64 0, .int .i64 0]) 2 16 Try.underlying24 hi hz0 hz1 hz2 rfl (by decide) v (ts.map opnC) hs hown (even_opn ts) b hxv (opnC t) hb rfl (fun u hu => ones_opn [t] _ (List.mem_singleton.2 rfl) u hu) (by rw [List.length_map]; omega) (by decide) hbase ?_
  intro r w' h1 h2 _
  rw [show ts.map opnC ++ [opnC t] = (ts ++ [t]).map opnC by rw [List.map_append]; rfl] at h1
  exact h r w' h1 h2
theorem more_prc (hgd : o.guard = none) (s x : Operand) (ho : o.op = .call { callee := .builtin .append, args := #[s, x], argTypes := #[25, 25] }) (base : Nat) (v : Value) (ts : List (Sl × Sp.Prc)) (hs : a.eval s = v) (hown : Mine w base 43 4 v (ts.map prcC)) (b : Nat) (hxv : a.eval x = .slice (some ⟨b, 0, none⟩) 1 1) (t : Sl × Sp.Prc) (hb : Blk w b (prcC t).toArray 43) (hn : ts.length ≤ 1000) (hbase : base ≤ w.heap.size)
    (h : ∀ r : Sl, ∀ w', Mine w' base 43 4 (.slice r.a r.n r.c) ((ts ++ [t]).map prcC) → w.grownBy w' v.ownBlock → wpList Try.prog ops Q rest (a.put o.dst (.slice r.a r.n r.c)) w') : wpList Try.prog ops Q (o :: rest) a w := by
  obtain ⟨i0, hi, hz0, hz1, hz2⟩ := info_parts Try.infoProc
  refine wpList_append_one hgd s x _ ho base 43 43 i0 (.agg #[.bool false, .bool false, .int .i64 0, .slice none 0 0]) 4 40 Try.underlying25 hi hz0 hz1 hz2 rfl (by decide) v (ts.map prcC) hs hown (even_prc ts) b hxv (prcC t) hb rfl (fun u hu => ones_prc [t] _ (List.mem_singleton.2 rfl) u hu) (by rw [List.length_map]; omega) (by decide) hbase ?_
  intro r w' h1 h2 _
  rw [show ts.map prcC ++ [prcC t] = (ts ++ [t]).map prcC by rw [List.map_append]; rfl] at h1
  exact h r w' h1 h2
end
end Go.Proofs.Ytdciohinlhbliaa


/-
  rgref5.Sweep: the next kernel's objects.
-/
namespace Go.Proofs.Ytdciohinlhbliaa
open Go.RowKit
open Wp
set_option maxRecDepth 1000000 in
set_option maxHeartbeats 16000000 in
theorem sobj_wp (Q : Exit → Act → World → Prop) (K : Act → World → Prop) (ts : List (Sls × Sp.Ob)) (m : List Bool) (oa : Option Addr) (oc : Nat) (R : Nat → Prop) (W : World) (bn gh cn : Nat) (hbx : Blk W bn #[.slice none 0 0, .slice none 0 0, .slice none 0 0] 27) (hrow : Row W R 9 (.slice oa ts.length oc) (ts.map objC)) (hR : ∀ b, R b → b < W.heap.size ∧ b ≠ bn) (hmap : MapB W gh cn m) (hgb : gh ≠ bn) (hL : ts.length ≤ 40) (hpe : PeerOk (ts.map Prod.snd))
    (x0 x1 x2 x3 x5 x6 x7 x8 x9 x10 x11 x12 x13 x15 x16 x17 x18 x19 x20 x21 x22 x23 x24 x25 x26 x27 x28 x29 x30 x31 x32 x33 x34 x35 x36 x37 x38 x39 x40 x41 x42 x43 x44 x45 x46 x47 x48 x49 x50 x51 x52 x53 x54 x55 x56 x57 x58 x59 x60 x61 x62 x63 x64 x65 x66 x67 x68 x69 x70 x71 x72 x73 x74 x75 x76 x77 x78 x79 x80 x81 x82 x83 x84 x85 x86 x87 x88 x89 x90 x94 x95 x96 x97 x98 x99 x100 x101 x102 x103 x104 x105 x106 x107 x108 x109 x110 x111 x112 x113 x114 x115 x116 x117 x118 x119 x120 x121 x122 x123 x124 x125 x126 x127 x128 x129 x130 x131 x132 x133 x134 x135 x136 x137 x138 x139 x140 x141 x142 x143 x144 x145 x146 x147 x148 x149 x150 x151 x152 x153 x154 x155 x156 x157 x158 x159 x160 x161 x162 x163 x164 x165 x166 x167 x168 x169 x170 x171 x172 x173 x174 x175 x176 x177 x178 x179 x180 x181 x182 x183 x184 x185 x186 x187 x188 x189 x190 x191 x192 x193 x194 x195 x196 x197 x198 x199 x200 x201 x202 x203 x204 x205 x206 x207 x208 x209 x210 x211 x212 x213 x214 x215 x216 x217 x218 x219 x220 x221 x222 x223 x224 x225 x226 x227 x228 x229 x230 x231 x232 x233 x234 x235 x236 x237 x238 x239 x240 x241 x242 x243 x244 x245 x246 x247 x248 x249 x250 x251 x252 x253 x254 x255 x256 x257 x258 x259 x260 x261 x262 x263 x264 x265 x266 x267 x268 x269 x270 x271 x272 x273 x274 x275 x276 x277 x278 x279 x280 x281 x282 x283 : Value)
    (h : ∀ (y15 y16 y94 y95 y96 y97 y98 y99 y100 y101 y102 y103 y104 y105 y106 y107 y108 y109 y110 y111 y112 y113 y114 y115 y116 y117 y118 y119 y120 : Value) (W' : World) (r : Sl), NX W W' bn (fun r => #[.slice r.a r.n r.c, .slice none 0 0, .slice none 0 0]) 40 9 r ((ts.mapIdx (fo m ts.length)).map objC) → K ⟨#[x0, x1, x2, x3, .map (some gh), x5, x6, x7, x8, x9, x10, x11, x12, x13, .pointer (some ⟨bn, 0, none⟩), y15, y16, x17, x18, x19, x20, x21, x22, x23, x24, x25, x26, x27, x28, x29, x30, x31, x32, x33, x34, x35, x36, x37, x38, x39, x40, x41, x42, x43, x44, x45, x46, x47, x48, x49, x50, x51, x52, x53, x54, x55, x56, x57, x58, x59, x60, x61, x62, x63, x64, x65, x66, x67, x68, x69, x70, x71, x72, x73, x74, x75, x76, x77, x78, x79, x80, x81, x82, x83, x84, x85, x86, x87, x88, x89, x90, .slice oa ts.length oc, .int .i64 ts.length, .int .i64 ts.length, y94, y95, y96, y97, y98, y99, y100, y101, y102, y103, y104, y105, y106, y107, y108, y109, y110, y111, y112, y113, y114, y115, y116, y117, y118, y119, y120, x121, x122, x123, x124, x125, x126, x127, x128, x129, x130, x131, x132, x133, x134, x135, x136, x137, x138, x139, x140, x141, x142, x143, x144, x145, x146, x147, x148, x149, x150, x151, x152, x153, x154, x155, x156, x157, x158, x159, x160, x161, x162, x163, x164, x165, x166, x167, x168, x169, x170, x171, x172, x173, x174, x175, x176, x177, x178, x179, x180, x181, x182, x183, x184, x185, x186, x187, x188, x189, x190, x191, x192, x193, x194, x195, x196, x197, x198, x199, x200, x201, x202, x203, x204, x205, x206, x207, x208, x209, x210, x211, x212, x213, x214, x215, x216, x217, x218, x219, x220, x221, x222, x223, x224, x225, x226, x227, x228, x229, x230, x231, x232, x233, x234, x235, x236, x237, x238, x239, x240, x241, x242, x243, x244, x245, x246, x247, x248, x249, x250, x251, x252, x253, x254, x255, x256, x257, x258, x259, x260, x261, x262, x263, x264, x265, x266, x267, x268, x269, x270, x271, x272, x273, x274, x275, x276, x277, x278, x279, x280, x281, x282, x283], []⟩ W') :
    Code.wp Try.prog ((Try.f15.body.bind (findBlock 10)).getD .skip) (Exit.then K Q) ⟨#[x0, x1, x2, x3, .map (some gh), x5, x6, x7, x8, x9, x10, x11, x12, x13, .pointer (some ⟨bn, 0, none⟩), x15, x16, x17, x18, x19, x20, x21, x22, x23, x24, x25, x26, x27, x28, x29, x30, x31, x32, x33, x34, x35, x36, x37, x38, x39, x40, x41, x42, x43, x44, x45, x46, x47, x48, x49, x50, x51, x52, x53, x54, x55, x56, x57, x58, x59, x60, x61, x62, x63, x64, x65, x66, x67, x68, x69, x70, x71, x72, x73, x74, x75, x76, x77, x78, x79, x80, x81, x82, x83, x84, x85, x86, x87, x88, x89, x90, .slice oa ts.length oc, .int .i64 ts.length, .int .i64 0, x94, x95, x96, x97, x98, x99, x100, x101, x102, x103, x104, x105, x106, x107, x108, x109, x110, x111, x112, x113, x114, x115, x116, x117, x118, x119, x120, x121, x122, x123, x124, x125, x126, x127, x128, x129, x130, x131, x132, x133, x134, x135, x136, x137, x138, x139, x140, x141, x142, x143, x144, x145, x146, x147, x148, x149, x150, x151, x152, x153, x154, x155, x156, x157, x158, x159, x160, x161, x162, x163, x164, x165, x166, x167, x168, x169, x170, x171, x172, x173, x174, x175, x176, x177, x178, x179, x180, x181, x182, x183, x184, x185, x186, x187, x188, x189, x190, x191, x192, x193, x194, x195, x196, x197, x198, x199, x200, x201, x202, x203, x204, x205, x206, x207, x208, x209, x210, x211, x212, x213, x214, x215, x216, x217, x218, x219, x220, x221, x222, x223, x224, x225, x226, x227, x228, x229, x230, x231, x232, x233, x234, x235, x236, x237, x238, x239, x240, x241, x242, x243, x244, x245, x246, x247, x248, x249, x250, x251, x252, x253, x254, x255, x256, x257, x258, x259, x260, x261, x262, x263, x264, x265, x266, x267, x268, x269, x270, x271, x272, x273, x274, x275, x276, x277, x278, x279, x280, x281, x282, x283], []⟩ W := by
  have HH : Hid _ := h
  have hm : ts.length ≤ maxLen := by obtain ⟨_, _, _, h2⟩ := Row.form hrow; rw [List.length_map] at h2; exact h2
  have H0 : Hid (NX W W bn (fun r => #[.slice r.a r.n r.c, .slice none 0 0, .slice none 0 0]) 40 9 ⟨none, 0, 0⟩ (((ts.mapIdx (fo m ts.length)).take 0).map objC)) := ⟨hbx, Mine.nil W _ _ _, fun _ _ => rfl, Nat.le_refl _, fun B _ => Below.refl B W⟩
  have HR : Hid (∀ b, R b → b < W.heap.size ∧ b ≠ bn) := hR
  have HRO : Hid (Row W R 9 (.slice oa ts.length oc) (ts.map objC)) := hrow
  have HMP : Hid (MapB W gh cn m) := hmap
  have HGB : Hid (gh < W.heap.size ∧ gh ≠ bn) := ⟨hmap.lt, hgb⟩
  have HPE : Hid (PeerOk (ts.map Prod.snd)) := hpe
  have hbnW := hbx.lt
  have hml : ts.length ≤ 40 := hL
  unfold maxLen at hm
  clear h hbx hrow hR hmap hpe
  conv => arg 2; whnf
  go_wp2_with fail
  go_loopw [93] (fun v wr => ∃ (i : Nat) (r : Sl), i ≤ ts.length ∧ v = .int .i64 i ∧ NX W wr bn (fun r => #[.slice r.a r.n r.c, .slice none 0 0, .slice none 0 0]) 40 9 r (((ts.mapIdx (fo m ts.length)).take i).map objC)) (fun v _ => ts.length - (intOf v).toNat)
  case atStart => exact ⟨0, ⟨none, 0, 0⟩, Nat.zero_le _, rfl, H0.out⟩
  case round =>
    obtain ⟨i, r, hi, rfl, hI⟩ := hrel
    have HI : Hid (NX W wr bn (fun r => #[.slice r.a r.n r.c, .slice none 0 0, .slice none 0 0]) 40 9 r (((ts.mapIdx (fo m ts.length)).take i).map objC)) := hI
    by_cases hlt : i < ts.length
    · obtain ⟨⟨⟨⟨da, dn, dc⟩, ⟨ea, en, ec⟩, ⟨qa, qn, qc⟩⟩, x⟩, hx⟩ : ∃ x, ts[i]? = some x := ⟨_, List.getElem?_eq_getElem hlt⟩
      have hoR : On R W wr := hI.on.less HR.out
      obtain ⟨b, of, c', he, hSb, hc, hcm, h5⟩ := (Row.on HRO.out hoR).some (by rw [List.length_map]; omega)
      obtain ⟨rfl, -, rfl⟩ := Value.slice.inj he
      obtain ⟨k0, k1, k2, k3, k4, k5, k6, k7, k8⟩ := obj_cells h5 hx
      dsimp only at k0 k1 k2 k3 k4 k5 k6 k7 k8
      rw [List.length_map] at hc
      unfold maxLen at hcm
      have htk : (ts.mapIdx (fo m ts.length)).take (i + 1) = (ts.mapIdx (fo m ts.length)).take i ++ [foD m i (⟨⟨da, dn, dc⟩, ⟨ea, en, ec⟩, ⟨qa, qn, qc⟩⟩, x)] := by
        rw [List.take_add_one, List.getElem?_mapIdx, hx, foD_eq HPE.out m i (List.mem_of_getElem? hx)]
        rfl
      have HTK : Hid _ := htk
      have hpk := HPE.out x (by have := List.mem_map_of_mem (f := Prod.snd) (List.mem_of_getElem? hx); exact this)
      rw [List.length_map] at hpk
      have HPK : Hid (x.kind = 4 → x.peer = -1 ∨ (0 ≤ x.peer ∧ x.peer < (ts.length : Int))) := hpk
      have bc0 := hI.bx.cell
      have bl0 := hI.bx.lt
      have hmw : MapB (wr.alloc (.cells #[.int .i64 x.kind, .slice da dn dc, .slice ea en ec, .string x.target, .int .i64 x.peer, .slice qa qn qc, .int .i64 x.proc, .int .i64 x.links, .int .i64 x.up] 40)) gh cn m := (HMP.out.by hI.on ⟨HGB.out.1, HGB.out.2⟩).by (On.alloc wr _) (by have := HGB.out.1; have := hI.size; omega)
      have hlook := hmw.look_nat i (by omega)
      clear he h5 hx hoR hI htk hSb hpk
      cases hg : m.getD i false with
      | false =>
        have HT : Hid (foD m i (⟨⟨da, dn, dc⟩, ⟨ea, en, ec⟩, ⟨qa, qn, qc⟩⟩, x) = (sl0, obZ0)) := by unfold Hid foD; rw [if_pos hg]
        rw [hg] at hlook
        clear hg hmw
        go_wp2_with (with_reducible refine stop_at (.call { callee := .builtin .append, args := #[.tmp 115, .tmp 117], argTypes := #[23, 23] }) rfl ?_)
        unfold Hold
        have hg2 : Gw wr ((wr.alloc (.cells #[.int .i64 0, .slice none 0 0, .slice none 0 0, .string ⟨#[]⟩, .int .i64 0, .slice none 0 0, .int .i64 0, .int .i64 0, .int .i64 0] 40)).alloc (.cells #[.int .i64 0, .slice none 0 0, .slice none 0 0, .string ⟨#[]⟩, .int .i64 0, .slice none 0 0, .int .i64 0, .int .i64 0, .int .i64 0] 40)) := (Gw.new wr _).trans (Gw.new _ _)
        have hbn2 : Blk ((wr.alloc (.cells #[.int .i64 0, .slice none 0 0, .slice none 0 0, .string ⟨#[]⟩, .int .i64 0, .slice none 0 0, .int .i64 0, .int .i64 0, .int .i64 0] 40)).alloc (.cells #[.int .i64 0, .slice none 0 0, .slice none 0 0, .string ⟨#[]⟩, .int .i64 0, .slice none 0 0, .int .i64 0, .int .i64 0, .int .i64 0] 40)) (wr.heap.size + 1) #[.int .i64 0, .slice none 0 0, .slice none 0 0, .string ⟨#[]⟩, .int .i64 0, .slice none 0 0, .int .i64 0, .int .i64 0, .int .i64 0] 40 := blk_new1w wr _ _ _
        generalize (wr.alloc (.cells #[.int .i64 0, .slice none 0 0, .slice none 0 0, .string ⟨#[]⟩, .int .i64 0, .slice none 0 0, .int .i64 0, .int .i64 0, .int .i64 0] 40)).alloc (.cells #[.int .i64 0, .slice none 0 0, .slice none 0 0, .string ⟨#[]⟩, .int .i64 0, .slice none 0 0, .int .i64 0, .int .i64 0, .int .i64 0] 40) = w2 at *
        have HG2 : Hid (Gw wr w2) := hg2
        refine more_obj rfl _ _ rfl W.heap.size (.slice r.a r.n r.c) ((ts.mapIdx (fo m ts.length)).take i) rfl (HI.out.row.on hg2.1 fun g hg => (HI.out.row.lt g hg).2) (wr.heap.size + 1) rfl (sl0, obZ0) hbn2 (by rw [List.length_take]; omega) (by have := HI.out.size; have := hg2.2.1; omega) ?_
        intro r3 w3 hm3 hgr3
        rw [← HT.out, ← HTK.out] at hm3
        have hmore := HI.out.more hbnW HG2.out hgr3 hm3 0 rfl
        have HM : Hid _ := hmore.2
        have bc := hmore.1.cell
        have bf := hmore.1.free
        have bl := hmore.1.lt
        clear hmore hm3 hgr3 hg2 hbn2 k0 k1 k2 k3 k4 k5 k6 k7 k8 bc0 bl0 hlook
        go_wp2
        go_roundw
        case rel => exact ⟨i + 1, r3, by omega, by go_num, HM.out⟩
        case measure => simp [intOf]; omega
      | true =>
        rw [hg] at hlook
        by_cases hk : x.kind = 4
        · have hk' : (x.kind == 4) = true := by simp [hk]
          have hpl := hmw.look x.peer (by rcases HPK.out hk with h | h <;> exact WalkArith.wf_i64 (by omega))
          obtain ⟨β, hβ⟩ : ∃ β : Bool, (decide (0 ≤ x.peer) && m.getD x.peer.toNat false) = β := ⟨_, rfl⟩
          rw [hβ] at hpl
          cases β with
          | false =>
            have HT : Hid (foD m i (⟨⟨da, dn, dc⟩, ⟨ea, en, ec⟩, ⟨qa, qn, qc⟩⟩, x) = (⟨⟨da, dn, dc⟩, ⟨ea, en, ec⟩, ⟨qa, qn, qc⟩⟩, { x with peer := -1 })) := by unfold Hid foD; rw [if_neg (by rw [hg]; decide), if_pos ⟨hk, hβ⟩]
            clear hg hmw hk hβ
            go_wp2_with (with_reducible refine stop_at (.call { callee := .builtin .append, args := #[.tmp 115, .tmp 117], argTypes := #[23, 23] }) rfl ?_)
            unfold Hold
            have hg2 : Gw wr ((wr.alloc (.cells #[.int .i64 x.kind, .slice da dn dc, .slice ea en ec, .string x.target, .int .i64 (-1), .slice qa qn qc, .int .i64 x.proc, .int .i64 x.links, .int .i64 x.up] 40)).alloc (.cells #[.int .i64 x.kind, .slice da dn dc, .slice ea en ec, .string x.target, .int .i64 (-1), .slice qa qn qc, .int .i64 x.proc, .int .i64 x.links, .int .i64 x.up] 40)) := (Gw.new wr _).trans (Gw.new _ _)
            have hbn2 : Blk ((wr.alloc (.cells #[.int .i64 x.kind, .slice da dn dc, .slice ea en ec, .string x.target, .int .i64 (-1), .slice qa qn qc, .int .i64 x.proc, .int .i64 x.links, .int .i64 x.up] 40)).alloc (.cells #[.int .i64 x.kind, .slice da dn dc, .slice ea en ec, .string x.target, .int .i64 (-1), .slice qa qn qc, .int .i64 x.proc, .int .i64 x.links, .int .i64 x.up] 40)) (wr.heap.size + 1) #[.int .i64 x.kind, .slice da dn dc, .slice ea en ec, .string x.target, .int .i64 (-1), .slice qa qn qc, .int .i64 x.proc, .int .i64 x.links, .int .i64 x.up] 40 := blk_new1w wr _ _ _
            generalize (wr.alloc (.cells #[.int .i64 x.kind, .slice da dn dc, .slice ea en ec, .string x.target, .int .i64 (-1), .slice qa qn qc, .int .i64 x.proc, .int .i64 x.links, .int .i64 x.up] 40)).alloc (.cells #[.int .i64 x.kind, .slice da dn dc, .slice ea en ec, .string x.target, .int .i64 (-1), .slice qa qn qc, .int .i64 x.proc, .int .i64 x.links, .int .i64 x.up] 40) = w2 at *
            have HG2 : Hid (Gw wr w2) := hg2
            refine more_obj rfl _ _ rfl W.heap.size (.slice r.a r.n r.c) ((ts.mapIdx (fo m ts.length)).take i) rfl (HI.out.row.on hg2.1 fun g hg => (HI.out.row.lt g hg).2) (wr.heap.size + 1) rfl (⟨⟨da, dn, dc⟩, ⟨ea, en, ec⟩, ⟨qa, qn, qc⟩⟩, { x with peer := -1 }) hbn2 (by rw [List.length_take]; omega) (by have := HI.out.size; have := hg2.2.1; omega) ?_
            intro r3 w3 hm3 hgr3
            rw [← HT.out, ← HTK.out] at hm3
            have hmore := HI.out.more hbnW HG2.out hgr3 hm3 0 rfl
            have HM : Hid _ := hmore.2
            have bc := hmore.1.cell
            have bf := hmore.1.free
            have bl := hmore.1.lt
            clear hmore hm3 hgr3 hg2 hbn2 k0 k1 k2 k3 k4 k5 k6 k7 k8 bc0 bl0 hlook hpl
            go_wp2
            go_roundw
            case rel => exact ⟨i + 1, r3, by omega, by go_num, HM.out⟩
            case measure => simp [intOf]; omega
          | true =>
            have HT : Hid (foD m i (⟨⟨da, dn, dc⟩, ⟨ea, en, ec⟩, ⟨qa, qn, qc⟩⟩, x) = (⟨⟨da, dn, dc⟩, ⟨ea, en, ec⟩, ⟨qa, qn, qc⟩⟩, x)) := by unfold Hid foD; rw [if_neg (by rw [hg]; decide), if_neg (fun h => by have := h.2; dsimp only at this; rw [hβ] at this; cases this)]
            clear hg hmw hk hβ
            go_wp2_with (with_reducible refine stop_at (.call { callee := .builtin .append, args := #[.tmp 115, .tmp 117], argTypes := #[23, 23] }) rfl ?_)
            unfold Hold
            have hg2 : Gw wr ((wr.alloc (.cells #[.int .i64 x.kind, .slice da dn dc, .slice ea en ec, .string x.target, .int .i64 x.peer, .slice qa qn qc, .int .i64 x.proc, .int .i64 x.links, .int .i64 x.up] 40)).alloc (.cells #[.int .i64 x.kind, .slice da dn dc, .slice ea en ec, .string x.target, .int .i64 x.peer, .slice qa qn qc, .int .i64 x.proc, .int .i64 x.links, .int .i64 x.up] 40)) := (Gw.new wr _).trans (Gw.new _ _)
            have hbn2 : Blk ((wr.alloc (.cells #[.int .i64 x.kind, .slice da dn dc, .slice ea en ec, .string x.target, .int .i64 x.peer, .slice qa qn qc, .int .i64 x.proc, .int .i64 x.links, .int .i64 x.up] 40)).alloc (.cells #[.int .i64 x.kind, .slice da dn dc, .slice ea en ec, .string x.target, .int .i64 x.peer, .slice qa qn qc, .int .i64 x.proc, .int .i64 x.links, .int .i64 x.up] 40)) (wr.heap.size + 1) #[.int .i64 x.kind, .slice da dn dc, .slice ea en ec, .string x.target, .int .i64 x.peer, .slice qa qn qc, .int .i64 x.proc, .int .i64 x.links, .int .i64 x.up] 40 := blk_new1w wr _ _ _
            generalize (wr.alloc (.cells #[.int .i64 x.kind, .slice da dn dc, .slice ea en ec, .string x.target, .int .i64 x.peer, .slice qa qn qc, .int .i64 x.proc, .int .i64 x.links, .int .i64 x.up] 40)).alloc (.cells #[.int .i64 x.kind, .slice da dn dc, .slice ea en ec, .string x.target, .int .i64 x.peer, .slice qa qn qc, .int .i64 x.proc, .int .i64 x.links, .int .i64 x.up] 40) = w2 at *
            have HG2 : Hid (Gw wr w2) := hg2
            refine more_obj rfl _ _ rfl W.heap.size (.slice r.a r.n r.c) ((ts.mapIdx (fo m ts.length)).take i) rfl (HI.out.row.on hg2.1 fun g hg => (HI.out.row.lt g hg).2) (wr.heap.size + 1) rfl (⟨⟨da, dn, dc⟩, ⟨ea, en, ec⟩, ⟨qa, qn, qc⟩⟩, x) hbn2 (by rw [List.length_take]; omega) (by have := HI.out.size; have := hg2.2.1; omega) ?_
            intro r3 w3 hm3 hgr3
            rw [← HT.out, ← HTK.out] at hm3
            have hmore := HI.out.more hbnW HG2.out hgr3 hm3 0 rfl
            have HM : Hid _ := hmore.2
            have bc := hmore.1.cell
            have bf := hmore.1.free
            have bl := hmore.1.lt
            clear hmore hm3 hgr3 hg2 hbn2 k0 k1 k2 k3 k4 k5 k6 k7 k8 bc0 bl0 hlook hpl
            go_wp2
            go_roundw
            case rel => exact ⟨i + 1, r3, by omega, by go_num, HM.out⟩
            case measure => simp [intOf]; omega
        · have hk' : (x.kind == 4) = false := by simp [hk]
          have hpl := hlook
          have HT : Hid (foD m i (⟨⟨da, dn, dc⟩, ⟨ea, en, ec⟩, ⟨qa, qn, qc⟩⟩, x) = (⟨⟨da, dn, dc⟩, ⟨ea, en, ec⟩, ⟨qa, qn, qc⟩⟩, x)) := by unfold Hid foD; rw [if_neg (by rw [hg]; decide), if_neg (fun h => hk h.1)]
          clear hg hmw hk
          go_wp2_with (with_reducible refine stop_at (.call { callee := .builtin .append, args := #[.tmp 115, .tmp 117], argTypes := #[23, 23] }) rfl ?_)
          unfold Hold
          have hg2 : Gw wr ((wr.alloc (.cells #[.int .i64 x.kind, .slice da dn dc, .slice ea en ec, .string x.target, .int .i64 x.peer, .slice qa qn qc, .int .i64 x.proc, .int .i64 x.links, .int .i64 x.up] 40)).alloc (.cells #[.int .i64 x.kind, .slice da dn dc, .slice ea en ec, .string x.target, .int .i64 x.peer, .slice qa qn qc, .int .i64 x.proc, .int .i64 x.links, .int .i64 x.up] 40)) := (Gw.new wr _).trans (Gw.new _ _)
          have hbn2 : Blk ((wr.alloc (.cells #[.int .i64 x.kind, .slice da dn dc, .slice ea en ec, .string x.target, .int .i64 x.peer, .slice qa qn qc, .int .i64 x.proc, .int .i64 x.links, .int .i64 x.up] 40)).alloc (.cells #[.int .i64 x.kind, .slice da dn dc, .slice ea en ec, .string x.target, .int .i64 x.peer, .slice qa qn qc, .int .i64 x.proc, .int .i64 x.links, .int .i64 x.up] 40)) (wr.heap.size + 1) #[.int .i64 x.kind, .slice da dn dc, .slice ea en ec, .string x.target, .int .i64 x.peer, .slice qa qn qc, .int .i64 x.proc, .int .i64 x.links, .int .i64 x.up] 40 := blk_new1w wr _ _ _
          generalize (wr.alloc (.cells #[.int .i64 x.kind, .slice da dn dc, .slice ea en ec, .string x.target, .int .i64 x.peer, .slice qa qn qc, .int .i64 x.proc, .int .i64 x.links, .int .i64 x.up] 40)).alloc (.cells #[.int .i64 x.kind, .slice da dn dc, .slice ea en ec, .string x.target, .int .i64 x.peer, .slice qa qn qc, .int .i64 x.proc, .int .i64 x.links, .int .i64 x.up] 40) = w2 at *
          have HG2 : Hid (Gw wr w2) := hg2
          refine more_obj rfl _ _ rfl W.heap.size (.slice r.a r.n r.c) ((ts.mapIdx (fo m ts.length)).take i) rfl (HI.out.row.on hg2.1 fun g hg => (HI.out.row.lt g hg).2) (wr.heap.size + 1) rfl (⟨⟨da, dn, dc⟩, ⟨ea, en, ec⟩, ⟨qa, qn, qc⟩⟩, x) hbn2 (by rw [List.length_take]; omega) (by have := HI.out.size; have := hg2.2.1; omega) ?_
          intro r3 w3 hm3 hgr3
          rw [← HT.out, ← HTK.out] at hm3
          have hmore := HI.out.more hbnW HG2.out hgr3 hm3 0 rfl
          have HM : Hid _ := hmore.2
          have bc := hmore.1.cell
          have bf := hmore.1.free
          have bl := hmore.1.lt
          clear hmore hm3 hgr3 hg2 hbn2 k0 k1 k2 k3 k4 k5 k6 k7 k8 bc0 bl0 hlook hpl
          go_wp2
          go_roundw
          case rel => exact ⟨i + 1, r3, by omega, by go_num, HM.out⟩
          case measure => simp [intOf]; omega
    · obtain rfl : i = ts.length := by omega
      have HF : Hid (NX W wr bn (fun r => #[.slice r.a r.n r.c, .slice none 0 0, .slice none 0 0]) 40 9 r ((ts.mapIdx (fo m ts.length)).map objC)) := by
        have := hI
        rw [List.take_of_length_le (by rw [List.length_mapIdx]; exact Nat.le_refl _)] at this
        exact this
      clear hI HI
      go_wp2
      exact HH.out _ _ _ _ _ _ _ _ _ _ _ _ _ _ _ _ _ _ _ _ _ _ _ _ _ _ _ _ _ _ r HF.out
end Go.Proofs.Ytdciohinlhbliaa


/-
  rgref5.Sweep: the next kernel's open files.
-/
namespace Go.Proofs.Ytdciohinlhbliaa
open Go.RowKit
open Wp
theorem Gw.set {W w1 : World} (h : Gw W w1) {g : Nat} (hg : W.heap.size ≤ g) (j : Nat) (v : Value) : Gw W (w1.setCell ⟨g, j, none⟩ v) := ⟨h.1.trans ((On.set w1 ⟨g, j, none⟩ v).less fun b hb => by show b ≠ g; omega), by have := h.2.1; simp; exact this, fun B hB => (h.2.2 B hB).setCell (p := ⟨g, j, none⟩) (by show B ≤ g; omega) _⟩
set_option maxRecDepth 1000000 in
set_option maxHeartbeats 16000000 in
theorem sopn_wp (Q : Exit → Act → World → Prop) (K : Act → World → Prop) (O : List Sp.Opn) (ms : List Bool) (av : Value) (oa : Option Addr) (oc : Nat) (R : Nat → Prop) (W : World) (bn bo go N : Nat) (hbx : Blk W bn #[av, .slice none 0 0, .slice none 0 0] 27) (hrow : Row W R 2 (.slice oa O.length oc) (O.map opnC)) (hR : ∀ b, R b → b < W.heap.size ∧ b ≠ bn) (hmap : MapN W go N ms) (hgb : go ≠ bn) (hbo : Blk W bo #[.map (some go)] 29) (hob : bo ≠ bn) (hms : ms.length = O.length) (hL : O.length ≤ 1000)
    (x0 x1 x2 x3 x4 x6 x7 x8 x9 x10 x11 x12 x13 x15 x16 x17 x18 x19 x20 x21 x22 x23 x24 x25 x26 x27 x28 x29 x30 x31 x32 x33 x34 x35 x36 x37 x38 x39 x40 x41 x42 x43 x44 x45 x46 x47 x48 x49 x50 x51 x52 x53 x54 x55 x56 x57 x58 x59 x60 x61 x62 x63 x64 x65 x66 x67 x68 x69 x70 x71 x72 x73 x74 x75 x76 x77 x78 x79 x80 x81 x82 x83 x84 x85 x86 x87 x88 x89 x90 x91 x92 x93 x94 x95 x96 x97 x98 x99 x100 x101 x102 x103 x104 x105 x106 x107 x108 x109 x110 x111 x112 x113 x114 x115 x116 x117 x118 x119 x120 x121 x125 x126 x127 x128 x129 x130 x131 x132 x133 x134 x135 x136 x137 x138 x139 x140 x141 x142 x143 x144 x145 x146 x147 x148 x149 x150 x151 x152 x153 x154 x155 x156 x157 x158 x159 x160 x161 x162 x163 x164 x165 x166 x167 x168 x169 x170 x171 x172 x173 x174 x175 x176 x177 x178 x179 x180 x181 x182 x183 x184 x185 x186 x187 x188 x189 x190 x191 x192 x193 x194 x195 x196 x197 x198 x199 x200 x201 x202 x203 x204 x205 x206 x207 x208 x209 x210 x211 x212 x213 x214 x215 x216 x217 x218 x219 x220 x221 x222 x223 x224 x225 x226 x227 x228 x229 x230 x231 x232 x233 x234 x235 x236 x237 x238 x239 x240 x241 x242 x243 x244 x245 x246 x247 x248 x249 x250 x251 x252 x253 x254 x255 x256 x257 x258 x259 x260 x261 x262 x263 x264 x265 x266 x267 x268 x269 x270 x271 x272 x273 x274 x275 x276 x277 x278 x279 x280 x281 x282 x283 : Value)
    (h : ∀ (y17 y18 y125 y126 y127 y128 y129 y130 y131 y132 y133 y134 y135 y136 y137 y138 y139 y140 : Value) (W' : World) (r : Sl), NX W W' bn (fun r => #[av, .slice r.a r.n r.c, .slice none 0 0]) 54 2 r ((O.mapIdx (op ms)).map opnC) → K ⟨#[x0, x1, x2, x3, x4, .pointer (some ⟨bo, 0, none⟩), x6, x7, x8, x9, x10, x11, x12, x13, .pointer (some ⟨bn, 0, none⟩), x15, x16, y17, y18, x19, x20, x21, x22, x23, x24, x25, x26, x27, x28, x29, x30, x31, x32, x33, x34, x35, x36, x37, x38, x39, x40, x41, x42, x43, x44, x45, x46, x47, x48, x49, x50, x51, x52, x53, x54, x55, x56, x57, x58, x59, x60, x61, x62, x63, x64, x65, x66, x67, x68, x69, x70, x71, x72, x73, x74, x75, x76, x77, x78, x79, x80, x81, x82, x83, x84, x85, x86, x87, x88, x89, x90, x91, x92, x93, x94, x95, x96, x97, x98, x99, x100, x101, x102, x103, x104, x105, x106, x107, x108, x109, x110, x111, x112, x113, x114, x115, x116, x117, x118, x119, x120, x121, .slice oa O.length oc, .int .i64 O.length, .int .i64 O.length, y125, y126, y127, y128, y129, y130, y131, y132, y133, y134, y135, y136, y137, y138, y139, y140, x141, x142, x143, x144, x145, x146, x147, x148, x149, x150, x151, x152, x153, x154, x155, x156, x157, x158, x159, x160, x161, x162, x163, x164, x165, x166, x167, x168, x169, x170, x171, x172, x173, x174, x175, x176, x177, x178, x179, x180, x181, x182, x183, x184, x185, x186, x187, x188, x189, x190, x191, x192, x193, x194, x195, x196, x197, x198, x199, x200, x201, x202, x203, x204, x205, x206, x207, x208, x209, x210, x211, x212, x213, x214, x215, x216, x217, x218, x219, x220, x221, x222, x223, x224, x225, x226, x227, x228, x229, x230, x231, x232, x233, x234, x235, x236, x237, x238, x239, x240, x241, x242, x243, x244, x245, x246, x247, x248, x249, x250, x251, x252, x253, x254, x255, x256, x257, x258, x259, x260, x261, x262, x263, x264, x265, x266, x267, x268, x269, x270, x271, x272, x273, x274, x275, x276, x277, x278, x279, x280, x281, x282, x283], []⟩ W') :
    Code.wp Try.prog ((Try.f15.body.bind (findBlock 12)).getD .skip) (Exit.then K Q) ⟨#[x0, x1, x2, x3, x4, .pointer (some ⟨bo, 0, none⟩), x6, x7, x8, x9, x10, x11, x12, x13, .pointer (some ⟨bn, 0, none⟩), x15, x16, x17, x18, x19, x20, x21, x22, x23, x24, x25, x26, x27, x28, x29, x30, x31, x32, x33, x34, x35, x36, x37, x38, x39, x40, x41, x42, x43, x44, x45, x46, x47, x48, x49, x50, x51, x52, x53, x54, x55, x56, x57, x58, x59, x60, x61, x62, x63, x64, x65, x66, x67, x68, x69, x70, x71, x72, x73, x74, x75, x76, x77, x78, x79, x80, x81, x82, x83, x84, x85, x86, x87, x88, x89, x90, x91, x92, x93, x94, x95, x96, x97, x98, x99, x100, x101, x102, x103, x104, x105, x106, x107, x108, x109, x110, x111, x112, x113, x114, x115, x116, x117, x118, x119, x120, x121, .slice oa O.length oc, .int .i64 O.length, .int .i64 0, x125, x126, x127, x128, x129, x130, x131, x132, x133, x134, x135, x136, x137, x138, x139, x140, x141, x142, x143, x144, x145, x146, x147, x148, x149, x150, x151, x152, x153, x154, x155, x156, x157, x158, x159, x160, x161, x162, x163, x164, x165, x166, x167, x168, x169, x170, x171, x172, x173, x174, x175, x176, x177, x178, x179, x180, x181, x182, x183, x184, x185, x186, x187, x188, x189, x190, x191, x192, x193, x194, x195, x196, x197, x198, x199, x200, x201, x202, x203, x204, x205, x206, x207, x208, x209, x210, x211, x212, x213, x214, x215, x216, x217, x218, x219, x220, x221, x222, x223, x224, x225, x226, x227, x228, x229, x230, x231, x232, x233, x234, x235, x236, x237, x238, x239, x240, x241, x242, x243, x244, x245, x246, x247, x248, x249, x250, x251, x252, x253, x254, x255, x256, x257, x258, x259, x260, x261, x262, x263, x264, x265, x266, x267, x268, x269, x270, x271, x272, x273, x274, x275, x276, x277, x278, x279, x280, x281, x282, x283], []⟩ W := by
  have HH : Hid _ := h
  have hm : O.length ≤ maxLen := by obtain ⟨_, _, _, h2⟩ := Row.form hrow; rw [List.length_map] at h2; exact h2
  have H0 : Hid (NX W W bn (fun r => #[av, .slice r.a r.n r.c, .slice none 0 0]) 54 2 ⟨none, 0, 0⟩ (((O.mapIdx (op ms)).take 0).map opnC)) := ⟨hbx, Mine.nil W _ _ _, fun _ _ => rfl, Nat.le_refl _, fun B _ => Below.refl B W⟩
  have HR : Hid (∀ b, R b → b < W.heap.size ∧ b ≠ bn) := hR
  have HRO : Hid (Row W R 2 (.slice oa O.length oc) (O.map opnC)) := hrow
  have HMP : Hid (MapN W go N ms) := hmap
  have HBO : Hid (Blk W bo #[.map (some go)] 29) := hbo
  have HGB : Hid (go < W.heap.size ∧ go ≠ bn ∧ bo ≠ bn) := ⟨hmap.lt, hgb, hob⟩
  have hbnW := hbx.lt
  have hboW := hbo.lt
  have HML : Hid (ms.length = O.length) := hms
  have hml : O.length ≤ 1000 := hL
  unfold maxLen at hm
  clear h hbx hrow hR hmap hbo hms
  conv => arg 2; whnf
  go_wp2_with fail
  go_loopw [124] (fun v wr => ∃ (i : Nat) (r : Sl), i ≤ O.length ∧ v = .int .i64 i ∧ NX W wr bn (fun r => #[av, .slice r.a r.n r.c, .slice none 0 0]) 54 2 r (((O.mapIdx (op ms)).take i).map opnC)) (fun v _ => O.length - (intOf v).toNat)
  case atStart => exact ⟨0, ⟨none, 0, 0⟩, Nat.zero_le _, rfl, H0.out⟩
  case round =>
    obtain ⟨i, r, hi, rfl, hI⟩ := hrel
    have HI : Hid (NX W wr bn (fun r => #[av, .slice r.a r.n r.c, .slice none 0 0]) 54 2 r (((O.mapIdx (op ms)).take i).map opnC)) := hI
    by_cases hlt : i < O.length
    · obtain ⟨x, hx⟩ : ∃ x, O[i]? = some x := ⟨_, List.getElem?_eq_getElem hlt⟩
      have hoR : On R W wr := hI.on.less HR.out
      obtain ⟨b, of, c', he, hSb, hc, hcm, h5⟩ := (Row.on HRO.out hoR).some (by rw [List.length_map]; omega)
      obtain ⟨rfl, -, rfl⟩ := Value.slice.inj he
      have hii := h5 i (opnC x) (by rw [List.getElem?_map, hx]; rfl)
      have k0 := hii 0 _ rfl
      have k1 := hii 1 _ rfl
      rw [Nat.add_zero] at k0
      rw [List.length_map] at hc
      unfold maxLen at hcm
      have htk : (O.mapIdx (op ms)).take (i + 1) = (O.mapIdx (op ms)).take i ++ [op ms i x] := by
        rw [List.take_add_one, List.getElem?_mapIdx, hx]
        rfl
      have HTK : Hid _ := htk
      have bc0 := hI.bx.cell
      have bl0 := hI.bx.lt
      have hbw := HBO.out.on hI.on ⟨hboW, HGB.out.2.2⟩
      have o0 := hbw.cell 0
      have ol := hbw.lt
      simp at o0
      have hlook := ((HMP.out.by hI.on ⟨HGB.out.1, HGB.out.2.1⟩).by (On.alloc wr (.cells #[.int .i64 x.obj, .int .i64 x.pos] 54)) (by have := HGB.out.1; have := hI.size; omega)).look i (by rw [HML.out]; exact hlt) (by rw [HML.out]; omega)
      clear he h5 hx hoR hI htk hSb hii hbw
      cases hg : ms.getD i false with
      | false =>
        have HT : Hid (op ms i x = opnZ) := by unfold Hid op; rw [if_pos hg]
        rw [hg] at hlook
        clear hg
        go_wp2_with (with_reducible refine stop_at (.call { callee := .builtin .append, args := #[.tmp 135, .tmp 137], argTypes := #[24, 24] }) rfl ?_)
        unfold Hold
        have hg2 : Gw wr ((wr.alloc (.cells #[.int .i64 (-1), .int .i64 0] 54)).alloc (.cells #[.int .i64 (-1), .int .i64 0] 54)) := (Gw.new wr _).trans (Gw.new _ _)
        have hbn2 : Blk ((wr.alloc (.cells #[.int .i64 (-1), .int .i64 0] 54)).alloc (.cells #[.int .i64 (-1), .int .i64 0] 54)) (wr.heap.size + 1) #[.int .i64 (-1), .int .i64 0] 54 := blk_new1w wr _ _ _
        generalize (wr.alloc (.cells #[.int .i64 (-1), .int .i64 0] 54)).alloc (.cells #[.int .i64 (-1), .int .i64 0] 54) = w2 at *
        have HG2 : Hid (Gw wr w2) := hg2
        refine more_opn rfl _ _ rfl W.heap.size (.slice r.a r.n r.c) ((O.mapIdx (op ms)).take i) rfl (HI.out.row.on hg2.1 fun g hg => (HI.out.row.lt g hg).2) (wr.heap.size + 1) rfl opnZ hbn2 (by rw [List.length_take]; omega) (by have := HI.out.size; have := hg2.2.1; omega) ?_
        intro r3 w3 hm3 hgr3
        rw [← HT.out, ← HTK.out] at hm3
        have hmore := HI.out.more hbnW HG2.out hgr3 hm3 1 rfl
        have HM : Hid _ := hmore.2
        have bc := hmore.1.cell
        have bf := hmore.1.free
        have bl := hmore.1.lt
        clear hmore hm3 hgr3 hg2 hbn2 k0 k1 bc0 bl0 hlook o0
        go_wp2
        go_roundw
        case rel => exact ⟨i + 1, r3, by omega, by go_num, HM.out⟩
        case measure => simp [intOf]; omega
      | true =>
        have HT : Hid (op ms i x = x) := by unfold Hid op; rw [if_neg (by rw [hg]; decide)]
        rw [hg] at hlook
        clear hg
        go_wp2_with (with_reducible refine stop_at (.call { callee := .builtin .append, args := #[.tmp 135, .tmp 137], argTypes := #[24, 24] }) rfl ?_)
        unfold Hold
        have hg2 : Gw wr ((wr.alloc (.cells #[.int .i64 x.obj, .int .i64 x.pos] 54)).alloc (.cells #[.int .i64 x.obj, .int .i64 x.pos] 54)) := (Gw.new wr _).trans (Gw.new _ _)
        have hbn2 : Blk ((wr.alloc (.cells #[.int .i64 x.obj, .int .i64 x.pos] 54)).alloc (.cells #[.int .i64 x.obj, .int .i64 x.pos] 54)) (wr.heap.size + 1) #[.int .i64 x.obj, .int .i64 x.pos] 54 := blk_new1w wr _ _ _
        generalize (wr.alloc (.cells #[.int .i64 x.obj, .int .i64 x.pos] 54)).alloc (.cells #[.int .i64 x.obj, .int .i64 x.pos] 54) = w2 at *
        have HG2 : Hid (Gw wr w2) := hg2
        refine more_opn rfl _ _ rfl W.heap.size (.slice r.a r.n r.c) ((O.mapIdx (op ms)).take i) rfl (HI.out.row.on hg2.1 fun g hg => (HI.out.row.lt g hg).2) (wr.heap.size + 1) rfl x hbn2 (by rw [List.length_take]; omega) (by have := HI.out.size; have := hg2.2.1; omega) ?_
        intro r3 w3 hm3 hgr3
        rw [← HT.out, ← HTK.out] at hm3
        have hmore := HI.out.more hbnW HG2.out hgr3 hm3 1 rfl
        have HM : Hid _ := hmore.2
        have bc := hmore.1.cell
        have bf := hmore.1.free
        have bl := hmore.1.lt
        clear hmore hm3 hgr3 hg2 hbn2 k0 k1 bc0 bl0 hlook o0
        go_wp2
        go_roundw
        case rel => exact ⟨i + 1, r3, by omega, by go_num, HM.out⟩
        case measure => simp [intOf]; omega
    · obtain rfl : i = O.length := by omega
      have HF : Hid (NX W wr bn (fun r => #[av, .slice r.a r.n r.c, .slice none 0 0]) 54 2 r ((O.mapIdx (op ms)).map opnC)) := by
        have := hI
        rw [List.take_of_length_le (by rw [List.length_mapIdx]; exact Nat.le_refl _)] at this
        exact this
      clear hI HI
      go_wp2
      exact HH.out _ _ _ _ _ _ _ _ _ _ _ _ _ _ _ _ _ _ _ r HF.out
set_option maxRecDepth 1000000 in
set_option maxHeartbeats 16000000 in
theorem sprc_wp (Q : Exit → Act → World → Prop) (K : Act → World → Prop) (L : List Sp.Ob) (ps : List (Sl × Sp.Prc)) (av bv : Value) (oa : Option Addr) (oc : Nat) (R T : Nat → Prop) (W : World) (bn : Nat) (hbx : Blk W bn #[av, bv, .slice none 0 0] 27) (hrow : Row W R 4 (.slice oa ps.length oc) (ps.map prcC)) (hR : ∀ b, R b → b < W.heap.size ∧ b ≠ bn) (hv : Objs W T av L) (hT : ∀ b, T b → b < W.heap.size ∧ b ≠ bn) (hL : ps.length ≤ 1000)
    (x0 x1 x2 x4 x5 x6 x7 x8 x9 x10 x11 x12 x13 x15 x16 x17 x18 x19 x20 x21 x22 x23 x24 x25 x26 x27 x28 x29 x30 x31 x32 x33 x34 x35 x36 x37 x38 x39 x40 x41 x42 x43 x44 x45 x46 x47 x48 x49 x50 x51 x52 x53 x54 x55 x56 x57 x58 x59 x60 x61 x62 x63 x64 x65 x66 x67 x68 x69 x70 x71 x72 x73 x74 x75 x76 x77 x78 x79 x80 x81 x82 x83 x84 x85 x86 x87 x88 x89 x90 x91 x92 x93 x94 x95 x96 x97 x98 x99 x100 x101 x102 x103 x104 x105 x106 x107 x108 x109 x110 x111 x112 x113 x114 x115 x116 x117 x118 x119 x120 x121 x122 x123 x124 x125 x126 x127 x128 x129 x130 x131 x132 x133 x134 x135 x136 x137 x138 x139 x140 x141 x145 x146 x147 x148 x149 x150 x151 x152 x153 x154 x155 x156 x157 x158 x159 x160 x161 x162 x163 x164 x165 x166 x167 x168 x169 x170 x171 x172 x173 x174 x175 x176 x177 x178 x179 x180 x181 x182 x183 x184 x185 x186 x187 x188 x189 x190 x191 x192 x193 x194 x195 x196 x197 x198 x199 x200 x201 x202 x203 x204 x205 x206 x207 x208 x209 x210 x211 x212 x213 x214 x215 x216 x217 x218 x219 x220 x221 x222 x223 x224 x225 x226 x227 x228 x229 x230 x231 x232 x233 x234 x235 x236 x237 x238 x239 x240 x241 x242 x243 x244 x245 x246 x247 x248 x249 x250 x251 x252 x253 x254 x255 x256 x257 x258 x259 x260 x261 x262 x263 x264 x265 x266 x267 x268 x269 x270 x271 x272 x273 x274 x275 x276 x277 x278 x279 x280 x281 x282 x283 : Value)
    (h : ∀ (y19 y20 y145 y146 y147 y148 y149 y150 y151 y152 y153 y154 y155 y156 y157 y158 y159 y160 y161 y162 y163 y164 y165 y166 y167 y168 y169 : Value) (W' : World) (r : Sl), NX W W' bn (fun r => #[av, bv, .slice r.a r.n r.c]) 43 4 r ((ps.mapIdx (ep (knownB L ps.length))).map prcC) → K ⟨#[x0, x1, x2, .bool (anyTo (epB (knownB L ps.length)) ps ps.length), x4, x5, x6, x7, x8, x9, x10, x11, x12, x13, .pointer (some ⟨bn, 0, none⟩), x15, x16, x17, x18, y19, y20, x21, x22, x23, x24, x25, x26, x27, x28, x29, x30, x31, x32, x33, x34, x35, x36, x37, x38, x39, x40, x41, x42, x43, x44, x45, x46, x47, x48, x49, x50, x51, x52, x53, x54, x55, x56, x57, x58, x59, x60, x61, x62, x63, x64, x65, x66, x67, x68, x69, x70, x71, x72, x73, x74, x75, x76, x77, x78, x79, x80, x81, x82, x83, x84, x85, x86, x87, x88, x89, x90, x91, x92, x93, x94, x95, x96, x97, x98, x99, x100, x101, x102, x103, x104, x105, x106, x107, x108, x109, x110, x111, x112, x113, x114, x115, x116, x117, x118, x119, x120, x121, x122, x123, x124, x125, x126, x127, x128, x129, x130, x131, x132, x133, x134, x135, x136, x137, x138, x139, x140, x141, .slice oa ps.length oc, .int .i64 ps.length, .int .i64 ps.length, y145, y146, y147, y148, y149, y150, y151, y152, y153, y154, y155, y156, y157, y158, y159, y160, y161, y162, y163, y164, y165, y166, y167, y168, y169, x170, x171, x172, x173, x174, x175, x176, x177, x178, x179, x180, x181, x182, x183, x184, x185, x186, x187, x188, x189, x190, x191, x192, x193, x194, x195, x196, x197, x198, x199, x200, x201, x202, x203, x204, x205, x206, x207, x208, x209, x210, x211, x212, x213, x214, x215, x216, x217, x218, x219, x220, x221, x222, x223, x224, x225, x226, x227, x228, x229, x230, x231, x232, x233, x234, x235, x236, x237, x238, x239, x240, x241, x242, x243, x244, x245, x246, x247, x248, x249, x250, x251, x252, x253, x254, x255, x256, x257, x258, x259, x260, x261, x262, x263, x264, x265, x266, x267, x268, x269, x270, x271, x272, x273, x274, x275, x276, x277, x278, x279, x280, x281, x282, x283], []⟩ W') :
    Code.wp Try.prog ((Try.f15.body.bind (findBlock 14)).getD .skip) (Exit.then K Q) ⟨#[x0, x1, x2, .bool false, x4, x5, x6, x7, x8, x9, x10, x11, x12, x13, .pointer (some ⟨bn, 0, none⟩), x15, x16, x17, x18, x19, x20, x21, x22, x23, x24, x25, x26, x27, x28, x29, x30, x31, x32, x33, x34, x35, x36, x37, x38, x39, x40, x41, x42, x43, x44, x45, x46, x47, x48, x49, x50, x51, x52, x53, x54, x55, x56, x57, x58, x59, x60, x61, x62, x63, x64, x65, x66, x67, x68, x69, x70, x71, x72, x73, x74, x75, x76, x77, x78, x79, x80, x81, x82, x83, x84, x85, x86, x87, x88, x89, x90, x91, x92, x93, x94, x95, x96, x97, x98, x99, x100, x101, x102, x103, x104, x105, x106, x107, x108, x109, x110, x111, x112, x113, x114, x115, x116, x117, x118, x119, x120, x121, x122, x123, x124, x125, x126, x127, x128, x129, x130, x131, x132, x133, x134, x135, x136, x137, x138, x139, x140, x141, .slice oa ps.length oc, .int .i64 ps.length, .int .i64 0, x145, x146, x147, x148, x149, x150, x151, x152, x153, x154, x155, x156, x157, x158, x159, x160, x161, x162, x163, x164, x165, x166, x167, x168, x169, x170, x171, x172, x173, x174, x175, x176, x177, x178, x179, x180, x181, x182, x183, x184, x185, x186, x187, x188, x189, x190, x191, x192, x193, x194, x195, x196, x197, x198, x199, x200, x201, x202, x203, x204, x205, x206, x207, x208, x209, x210, x211, x212, x213, x214, x215, x216, x217, x218, x219, x220, x221, x222, x223, x224, x225, x226, x227, x228, x229, x230, x231, x232, x233, x234, x235, x236, x237, x238, x239, x240, x241, x242, x243, x244, x245, x246, x247, x248, x249, x250, x251, x252, x253, x254, x255, x256, x257, x258, x259, x260, x261, x262, x263, x264, x265, x266, x267, x268, x269, x270, x271, x272, x273, x274, x275, x276, x277, x278, x279, x280, x281, x282, x283], []⟩ W := by
  have HH : Hid _ := h
  have hm : ps.length ≤ maxLen := by obtain ⟨_, _, _, h2⟩ := Row.form hrow; rw [List.length_map] at h2; exact h2
  have H0 : Hid (NX W W bn (fun r => #[av, bv, .slice r.a r.n r.c]) 43 4 ⟨none, 0, 0⟩ (((ps.mapIdx (ep (knownB L ps.length))).take 0).map prcC)) := ⟨hbx, Mine.nil W _ _ _, fun _ _ => rfl, Nat.le_refl _, fun B _ => Below.refl B W⟩
  have HR : Hid (∀ b, R b → b < W.heap.size ∧ b ≠ bn) := hR
  have HT0 : Hid (∀ b, T b → b < W.heap.size ∧ b ≠ bn) := hT
  have HRO : Hid (Row W R 4 (.slice oa ps.length oc) (ps.map prcC)) := hrow
  have HV : Hid (Objs W T av L) := hv
  have hbnW := hbx.lt
  have hml : ps.length ≤ 1000 := hL
  unfold maxLen at hm
  clear h hbx hrow hR hT hv
  conv => arg 2; whnf
  go_wp2_with fail
  go_loopw [3, 144] (fun g v wr => ∃ (i : Nat) (r : Sl), i ≤ ps.length ∧ v = .int .i64 i ∧ g = .bool (anyTo (epB (knownB L ps.length)) ps i) ∧ NX W wr bn (fun r => #[av, bv, .slice r.a r.n r.c]) 43 4 r (((ps.mapIdx (ep (knownB L ps.length))).take i).map prcC)) (fun _ v _ => ps.length - (intOf v).toNat)
  case atStart => exact ⟨0, ⟨none, 0, 0⟩, Nat.zero_le _, rfl, rfl, H0.out⟩
  case round =>
    obtain ⟨i, r, hi, rfl, rfl, hI⟩ := hrel
    have HI : Hid (NX W wr bn (fun r => #[av, bv, .slice r.a r.n r.c]) 43 4 r (((ps.mapIdx (ep (knownB L ps.length))).take i).map prcC)) := hI
    by_cases hlt : i < ps.length
    · obtain ⟨⟨sl, p⟩, hx⟩ : ∃ x, ps[i]? = some x := ⟨_, List.getElem?_eq_getElem hlt⟩
      have hoR : On R W wr := hI.on.less HR.out
      obtain ⟨b, of, c', he, hSb, hc, hcm, h5⟩ := (Row.on HRO.out hoR).some (by rw [List.length_map]; omega)
      obtain ⟨rfl, -, rfl⟩ := Value.slice.inj he
      have hii := h5 i (prcC (sl, p)) (by rw [List.getElem?_map, hx]; rfl)
      have k0 := hii 0 _ rfl
      have k1 := hii 1 _ rfl
      have k2 := hii 2 _ rfl
      have k3 := hii 3 _ rfl
      rw [Nat.add_zero] at k0
      rw [List.length_map] at hc
      unfold maxLen at hcm
      have htk : (ps.mapIdx (ep (knownB L ps.length))).take (i + 1) = (ps.mapIdx (ep (knownB L ps.length))).take i ++ [ep (knownB L ps.length) i (sl, p)] := by
        rw [List.take_add_one, List.getElem?_mapIdx, hx]
        rfl
      have HTK : Hid _ := htk
      have HAN : Hid (anyTo (epB (knownB L ps.length)) ps (i + 1) = (anyTo (epB (knownB L ps.length)) ps i || epB (knownB L ps.length) i (sl, p))) := anyTo_next hx
      have HKN : Hid ((knownB L ps.length).getD i false = heldB L (i : Int)) := known_get L hlt
      have bc0 := hI.bx.cell
      have bl0 := hI.bx.lt
      clear he h5 hx hoR hI htk hSb hii
      by_cases hi0 : i = 0
      · have HT : Hid (ep (knownB L ps.length) i (sl, p) = (sl, p)) := by unfold Hid ep epB; rw [if_neg (by rw [hi0]; simp)]
        have HA : Hid (anyTo (epB (knownB L ps.length)) ps (i + 1) = anyTo (epB (knownB L ps.length)) ps i) := by unfold Hid; rw [HAN.out]; unfold epB; rw [hi0]; simp
        have hz : ¬ (0 : Int) < (i : Int) := by omega
        clear hi0
        go_wp2_with (with_reducible refine stop_at (.call { callee := .builtin .append, args := #[.tmp 164, .tmp 166], argTypes := #[25, 25] }) rfl ?_)
        unfold Hold
        have hg2 : Gw wr ((wr.alloc (.cells #[.bool p.live, .bool p.fenced, .int .i64 p.code, .slice sl.a sl.n sl.c] 43)).alloc (.cells #[.bool p.live, .bool p.fenced, .int .i64 p.code, .slice sl.a sl.n sl.c] 43)) := (Gw.new wr _).trans (Gw.new _ _)
        have hbn2 : Blk ((wr.alloc (.cells #[.bool p.live, .bool p.fenced, .int .i64 p.code, .slice sl.a sl.n sl.c] 43)).alloc (.cells #[.bool p.live, .bool p.fenced, .int .i64 p.code, .slice sl.a sl.n sl.c] 43)) (wr.heap.size + 1) #[.bool p.live, .bool p.fenced, .int .i64 p.code, .slice sl.a sl.n sl.c] 43 := blk_new1w wr _ _ _
        generalize (wr.alloc (.cells #[.bool p.live, .bool p.fenced, .int .i64 p.code, .slice sl.a sl.n sl.c] 43)).alloc (.cells #[.bool p.live, .bool p.fenced, .int .i64 p.code, .slice sl.a sl.n sl.c] 43) = w2 at *
        have HG2 : Hid (Gw wr w2) := hg2
        refine more_prc rfl _ _ rfl W.heap.size (.slice r.a r.n r.c) ((ps.mapIdx (ep (knownB L ps.length))).take i) rfl (HI.out.row.on hg2.1 fun g hg => (HI.out.row.lt g hg).2) (wr.heap.size + 1) rfl (sl, p) (by rw [show (prcC (sl, p)).toArray = #[.bool p.live, .bool p.fenced, .int .i64 p.code, .slice sl.a sl.n sl.c] from rfl]; exact hbn2) (by rw [List.length_take]; omega) (by have := HI.out.size; have := hg2.2.1; omega) ?_
        intro r3 w3 hm3 hgr3
        rw [← HT.out, ← HTK.out] at hm3
        have hmore := HI.out.more hbnW HG2.out hgr3 hm3 2 rfl
        have HM : Hid _ := hmore.2
        have bc := hmore.1.cell
        have bf := hmore.1.free
        have bl := hmore.1.lt
        clear hmore hm3 hgr3 hg2 hbn2 k0 k1 k2 k3 bc0 bl0
        go_wp2
        go_roundw
        case rel => exact ⟨i + 1, r3, by omega, by go_num, by rw [HA.out], HM.out⟩
        case measure => simp [intOf]; omega
      · have hz : (0 : Int) < (i : Int) := by omega
        have HI1 : Hid (1 ≤ i) := by unfold Hid; omega
        clear hi0
        rcases Bool.eq_false_or_eq_true p.live with hlv | hlv
        focus
          have HLV : Hid (p.live = true) := hlv
          have HBX1 : Hid (Blk (wr.alloc (.cells #[.bool true, .bool p.fenced, .int .i64 p.code, .slice sl.a sl.n sl.c] 43)) wr.heap.size #[.bool true, .bool p.fenced, .int .i64 p.code, .slice sl.a sl.n sl.c] 43) := Blk.new wr _ _
          have HHE : Hid (Calls Try.prog 48 #[av, .int .i64 (i : Int)] (wr.alloc (.cells #[.bool true, .bool p.fenced, .int .i64 p.code, .slice sl.a sl.n sl.c] 43)) fun e w' => e = .returned (.bool (heldB L (i : Int))) ∧ Gw (wr.alloc (.cells #[.bool true, .bool p.fenced, .int .i64 p.code, .slice sl.a sl.n sl.c] 43)) w') := rheldP_any L (i : Int) av T _ ((HV.out.on (HI.out.on.less HT0.out)).on ((On.alloc wr _).less fun b hb => by have := HT0.out b hb; have := HI.out.size; omega)) (fun b hb => by have := HT0.out b hb; have := HI.out.size; simp; omega)
          rw [hlv] at k0
          clear hlv
          go_wp2_with fail
          refine Calls.mono HHE.out ?_
          rintro e w1 ⟨rfl, hg1⟩
          have HG1 : Hid (Gw wr w1) := (Gw.new wr _).trans hg1
          have hb1 := HBX1.out.on hg1.1 HBX1.out.lt
          have b1c := hb1.cell
          have pf1 := hb1.free
          have pl1 := hb1.lt
          have hbb := HI.out.bx.on HG1.out.1 HI.out.bx.lt
          have bc1 := hbb.cell
          have bll1 := hbb.lt
          clear hg1 hb1 hbb k0 k1 k2 k3 bc0 bl0 HHE HBX1
          cases hh : heldB L (i : Int) with
          | true =>
            have HT : Hid (ep (knownB L ps.length) i (sl, p) = (sl, p)) := by unfold Hid ep epB; rw [if_neg (by rw [HKN.out, hh]; simp)]
            have HA : Hid (anyTo (epB (knownB L ps.length)) ps (i + 1) = anyTo (epB (knownB L ps.length)) ps i) := by unfold Hid; rw [HAN.out]; unfold epB; rw [HKN.out, hh]; simp
            clear hh
            go_wp2_with (with_reducible refine stop_at (.call { callee := .builtin .append, args := #[.tmp 164, .tmp 166], argTypes := #[25, 25] }) rfl ?_)
            unfold Hold
            have hg2 : Gw wr (w1.alloc (.cells #[.bool true, .bool p.fenced, .int .i64 p.code, .slice sl.a sl.n sl.c] 43)) := HG1.out.trans (Gw.new w1 _)
            have hbn2 := Blk.new w1 #[.bool true, .bool p.fenced, .int .i64 p.code, .slice sl.a sl.n sl.c] 43
            have HG2 : Hid (Gw wr (w1.alloc (.cells #[.bool true, .bool p.fenced, .int .i64 p.code, .slice sl.a sl.n sl.c] 43))) := hg2
            refine more_prc rfl _ _ rfl W.heap.size (.slice r.a r.n r.c) ((ps.mapIdx (ep (knownB L ps.length))).take i) rfl (HI.out.row.on hg2.1 fun g hg => (HI.out.row.lt g hg).2) w1.heap.size rfl (sl, p) (by rw [show (prcC (sl, p)).toArray = #[.bool p.live, .bool p.fenced, .int .i64 p.code, .slice sl.a sl.n sl.c] from rfl, HLV.out]; exact hbn2) (by rw [List.length_take]; omega) (by have := HI.out.size; have := hg2.2.1; omega) ?_
            intro r3 w3 hm3 hgr3
            rw [← HT.out, ← HTK.out] at hm3
            have hmore := HI.out.more hbnW HG2.out hgr3 hm3 2 rfl
            have HM : Hid _ := hmore.2
            have bc := hmore.1.cell
            have bf := hmore.1.free
            have bl := hmore.1.lt
            clear hmore hm3 hgr3 hg2 hbn2 bc1 pf1 b1c
            go_wp2
            go_roundw
            case rel => exact ⟨i + 1, r3, by omega, by go_num, by rw [HA.out], HM.out⟩
            case measure => simp [intOf]; omega
          | false =>
            have HT : Hid (ep (knownB L ps.length) i (sl, p) = prcZ0) := by unfold Hid ep epB; rw [if_pos (by rw [HKN.out, hh]; simp [HLV.out, HI1.out])]
            have HA : Hid (anyTo (epB (knownB L ps.length)) ps (i + 1) = true) := by unfold Hid; rw [HAN.out]; unfold epB; rw [HKN.out, hh]; simp [HLV.out, HI1.out]
            have hne1 : ¬ wr.heap.size = bn := by have := HI.out.size; omega
            have hne2 : ¬ bn = wr.heap.size := by omega
            clear hh
            go_wp2_with (with_reducible refine stop_at (.call { callee := .builtin .append, args := #[.tmp 164, .tmp 166], argTypes := #[25, 25] }) rfl ?_)
            unfold Hold
            have hzz : ((((w1.setCell ⟨wr.heap.size, 0, none⟩ (.bool false)).setCell ⟨wr.heap.size, 1, none⟩ (.bool false)).setCell ⟨wr.heap.size, 2, none⟩ (.int .i64 0)).setCell ⟨wr.heap.size, 3, none⟩ (.slice none 0 0)).heap.size = w1.heap.size := by simp
            have hg2 : Gw wr (((((w1.setCell ⟨wr.heap.size, 0, none⟩ (.bool false)).setCell ⟨wr.heap.size, 1, none⟩ (.bool false)).setCell ⟨wr.heap.size, 2, none⟩ (.int .i64 0)).setCell ⟨wr.heap.size, 3, none⟩ (.slice none 0 0)).alloc (.cells #[.bool false, .bool false, .int .i64 0, .slice none 0 0] 43)) := ((((HG1.out.set (Nat.le_refl _) 0 _).set (Nat.le_refl _) 1 _).set (Nat.le_refl _) 2 _).set (Nat.le_refl _) 3 _).trans (Gw.new _ _)
            have hbn2 : Blk (((((w1.setCell ⟨wr.heap.size, 0, none⟩ (.bool false)).setCell ⟨wr.heap.size, 1, none⟩ (.bool false)).setCell ⟨wr.heap.size, 2, none⟩ (.int .i64 0)).setCell ⟨wr.heap.size, 3, none⟩ (.slice none 0 0)).alloc (.cells #[.bool false, .bool false, .int .i64 0, .slice none 0 0] 43)) w1.heap.size #[.bool false, .bool false, .int .i64 0, .slice none 0 0] 43 := by have := Blk.new ((((w1.setCell ⟨wr.heap.size, 0, none⟩ (.bool false)).setCell ⟨wr.heap.size, 1, none⟩ (.bool false)).setCell ⟨wr.heap.size, 2, none⟩ (.int .i64 0)).setCell ⟨wr.heap.size, 3, none⟩ (.slice none 0 0)) #[.bool false, .bool false, .int .i64 0, .slice none 0 0] 43; rw [hzz] at this; exact this
            generalize ((((w1.setCell ⟨wr.heap.size, 0, none⟩ (.bool false)).setCell ⟨wr.heap.size, 1, none⟩ (.bool false)).setCell ⟨wr.heap.size, 2, none⟩ (.int .i64 0)).setCell ⟨wr.heap.size, 3, none⟩ (.slice none 0 0)).alloc (.cells #[.bool false, .bool false, .int .i64 0, .slice none 0 0] 43) = w2 at *
            have HG2 : Hid (Gw wr w2) := hg2
            refine more_prc rfl _ _ rfl W.heap.size (.slice r.a r.n r.c) ((ps.mapIdx (ep (knownB L ps.length))).take i) rfl (HI.out.row.on hg2.1 fun g hg => (HI.out.row.lt g hg).2) w1.heap.size rfl prcZ0 hbn2 (by rw [List.length_take]; omega) (by have := HI.out.size; have := hg2.2.1; omega) ?_
            intro r3 w3 hm3 hgr3
            rw [← HT.out, ← HTK.out] at hm3
            have hmore := HI.out.more hbnW HG2.out hgr3 hm3 2 rfl
            have HM : Hid _ := hmore.2
            have bc := hmore.1.cell
            have bf := hmore.1.free
            have bl := hmore.1.lt
            clear hmore hm3 hgr3 hg2 hbn2 bc1 pf1 b1c hzz
            go_wp2
            go_roundw
            case rel => exact ⟨i + 1, r3, by omega, by go_num, by rw [HA.out], HM.out⟩
            case measure => simp [intOf]; omega
        focus
          have HLV : Hid (p.live = false) := hlv
          have HT : Hid (ep (knownB L ps.length) i (sl, p) = (sl, p)) := by unfold Hid ep epB; rw [if_neg (by simp [hlv])]
          have HA : Hid (anyTo (epB (knownB L ps.length)) ps (i + 1) = anyTo (epB (knownB L ps.length)) ps i) := by unfold Hid; rw [HAN.out]; unfold epB; simp [hlv]
          rw [hlv] at k0
          clear hlv
          go_wp2_with (with_reducible refine stop_at (.call { callee := .builtin .append, args := #[.tmp 164, .tmp 166], argTypes := #[25, 25] }) rfl ?_)
          unfold Hold
          have hg2 : Gw wr ((wr.alloc (.cells #[.bool false, .bool p.fenced, .int .i64 p.code, .slice sl.a sl.n sl.c] 43)).alloc (.cells #[.bool false, .bool p.fenced, .int .i64 p.code, .slice sl.a sl.n sl.c] 43)) := (Gw.new wr _).trans (Gw.new _ _)
          have hbn2 : Blk ((wr.alloc (.cells #[.bool false, .bool p.fenced, .int .i64 p.code, .slice sl.a sl.n sl.c] 43)).alloc (.cells #[.bool false, .bool p.fenced, .int .i64 p.code, .slice sl.a sl.n sl.c] 43)) (wr.heap.size + 1) #[.bool false, .bool p.fenced, .int .i64 p.code, .slice sl.a sl.n sl.c] 43 := blk_new1w wr _ _ _
          generalize (wr.alloc (.cells #[.bool false, .bool p.fenced, .int .i64 p.code, .slice sl.a sl.n sl.c] 43)).alloc (.cells #[.bool false, .bool p.fenced, .int .i64 p.code, .slice sl.a sl.n sl.c] 43) = w2 at *
          have HG2 : Hid (Gw wr w2) := hg2
          refine more_prc rfl _ _ rfl W.heap.size (.slice r.a r.n r.c) ((ps.mapIdx (ep (knownB L ps.length))).take i) rfl (HI.out.row.on hg2.1 fun g hg => (HI.out.row.lt g hg).2) (wr.heap.size + 1) rfl (sl, p) (by rw [show (prcC (sl, p)).toArray = #[.bool p.live, .bool p.fenced, .int .i64 p.code, .slice sl.a sl.n sl.c] from rfl, HLV.out]; exact hbn2) (by rw [List.length_take]; omega) (by have := HI.out.size; have := hg2.2.1; omega) ?_
          intro r3 w3 hm3 hgr3
          rw [← HT.out, ← HTK.out] at hm3
          have hmore := HI.out.more hbnW HG2.out hgr3 hm3 2 rfl
          have HM : Hid _ := hmore.2
          have bc := hmore.1.cell
          have bf := hmore.1.free
          have bl := hmore.1.lt
          clear hmore hm3 hgr3 hg2 hbn2 k0 k1 k2 k3 bc0 bl0
          go_wp2
          go_roundw
          case rel => exact ⟨i + 1, r3, by omega, by go_num, by rw [HA.out], HM.out⟩
          case measure => simp [intOf]; omega
    · obtain rfl : i = ps.length := by omega
      have HF : Hid (NX W wr bn (fun r => #[av, bv, .slice r.a r.n r.c]) 43 4 r ((ps.mapIdx (ep (knownB L ps.length))).map prcC)) := by
        have := hI
        rw [List.take_of_length_le (by rw [List.length_mapIdx]; exact Nat.le_refl _)] at this
        exact this
      clear hI HI
      go_wp2
      exact HH.out _ _ _ _ _ _ _ _ _ _ _ _ _ _ _ _ _ _ _ _ _ _ _ _ _ _ _ _ r HF.out
end Go.Proofs.Ytdciohinlhbliaa


/-
  rgref5.Sweep: where it stands between rounds.
-/
namespace Go.Proofs.Ytdciohinlhbliaa
open Go.RowKit
namespace Wp
/-- Not more than there may be. -/
structure Fit (y : Swp) : Prop where
  ts : 1 ≤ y.ts.length ∧ y.ts.length ≤ 40
  os : y.O.length ≤ 100
  ps : 1 ≤ y.ps.length ∧ y.ps.length ≤ 8
  slots : ∀ t ∈ y.ps, t.2.slots.length ≤ 10
  queue : ∀ t ∈ y.ts, t.2.queue.length ≤ 4
  sop : ∀ t ∈ y.ps, ∀ s ∈ t.2.slots, 0 ≤ s.op ∧ s.op ≤ 1000000
  qop : ∀ t ∈ y.ts, ∀ m ∈ t.2.queue, 0 ≤ m.op ∧ m.op ≤ 1000000
  peer : PeerOk (y.ts.map Prod.snd)
  opn : ∀ x ∈ y.O, -1 ≤ x.obj
theorem fo_cases (m : List Bool) (n i : Nat) (t : Sls × Sp.Ob) : fo m n i t = (sl0, obZ0) ∨ fo m n i t = (t.1, { t.2 with peer := -1 }) ∨ fo m n i t = t := by
  unfold fo
  split
  · exact Or.inl rfl
  · split
    · exact Or.inr (Or.inl rfl)
    · exact Or.inr (Or.inr rfl)
theorem ep_cases (m : List Bool) (i : Nat) (t : Sl × Sp.Prc) : ep m i t = prcZ0 ∨ ep m i t = t := by
  unfold ep
  split
  · exact Or.inl rfl
  · exact Or.inr rfl
theorem op_cases (m : List Bool) (i : Nat) (x : Sp.Opn) : op m i x = opnZ ∨ op m i x = x := by
  unfold op
  split
  · exact Or.inl rfl
  · exact Or.inr rfl
theorem Fit.rnd {y : Swp} (h : Fit y) : Fit y.rnd := by
  obtain ⟨l1, l2, l3⟩ := y.rnd_lens
  have hts : ∀ t ∈ y.rnd.ts, t.2.queue = [] ∨ ∃ t0 ∈ y.ts, t.2.queue = t0.2.queue := fun t ht => by
    obtain ⟨i, hi, rfl⟩ := List.mem_mapIdx.1 (show t ∈ y.ts.mapIdx (fo (reachB y.kn) y.ts.length) from ht)
    rcases fo_cases (reachB y.kn) y.ts.length i y.ts[i] with e | e | e
    · rw [e]; exact Or.inl rfl
    · rw [e]; exact Or.inr ⟨_, List.getElem_mem hi, rfl⟩
    · rw [e]; exact Or.inr ⟨_, List.getElem_mem hi, rfl⟩
  have hps : ∀ t ∈ y.rnd.ps, t.2.slots = [] ∨ t ∈ y.ps := fun t ht => by
    obtain ⟨i, hi, rfl⟩ := List.mem_mapIdx.1 (show t ∈ y.ps.mapIdx (ep y.kn1) from ht)
    rcases ep_cases y.kn1 i y.ps[i] with e | e
    · rw [e]; exact Or.inl rfl
    · rw [e]; exact Or.inr (List.getElem_mem hi)
  refine ⟨by rw [l1]; exact h.ts, by rw [l2]; exact h.os, by rw [l3]; exact h.ps, fun t ht => ?_, fun t ht => ?_, fun t ht s hs => ?_, fun t ht q hq => ?_, peer_rnd h.peer, fun x hx => ?_⟩
  · rcases hps t ht with e | e
    · rw [e]; simp
    · exact h.slots t e
  · rcases hts t ht with e | ⟨t0, h0, e⟩
    · rw [e]; simp
    · rw [e]; exact h.queue t0 h0
  · rcases hps t ht with e | e
    · rw [e] at hs; cases hs
    · exact h.sop t e s hs
  · rcases hts t ht with e | ⟨t0, h0, e⟩
    · rw [e] at hq; cases hq
    · rw [e] at hq; exact h.qop t0 h0 q hq
  · obtain ⟨i, hi, rfl⟩ := List.mem_mapIdx.1 (show x ∈ y.O.mapIdx (op _) from hx)
    rcases op_cases (hadB (y.ts1.map Prod.snd) (y.ps.map Prod.snd) y.O.length) i y.O[i] with e | e
    · rw [e]; exact Int.le_refl _
    · rw [e]; exact h.opn _ (List.getElem_mem hi)
theorem heldL_len {P : List Sp.Prc} (h : ∀ p ∈ P, p.slots.length ≤ 10) : (heldL P).length ≤ 10 * P.length := by
  induction P with
  | nil => simp [heldL]
  | cons p P ih =>
    have h1 := ih fun q hq => h q (List.mem_cons_of_mem _ hq)
    have h2 := h p List.mem_cons_self
    have h3 : (heldP p).length ≤ p.slots.length := by
      unfold heldP
      split
      · exact List.length_filter_le _ _
      · simp
    unfold heldL at h1 ⊢
    rw [List.flatMap_cons, List.length_append, List.length_cons]
    omega
theorem hadS_len (ms : List Bool) (xs : List Sp.Slt) : (xs.foldl hadS ms).length = ms.length := by
  induction xs generalizing ms with
  | nil => rfl
  | cons x xs ih => rw [List.foldl_cons, ih]; exact setB_len _ _
theorem hadO_len (ms : List Bool) (o : Sp.Ob) : (hadO ms o).length = ms.length := by
  unfold hadO
  induction o.queue generalizing ms with
  | nil => rfl
  | cons x xs ih =>
    rw [List.foldl_cons, ih]
    unfold hadM
    split
    · exact setB_len _ _
    · rfl
theorem quTo_len (m : List Bool) (L : List Sp.Ob) (ms : List Bool) : ∀ k, (quTo m L ms k).length = ms.length
  | 0 => rfl
  | k + 1 => by
    unfold quTo
    split
    · split
      · rw [hadO_len]; exact quTo_len m L ms k
      · exact quTo_len m L ms k
    · exact quTo_len m L ms k
/-- Which open files are had, as the document looks for them. -/
theorem had_doc (y : Swp) : quTo (reachB y.kn) (y.ts.map Prod.snd) ((heldL (y.ps.map Prod.snd)).foldl hadS (List.replicate y.O.length false)) y.ts.length = hadB (y.ts1.map Prod.snd) (y.ps.map Prod.snd) y.O.length := by
  rw [← quTo_fo (reachB y.kn) y.ts.length y.ts _ y.ts.length (Nat.le_refl _)]
  rw [List.take_of_length_le (by simp)]
  rfl
end Wp
open Wp
/-- Where a kernel stands that is swept: in a box; nothing of it lies in the box's block. -/
structure KS (w : World) (k0 : Nat) (y : Swp) (oa pa qa : Option Addr) (oc pc qc : Nat) : Prop where
  kern : Blk w k0 #[.slice oa y.ts.length oc, .slice pa y.O.length pc, .slice qa y.ps.length qc] 27
  ob : Row w (fun b => b < w.heap.size ∧ b ≠ k0 ∧ b ≠ k0 + 1) 9 (.slice oa y.ts.length oc) (y.ts.map objC)
  opn : Row w (fun b => b < w.heap.size ∧ b ≠ k0 ∧ b ≠ k0 + 1) 2 (.slice pa y.O.length pc) (y.O.map opnC)
  pr : Row w (fun b => b < w.heap.size ∧ b ≠ k0 ∧ b ≠ k0 + 1) 4 (.slice qa y.ps.length qc) (y.ps.map prcC)
  lists : ∀ t ∈ y.ts, Lists w (fun b => b < w.heap.size ∧ b ≠ k0 ∧ b ≠ k0 + 1) t
  slots : ∀ t ∈ y.ps, Row w (fun b => b < w.heap.size ∧ b ≠ k0 ∧ b ≠ k0 + 1) 3 (.slice t.1.a t.1.n t.1.c) (t.2.slots.map sltC)
  two : k0 + 1 < w.heap.size
theorem OS.gw {wr W w : World} {go N : Nat} {ms : List Bool} (h : OS W w go N ms) (hg : Gw wr W) (hgo : wr.heap.size ≤ go) : Gw wr w := ⟨hg.1.trans (h.on.less fun b hb => ⟨by have := hg.2.1; omega, by omega⟩), Nat.le_trans hg.2.1 h.size, fun B hB => (hg.2.2 B hB).trans (h.below B (by omega))⟩
theorem NX.gw {wr W w : World} {bn : Nat} {box : Sl → Array Value} {e k : Nat} {r : Sl} {css : List (List Value)} (h : NX W w bn box e k r css) (hg : Gw wr W) (hbn : wr.heap.size ≤ bn) : Gw wr w := ⟨hg.1.trans (h.on.less fun b hb => ⟨by have := hg.2.1; omega, by omega⟩), Nat.le_trans hg.2.1 h.size, fun B hB => (hg.2.2 B hB).trans (h.below B (by omega))⟩
/-- The next kernel is laid in the place of the one before. -/
theorem KS.next {wr w8 W : World} {k0 : Nat} {y : Swp} {oa pa qa : Option Addr} {oc pc qc : Nat} {r6 r7 r8 : Sl} (h : KS wr k0 y oa pa qa oc pc qc) (hg : Gw wr w8) (base : Nat) (hb : wr.heap.size ≤ base)
    (h6 : Mine w8 base 40 9 (.slice r6.a r6.n r6.c) (y.rnd.ts.map objC)) (h7 : Mine w8 base 54 2 (.slice r7.a r7.n r7.c) (y.rnd.O.map opnC)) (h8 : Mine w8 base 43 4 (.slice r8.a r8.n r8.c) (y.rnd.ps.map prcC))
    (hW : W = ((w8.setCell ⟨k0, 0, none⟩ (.slice r6.a r6.n r6.c)).setCell ⟨k0, 1, none⟩ (.slice r7.a r7.n r7.c)).setCell ⟨k0, 2, none⟩ (.slice r8.a r8.n r8.c)) :
    KS W k0 y.rnd r6.a r7.a r8.a r6.c r7.c r8.c ∧ Mine W base 43 4 (.slice r8.a y.rnd.ps.length r8.c) (y.rnd.ps.map prcC) ∧ On (fun b => b < wr.heap.size ∧ b ≠ k0) wr W ∧ wr.heap.size ≤ W.heap.size ∧ ∀ B, B ≤ k0 → Below B wr W := by
  have hk0 := h.kern.lt
  have hz := hg.2.1
  have e6 : r6.n = y.rnd.ts.length := by obtain ⟨a, c, e, -, -⟩ := h6.form; rw [List.length_map] at e; exact (Value.slice.inj e).2.1
  have e7 : r7.n = y.rnd.O.length := by obtain ⟨a, c, e, -, -⟩ := h7.form; rw [List.length_map] at e; exact (Value.slice.inj e).2.1
  have e8 : r8.n = y.rnd.ps.length := by obtain ⟨a, c, e, -, -⟩ := h8.form; rw [List.length_map] at e; exact (Value.slice.inj e).2.1
  rw [e6] at h6 hW
  rw [e7] at h7 hW
  rw [e8] at h8 hW
  have oW : On (fun b => b ≠ k0) w8 W := by
    subst hW
    exact ((On.set w8 ⟨k0, 0, none⟩ _).trans (On.set _ ⟨k0, 1, none⟩ _)).trans (On.set _ ⟨k0, 2, none⟩ _)
  have hzW : W.heap.size = w8.heap.size := by subst hW; simp
  have hkern : Blk W k0 #[.slice r6.a y.rnd.ts.length r6.c, .slice r7.a y.rnd.O.length r7.c, .slice r8.a y.rnd.ps.length r8.c] 27 := by
    subst hW
    exact (((h.kern.on hg.1 hk0).set 0 _).set 1 _).set 2 _
  have oT : On (fun b => b < wr.heap.size ∧ b ≠ k0) wr W := (hg.1.less fun b hb => hb.1).trans (oW.less fun b hb => hb.2)
  have oT' : On (fun b => b < wr.heap.size ∧ b ≠ k0 ∧ b ≠ k0 + 1) wr W := oT.less fun b hb => ⟨hb.1, hb.2.1⟩
  have htwo := h.two
  have m6 := h6.on oW fun g hg => by have := (h6.lt g hg).1; show g ≠ k0; omega
  have m7 := h7.on oW fun g hg => by have := (h7.lt g hg).1; show g ≠ k0; omega
  have m8 := h8.on oW fun g hg => by have := (h8.lt g hg).1; show g ≠ k0; omega
  refine ⟨⟨hkern, (m6.row (even_obj _)).more fun b hb => ⟨hb.2, by omega, by omega⟩, (m7.row (even_opn _)).more fun b hb => ⟨hb.2, by omega, by omega⟩, (m8.row (even_prc _)).more fun b hb => ⟨hb.2, by omega, by omega⟩, fun t ht => ?_, fun t ht => ?_, by omega⟩, m8, oT, by omega, fun B hB => ?_⟩
  · obtain ⟨i, hi, rfl⟩ := List.mem_mapIdx.1 (show t ∈ y.ts.mapIdx (fo (reachB y.kn) y.ts.length) from ht)
    have h0 := ((h.lists y.ts[i] (List.getElem_mem hi)).on oT').more (T := fun b => b < W.heap.size ∧ b ≠ k0 ∧ b ≠ k0 + 1) fun b hb => ⟨by omega, hb.2⟩
    rcases fo_cases (reachB y.kn) y.ts.length i y.ts[i] with e | e | e
    · rw [e]
      exact ⟨Row.nil _ _ _ _ _, Row.nil _ _ _ _ _, ⟨[], rfl, Row.nil _ _ _ _ _, fun t ht => by cases ht⟩⟩
    · rw [e]; exact h0
    · rw [e]; exact h0
  · obtain ⟨i, hi, rfl⟩ := List.mem_mapIdx.1 (show t ∈ y.ps.mapIdx (ep y.kn1) from ht)
    have h0 := (Row.on (h.slots y.ps[i] (List.getElem_mem hi)) oT').more (T := fun b => b < W.heap.size ∧ b ≠ k0 ∧ b ≠ k0 + 1) fun b hb => ⟨by omega, hb.2⟩
    rcases ep_cases y.kn1 i y.ps[i] with e | e
    · rw [e]; exact Row.nil _ _ _ _ _
    · rw [e]; exact h0
  · subst hW
    exact (((hg.2.2 B (by omega)).setCell (p := ⟨k0, 0, none⟩) hB _).setCell (p := ⟨k0, 1, none⟩) hB _).setCell (p := ⟨k0, 2, none⟩) hB _
/-- All but the processes' own row lies below. -/
structure KB (w : World) (k0 : Nat) (y : Swp) (oa pa : Option Addr) (oc pc base : Nat) : Prop where
  ob : Row w (fun b => b < base ∧ b ≠ k0 ∧ b ≠ k0 + 1) 9 (.slice oa y.ts.length oc) (y.ts.map objC)
  opn : Row w (fun b => b < base ∧ b ≠ k0 ∧ b ≠ k0 + 1) 2 (.slice pa y.O.length pc) (y.O.map opnC)
  lists : ∀ t ∈ y.ts, Lists w (fun b => b < base ∧ b ≠ k0 ∧ b ≠ k0 + 1) t
  slots : ∀ t ∈ y.ps, Row w (fun b => b < base ∧ b ≠ k0 ∧ b ≠ k0 + 1) 3 (.slice t.1.a t.1.n t.1.c) (t.2.slots.map sltC)
theorem Mine.rowBelow {w : World} {base base' k : Nat} {e : TypeId} {v : Value} {css : List (List Value)} (h : Mine w base e k v css) (hE : Even k css) (hlt : ∀ g, v.ownBlock = some g → g < base') : Row w (fun b => base ≤ b ∧ b < base') k v css := by
  rcases h.row hE with h1 | ⟨b, o, c, e1, hb, hr⟩
  · exact Or.inl h1
  · refine Or.inr ⟨b, o, c, e1, ⟨hb.1, ?_⟩, hr⟩
    have h2 := h.2
    rcases h2 with ⟨e2, _⟩ | ⟨g, cap, cur, e2, _⟩
    · rw [e1] at e2; cases e2
    · have h3 := hlt g (by rw [e2]; rfl)
      rw [e1] at e2
      have := (Value.slice.inj e2).1
      cases this
      exact h3
theorem KS.next2 {wr w8 W : World} {k0 : Nat} {y : Swp} {oa pa qa : Option Addr} {oc pc qc : Nat} {r6 r7 : Sl} (h : KS wr k0 y oa pa qa oc pc qc) (hg : Gw wr w8) (base base' : Nat) (hb : wr.heap.size ≤ base) (hbb : base ≤ base')
    (h6 : Mine w8 base 40 9 (.slice r6.a r6.n r6.c) (y.rnd.ts.map objC)) (h7 : Mine w8 base 54 2 (.slice r7.a r7.n r7.c) (y.rnd.O.map opnC)) (h6' : ∀ g, (Value.slice r6.a r6.n r6.c).ownBlock = some g → g < base') (h7' : ∀ g, (Value.slice r7.a r7.n r7.c).ownBlock = some g → g < base') (oW : On (fun b => b ≠ k0) w8 W) :
    KB W k0 y.rnd r6.a r7.a r6.c r7.c base' := by
  have hk0 := h.kern.lt
  have e6 : r6.n = y.rnd.ts.length := by obtain ⟨a, c, e, -, -⟩ := h6.form; rw [List.length_map] at e; exact (Value.slice.inj e).2.1
  have e7 : r7.n = y.rnd.O.length := by obtain ⟨a, c, e, -, -⟩ := h7.form; rw [List.length_map] at e; exact (Value.slice.inj e).2.1
  rw [e6] at h6 h6'
  rw [e7] at h7 h7'
  have oT : On (fun b => b < wr.heap.size ∧ b ≠ k0 ∧ b ≠ k0 + 1) wr W := (hg.1.less fun b hb => hb.1).trans (oW.less fun b hb => hb.2.1)
  have htwo := h.two
  have m6 := h6.on oW fun g hg => by have := (h6.lt g hg).1; show g ≠ k0; omega
  have m7 := h7.on oW fun g hg => by have := (h7.lt g hg).1; show g ≠ k0; omega
  refine ⟨(m6.rowBelow (even_obj _) h6').more fun b hb => ⟨hb.2, by omega, by omega⟩, (m7.rowBelow (even_opn _) h7').more fun b hb => ⟨hb.2, by omega, by omega⟩, fun t ht => ?_, fun t ht => ?_⟩
  · obtain ⟨i, hi, rfl⟩ := List.mem_mapIdx.1 (show t ∈ y.ts.mapIdx (fo (reachB y.kn) y.ts.length) from ht)
    have h0 := ((h.lists y.ts[i] (List.getElem_mem hi)).on oT).more (T := fun b => b < base' ∧ b ≠ k0 ∧ b ≠ k0 + 1) fun b hb => ⟨by omega, hb.2⟩
    rcases fo_cases (reachB y.kn) y.ts.length i y.ts[i] with e | e | e
    · rw [e]
      exact ⟨Row.nil _ _ _ _ _, Row.nil _ _ _ _ _, ⟨[], rfl, Row.nil _ _ _ _ _, fun t ht => by cases ht⟩⟩
    · rw [e]; exact h0
    · rw [e]; exact h0
  · obtain ⟨i, hi, rfl⟩ := List.mem_mapIdx.1 (show t ∈ y.ps.mapIdx (ep y.kn1) from ht)
    have h0 := (Row.on (h.slots y.ps[i] (List.getElem_mem hi)) oT).more (T := fun b => b < base' ∧ b ≠ k0 ∧ b ≠ k0 + 1) fun b hb => ⟨by omega, hb.2⟩
    rcases ep_cases y.kn1 i y.ps[i] with e | e
    · rw [e]; exact Row.nil _ _ _ _ _
    · rw [e]; exact h0
end Go.Proofs.Ytdciohinlhbliaa
