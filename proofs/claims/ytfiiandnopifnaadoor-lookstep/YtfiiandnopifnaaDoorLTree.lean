
/-
  rglaw6.tree, walked.
-/
import Derived.Test.YtfiiandnopifnaaDoorREnter
import Derived.Test.YtfiiandnopifnaaDoorRMake
import Derived.Test.YtfiiandnopifnaaDoorBDefs
import Derived.Test.YtfiiandnopifnaaDoorSNine
namespace Go.Proofs.YtfiiandnopifnaaDoor
open Go.RowKit
namespace Lk
def oDir : Sp.Ob := ⟨2, [], [], ⟨#[]⟩, 0, [], 0, 0, 0⟩
def oFile : Sp.Ob := ⟨1, [], [], ⟨#[]⟩, 0, [], 0, 0, 0⟩
def oLink : Sp.Ob := ⟨3, [], [], ⟨#[46, 46, 47, 120]⟩, 0, [], 0, 0, 0⟩
def nA : ByteArray := ⟨#[97]⟩
def nB : ByteArray := ⟨#[98]⟩
def nF : ByteArray := ⟨#[102]⟩
def nL : ByteArray := ⟨#[108]⟩
def rootA : Sp.Ob := ⟨2, [], [⟨nA, 1⟩], ⟨#[]⟩, -1, [], -1, 1, 0⟩
def t0 : List Sp.Ob := [Sp.rootO]
def t1 : List Sp.Ob := [rootA, { oDir with links := 1 }]
def t2 : List Sp.Ob := [rootA, { oDir with links := 1, ents := [⟨nB, 2⟩] }, { oDir with links := 1, up := 1 }]
def t3 : List Sp.Ob := [rootA, { oDir with links := 1, ents := [⟨nB, 2⟩] }, { oDir with links := 1, up := 1, ents := [⟨nF, 3⟩] }, { oFile with links := 1 }]
def t4 : List Sp.Ob := [rootA, { oDir with links := 1, ents := [⟨nB, 2⟩, ⟨nL, 4⟩] }, { oDir with links := 1, up := 1, ents := [⟨nF, 3⟩] }, { oFile with links := 1 }, { oLink with links := 1 }]
def tAt (k : Nat) : List Sp.Ob := if k = 0 then t0 else if k = 1 then t1 else if k = 2 then t2 else if k = 3 then t3 else t4
def oAt (k : Nat) : Sp.Ob := if k < 2 then oDir else if k = 2 then oFile else oLink
def dAt (k : Nat) : Nat := if k = 0 then 0 else if k = 2 then 2 else 1
def nAt (k : Nat) : ByteArray := if k = 0 then nA else if k = 1 then nB else if k = 2 then nF else nL
theorem tAt_len : ∀ k, k ≤ 4 → (tAt k).length = k + 1
  | 0, _ | 1, _ | 2, _ | 3, _ | 4, _ => rfl
  | k + 5, h => by omega
theorem tAt_next : ∀ k, k < 4 → ∃ od oj, (tAt k ++ [oAt k])[dAt k]? = some od ∧ (tAt k ++ [oAt k])[k + 1]? = some oj ∧ od.kind = 2 ∧ oj.kind ≠ 0 ∧ od.links ≠ 0 ∧ Sp.find (tAt k ++ [oAt k]) (dAt k : Int) (nAt k) = -1 ∧ od.ents.length < 8 ∧ Sp.entered (tAt k ++ [oAt k]) (dAt k) (k + 1) od ⟨nAt k, ((k + 1 : Nat) : Int)⟩ = tAt (k + 1)
  | 0, _ => ⟨_, _, rfl, rfl, rfl, by decide, by decide, by decide +kernel, by decide, by rfl⟩
  | 1, _ => ⟨_, _, rfl, rfl, rfl, by decide, by decide, by decide +kernel, by decide, by rfl⟩
  | 2, _ => ⟨_, _, rfl, rfl, rfl, by decide, by decide, by decide +kernel, by decide, by rfl⟩
  | 3, _ => ⟨_, _, rfl, rfl, rfl, by decide, by decide, by decide +kernel, by decide, by rfl⟩
  | k + 4, h => by omega
theorem tAt_kinds : ∀ k, k ≤ 4 → ∀ o ∈ tAt k, o.kind ≠ 0
  | 0, _ => by decide
  | 1, _ => by decide
  | 2, _ => by decide
  | 3, _ => by decide
  | 4, _ => by decide
  | k + 5, h => by omega
theorem tAt_links : ∀ k, k < 4 → ∀ o ∈ tAt k ++ [oAt k], -4611686018427387904 ≤ o.links ∧ o.links ≤ 4611686018427387904
  | 0, _ => by decide
  | 1, _ => by decide
  | 2, _ => by decide
  | 3, _ => by decide
  | k + 4, h => by omega
theorem nAt_name : ∀ k, k < 4 → Pt.isName (nAt k).data.toList = true
  | 0, _ | 1, _ | 2, _ | 3, _ => by decide
  | k + 4, h => by omega
end Lk
def nil3s : Sls := ⟨⟨none, 0, 0⟩, ⟨none, 0, 0⟩, ⟨none, 0, 0⟩⟩
def fourO : List (Sls × Sp.Ob) := [(nil3s, Lk.oDir), (nil3s, Lk.oDir), (nil3s, Lk.oFile), (nil3s, Lk.oLink)]
theorem fourO_at : ∀ k, k < 4 → fourO[k]? = some (nil3s, Lk.oAt k)
  | 0, _ | 1, _ | 2, _ | 3, _ => rfl
  | k + 4, h => by omega
theorem lists_nil3 (w : World) (S : Nat → Prop) (o : Sp.Ob) (h1 : o.data = []) (h2 : o.ents = []) (h3 : o.queue = []) : Lists w S (nil3s, o) := by
  refine ⟨?_, ?_, ?_⟩
  · show Row w S 1 _ (o.data.map byteC); rw [h1]; exact Row.nil _ _ _ _ _
  · show Row w S 2 _ (o.ents.map entC); rw [h2]; exact Row.nil _ _ _ _ _
  · show Queue w S _ o.queue; rw [h3]; exact ⟨[], rfl, Row.nil _ _ _ _ _, fun t ht => by simp at ht⟩
theorem oAt_nil : ∀ k, (Lk.oAt k).data = [] ∧ (Lk.oAt k).ents = [] ∧ (Lk.oAt k).queue = [] := by
  intro k
  unfold Lk.oAt
  split
  · exact ⟨rfl, rfl, rfl⟩
  · split <;> exact ⟨rfl, rfl, rfl⟩
/-- The tree's loop. -/
def TrI (w : World) (g : Nat) (s1 s15 : Value) (wr : World) : Prop :=
  ∃ (k : Nat) (a : Option Addr) (c : Nat), k ≤ 4 ∧ s15 = .int .i64 k ∧ s1 = .slice a (k + 1) c ∧ Objs wr (fun b => w.heap.size ≤ b ∧ b < wr.heap.size) s1 (Lk.tAt k) ∧ g < wr.heap.size ∧ Row wr (fun b => b = g) 9 (.slice (some ⟨g, 0, none⟩) 4 4) (fourO.map objC) ∧ Below w.heap.size w wr
set_option maxRecDepth 100000 in
set_option maxHeartbeats 8000000 in
theorem tree_any (w : World) : Calls Tryd.prog 19 #[] w fun e w' => ∃ a c, e = .returned (.slice a 5 c) ∧ Objs w' (fun b => w.heap.size ≤ b ∧ b < w'.heap.size) (.slice a 5 c) Lk.t4 ∧ Below w.heap.size w w' := by
  have hK2 : Row ((w.alloc (.cells #[.int .i64 2, .slice none 0 0, .slice none 0 0, .string ⟨#[]⟩, .int .i64 (-1), .slice none 0 0, .int .i64 (-1), .int .i64 1, .int .i64 0] 47)).alloc (.cells #[.int .i64 2, .slice none 0 0, .slice none 0 0, .string ⟨#[]⟩, .int .i64 0, .slice none 0 0, .int .i64 0, .int .i64 0, .int .i64 0, .int .i64 2, .slice none 0 0, .slice none 0 0, .string ⟨#[]⟩, .int .i64 0, .slice none 0 0, .int .i64 0, .int .i64 0, .int .i64 0, .int .i64 1, .slice none 0 0, .slice none 0 0, .string ⟨#[]⟩, .int .i64 0, .slice none 0 0, .int .i64 0, .int .i64 0, .int .i64 0, .int .i64 3, .slice none 0 0, .slice none 0 0, .string ⟨#[46, 46, 47, 120]⟩, .int .i64 0, .slice none 0 0, .int .i64 0, .int .i64 0, .int .i64 0] 47)) (fun b => b = w.heap.size + 1) 9 (.slice (some ⟨w.heap.size + 1, 0, none⟩) 4 4) (fourO.map objC) := by
    have hb : Blk ((w.alloc (.cells #[.int .i64 2, .slice none 0 0, .slice none 0 0, .string ⟨#[]⟩, .int .i64 (-1), .slice none 0 0, .int .i64 (-1), .int .i64 1, .int .i64 0] 47)).alloc (.cells (fourO.map objC).flatten.toArray 47)) (w.heap.size + 1) (fourO.map objC).flatten.toArray 47 := by
      have := Blk.new (w.alloc (.cells #[.int .i64 2, .slice none 0 0, .slice none 0 0, .string ⟨#[]⟩, .int .i64 (-1), .slice none 0 0, .int .i64 (-1), .int .i64 1, .int .i64 0] 47)) (fourO.map objC).flatten.toArray 47
      simpa using this
    refine Or.inr ⟨w.heap.size + 1, 0, 4, rfl, rfl, by decide, by unfold maxLen; omega, fun i cs hi j u hj => ?_⟩
    rw [Nat.zero_add]
    refine (hb.cell (i * 9 + j)).trans ?_
    rw [List.getElem?_toArray]
    exact flatten_at (even_obj fourO) i cs hi j u hj
  have hK1 : Objs ((w.alloc (.cells #[.int .i64 2, .slice none 0 0, .slice none 0 0, .string ⟨#[]⟩, .int .i64 (-1), .slice none 0 0, .int .i64 (-1), .int .i64 1, .int .i64 0] 47)).alloc (.cells #[.int .i64 2, .slice none 0 0, .slice none 0 0, .string ⟨#[]⟩, .int .i64 0, .slice none 0 0, .int .i64 0, .int .i64 0, .int .i64 0, .int .i64 2, .slice none 0 0, .slice none 0 0, .string ⟨#[]⟩, .int .i64 0, .slice none 0 0, .int .i64 0, .int .i64 0, .int .i64 0, .int .i64 1, .slice none 0 0, .slice none 0 0, .string ⟨#[]⟩, .int .i64 0, .slice none 0 0, .int .i64 0, .int .i64 0, .int .i64 0, .int .i64 3, .slice none 0 0, .slice none 0 0, .string ⟨#[46, 46, 47, 120]⟩, .int .i64 0, .slice none 0 0, .int .i64 0, .int .i64 0, .int .i64 0] 47)) (fun b => b = w.heap.size) (.slice (some ⟨w.heap.size, 0, none⟩) 1 1) Lk.t0 := by
    refine Objs.on (S := fun b => b = w.heap.size) ⟨[(nil3s, Sp.rootO)], rfl, ?_, fun t ht => ?_⟩ ((On.alloc _ _).less fun b hb => by simp; omega)
    · exact obj_row (Blk.new w _ _)
    · simp at ht; subst ht; exact lists_nil3 _ _ _ rfl rfl rfl
  have HB2 : Hid (Below w.heap.size w ((w.alloc (.cells #[.int .i64 2, .slice none 0 0, .slice none 0 0, .string ⟨#[]⟩, .int .i64 (-1), .slice none 0 0, .int .i64 (-1), .int .i64 1, .int .i64 0] 47)).alloc (.cells #[.int .i64 2, .slice none 0 0, .slice none 0 0, .string ⟨#[]⟩, .int .i64 0, .slice none 0 0, .int .i64 0, .int .i64 0, .int .i64 0, .int .i64 2, .slice none 0 0, .slice none 0 0, .string ⟨#[]⟩, .int .i64 0, .slice none 0 0, .int .i64 0, .int .i64 0, .int .i64 0, .int .i64 1, .slice none 0 0, .slice none 0 0, .string ⟨#[]⟩, .int .i64 0, .slice none 0 0, .int .i64 0, .int .i64 0, .int .i64 0, .int .i64 3, .slice none 0 0, .slice none 0 0, .string ⟨#[46, 46, 47, 120]⟩, .int .i64 0, .slice none 0 0, .int .i64 0, .int .i64 0, .int .i64 0] 47))) := ((Below.refl _ _).alloc (Nat.le_refl _) _).alloc (by simp) _
  have HST : Hid (TrI w (w.heap.size + 1) (.slice (some ⟨w.heap.size, 0, none⟩) 1 1) (.int .i64 0) ((w.alloc (.cells #[.int .i64 2, .slice none 0 0, .slice none 0 0, .string ⟨#[]⟩, .int .i64 (-1), .slice none 0 0, .int .i64 (-1), .int .i64 1, .int .i64 0] 47)).alloc (.cells #[.int .i64 2, .slice none 0 0, .slice none 0 0, .string ⟨#[]⟩, .int .i64 0, .slice none 0 0, .int .i64 0, .int .i64 0, .int .i64 0, .int .i64 2, .slice none 0 0, .slice none 0 0, .string ⟨#[]⟩, .int .i64 0, .slice none 0 0, .int .i64 0, .int .i64 0, .int .i64 0, .int .i64 1, .slice none 0 0, .slice none 0 0, .string ⟨#[]⟩, .int .i64 0, .slice none 0 0, .int .i64 0, .int .i64 0, .int .i64 0, .int .i64 3, .slice none 0 0, .slice none 0 0, .string ⟨#[46, 46, 47, 120]⟩, .int .i64 0, .slice none 0 0, .int .i64 0, .int .i64 0, .int .i64 0] 47))) := ⟨0, _, _, by omega, rfl, rfl, hK1.more fun b hb => by subst hb; simp; omega, by simp, hK2, HB2.out⟩
  clear hK1 hK2 HB2
  go_enter Tryd.func19, Tryd.ntmps19
  go_wp2
  go_loopw [1, 15] (fun s1 s15 wr => TrI w (w.heap.size + 1) s1 s15 wr) (fun _ s15 _ => 4 - (intOf s15).toNat)
  case atStart => exact HST.out
  case round =>
    clear HST
    obtain ⟨k, a, c, hk, rfl, rfl, hO, hg, hR, hB⟩ := hrel
    have HO : Hid (Objs wr (fun b => w.heap.size ≤ b ∧ b < wr.heap.size) (.slice a (k + 1) c) (Lk.tAt k)) := hO
    have HB : Hid (Below w.heap.size w wr) := hB
    have HRW : Hid (Row wr (fun b => b = w.heap.size + 1) 9 (.slice (some ⟨w.heap.size + 1, 0, none⟩) 4 4) (fourO.map objC)) := hR
    have HG : Hid (w.heap.size + 1 < wr.heap.size) := hg
    by_cases hlt : k < 4
    · obtain ⟨b', o', c', he, -, -, -, h5⟩ := hR.some (by decide)
      obtain ⟨e1, -, -⟩ := Value.slice.inj he
      cases e1
      obtain ⟨k0, k1, k2, k3, k4, k5, k6, k7, k8⟩ := obj_cells h5 (fourO_at k hlt)
      rw [Nat.zero_add] at k0 k1 k2 k3 k4 k5 k6 k7 k8
      obtain ⟨od, oj, e1, e2, e3, e4, e5, e6, e7, e8⟩ := Lk.tAt_next k hlt
      obtain ⟨n1, n2, n3⟩ := oAt_nil k
      have hW9 : ∀ W', Below wr.heap.size wr W' → Calls Tryd.prog 18 #[.slice a (k + 1) c, .agg (objC (nil3s, Lk.oAt k)).toArray] W' fun e w' => ∃ a c, e = .returned (.tuple #[.slice a (k + 1 + 1) c, .int .i64 ((k + 1 : Nat) : Int), .int .i64 0]) ∧ Objs w' (Or' (fun b => w.heap.size ≤ b ∧ b < wr.heap.size) W'.heap.size w'.heap.size) (.slice a (k + 1 + 1) c) (Lk.tAt k ++ [Lk.oAt k]) ∧ Below W'.heap.size W' w' := fun W' h => by
        have hl := Lk.tAt_len k hk
        have := rmake_app (Lk.tAt k) nil3s (Lk.oAt k) (.slice a (k + 1) c) _ W' (HO.out.on ((On.of h).less fun b hb => hb.2)) (fun b hb => Nat.lt_of_lt_of_le hb.2 h.size) (by omega) (Lk.tAt_kinds k hk) (lists_nil3 _ _ _ n1 n2 n3)
        rw [hl] at this
        exact this
      have HE : Hid (∀ (W' : World) (v' : Value) (S' : Nat → Prop), Objs W' S' v' (Lk.tAt k ++ [Lk.oAt k]) → (∀ b, S' b → b < W'.heap.size) → Calls Tryd.prog 20 #[v', .int .i64 (Lk.dAt k : Int), .string (Lk.nAt k), .int .i64 ((k + 1 : Nat) : Int)] W' fun e w' => ∃ a c, e = .returned (.tuple #[.slice a (k + 1 + 1) c, .int .i64 0]) ∧ Objs w' (Or' S' W'.heap.size w'.heap.size) (.slice a (k + 1 + 1) c) (Lk.tAt (k + 1)) ∧ Below W'.heap.size W' w') := fun W' v' S' hv' hS' => by
        have hl : (Lk.tAt k ++ [Lk.oAt k]).length = k + 1 + 1 := by rw [List.length_append, Lk.tAt_len k hk]; rfl
        have hnm := Lk.nAt_name k hlt
        have hsz : (Lk.nAt k).size ≤ maxLen := by
          unfold Lk.nAt maxLen
          split
          · decide
          · split
            · decide
            · split <;> decide
        have := renter_ok _ (Lk.dAt k) (k + 1) (Lk.nAt k) od oj v' S' W' hv' hS' hsz (by omega) (Lk.tAt_links k hlt) e1 e2 e3 e4 e5 hnm e6 e7
        rw [hl, e8] at this
        exact this
      have hcase : (k = 0 ∨ k = 1) ∨ (k = 2 ∨ k = 3) := by omega
      have HM : Hid _ := hW9
      have hsd : w.heap.size + 1 < wr.heap.size := hg
      clear hO hB hR hg h5 he e1 e2 e3 e4 e5 e6 e7 e8 n1 n2 n3 hW9 hk
      go_wp2_with fail
      refine Calls.mono (HM.out _ ((Below.refl _ _).alloc (Nat.le_refl _) _)) ?_
      rintro e w2 ⟨a2, c2, rfl, hO2, hb2⟩
      have hs2 : wr.heap.size + 1 ≤ w2.heap.size := by have := hb2.size; simpa using this
      have HO2 : Hid (Objs w2 (fun b => w.heap.size ≤ b ∧ b < w2.heap.size) (.slice a2 (k + 1 + 1) c2) (Lk.tAt k ++ [Lk.oAt k])) := hO2.more fun b hb => by
        rcases hb with h | h
        · exact ⟨h.1, by have := h.2; omega⟩
        · refine ⟨?_, h.2⟩
          have := h.1
          have := HB.out.size
          simp at *
          omega
      have hb02 : Below wr.heap.size wr w2 := ((Below.refl wr.heap.size wr).alloc (Nat.le_refl _) _).trans (hb2.mono (by simp))
      have HB2 : Hid (Below w.heap.size w w2) := HB.out.trans (hb02.mono HB.out.size)
      have HR2 : Hid (Row w2 (fun b => b = w.heap.size + 1) 9 (.slice (some ⟨w.heap.size + 1, 0, none⟩) 4 4) (fourO.map objC)) := Row.on HRW.out ((On.of hb02).less fun b hb => by subst hb; exact hsd)
      have HG2 : Hid (w.heap.size + 1 < w2.heap.size) := by unfold Hid; omega
      have HEN : Hid (∀ W', Below w2.heap.size w2 W' → Calls Tryd.prog 20 #[.slice a2 (k + 1 + 1) c2, .int .i64 (Lk.dAt k : Int), .string (Lk.nAt k), .int .i64 ((k + 1 : Nat) : Int)] W' fun e w' => ∃ a c, e = .returned (.tuple #[.slice a (k + 1 + 1) c, .int .i64 0]) ∧ TrI w (w.heap.size + 1) (.slice a (k + 1 + 1) c) (.int .i64 ((k + 1 : Nat) : Int)) w') := fun W' h => by
        have hO' := HO2.out.on ((On.of h).less fun b hb => hb.2)
        refine (HE.out W' _ _ hO' (fun b hb => Nat.lt_of_lt_of_le hb.2 h.size)).mono ?_
        rintro e w' ⟨a', c', rfl, hO3, hb3⟩
        have hbw : Below w2.heap.size w2 w' := h.trans (hb3.mono h.size)
        refine ⟨a', c', rfl, k + 1, a', c', by omega, rfl, rfl, hO3.more ?_, Nat.lt_of_lt_of_le HG2.out hbw.size, Row.on HR2.out ((On.of hbw).less fun b hb => by subst hb; exact HG2.out), HB2.out.trans (hbw.mono HB2.out.size)⟩
        intro b hb
        have h1 := HB2.out.size
        have h2 := h.size
        have h3 := hb3.size
        rcases hb with h | h
        · exact ⟨h.1, by have := h.2; omega⟩
        · exact ⟨by have := h.1; omega, h.2⟩
      clear hO2 hb2 hb02 HM HE HO HRW HB HG HO2 HB2 HR2 HG2 k0 k1 k2 k3 k4 k5 k6 k7 k8 hs2 hsd
      rcases hcase with (rfl | rfl) | (rfl | rfl)
      focus
        have HEN : Hid (∀ W', Below w2.heap.size w2 W' → Calls Tryd.prog 20 #[.slice a2 2 c2, .int .i64 0, .string ⟨#[97]⟩, .int .i64 1] W' fun e w' => ∃ a c, e = .returned (.tuple #[.slice a 2 c, .int .i64 0]) ∧ TrI w (w.heap.size + 1) (.slice a 2 c) (.int .i64 1) w') := HEN.out
        go_wp2_with fail
        go_region_with (go_at_call 20; refine Calls.mono (HEN.out _ (((Below.refl _ _).alloc (Nat.le_refl _) _).alloc (by simp) _).drew) ?_; rintro e w3 ⟨a3, c3, rfl, hT3⟩)
        all_goals
          have HT3 : Hid _ := hT3
          clear hT3 HEN
          go_wp2
          go_roundw
          case rel => exact HT3.out
          case measure => simp [intOf]
      focus
        have HEN : Hid (∀ W', Below w2.heap.size w2 W' → Calls Tryd.prog 20 #[.slice a2 3 c2, .int .i64 1, .string ⟨#[98]⟩, .int .i64 2] W' fun e w' => ∃ a c, e = .returned (.tuple #[.slice a 3 c, .int .i64 0]) ∧ TrI w (w.heap.size + 1) (.slice a 3 c) (.int .i64 2) w') := HEN.out
        go_wp2_with fail
        go_region_with (go_at_call 20; refine Calls.mono (HEN.out _ (((Below.refl _ _).alloc (Nat.le_refl _) _).alloc (by simp) _).drew) ?_; rintro e w3 ⟨a3, c3, rfl, hT3⟩)
        all_goals
          have HT3 : Hid _ := hT3
          clear hT3 HEN
          go_wp2
          go_roundw
          case rel => exact HT3.out
          case measure => simp [intOf]
      focus
        have HEN : Hid (∀ W', Below w2.heap.size w2 W' → Calls Tryd.prog 20 #[.slice a2 4 c2, .int .i64 2, .string ⟨#[102]⟩, .int .i64 3] W' fun e w' => ∃ a c, e = .returned (.tuple #[.slice a 4 c, .int .i64 0]) ∧ TrI w (w.heap.size + 1) (.slice a 4 c) (.int .i64 3) w') := HEN.out
        go_wp2_with fail
        go_region_with (go_at_call 20; refine Calls.mono (HEN.out _ (((Below.refl _ _).alloc (Nat.le_refl _) _).alloc (by simp) _).drew) ?_; rintro e w3 ⟨a3, c3, rfl, hT3⟩)
        all_goals
          have HT3 : Hid _ := hT3
          clear hT3 HEN
          go_wp2
          go_roundw
          case rel => exact HT3.out
          case measure => simp [intOf]
      focus
        have HEN : Hid (∀ W', Below w2.heap.size w2 W' → Calls Tryd.prog 20 #[.slice a2 5 c2, .int .i64 1, .string ⟨#[108]⟩, .int .i64 4] W' fun e w' => ∃ a c, e = .returned (.tuple #[.slice a 5 c, .int .i64 0]) ∧ TrI w (w.heap.size + 1) (.slice a 5 c) (.int .i64 4) w') := HEN.out
        go_wp2_with fail
        go_region_with (go_at_call 20; refine Calls.mono (HEN.out _ (((Below.refl _ _).alloc (Nat.le_refl _) _).alloc (by simp) _).drew) ?_; rintro e w3 ⟨a3, c3, rfl, hT3⟩)
        all_goals
          have HT3 : Hid _ := hT3
          clear hT3 HEN
          go_wp2
          go_roundw
          case rel => exact HT3.out
          case measure => simp [intOf]
    · obtain rfl : k = 4 := by omega
      clear hO hB hR hg hk
      go_wp2
      go_ret
      exact ⟨_, _, rfl, HO.out, HB.out⟩
end Go.Proofs.YtfiiandnopifnaaDoor
