
/-
  rgref5.Sweep, walked, whole.
-/
import Derived.Test.YtdciohinlhbliaaJSD
import Derived.BigRegion
import Derived.BigQuiet
namespace Go.Proofs.Ytdciohinlhbliaa
open Go.RowKit
open Wp
/-- What Sweep leaves: a kernel, somewhere. -/
def SweepW (x : Swp) (w : World) (e : Ending) (w' : World) : Prop :=
  ∃ (oa pa qa : Option Addr) (oc pc qc : Nat), e = .returned (.agg #[.slice oa x.fin.ts.length oc, .slice pa x.fin.O.length pc, .slice qa x.fin.ps.length qc]) ∧ Row w' (fun b => b < w'.heap.size) 9 (.slice oa x.fin.ts.length oc) (x.fin.ts.map objC) ∧ Row w' (fun b => b < w'.heap.size) 2 (.slice pa x.fin.O.length pc) (x.fin.O.map opnC) ∧ Row w' (fun b => b < w'.heap.size) 4 (.slice qa x.fin.ps.length qc) (x.fin.ps.map prcC) ∧ (∀ t ∈ x.fin.ts, Lists w' (fun b => b < w'.heap.size) t) ∧ (∀ t ∈ x.fin.ps, Row w' (fun b => b < w'.heap.size) 3 (.slice t.1.a t.1.n t.1.c) (t.2.slots.map sltC)) ∧ Gw w w'
theorem Row.take {w : World} {S : Nat → Prop} {k n m c : Nat} {a : Option Addr} {css : List (List Value)} (h : Row w S k (.slice a n c) css) (hm : m ≤ css.length) : Row w S k (.slice a m c) (css.take m) := by
  rcases Nat.eq_zero_or_pos m with rfl | hp
  · exact Row.nil _ _ _ _ _
  · obtain ⟨b, o, c', e, h1, h2, h3, h4⟩ := h.some (by omega)
    obtain ⟨rfl, -, rfl⟩ := Value.slice.inj e
    refine Or.inr ⟨b, o, c, by rw [List.length_take, Nat.min_eq_left hm], h1, by rw [List.length_take]; omega, h3, fun i cs hi j u hj => ?_⟩
    rw [List.getElem?_take] at hi
    split at hi
    · exact h4 i cs hi j u hj
    · cases hi
set_option maxRecDepth 1000000 in
set_option maxHeartbeats 16000000 in
theorem rsweep_any (x : Swp) (oa pa qa : Option Addr) (oc pc qc : Nat) (R : Nat → Prop) (w : World) (hob : Row w R 9 (.slice oa x.ts.length oc) (x.ts.map objC)) (hop : Row w R 2 (.slice pa x.O.length pc) (x.O.map opnC)) (hpr : Row w R 4 (.slice qa x.ps.length qc) (x.ps.map prcC)) (hls : ∀ t ∈ x.ts, Lists w R t) (hsl : ∀ t ∈ x.ps, Row w R 3 (.slice t.1.a t.1.n t.1.c) (t.2.slots.map sltC)) (hR : ∀ b, R b → b < w.heap.size) (hfit : Fit x) :
    Calls Try.prog 15 #[.agg #[.slice oa x.ts.length oc, .slice pa x.O.length pc, .slice qa x.ps.length qc]] w (SweepW x w) := by
  have hg2 : Gw w ((w.alloc (.cells #[.slice oa x.ts.length oc, .slice pa x.O.length pc, .slice qa x.ps.length qc] 27)).alloc (.cells #[.slice none 0 0, .slice none 0 0, .slice none 0 0] 27)) := (Gw.new w _).trans (Gw.new _ _)
  have hz2 : ((w.alloc (.cells #[.slice oa x.ts.length oc, .slice pa x.O.length pc, .slice qa x.ps.length qc] 27)).alloc (.cells #[.slice none 0 0, .slice none 0 0, .slice none 0 0] 27)).heap.size = w.heap.size + 2 := by simp
  have hn2 : Blk ((w.alloc (.cells #[.slice oa x.ts.length oc, .slice pa x.O.length pc, .slice qa x.ps.length qc] 27)).alloc (.cells #[.slice none 0 0, .slice none 0 0, .slice none 0 0] 27)) (w.heap.size + 1) #[.slice none 0 0, .slice none 0 0, .slice none 0 0] 27 := blk_new1w w _ _ _
  have hRT : ∀ b, R b → b < ((w.alloc (.cells #[.slice oa x.ts.length oc, .slice pa x.O.length pc, .slice qa x.ps.length qc] 27)).alloc (.cells #[.slice none 0 0, .slice none 0 0, .slice none 0 0] 27)).heap.size ∧ b ≠ w.heap.size ∧ b ≠ w.heap.size + 1 := fun b hb => by have := hR b hb; exact ⟨by omega, by omega, by omega⟩
  have hks : KS ((w.alloc (.cells #[.slice oa x.ts.length oc, .slice pa x.O.length pc, .slice qa x.ps.length qc] 27)).alloc (.cells #[.slice none 0 0, .slice none 0 0, .slice none 0 0] 27)) w.heap.size x oa pa qa oc pc qc :=
    ⟨(Blk.new w _ _).alloc _, (Row.on hob (hg2.1.less hR)).more hRT, (Row.on hop (hg2.1.less hR)).more hRT, (Row.on hpr (hg2.1.less hR)).more hRT, fun t ht => ((hls t ht).on (hg2.1.less hR)).more hRT, fun t ht => (Row.on (hsl t ht) (hg2.1.less hR)).more hRT, by omega⟩
  have HG2 : Hid _ := hg2
  have HN2 : Hid _ := hn2
  have HKS : Hid _ := hks
  have HFIT : Hid (Fit x) := hfit
  clear hg2 hn2 hks hRT hob hop hpr hls hsl hR hfit
  go_enter Try.func15, Try.ntmps15
  go_upto_block 0 with fail
  generalize ((w.alloc (.cells #[.slice oa x.ts.length oc, .slice pa x.O.length pc, .slice qa x.ps.length qc] 27)).alloc (.cells #[.slice none 0 0, .slice none 0 0, .slice none 0 0] 27)) = w2 at *
  refine sround_wp _ _ x oa pa qa oc pc qc w2 w.heap.size HKS.out HFIT.out _ _ _ _ _ _ _ _ _ _ _ _ _ _ _ _ _ _ _ _ _ _ _ _ _ _ _ _ _ _ _ _ _ _ _ _ _ _ _ _ _ _ _ _ _ _ _ _ _ _ _ _ _ _ _ _ _ _ _ _ _ _ _ _ _ _ _ _ _ _ _ _ _ _ _ _ _ _ _ _ _ _ _ _ _ _ _ _ _ _ _ _ _ _ _ _ _ _ _ _ _ _ _ _ _ _ _ _ _ _ _ _ _ _ _ _ _ _ _ _ _ _ _ _ _ _ _ _ _ _ _ _ _ _ _ _ _ _ _ _ _ _ _ _ _ _ _ _ _ _ _ _ _ _ _ _ _ _ _ _ _ _ _ _ _ _ _ _ _ _ _ _ _ _ _ _ _ _ _ _ _ _ _ _ _ _ _ _ _ _ _ _ _ _ _ _ _ _ _ _ _ _ _ _ _ _ _ _ _ _ _ _ _ _ _ _ _ _ _ _ _ _ _ _ _ _ _ _ _ _ _ _ _ _ _ _ _ _ _ _ _ _ _ _ _ _ _ _ _ _ _ _ _ _ _ _ _ _ _ _ _ _ _ _ _ _ _ _ _ _ _ _ _ _ _ _ _ _ _ _ _ _ ?_
  intro y4 y5 y6 y8 y10 y11 y13 y14 y15 y16 y17 y18 y19 y20 y28 y29 y30 y31 y32 y33 y34 y35 y36 y37 y38 y39 y40 y41 y42 y43 y44 y45 y46 y47 y48 y49 y50 y51 y52 y53 y54 y55 y56 y57 y58 y59 y60 y61 y62 y63 y64 y65 y66 y67 y68 y69 y70 y71 y72 y73 y74 y75 y76 y77 y78 y79 y80 y81 y82 y83 y84 y85 y86 y87 y88 y89 y90 y91 y92 y93 y94 y95 y96 y97 y98 y99 y100 y101 y102 y103 y104 y105 y106 y107 y108 y109 y110 y111 y112 y113 y114 y115 y116 y117 y118 y119 y120 y121 y122 y123 y124 y125 y126 y127 y128 y129 y130 y131 y132 y133 y134 y135 y136 y137 y138 y139 y140 y141 y142 y143 y144 y145 y146 y147 y148 y149 y150 y151 y152 y153 y154 y155 y156 y157 y158 y159 y160 y161 y162 y163 y164 y165 y166 y167 y168 y169 y170 w3 oa3 pa3 qa3 oc3 pc3 qc3 hsl3
  obtain ⟨-, base, hbase, hM, hKB⟩ := hsl3.fin rfl
  have hps := hsl3.fit.ps
  obtain ⟨a', c', he, -, hga⟩ := hM.form
  rw [List.length_map] at hga
  obtain ⟨rfl, -, rfl⟩ := Value.slice.inj he
  obtain ⟨g3, rfl, hg3, hg3l⟩ := hga hps.1
  have hkb := hsl3.ks.kern
  have k3c := hkb.cell
  have k3l := hkb.lt
  have HS3 : Hid _ := hsl3
  have HM3 : Hid _ := hM
  have HKB : Hid _ := hKB
  have HY : Hid (x.fin = x.all.cut) := rfl
  clear hsl3 hM hKB he hga hkb
  generalize x.all = y at *
  go_upto_block 16 with fail
  have hbl : base ≤ g3 := hg3
  have hsz3 := HS3.out.size
  have hk3z : w.heap.size ≠ g3 := by omega
  have HBT : Hid (∀ b, (b < base ∧ b ≠ w.heap.size ∧ b ≠ w.heap.size + 1) → b < w3.heap.size ∧ b ≠ g3) := fun b hb => ⟨by omega, by omega⟩
  refine sfor_wp _ _ (y.ts.map Prod.snd) y.ps (.slice oa3 y.ts.length oc3) (.slice pa3 y.O.length pc3) (fun b => b < base ∧ b ≠ w.heap.size ∧ b ≠ w.heap.size + 1) w3 w.heap.size g3 qc3 base HM3.out HS3.out.ks.kern hk3z ⟨y.ts, rfl, HKB.out.ob, HKB.out.lists⟩ HBT.out (by omega) _ _ _ _ _ _ _ _ _ _ _ _ _ _ _ _ _ _ _ _ _ _ _ _ _ _ _ _ _ _ _ _ _ _ _ _ _ _ _ _ _ _ _ _ _ _ _ _ _ _ _ _ _ _ _ _ _ _ _ _ _ _ _ _ _ _ _ _ _ _ _ _ _ _ _ _ _ _ _ _ _ _ _ _ _ _ _ _ _ _ _ _ _ _ _ _ _ _ _ _ _ _ _ _ _ _ _ _ _ _ _ _ _ _ _ _ _ _ _ _ _ _ _ _ _ _ _ _ _ _ _ _ _ _ _ _ _ _ _ _ _ _ _ _ _ _ _ _ _ _ _ _ _ _ _ _ _ _ _ _ _ _ _ _ _ _ _ _ _ _ _ _ _ _ _ _ _ _ _ _ _ _ _ _ _ _ _ _ _ _ _ _ _ _ _ _ _ _ _ _ _ _ _ _ _ _ _ _ _ _ _ _ _ _ _ _ _ _ _ _ _ _ _ _ _ _ _ _ _ _ _ _ _ _ _ _ _ _ _ _ _ _ _ _ _ _ _ _ _ _ _ _ _ _ _ _ _ _ _ _ _ _ _ _ _ _ _ _ _ _ _ _ _ _ _ _ _ _ _ _ _ ?_
  intro z21 z175 z176 z177 z178 z179 z180 z181 z182 z183 z184 z185 z186 z187 z188 z189 z190 z191 z192 z193 z194 z195 z196 z197 z198 z199 z200 w4 hM4 ho4 hz4 hb4
  dsimp only
  have hk4 := HS3.out.ks.kern.on ho4 ⟨k3l, hk3z⟩
  have HK4 : Hid _ := hk4
  have HM4 : Hid _ := hM4
  have HO4 : Hid _ := ho4
  have HB4 : Hid _ := hb4
  have k4c := hk4.cell
  have k4l := hk4.lt
  have HT4 : Hid (On (fun b => b < base ∧ b ≠ w.heap.size ∧ b ≠ w.heap.size + 1) w3 w4) := ho4.less HBT.out
  have hfit := HS3.out.fit
  have hl1 := hfit.ts
  have hl2 := hfit.os
  have HFY : Hid (Fit y) := hfit
  clear hM4 ho4 hb4 hk4 k3c hfit
  go_upto_block 18 with fail
  refine sco_wp _ _ y.ts oa3 oc3 (.slice pa3 y.O.length pc3) (.slice (some ⟨g3, 0, none⟩) y.ps.length qc3) (fun b => b < base ∧ b ≠ w.heap.size ∧ b ≠ w.heap.size + 1) w4 w.heap.size HK4.out (Row.on HKB.out.ob HT4.out) (by omega) _ _ _ _ _ _ _ _ _ _ _ _ _ _ _ _ _ _ _ _ _ _ _ _ _ _ _ _ _ _ _ _ _ _ _ _ _ _ _ _ _ _ _ _ _ _ _ _ _ _ _ _ _ _ _ _ _ _ _ _ _ _ _ _ _ _ _ _ _ _ _ _ _ _ _ _ _ _ _ _ _ _ _ _ _ _ _ _ _ _ _ _ _ _ _ _ _ _ _ _ _ _ _ _ _ _ _ _ _ _ _ _ _ _ _ _ _ _ _ _ _ _ _ _ _ _ _ _ _ _ _ _ _ _ _ _ _ _ _ _ _ _ _ _ _ _ _ _ _ _ _ _ _ _ _ _ _ _ _ _ _ _ _ _ _ _ _ _ _ _ _ _ _ _ _ _ _ _ _ _ _ _ _ _ _ _ _ _ _ _ _ _ _ _ _ _ _ _ _ _ _ _ _ _ _ _ _ _ _ _ _ _ _ _ _ _ _ _ _ _ _ _ _ _ _ _ _ _ _ _ _ _ _ _ _ _ _ _ _ _ _ _ _ _ _ _ _ _ _ _ _ _ _ _ _ _ _ _ _ _ _ _ _ _ _ _ _ _ _ _ _ _ _ _ _ _ _ _ _ _ ?_
  intro z25 z205 z206 z207 z208 z209 z210 z211 z212 z213 z214 z215 z216 z217 z218 z219 z220 z221
  dsimp only
  go_upto_block 20 with fail
  refine scp_wp _ _ y.O pa3 pc3 (.slice oa3 y.ts.length oc3) (.slice (some ⟨g3, 0, none⟩) y.ps.length qc3) (fun b => b < base ∧ b ≠ w.heap.size ∧ b ≠ w.heap.size + 1) w4 w.heap.size HK4.out (Row.on HKB.out.opn HT4.out) (by omega) HFY.out.opn _ _ _ _ _ _ _ _ _ _ _ _ _ _ _ _ _ _ _ _ _ _ _ _ _ _ _ _ _ _ _ _ _ _ _ _ _ _ _ _ _ _ _ _ _ _ _ _ _ _ _ _ _ _ _ _ _ _ _ _ _ _ _ _ _ _ _ _ _ _ _ _ _ _ _ _ _ _ _ _ _ _ _ _ _ _ _ _ _ _ _ _ _ _ _ _ _ _ _ _ _ _ _ _ _ _ _ _ _ _ _ _ _ _ _ _ _ _ _ _ _ _ _ _ _ _ _ _ _ _ _ _ _ _ _ _ _ _ _ _ _ _ _ _ _ _ _ _ _ _ _ _ _ _ _ _ _ _ _ _ _ _ _ _ _ _ _ _ _ _ _ _ _ _ _ _ _ _ _ _ _ _ _ _ _ _ _ _ _ _ _ _ _ _ _ _ _ _ _ _ _ _ _ _ _ _ _ _ _ _ _ _ _ _ _ _ _ _ _ _ _ _ _ _ _ _ _ _ _ _ _ _ _ _ _ _ _ _ _ _ _ _ _ _ _ _ _ _ _ _ _ _ _ _ _ _ _ _ _ _ _ _ _ _ _ _ _ _ _ _ _ _ _ _ _ _ _ _ _ _ ?_
  intro z26 z226 z227 z228 z229 z230 z231 z232 z233 z234 z235 z236 z237
  dsimp only
  go_upto_block 22 with fail
  refine scq_wp _ _ (y.ts.map Prod.snd) (y.ps.mapIdx (fp (knownB (y.ts.map Prod.snd) y.ps.length))) y.ps.length (by rw [List.length_mapIdx]) (some ⟨g3, 0, none⟩) qc3 (.slice oa3 y.ts.length oc3) (.slice pa3 y.O.length pc3) (fun b => b < w4.heap.size) w4 w.heap.size HK4.out ((Mine.row HM4.out (even_prc _)).more fun b hb => hb.2) ⟨y.ts, rfl, (Row.on HKB.out.ob HT4.out).more fun b hb => by have := HBT.out b hb; omega, fun t ht => ((HKB.out.lists t ht).on HT4.out).more fun b hb => by have := HBT.out b hb; omega⟩ (fun b hb => hb) (by rw [List.length_mapIdx]; omega) _ _ _ _ _ _ _ _ _ _ _ _ _ _ _ _ _ _ _ _ _ _ _ _ _ _ _ _ _ _ _ _ _ _ _ _ _ _ _ _ _ _ _ _ _ _ _ _ _ _ _ _ _ _ _ _ _ _ _ _ _ _ _ _ _ _ _ _ _ _ _ _ _ _ _ _ _ _ _ _ _ _ _ _ _ _ _ _ _ _ _ _ _ _ _ _ _ _ _ _ _ _ _ _ _ _ _ _ _ _ _ _ _ _ _ _ _ _ _ _ _ _ _ _ _ _ _ _ _ _ _ _ _ _ _ _ _ _ _ _ _ _ _ _ _ _ _ _ _ _ _ _ _ _ _ _ _ _ _ _ _ _ _ _ _ _ _ _ _ _ _ _ _ _ _ _ _ _ _ _ _ _ _ _ _ _ _ _ _ _ _ _ _ _ _ _ _ _ _ _ _ _ _ _ _ _ _ _ _ _ _ _ _ _ _ _ _ _ _ _ _ _ _ _ _ _ _ _ _ _ _ _ _ _ _ _ _ _ _ _ _ _ _ _ _ _ _ _ _ _ _ _ _ _ _ _ _ _ _ _ _ _ _ _ _ _ _ _ _ _ _ _ _ _ _ _ _ _ _ _ ?_
  intro z27 z242 z243 z244 z245 z246 z247 z248 z249 z250 z251 z252 z253 z254 z255 z256 z257 z258 z259 z260 z261 z262 w5 hg5
  dsimp only
  have HG5 : Hid (Gw w4 w5) := hg5
  have hk5 := Blk.on HK4.out hg5.1 k4l
  have k5c := hk5.cell
  have k5l := hk5.lt
  have hN5 : Blk w5 (w.heap.size + 1) #[.slice none 0 0, .slice none 0 0, .slice none 0 0] 27 := Blk.on (Blk.on (Blk.on HN2.out HS3.out.on ⟨Blk.lt HN2.out, by omega⟩) HO4.out ⟨by omega, by omega⟩) hg5.1 (by omega)
  have HN5 : Hid _ := hN5
  have n5c := hN5.cell
  have n5f := hN5.free
  have n5l := hN5.lt
  have eA : docN (obG y.ts) 1 y.ts.length = trimN (obG y.ts) 1 y.ts.length := by
    have h1 := docN_trim (obG y.ts) 1 (Nat.le_refl _) y.ts.length
    have h2 := docN_le (obG y.ts) 1 y.ts.length
    omega
  have eB : docN (opG y.O) 0 y.O.length = trimN (opG y.O) 0 y.O.length := by
    have h1 := docN_trim (opG y.O) 0 (Nat.zero_le _) y.O.length
    have h2 := docN_le (opG y.O) 0 y.O.length
    omega
  have eC : docN (prS (y.ts.map Prod.snd) (y.ps.mapIdx (fp (knownB (y.ts.map Prod.snd) y.ps.length)))) 1 y.ps.length = trimN (prG y.knE y.ps) 1 y.ps.length := by
    refine (docN_congr (G := prS (y.ts.map Prod.snd) (y.ps.mapIdx (fp y.knE))) fun k hk => prS_eq y k hk).trans ?_
    have h1 := docN_trim (prG y.knE y.ps) 1 (Nat.le_refl _) y.ps.length
    have h2 := docN_le (prG y.knE y.ps) 1 y.ps.length
    omega
  rw [eA, eB, eC]
  have lA := trimN_le (obG y.ts) 1 y.ts.length
  have lB := trimN_le (opG y.O) 0 y.O.length
  have lC := trimN_le (prG y.knE y.ps) 1 y.ps.length
  have HEA : Hid (y.cut.ts = y.ts.take (trimN (obG y.ts) 1 y.ts.length) ∧ y.cut.O = y.O.take (trimN (opG y.O) 0 y.O.length) ∧ y.cut.ps = (y.ps.mapIdx (fp y.knE)).take (trimN (prG y.knE y.ps) 1 y.ps.length)) := ⟨rfl, rfl, rfl⟩
  clear eA eB eC hg5 hk5 hN5 k4c
  generalize trimN (obG y.ts) 1 y.ts.length = A at *
  generalize trimN (opG y.O) 0 y.O.length = B at *
  generalize trimN (prG y.knE y.ps) 1 y.ps.length = D at *
  obtain ⟨b1, o1, c1, e1, -, hc1, hm1, -⟩ := (Row.on HKB.out.ob HT4.out).some (by rw [List.length_map]; omega)
  obtain ⟨rfl, -, rfl⟩ := Value.slice.inj e1
  rw [List.length_map] at hc1
  have hc2 : y.O.length ≤ pc3 ∧ pc3 ≤ maxLen ∨ y.O.length = 0 := by
    rcases HKB.out.opn with ⟨a, c, e, h⟩ | ⟨b, o, c, e, -, h, h', -⟩
    · exact Or.inr (by have := congrArg List.length h; rw [List.length_map] at this; exact this)
    · rw [List.length_map] at h; rw [← (Value.slice.inj e).2.2] at h h'; exact Or.inl ⟨h, h'⟩
  obtain ⟨-, -, -, hc3, hm3, -, -⟩ := Mine.blk HM4.out
  unfold maxLen at hm1 hm3
  have hB' : B ≤ pc3 := by rcases hc2 with h | h <;> omega
  have iA : ¬ (y.ts.length : Int) < (A : Int) := by omega
  have iD : ¬ (y.ps.length : Int) < (D : Int) := by omega
  have iA' : (A : Int) ≤ (y.ts.length : Int) := by omega
  have iD' : (D : Int) ≤ (y.ps.length : Int) := by omega
  go_upto_region 78 with fail
  go_region
  have mA : (min (A : Int) (y.ts.length : Int)).toNat = A := by omega
  have mD : (min (D : Int) (y.ps.length : Int)).toNat = D := by omega
  rw [mA, mD]
  have hcF := ((Blk.set (Blk.set (Blk.set HN5.out 0 (.slice (some ⟨b1, o1, none⟩) A oc3)) 1 (.slice pa3 B pc3)) 2 (.slice (some ⟨g3, 0, none⟩) D qc3)))
  have oF : On (fun b => b ≠ w.heap.size + 1) w5 (((w5.setCell ⟨w.heap.size + 1, 0, none⟩ (.slice (some ⟨b1, o1, none⟩) A oc3)).setCell ⟨w.heap.size + 1, 1, none⟩ (.slice pa3 B pc3)).setCell ⟨w.heap.size + 1, 2, none⟩ (.slice (some ⟨g3, 0, none⟩) D qc3)).drew := ((On.set w5 ⟨w.heap.size + 1, 0, none⟩ _).trans (On.set _ ⟨w.heap.size + 1, 1, none⟩ _)).trans (On.set _ ⟨w.heap.size + 1, 2, none⟩ _)
  have zF : (((w5.setCell ⟨w.heap.size + 1, 0, none⟩ (.slice (some ⟨b1, o1, none⟩) A oc3)).setCell ⟨w.heap.size + 1, 1, none⟩ (.slice pa3 B pc3)).setCell ⟨w.heap.size + 1, 2, none⟩ (.slice (some ⟨g3, 0, none⟩) D qc3)).drew.heap.size = w5.heap.size := by
    show (((w5.setCell _ _).setCell _ _).setCell _ _).heap.size = _
    simp
  have bF : Below w.heap.size w5 (((w5.setCell ⟨w.heap.size + 1, 0, none⟩ (.slice (some ⟨b1, o1, none⟩) A oc3)).setCell ⟨w.heap.size + 1, 1, none⟩ (.slice pa3 B pc3)).setCell ⟨w.heap.size + 1, 2, none⟩ (.slice (some ⟨g3, 0, none⟩) D qc3)).drew := ((((Below.refl w.heap.size w5).setCell (p := ⟨w.heap.size + 1, 0, none⟩) (by show w.heap.size ≤ w.heap.size + 1; omega) _).setCell (p := ⟨w.heap.size + 1, 1, none⟩) (by show w.heap.size ≤ w.heap.size + 1; omega) _).setCell (p := ⟨w.heap.size + 1, 2, none⟩) (by show w.heap.size ≤ w.heap.size + 1; omega) _).drew
  have hcF : Blk (((w5.setCell ⟨w.heap.size + 1, 0, none⟩ (.slice (some ⟨b1, o1, none⟩) A oc3)).setCell ⟨w.heap.size + 1, 1, none⟩ (.slice pa3 B pc3)).setCell ⟨w.heap.size + 1, 2, none⟩ (.slice (some ⟨g3, 0, none⟩) D qc3)).drew (w.heap.size + 1) #[.slice (some ⟨b1, o1, none⟩) A oc3, .slice pa3 B pc3, .slice (some ⟨g3, 0, none⟩) D qc3] 27 := hcF
  generalize (((w5.setCell ⟨w.heap.size + 1, 0, none⟩ (.slice (some ⟨b1, o1, none⟩) A oc3)).setCell ⟨w.heap.size + 1, 1, none⟩ (.slice pa3 B pc3)).setCell ⟨w.heap.size + 1, 2, none⟩ (.slice (some ⟨g3, 0, none⟩) D qc3)).drew = w6 at *
  have hg54 : w4.heap.size ≤ w5.heap.size := HG5.out.2.1
  have HT6 : Hid (On (fun b => b < base ∧ b ≠ w.heap.size ∧ b ≠ w.heap.size + 1) w3 w6) := (HT4.out.trans (HG5.out.1.less fun b hb => by have := HBT.out b hb; omega)).trans (oF.less fun b hb => hb.2.2)
  have HFIN : Hid (SweepW x w (.returned (.agg #[.slice (some ⟨b1, o1, none⟩) A oc3, .slice pa3 B pc3, .slice (some ⟨g3, 0, none⟩) D qc3])) w6) := by
    obtain ⟨eA, eB, eC⟩ := HEA.out
    have hz34 := hz4
    have zAll : w6.heap.size = w5.heap.size := zF
    have hTW : ∀ b, (b < base ∧ b ≠ w.heap.size ∧ b ≠ w.heap.size + 1) → b < w6.heap.size := fun b hb => by have := HBT.out b hb; omega
    have hp6 : Mine w6 base 43 4 (.slice (some ⟨g3, 0, none⟩) y.ps.length qc3) ((y.ps.mapIdx (fp y.knE)).map prcC) := (Mine.on HM4.out HG5.out.1 fun g hg => (Mine.lt HM4.out g hg).2).on oF fun g hg => by have := (Mine.lt HM4.out g hg).1; show g ≠ w.heap.size + 1; omega
    have tA : (y.ts.take A).length = A := by rw [List.length_take]; omega
    have tB : (y.O.take B).length = B := by rw [List.length_take]; omega
    have tC : ((y.ps.mapIdx (fp y.knE)).take D).length = D := by rw [List.length_take, List.length_mapIdx]; omega
    unfold Hid SweepW
    rw [HY.out, eA, eB, eC]
    refine ⟨some ⟨b1, o1, none⟩, pa3, some ⟨g3, 0, none⟩, oc3, pc3, qc3, by rw [tA, tB, tC], ?_, ?_, ?_, fun t ht => ?_, fun t ht => ?_, ?_⟩
    · rw [tA, List.map_take]
      exact Row.take ((Row.on HKB.out.ob HT6.out).more hTW) (by rw [List.length_map]; exact lA)
    · rw [tB, List.map_take]
      exact Row.take ((Row.on HKB.out.opn HT6.out).more hTW) (by rw [List.length_map]; exact lB)
    · rw [tC, List.map_take]
      exact Row.take ((hp6.row (even_prc _)).more fun b hb => hb.2) (by rw [List.length_map, List.length_mapIdx]; exact lC)
    · exact ((HKB.out.lists t (List.mem_of_mem_take ht)).on HT6.out).more hTW
    · obtain ⟨i, hi, rfl⟩ := List.mem_mapIdx.1 (List.mem_of_mem_take ht)
      unfold fp
      split
      · exact Row.nil _ _ _ _ _
      · exact (Row.on (HKB.out.slots y.ps[i] (List.getElem_mem hi)) HT6.out).more hTW
    · have q1 : On (fun b => b < w.heap.size) w w3 := HG2.out.1.trans (HS3.out.on.less fun b hb => ⟨by omega, by omega⟩)
      refine ⟨(((q1.trans (On.less HO4.out fun b hb => ⟨by omega, by omega⟩)).trans (HG5.out.1.less fun b hb => by omega)).trans (oF.less fun b hb => by omega)), by omega, fun B' hB' => ?_⟩
      exact ((((HG2.out.2.2 B' hB').trans (HS3.out.below B' hB')).trans (HB4.out B' (by omega))).trans (HG5.out.2.2 B' (by omega))).trans (bF.mono hB')
  clear mA mD oF zF bF k5c n5c n5f
  have hcc := hcF.cell
  go_wp2
  refine bodyPost_ret (v := .agg #[.slice (some ⟨b1, o1, none⟩) A oc3, .slice pa3 B pc3, .slice (some ⟨g3, 0, none⟩) D qc3]) (by simp [results, Try.results15, go_sem, hcc]) rfl ?_
  exact HFIN.out
end Go.Proofs.Ytdciohinlhbliaa
