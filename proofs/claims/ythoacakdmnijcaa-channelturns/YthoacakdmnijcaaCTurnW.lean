/-
  rglaw9.ChannelTurns, walked.
-/
import Derived.Test.YthoacakdmnijcaaCTurnR
import Derived.Deep.CutRange
import Derived.Deep.CutBlock
namespace Go.Proofs.Ythoacakdmnijcaa
open Go.RowKit
/-- Where the first loop stands. -/
def TI (w : World) (ge : Nat) (ms back : List ByteArray) (s5 s47 : Value) (wr : World) : Prop :=
  ∃ (k : Nat) (a : Option Addr) (c : Nat), s47 = .int .i64 k ∧ s5 = .slice a 3 c ∧ Objs wr (fun b => b < wr.heap.size) s5 (Ch.st [obD 1] (Ch.turnQ ms back k k)) ∧ Blk wr ge #[.int .i64 1, .int .i64 2] 50 ∧ Below w.heap.size w wr ∧ Ch.sizes (ms.take k) ∧ Ch.sizes (back.take k)
/-- Where the second loop stands: t ends have been emptied. -/
def DI (w : World) (ge : Nat) (ms back : List ByteArray) (s5 s114 : Value) (wr : World) : Prop :=
  ∃ (t : Nat) (a : Option Addr) (c : Nat), t ≤ 2 ∧ s114 = .int .i64 t ∧ s5 = .slice a 3 c ∧ Objs wr (fun b => b < wr.heap.size) (.slice a 3 c) (Ch.st [obD 1] (Ch.drainQ ms back t 0)) ∧ Blk wr ge #[.int .i64 1, .int .i64 2] 50 ∧ Below w.heap.size w wr
/-- Where the loop within it stands. -/
def EI (w : World) (ge : Nat) (ms back : List ByteArray) (t n : Nat) (s5 s120 : Value) (wr : World) : Prop :=
  ∃ (j : Nat) (a : Option Addr) (c : Nat), j ≤ n ∧ s120 = .int .i64 j ∧ s5 = .slice a 3 c ∧ Objs wr (fun b => b < wr.heap.size) (.slice a 3 c) (Ch.st [obD 1] (Ch.drainQ ms back t j)) ∧ Blk wr ge #[.int .i64 1, .int .i64 2] 50 ∧ Below w.heap.size w wr
theorem idxT0 (a a' : Option Addr) (n c n' c' : Nat) (w : World) : (Instr.index 61 (.agg #[.slice a n c, .slice a' n' c']) (.int .i64 (0 : Nat))).run Try.prog w = .ok (.slice a n c) w := by kernel_rfl
theorem idxT1 (a a' : Option Addr) (n c n' c' : Nat) (w : World) : (Instr.index 61 (.agg #[.slice a n c, .slice a' n' c']) (.int .i64 (1 : Nat))).run Try.prog w = .ok (.slice a' n' c') w := by kernel_rfl
set_option maxRecDepth 100000 in
set_option maxHeartbeats 8000000 in
theorem cturns_any (ms back : List ByteArray) (vm vb : Value) (w : World) (hm : Row w (fun b => b < w.heap.size) 1 vm (ms.map txtC)) (hb : Row w (fun b => b < w.heap.size) 1 vb (back.map txtC)) (hms : ∀ s ∈ ms, s.size ≤ maxLen) (hbs : ∀ s ∈ back, s.size ≤ maxLen) :
    Calls Try.prog 7 #[vm, vb] w fun e w' => e = .returned (.bool true) ∧ Below w.heap.size w w' := by
  obtain ⟨ma, mc, rfl, hml⟩ := hm.form
  obtain ⟨ba, bc, rfl, hbl⟩ := hb.form
  rw [List.length_map] at hm hb hml hbl ⊢
  rw [List.length_map]
  have HM : Hid (Row w (fun b => b < w.heap.size) 1 (.slice ma ms.length mc) (ms.map txtC)) := hm
  have HBK : Hid (Row w (fun b => b < w.heap.size) 1 (.slice ba back.length bc) (back.map txtC)) := hb
  have HMS : Hid (∀ s ∈ ms, s.size ≤ maxLen) := hms
  have HBS : Hid (∀ s ∈ back, s.size ≤ maxLen) := hbs
  unfold maxLen at hml hbl
  clear hm hb hms hbs
  by_cases hbig : 4 < ms.length ∨ 4 < back.length
  · by_cases hb4 : 4 < ms.length
    all_goals
      go_enter Try.func7, Try.ntmps7
      go_wp2_with fail
      refine (alive9_any _).mono ?_
      rintro e w1 ⟨rfl, hb1⟩
      have HB1 : Hid (Below w.heap.size w w1) := hb1
      clear hb1
      go_wp2
      go_ret
      exact ⟨rfl, HB1.out⟩
  · have hm4 : ms.length ≤ 4 := by omega
    have hb4 : back.length ≤ 4 := by omega
    clear hbig
    obtain ⟨M, hM⟩ : ∃ M : Nat, max (ms.length : Int) (back.length : Int) = (M : Int) := ⟨max ms.length back.length, by omega⟩
    have hM1 : ms.length ≤ M := by omega
    have hM2 : back.length ≤ M := by omega
    have hM4 : M ≤ 4 := by omega
    have hMx : M ≤ ms.length ∨ M ≤ back.length := by omega
    go_enter Try.func7, Try.ntmps7
    go_wp2_with fail
    refine (alive9_any _).mono ?_
    rintro e w1 ⟨rfl, hb1⟩
    have HB1 : Hid (Below w.heap.size w w1) := hb1
    clear hb1
    go_wp2_with fail
    have hB1' : Below w.heap.size w (w1.alloc (.cells #[.int .i64 2, .slice none 0 0, .slice none 0 0, .string ⟨#[]⟩, .int .i64 0, .slice none 0 0, .int .i64 0, .int .i64 1, .int .i64 0] 40)) := HB1.out.alloc HB1.out.size _
    refine (spair [obD 1] _ _ _ (objs_obD 1 w1) (fun b hb => by simp; omega) (fits_obD 1) (by decide) (kind_obD 1)).mono ?_
    rintro e w2 ⟨a2, c2, rfl, hO2, hb2⟩
    have HB2 : Hid (Below w.heap.size w w2) := hB1'.trans (hb2.mono hB1'.size)
    have hB3 : Below w2.heap.size w2 (w2.alloc (.cells #[.int .i64 1, .int .i64 2] 50)) := (Below.refl _ _).alloc (Nat.le_refl _) _
    have HST : Hid (TI w w2.heap.size ms back (.slice a2 3 c2) (.int .i64 0) (w2.alloc (.cells #[.int .i64 1, .int .i64 2] 50))) := by
      refine ⟨0, a2, c2, rfl, rfl, ?_, Blk.new _ _ _, HB2.out.trans (hB3.mono HB2.out.size), fun s hs => by simp at hs, fun s hs => by simp at hs⟩
      have h := hO2.later hB3
      have e : Ch.turnQ ms back 0 0 = fun _ => [] := by funext z; unfold Ch.turnQ; cases z <;> rfl
      rw [e]
      exact h
    clear hO2 hb2 hB3 hB1' HB1 HB2
    go_wp2
    go_loopw [5, 47] (fun s5 s47 wr => TI w w2.heap.size ms back s5 s47 wr ∧ (intOf s47).toNat ≤ M) (fun _ s47 _ => M - (intOf s47).toNat)
    case atStart => exact ⟨HST.out, by simp [intOf]⟩
    case round =>
      clear HST
      obtain ⟨⟨k, a, c, rfl, rfl, hO, hke, hB, hsm, hsb⟩, hkN⟩ := hrel
      have hkN' : k ≤ M := by simpa [intOf] using hkN
      have HO : Hid (Objs wr (fun b => b < wr.heap.size) (.slice a 3 c) (Ch.st [obD 1] (Ch.turnQ ms back k k))) := hO
      have HKE : Hid (Blk wr w2.heap.size #[.int .i64 1, .int .i64 2] 50) := hke
      have HB : Hid (Below w.heap.size w wr) := hB
      have HSM : Hid (Ch.sizes (ms.take k)) := hsm
      have HSB : Hid (Ch.sizes (back.take k)) := hsb
      clear hO hke hB hkN hsm hsb hM
      by_cases hlt : k < M
      · by_cases hlm : k < ms.length
        · have HSMm : Hid (Ch.sizes (ms.take k)) := HSM.out
          have HSBm : Hid (Ch.sizes (back.take k)) := HSB.out
          obtain ⟨sm, hxm⟩ : ∃ s, ms[k]? = some s := ⟨_, List.getElem?_eq_getElem hlm⟩
          obtain ⟨bm, ofm, ccm, hem, hSbm, hcm, hcmm, h5m⟩ := (Row.on HM.out (On.of HB.out)).some (by rw [List.length_map]; omega)
          obtain ⟨eam, -, ecm⟩ := Value.slice.inj hem
          subst eam ecm
          have c0m := h5m k (txtC sm) (by rw [List.getElem?_map, hxm]; rfl) 0 _ rfl
          rw [Nat.mul_one, Nat.add_zero] at c0m
          rw [List.length_map] at hcm
          unfold maxLen at hcmm
          have hblm : bm < wr.heap.size := by have := HB.out.size; omega
          have kkm : wr.cell? ⟨w2.heap.size, 0, none⟩ = some (.int .i64 1) := Blk.cell HKE.out 0
          have l1m := Blk.lt HKE.out
          have HXm : Hid (ms[k]? = some sm) := hxm
          have hslm : sm.size ≤ maxLen := HMS.out sm (List.mem_of_getElem? hxm)
          have HSm : Hid (Calls Try.prog 22 #[.slice a 3 c, .int .i64 1, .agg #[.slice (some ⟨wr.heap.size, 0, none⟩) sm.size (grownCap wr.drew sm.size 0 5), .bool false, .int .i64 0, .int .i64 0]] ((wr.alloc (.cells (bytesRow sm (grownCap wr.drew sm.size 0 5)) 5 ((bytesRow sm (grownCap wr.drew sm.size 0 5)).size, (bytesRow sm (grownCap wr.drew sm.size 0 5)).size + 1))).drew.drew) fun e w' => ∃ v er, e = .returned (.tuple #[v, .int .i64 er]) ∧ ((er = 0 ∧ sm.size ≤ 60 ∧ ∃ a c, v = .slice a 3 c ∧ Objs w' (fun b => b < w'.heap.size) (.slice a 3 c) (Ch.st [obD 1] (Ch.turnQ ms back (k + 1) k)) ∧ Blk w' w2.heap.size #[.int .i64 1, .int .i64 2] 50 ∧ Below w.heap.size w w') ∨ (er = 4 ∧ 60 < sm.size ∧ w'.cell? ⟨bm, ofm + k, none⟩ = some (.string sm) ∧ Below w.heap.size w w'))) := by
            have HBy : Bytes ((wr.alloc (.cells (bytesRow sm (grownCap wr.drew sm.size 0 5)) 5 ((bytesRow sm (grownCap wr.drew sm.size 0 5)).size, (bytesRow sm (grownCap wr.drew sm.size 0 5)).size + 1))).drew.drew) (fun b => b = wr.heap.size) (.slice (some ⟨wr.heap.size, 0, none⟩) sm.size (grownCap wr.drew sm.size 0 5)) sm.data.toList := Row.on (text_bytes wr sm (grownCap wr.drew sm.size 0 5) (grownCap_ge _ _ _ _) (grownCap_le_maxLen _ _ _ _ hslm) _) (fun _ _ => rfl)
            have HBW : Below wr.heap.size wr ((wr.alloc (.cells (bytesRow sm (grownCap wr.drew sm.size 0 5)) 5 ((bytesRow sm (grownCap wr.drew sm.size 0 5)).size, (bytesRow sm (grownCap wr.drew sm.size 0 5)).size + 1))).drew.drew) := ((Below.refl _ _).alloc (Nat.le_refl _) _).drew.drew
            have HZW : ((wr.alloc (.cells (bytesRow sm (grownCap wr.drew sm.size 0 5)) 5 ((bytesRow sm (grownCap wr.drew sm.size 0 5)).size, (bytesRow sm (grownCap wr.drew sm.size 0 5)).size + 1))).drew.drew).heap.size = wr.heap.size + 1 := by simp
            by_cases hbig : 60 < sm.size
            · have h := ssend_err [obD 1] (Ch.turnQ ms back k k) false (⟨some ⟨wr.heap.size, 0, none⟩, sm.size, grownCap wr.drew sm.size 0 5⟩, Ch.mS sm) (.slice a 3 c) _ _ (HO.out.later HBW) (fun b hb => hb) (Row.more HBy fun b hb => by omega) (Or.inl (by rw [Ch.mS_len]; exact hbig))
              rw [Ch.mS_len, if_pos hbig] at h
              refine h.mono ?_
              rintro e w' ⟨rfl, hb⟩
              have hb' := HBW.trans (hb.mono HBW.size)
              exact ⟨_, _, rfl, Or.inr ⟨rfl, hbig, (hb'.cell (p := ⟨bm, ofm + k, none⟩) hblm).trans c0m, HB.out.trans (hb'.mono HB.out.size)⟩⟩
            · have h := ssend_ok [obD 1] (Ch.turnQ ms back k k) false (⟨some ⟨wr.heap.size, 0, none⟩, sm.size, grownCap wr.drew sm.size 0 5⟩, Ch.mS sm) (.slice a 3 c) _ _ (HO.out.later HBW) (fun b hb => hb) (Row.more HBy fun b hb => by omega) (fits_obD 1) (Ch.turn_ok hm4 hb4 HSMm.out HSBm.out) (by decide) (by rw [Ch.mS_len]; omega) (Ch.turn_room_ms hm4 hlm)
              have e := (Ch.turn_ms back k HXm.out)
              rw [show (!false) = true from rfl] at h
              rw [e] at h
              refine h.mono ?_
              rintro e w' ⟨a, c, rfl, ho, hb⟩
              have hb' := HBW.trans (hb.mono HBW.size)
              exact ⟨_, _, rfl, Or.inl ⟨rfl, by omega, a, c, rfl, ho, HKE.out.below hb' l1m, HB.out.trans (hb'.mono HB.out.size)⟩⟩
          clear h5m hem hxm hSbm hslm
          go_upto_region 12 with fail
          refine treg12_wp _ _ wr w2.heap.size bm ofm ms.length mc k a c sm _ hlm c0m kkm hblm l1m HSm.out _ _ _ _ _ _ _ _ _ _ _ _ _ _ _ _ _ _ _ _ _ _ _ _ _ _ _ _ _ _ _ _ _ _ _ _ _ _ _ _ _ _ _ _ _ _ _ _ _ _ _ _ _ _ _ _ _ _ _ _ _ _ _ _ _ _ _ _ _ _ _ _ _ _ _ _ _ _ _ _ _ _ _ _ _ _ _ _ _ _ _ _ _ _ _ _ _ _ _ _ _ _ _ _ _ _ _ _ _ _ _ _ _ _ _ _ _ _ _ _ _ _ _ _ _ _ _ _ _ _ _ _ _ _ _ _ _ _ _ _ _ _ _ _ _ _ _ _ _ _ _ _ _ _ _ _ ?_
          intro y54 y55 y56 y57 y58 y59 y60 y61 y62 y63 y64 y65 y66 vm erm wm hPm
          dsimp only
          rcases hPm with ⟨rfl, h60m, am, cm, rfl, hom, hkem, hBm⟩ | ⟨rfl, hbgm, c4m, hBm⟩
          · have HOm : Hid (Objs wm (fun b => b < wm.heap.size) (.slice am 3 cm) (Ch.st [obD 1] (Ch.turnQ ms back (k + 1) k))) := hom
            have HKEm : Hid (Blk wm w2.heap.size #[.int .i64 1, .int .i64 2] 50) := hkem
            have HBm : Hid (Below w.heap.size w wm) := hBm
            clear hom hkem hBm c0m kkm HSm l1m hblm
            have HSMb : Hid (Ch.sizes (ms.take (k + 1))) := Ch.sizes_next HSM.out HXm.out h60m
            have HSBb : Hid (Ch.sizes (back.take k)) := HSB.out
            by_cases hlb : k < back.length
            · obtain ⟨sb, hxb⟩ : ∃ s, back[k]? = some s := ⟨_, List.getElem?_eq_getElem hlb⟩
              obtain ⟨bb, ofb, ccb, heb, hSbb, hcb, hcmb, h5b⟩ := (Row.on HBK.out (On.of HBm.out)).some (by rw [List.length_map]; omega)
              obtain ⟨eab, -, ecb⟩ := Value.slice.inj heb
              subst eab ecb
              have c0b := h5b k (txtC sb) (by rw [List.getElem?_map, hxb]; rfl) 0 _ rfl
              rw [Nat.mul_one, Nat.add_zero] at c0b
              rw [List.length_map] at hcb
              unfold maxLen at hcmb
              have hblb : bb < wm.heap.size := by have := HBm.out.size; omega
              have kkb : wm.cell? ⟨w2.heap.size, 1, none⟩ = some (.int .i64 2) := Blk.cell HKEm.out 1
              have l1b := Blk.lt HKEm.out
              have HXb : Hid (back[k]? = some sb) := hxb
              have hslb : sb.size ≤ maxLen := HBS.out sb (List.mem_of_getElem? hxb)
              have HSb : Hid (Calls Try.prog 22 #[.slice am 3 cm, .int .i64 2, .agg #[.slice (some ⟨wm.heap.size, 0, none⟩) sb.size (grownCap wm.drew sb.size 0 5), .bool false, .int .i64 0, .int .i64 0]] ((wm.alloc (.cells (bytesRow sb (grownCap wm.drew sb.size 0 5)) 5 ((bytesRow sb (grownCap wm.drew sb.size 0 5)).size, (bytesRow sb (grownCap wm.drew sb.size 0 5)).size + 1))).drew.drew) fun e w' => ∃ v er, e = .returned (.tuple #[v, .int .i64 er]) ∧ ((er = 0 ∧ sb.size ≤ 60 ∧ ∃ a c, v = .slice a 3 c ∧ Objs w' (fun b => b < w'.heap.size) (.slice a 3 c) (Ch.st [obD 1] (Ch.turnQ ms back (k + 1) (k + 1))) ∧ Blk w' w2.heap.size #[.int .i64 1, .int .i64 2] 50 ∧ Below w.heap.size w w') ∨ (er = 4 ∧ 60 < sb.size ∧ w'.cell? ⟨bb, ofb + k, none⟩ = some (.string sb) ∧ Below w.heap.size w w'))) := by
                have HBy : Bytes ((wm.alloc (.cells (bytesRow sb (grownCap wm.drew sb.size 0 5)) 5 ((bytesRow sb (grownCap wm.drew sb.size 0 5)).size, (bytesRow sb (grownCap wm.drew sb.size 0 5)).size + 1))).drew.drew) (fun b => b = wm.heap.size) (.slice (some ⟨wm.heap.size, 0, none⟩) sb.size (grownCap wm.drew sb.size 0 5)) sb.data.toList := Row.on (text_bytes wm sb (grownCap wm.drew sb.size 0 5) (grownCap_ge _ _ _ _) (grownCap_le_maxLen _ _ _ _ hslb) _) (fun _ _ => rfl)
                have HBW : Below wm.heap.size wm ((wm.alloc (.cells (bytesRow sb (grownCap wm.drew sb.size 0 5)) 5 ((bytesRow sb (grownCap wm.drew sb.size 0 5)).size, (bytesRow sb (grownCap wm.drew sb.size 0 5)).size + 1))).drew.drew) := ((Below.refl _ _).alloc (Nat.le_refl _) _).drew.drew
                have HZW : ((wm.alloc (.cells (bytesRow sb (grownCap wm.drew sb.size 0 5)) 5 ((bytesRow sb (grownCap wm.drew sb.size 0 5)).size, (bytesRow sb (grownCap wm.drew sb.size 0 5)).size + 1))).drew.drew).heap.size = wm.heap.size + 1 := by simp
                by_cases hbig : 60 < sb.size
                · have h := ssend_err [obD 1] (Ch.turnQ ms back (k + 1) k) true (⟨some ⟨wm.heap.size, 0, none⟩, sb.size, grownCap wm.drew sb.size 0 5⟩, Ch.mS sb) (.slice am 3 cm) _ _ (HOm.out.later HBW) (fun b hb => hb) (Row.more HBy fun b hb => by omega) (Or.inl (by rw [Ch.mS_len]; exact hbig))
                  rw [Ch.mS_len, if_pos hbig] at h
                  refine h.mono ?_
                  rintro e w' ⟨rfl, hb⟩
                  have hb' := HBW.trans (hb.mono HBW.size)
                  exact ⟨_, _, rfl, Or.inr ⟨rfl, hbig, (hb'.cell (p := ⟨bb, ofb + k, none⟩) hblb).trans c0b, HBm.out.trans (hb'.mono HBm.out.size)⟩⟩
                · have h := ssend_ok [obD 1] (Ch.turnQ ms back (k + 1) k) true (⟨some ⟨wm.heap.size, 0, none⟩, sb.size, grownCap wm.drew sb.size 0 5⟩, Ch.mS sb) (.slice am 3 cm) _ _ (HOm.out.later HBW) (fun b hb => hb) (Row.more HBy fun b hb => by omega) (fits_obD 1) (Ch.turn_ok hm4 hb4 HSMb.out HSBb.out) (by decide) (by rw [Ch.mS_len]; omega) (Ch.turn_room_back hb4 hlb)
                  have e := (Ch.turn_back ms (k + 1) HXb.out)
                  rw [show (!true) = false from rfl] at h
                  rw [e] at h
                  refine h.mono ?_
                  rintro e w' ⟨a, c, rfl, ho, hb⟩
                  have hb' := HBW.trans (hb.mono HBW.size)
                  exact ⟨_, _, rfl, Or.inl ⟨rfl, by omega, a, c, rfl, ho, HKEm.out.below hb' l1b, HBm.out.trans (hb'.mono HBm.out.size)⟩⟩
              clear h5b heb hxb hSbb hslb
              go_upto_region 17 with fail
              refine treg17_wp _ _ wm w2.heap.size bb ofb back.length bc k am cm sb _ hlb c0b kkb hblb l1b HSb.out _ _ _ _ _ _ _ _ _ _ _ _ _ _ _ _ _ _ _ _ _ _ _ _ _ _ _ _ _ _ _ _ _ _ _ _ _ _ _ _ _ _ _ _ _ _ _ _ _ _ _ _ _ _ _ _ _ _ _ _ _ _ _ _ _ _ _ _ _ _ _ _ _ _ _ _ _ _ _ _ _ _ _ _ _ _ _ _ _ _ _ _ _ _ _ _ _ _ _ _ _ _ _ _ _ _ _ _ _ _ _ _ _ _ _ _ _ _ _ _ _ _ _ _ _ _ _ _ _ _ _ _ _ _ _ _ _ _ _ _ _ _ _ _ _ _ _ _ _ _ _ _ _ _ _ _ ?_
              intro y84 y85 y86 y87 y88 y89 y90 y91 y92 y93 y94 y95 y96 vb erb wb hPb
              dsimp only
              rcases hPb with ⟨rfl, h60b, ab, cb, rfl, hob, hkeb, hBb⟩ | ⟨rfl, hbgb, c4b, hBb⟩
              · have HOb : Hid (Objs wb (fun b => b < wb.heap.size) (.slice ab 3 cb) (Ch.st [obD 1] (Ch.turnQ ms back (k + 1) (k + 1)))) := hob
                have HKEb : Hid (Blk wb w2.heap.size #[.int .i64 1, .int .i64 2] 50) := hkeb
                have HBb : Hid (Below w.heap.size w wb) := hBb
                clear hob hkeb hBb c0b kkb HSb l1b hblb
                go_wp2
                exact ⟨⟨⟨k + 1, ab, cb, by go_num, rfl, HOb.out, HKEb.out, HBb.out, Ch.sizes_next HSM.out HXm.out h60m, Ch.sizes_next HSB.out HXb.out h60b⟩, by simp [intOf]; omega⟩, by simp [intOf]; omega⟩
              · have HB4 : Hid (Below w.heap.size w wb) := hBb
                have hbz : (60 : Int) < (sb.size : Int) := by omega
                clear hBb c0b kkb HSb
                go_wp2
                go_ret
                exact ⟨rfl, HB4.out⟩
            · go_wp2
              exact ⟨⟨⟨k + 1, am, cm, by go_num, rfl, by rw [Ch.turn_back_end ms _ (by omega)]; exact HOm.out, HKEm.out, HBm.out, Ch.sizes_next HSM.out HXm.out h60m, Ch.sizes_end HSB.out (by omega)⟩, by simp [intOf]; omega⟩, by simp [intOf]; omega⟩
          · have HB4 : Hid (Below w.heap.size w wm) := hBm
            have hbz : (60 : Int) < (sm.size : Int) := by omega
            clear hBm c0m kkm HSm
            go_wp2
            go_ret
            exact ⟨rfl, HB4.out⟩
        · have HSMb : Hid (Ch.sizes (ms.take k)) := HSM.out
          have HSBb : Hid (Ch.sizes (back.take k)) := HSB.out
          by_cases hlb : k < back.length
          · obtain ⟨sb, hxb⟩ : ∃ s, back[k]? = some s := ⟨_, List.getElem?_eq_getElem hlb⟩
            obtain ⟨bb, ofb, ccb, heb, hSbb, hcb, hcmb, h5b⟩ := (Row.on HBK.out (On.of HB.out)).some (by rw [List.length_map]; omega)
            obtain ⟨eab, -, ecb⟩ := Value.slice.inj heb
            subst eab ecb
            have c0b := h5b k (txtC sb) (by rw [List.getElem?_map, hxb]; rfl) 0 _ rfl
            rw [Nat.mul_one, Nat.add_zero] at c0b
            rw [List.length_map] at hcb
            unfold maxLen at hcmb
            have hblb : bb < wr.heap.size := by have := HB.out.size; omega
            have kkb : wr.cell? ⟨w2.heap.size, 1, none⟩ = some (.int .i64 2) := Blk.cell HKE.out 1
            have l1b := Blk.lt HKE.out
            have HXb : Hid (back[k]? = some sb) := hxb
            have hslb : sb.size ≤ maxLen := HBS.out sb (List.mem_of_getElem? hxb)
            have HSb : Hid (Calls Try.prog 22 #[.slice a 3 c, .int .i64 2, .agg #[.slice (some ⟨wr.heap.size, 0, none⟩) sb.size (grownCap wr.drew sb.size 0 5), .bool false, .int .i64 0, .int .i64 0]] ((wr.alloc (.cells (bytesRow sb (grownCap wr.drew sb.size 0 5)) 5 ((bytesRow sb (grownCap wr.drew sb.size 0 5)).size, (bytesRow sb (grownCap wr.drew sb.size 0 5)).size + 1))).drew.drew) fun e w' => ∃ v er, e = .returned (.tuple #[v, .int .i64 er]) ∧ ((er = 0 ∧ sb.size ≤ 60 ∧ ∃ a c, v = .slice a 3 c ∧ Objs w' (fun b => b < w'.heap.size) (.slice a 3 c) (Ch.st [obD 1] (Ch.turnQ ms back k (k + 1))) ∧ Blk w' w2.heap.size #[.int .i64 1, .int .i64 2] 50 ∧ Below w.heap.size w w') ∨ (er = 4 ∧ 60 < sb.size ∧ w'.cell? ⟨bb, ofb + k, none⟩ = some (.string sb) ∧ Below w.heap.size w w'))) := by
              have HBy : Bytes ((wr.alloc (.cells (bytesRow sb (grownCap wr.drew sb.size 0 5)) 5 ((bytesRow sb (grownCap wr.drew sb.size 0 5)).size, (bytesRow sb (grownCap wr.drew sb.size 0 5)).size + 1))).drew.drew) (fun b => b = wr.heap.size) (.slice (some ⟨wr.heap.size, 0, none⟩) sb.size (grownCap wr.drew sb.size 0 5)) sb.data.toList := Row.on (text_bytes wr sb (grownCap wr.drew sb.size 0 5) (grownCap_ge _ _ _ _) (grownCap_le_maxLen _ _ _ _ hslb) _) (fun _ _ => rfl)
              have HBW : Below wr.heap.size wr ((wr.alloc (.cells (bytesRow sb (grownCap wr.drew sb.size 0 5)) 5 ((bytesRow sb (grownCap wr.drew sb.size 0 5)).size, (bytesRow sb (grownCap wr.drew sb.size 0 5)).size + 1))).drew.drew) := ((Below.refl _ _).alloc (Nat.le_refl _) _).drew.drew
              have HZW : ((wr.alloc (.cells (bytesRow sb (grownCap wr.drew sb.size 0 5)) 5 ((bytesRow sb (grownCap wr.drew sb.size 0 5)).size, (bytesRow sb (grownCap wr.drew sb.size 0 5)).size + 1))).drew.drew).heap.size = wr.heap.size + 1 := by simp
              by_cases hbig : 60 < sb.size
              · have h := ssend_err [obD 1] (Ch.turnQ ms back k k) true (⟨some ⟨wr.heap.size, 0, none⟩, sb.size, grownCap wr.drew sb.size 0 5⟩, Ch.mS sb) (.slice a 3 c) _ _ (HO.out.later HBW) (fun b hb => hb) (Row.more HBy fun b hb => by omega) (Or.inl (by rw [Ch.mS_len]; exact hbig))
                rw [Ch.mS_len, if_pos hbig] at h
                refine h.mono ?_
                rintro e w' ⟨rfl, hb⟩
                have hb' := HBW.trans (hb.mono HBW.size)
                exact ⟨_, _, rfl, Or.inr ⟨rfl, hbig, (hb'.cell (p := ⟨bb, ofb + k, none⟩) hblb).trans c0b, HB.out.trans (hb'.mono HB.out.size)⟩⟩
              · have h := ssend_ok [obD 1] (Ch.turnQ ms back k k) true (⟨some ⟨wr.heap.size, 0, none⟩, sb.size, grownCap wr.drew sb.size 0 5⟩, Ch.mS sb) (.slice a 3 c) _ _ (HO.out.later HBW) (fun b hb => hb) (Row.more HBy fun b hb => by omega) (fits_obD 1) (Ch.turn_ok hm4 hb4 HSMb.out HSBb.out) (by decide) (by rw [Ch.mS_len]; omega) (Ch.turn_room_back hb4 hlb)
                have e := (Ch.turn_back ms k HXb.out)
                rw [show (!true) = false from rfl] at h
                rw [e] at h
                refine h.mono ?_
                rintro e w' ⟨a, c, rfl, ho, hb⟩
                have hb' := HBW.trans (hb.mono HBW.size)
                exact ⟨_, _, rfl, Or.inl ⟨rfl, by omega, a, c, rfl, ho, HKE.out.below hb' l1b, HB.out.trans (hb'.mono HB.out.size)⟩⟩
            clear h5b heb hxb hSbb hslb
            go_upto_region 17 with fail
            refine treg17_wp _ _ wr w2.heap.size bb ofb back.length bc k a c sb _ hlb c0b kkb hblb l1b HSb.out _ _ _ _ _ _ _ _ _ _ _ _ _ _ _ _ _ _ _ _ _ _ _ _ _ _ _ _ _ _ _ _ _ _ _ _ _ _ _ _ _ _ _ _ _ _ _ _ _ _ _ _ _ _ _ _ _ _ _ _ _ _ _ _ _ _ _ _ _ _ _ _ _ _ _ _ _ _ _ _ _ _ _ _ _ _ _ _ _ _ _ _ _ _ _ _ _ _ _ _ _ _ _ _ _ _ _ _ _ _ _ _ _ _ _ _ _ _ _ _ _ _ _ _ _ _ _ _ _ _ _ _ _ _ _ _ _ _ _ _ _ _ _ _ _ _ _ _ _ _ _ _ _ _ _ _ ?_
            intro y84 y85 y86 y87 y88 y89 y90 y91 y92 y93 y94 y95 y96 vb erb wb hPb
            dsimp only
            rcases hPb with ⟨rfl, h60b, ab, cb, rfl, hob, hkeb, hBb⟩ | ⟨rfl, hbgb, c4b, hBb⟩
            · have HOb : Hid (Objs wb (fun b => b < wb.heap.size) (.slice ab 3 cb) (Ch.st [obD 1] (Ch.turnQ ms back k (k + 1)))) := hob
              have HKEb : Hid (Blk wb w2.heap.size #[.int .i64 1, .int .i64 2] 50) := hkeb
              have HBb : Hid (Below w.heap.size w wb) := hBb
              clear hob hkeb hBb c0b kkb HSb l1b hblb
              go_wp2
              exact ⟨⟨⟨k + 1, ab, cb, by go_num, rfl, by rw [Ch.turn_ms_end back _ (by omega)]; exact HOb.out, HKEb.out, HBb.out, Ch.sizes_end HSM.out (by omega), Ch.sizes_next HSB.out HXb.out h60b⟩, by simp [intOf]; omega⟩, by simp [intOf]; omega⟩
            · have HB4 : Hid (Below w.heap.size w wb) := hBb
              have hbz : (60 : Int) < (sb.size : Int) := by omega
              clear hBb c0b kkb HSb
              go_wp2
              go_ret
              exact ⟨rfl, HB4.out⟩
          · omega
      · have hsm2 : Ch.sizes ms := by have h := HSM.out; rw [List.take_of_length_le (by omega)] at h; exact h
        have hsb2 : Ch.sizes back := by have h := HSB.out; rw [List.take_of_length_le (by omega)] at h; exact h
        have HDK : Hid (∀ t j, Ch.okQ (Ch.drainQ ms back t j)) := fun t j => Ch.drain_ok t j hm4 hb4 hsm2 hsb2
        have HST : Hid (DI w w2.heap.size ms back (.slice a 3 c) (.int .i64 0) wr) := ⟨0, a, c, by decide, rfl, rfl, by rw [← Ch.turn_drain (i := k) (j := k) (by omega) (by omega)]; exact HO.out, HKE.out, HB.out⟩
        have HID : Hid (∀ t, t < 2 → ∃ (wa : Option Addr) (wc : Nat), Row w (fun b => b < w.heap.size) 1 (.slice wa (Ch.wantW ms back t).length wc) ((Ch.wantW ms back t).map txtC) ∧ ∀ W, (Instr.index 61 (.agg #[.slice ba back.length bc, .slice ma ms.length mc]) (.int .i64 t)).run Try.prog W = .ok (.slice wa (Ch.wantW ms back t).length wc) W) := fun t ht => by
          match t, ht with
          | 0, _ => exact ⟨ba, bc, HBK.out, fun W => idxT0 _ _ _ _ _ _ W⟩
          | 1, _ => exact ⟨ma, mc, HM.out, fun W => idxT1 _ _ _ _ _ _ W⟩
        clear HSM HSB HO HKE HB hsm2 hsb2
        go_wp2
        go_loopw [5, 114] (fun s5 s114 wr => DI w w2.heap.size ms back s5 s114 wr) (fun _ s114 _ => 2 - (intOf s114).toNat)
        case atStart => exact HST.out
        case round =>
          clear HST
          obtain ⟨t, a, c, ht2, rfl, rfl, hO, hke, hB⟩ := hrel
          have HO : Hid (Objs wr (fun b => b < wr.heap.size) (.slice a 3 c) (Ch.st [obD 1] (Ch.drainQ ms back t 0))) := hO
          have HKE : Hid (Blk wr w2.heap.size #[.int .i64 1, .int .i64 2] 50) := hke
          have HB : Hid (Below w.heap.size w wr) := hB
          clear hO hke hB
          by_cases htl : t < 2
          · obtain ⟨wa, wc, hrw, hidx⟩ := HID.out t htl
            have HRW : Hid (Row w (fun b => b < w.heap.size) 1 (.slice wa (Ch.wantW ms back t).length wc) ((Ch.wantW ms back t).map txtC)) := hrw
            have HKC : Hid (∀ W, Blk W w2.heap.size #[.int .i64 1, .int .i64 2] 50 → W.cell? ⟨w2.heap.size, t, none⟩ = some (.int .i64 (Ch.num [obD 1] (Ch.endX t)))) := fun W h => by
              match t, htl with
              | 0, _ => exact h.cell 0
              | 1, _ => exact h.cell 1
            have hw4 : (Ch.wantW ms back t).length ≤ 4 := by unfold Ch.wantW; split <;> omega
            have HDA : Hid (∀ j, Ch.drainQ ms back t j (Ch.endX t) = ((Ch.wantW ms back t).drop j).map Ch.mS) := fun j => Ch.drain_at ms back htl j
            have HDN : Hid (∀ j, Ch.upd (Ch.drainQ ms back t j) (Ch.endX t) (((Ch.wantW ms back t).drop (j + 1)).map Ch.mS) = Ch.drainQ ms back t (j + 1)) := fun j => Ch.drain_next ms back htl j
            have HDE : Hid (Ch.drainQ ms back t (Ch.wantW ms back t).length = Ch.drainQ ms back (t + 1) 0) := Ch.drain_end ms back htl
            have HSI : Hid (EI w w2.heap.size ms back t (Ch.wantW ms back t).length (.slice a 3 c) (.int .i64 0) wr) := ⟨0, a, c, Nat.zero_le _, rfl, rfl, HO.out, HKE.out, HB.out⟩
            have htz : (t : Int) < 2 := by omega
            generalize hXT : Ch.endX t = xt at *
            generalize Ch.wantW ms back t = ws at *
            clear hrw HO HKE HB hXT
            go_wp2
            clear hidx
            go_loopw [5, 120] (fun s5 s120 wr => EI w w2.heap.size ms back t ws.length s5 s120 wr) (fun _ s120 _ => ws.length - (intOf s120).toNat)
            case atStart => exact HSI.out
            case round =>
              clear HSI
              obtain ⟨j, a, c, hjl, rfl, rfl, hO, hke, hB⟩ := hrel
              have HO : Hid (Objs wr (fun b => b < wr.heap.size) (.slice a 3 c) (Ch.st [obD 1] (Ch.drainQ ms back t j))) := hO
              have HKE : Hid (Blk wr w2.heap.size #[.int .i64 1, .int .i64 2] 50) := hke
              have HB : Hid (Below w.heap.size w wr) := hB
              have kc := HKC.out wr hke
              have lg := hke.lt
              clear hO hke hB
              by_cases hjt : j < ws.length
              · obtain ⟨s, hx⟩ : ∃ s, ws[j]? = some s := ⟨_, List.getElem?_eq_getElem hjt⟩
                have hdr : ws.drop j = s :: ws.drop (j + 1) := by rw [List.drop_eq_getElem_cons hjt, (List.getElem?_eq_some_iff.1 hx).2]
                obtain ⟨b, of, cc, he, hSb, hc, hcm, h5⟩ := (Row.on HRW.out (On.of HB.out)).some (by rw [List.length_map]; omega)
                obtain ⟨ea, -, ec⟩ := Value.slice.inj he
                subst ea ec
                have c0 := h5 j (txtC s) (by rw [List.getElem?_map, hx]; rfl) 0 _ rfl
                rw [Nat.mul_one, Nat.add_zero] at c0
                rw [List.length_map] at hc
                unfold maxLen at hcm
                have HR : Hid (Calls Try.prog 24 #[.slice a 3 c, .int .i64 (Ch.num [obD 1] xt)] wr fun e w' => ∃ a c r, e = .returned (.tuple #[.slice a 3 c, msgV (r, Ch.mS s), .int .i64 0]) ∧ Objs w' (fun b => b < w'.heap.size) (.slice a 3 c) (Ch.st [obD 1] (Ch.drainQ ms back t (j + 1))) ∧ Bytes w' (fun b => b < w'.heap.size) (.slice r.a r.n r.c) s.data.toList ∧ Below wr.heap.size wr w') := by
                  have h := srecv_ok [obD 1] (Ch.drainQ ms back t j) xt (Ch.mS s) ((ws.drop (j + 1)).map Ch.mS) (.slice a 3 c) _ wr HO.out (fun b hb => hb) (fits_obD 1) (HDK.out t j) (by decide) (by rw [HDA.out j, hdr]; rfl)
                  rw [HDN.out j] at h
                  exact h
                clear h5 he hx hSb hdr
                go_wp2_with fail
                refine Calls.mono HR.out ?_
                rintro e w3 ⟨a3, c3, r, rfl, hO3, hr3, hb3⟩
                unfold msgV
                dsimp only [Ch.mS]
                have hB3 : Below w3.heap.size w3 (w3.alloc (.cells #[.slice r.a r.n r.c, .bool false, .int .i64 0, .int .i64 0] 49)) := (Below.refl _ _).alloc (Nat.le_refl _) _
                have conv : (convert 22 9 (.slice r.a r.n r.c)).run Try.prog (w3.alloc (.cells #[.slice r.a r.n r.c, .bool false, .int .i64 0, .int .i64 0] 49)) = .ok (.string s) (w3.alloc (.cells #[.slice r.a r.n r.c, .bool false, .int .i64 0, .int .i64 0] 49)) := by
                  have h := conv_any s.data.toList _ _ (fun b => b < w3.heap.size) (Row.on hr3 (On.alloc w3 (.cells #[.slice r.a r.n r.c, .bool false, .int .i64 0, .int .i64 0] 49)))
                  have hes : (⟨s.data.toList.toArray⟩ : ByteArray) = s := by cases s; simp
                  rw [hes] at h
                  exact h
                have HO4 : Hid (Objs (w3.alloc (.cells #[.slice r.a r.n r.c, .bool false, .int .i64 0, .int .i64 0] 49)) (fun b => b < (w3.alloc (.cells #[.slice r.a r.n r.c, .bool false, .int .i64 0, .int .i64 0] 49)).heap.size) (.slice a3 3 c3) (Ch.st [obD 1] (Ch.drainQ ms back t (j + 1)))) := hO3.later hB3
                have HKE4 : Hid (Blk (w3.alloc (.cells #[.slice r.a r.n r.c, .bool false, .int .i64 0, .int .i64 0] 49)) w2.heap.size #[.int .i64 1, .int .i64 2] 50) := (HKE.out.below hb3 lg).alloc _
                have HB4 : Hid (Below w.heap.size w (w3.alloc (.cells #[.slice r.a r.n r.c, .bool false, .int .i64 0, .int .i64 0] 49))) := HB.out.trans ((hb3.trans (hB3.mono hb3.size)).mono HB.out.size)
                clear hO3 hr3 hb3 hB3 HO HKE HB kc lg c0 HR
                go_wp2
                exact ⟨⟨j + 1, a3, c3, by omega, by go_num, rfl, HO4.out, HKE4.out, HB4.out⟩, by simp [intOf]; omega⟩
              · obtain rfl : j = ws.length := by omega
                have HR : Hid (Calls Try.prog 24 #[.slice a 3 c, .int .i64 (Ch.num [obD 1] xt)] wr fun e w' => e = .returned (.tuple #[.slice none 0 0, .agg #[.slice none 0 0, .bool false, .int .i64 0, .int .i64 0], .int .i64 16]) ∧ Below wr.heap.size wr w') :=
                  srecv_err [obD 1] (Ch.drainQ ms back t ws.length) xt (.slice a 3 c) _ wr HO.out (fun b hb => hb) (by rw [HDA.out, List.drop_length]; rfl)
                go_wp2_with fail
                refine Calls.mono HR.out ?_
                rintro e w3 ⟨rfl, hb3⟩
                have hB3 := hb3.alloc (by exact hb3.size) (.cells #[.slice none 0 0, .bool false, .int .i64 0, .int .i64 0] 49)
                have HO4 : Hid (Objs (w3.alloc (.cells #[.slice none 0 0, .bool false, .int .i64 0, .int .i64 0] 49)) (fun b => b < (w3.alloc (.cells #[.slice none 0 0, .bool false, .int .i64 0, .int .i64 0] 49)).heap.size) (.slice a 3 c) (Ch.st [obD 1] (Ch.drainQ ms back (t + 1) 0))) := by
                  have h := HO.out.later hB3
                  rw [HDE.out] at h
                  exact h
                have HKE4 : Hid (Blk (w3.alloc (.cells #[.slice none 0 0, .bool false, .int .i64 0, .int .i64 0] 49)) w2.heap.size #[.int .i64 1, .int .i64 2] 50) := HKE.out.below hB3 lg
                have HB4 : Hid (Below w.heap.size w (w3.alloc (.cells #[.slice none 0 0, .bool false, .int .i64 0, .int .i64 0] 49))) := HB.out.trans (hB3.mono HB.out.size)
                clear hb3 hB3 HO HKE HB kc lg HR
                go_wp2
                exact ⟨⟨t + 1, a, c, by omega, by go_num, rfl, HO4.out, HKE4.out, HB4.out⟩, by simp [intOf]; omega⟩
          · obtain rfl : t = 2 := by omega
            clear HO HKE
            go_wp2
            go_ret
            exact ⟨rfl, HB.out⟩

end Go.Proofs.Ythoacakdmnijcaa
