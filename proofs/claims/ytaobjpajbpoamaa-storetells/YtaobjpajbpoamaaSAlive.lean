/-
  rglaw5.alive answers true.
-/
import Derived.Test.YtaobjpajbpoamaaSNames
import Derived.Lib.SlBytesConst
import Derived.Lib.SmallJoins
import Derived.Laws.BytesString
namespace Go.Proofs.Ytaobjpajbpoamaa
open Go.RowKit
def nameF : ByteArray := ⟨#[102]⟩
def obR : Sp.Ob := ⟨2, [], [], ⟨#[]⟩, -1, [], -1, 1, 0⟩
def obF : Sp.Ob := ⟨1, [97, 98], [], ⟨#[]⟩, -1, [], -1, 0, 0⟩
def obR' : Sp.Ob := ⟨2, [], [⟨nameF, 1⟩], ⟨#[]⟩, -1, [], -1, 1, 0⟩
def obF' : Sp.Ob := ⟨1, [97, 98], [], ⟨#[]⟩, -1, [], -1, 1, 0⟩
theorem sorted_one [Inhabited Sp.Ent] (x : Sp.Ent) : sorted [x] = [x] := List.perm_singleton.1 (sorted_perm [x]).2.1
theorem eqB_self (a : ByteArray) : Sp.eqB a a = true := by unfold Sp.eqB; simp
theorem alive_no : Sp.noEnter [obR, obF] ((0 : Nat) : Int) nameF ((1 : Nat) : Int) = 0 := by decide
theorem alive_two [Inhabited Sp.Ent] : Sp.relinked (Sp.withEnts [obR, obF] 0 (sorted (obR.ents ++ [⟨nameF, ((1 : Nat) : Int)⟩]))) 1 1 ((0 : Nat) : Int) = [obR', obF'] := by
  rw [show obR.ents ++ [⟨nameF, ((1 : Nat) : Int)⟩] = [(⟨nameF, 1⟩ : Sp.Ent)] from rfl, sorted_one]
  rfl
theorem alive_place : Sp.place obR'.ents nameF = ((0 : Nat) : Int) := by
  show (if Sp.eqB nameF nameF = true then ((0 : Nat) : Int) else _) = _
  rw [if_pos (eqB_self _)]
theorem alive_three : Sp.relinked (Sp.withEnts [obR', obF'] 0 (obR'.ents.take 0 ++ obR'.ents.drop (0 + 1))) 1 (-1) ((1 : Nat) : Int) = [obR, obF] := rfl
theorem alive_find2 : Sp.find [obR', obF'] 0 nameF = 1 := by
  have e : Sp.find [obR', obF'] 0 nameF = match [(⟨nameF, 1⟩ : Sp.Ent)].find? (fun e => Sp.eqB e.name nameF) with | none => -1 | some e => e.obj := rfl
  rw [e, List.find?_cons, eqB_self]
theorem alive_find3 : Sp.find [obR, obF] 0 nameF = -1 := rfl
theorem fits_small (o : Sp.Ob) (h1 : o.data.length ≤ 4) (h2 : o.ents.length ≤ 8) (h3 : o.queue = []) : Fits o := ⟨by omega, by omega, by rw [h3]; simp, by rw [h3]; simp⟩
theorem fits2 : ∀ o ∈ [obR, obF], Fits o := by
  intro o ho
  simp at ho
  rcases ho with rfl | rfl <;> exact fits_small _ (by decide) (by decide) rfl
theorem fits2' : ∀ o ∈ [obR', obF'], Fits o := by
  intro o ho
  simp at ho
  rcases ho with rfl | rfl <;> exact fits_small _ (by decide) (by decide) rfl
theorem links2 : ∀ o ∈ [obR, obF], -4611686018427387904 ≤ o.links ∧ o.links ≤ 4611686018427387904 := by
  intro o ho
  simp at ho
  rcases ho with rfl | rfl <;> exact ⟨by decide, by decide⟩
theorem links2' : ∀ o ∈ [obR', obF'], -4611686018427387904 ≤ o.links ∧ o.links ≤ 4611686018427387904 := by
  intro o ho
  simp at ho
  rcases ho with rfl | rfl <;> exact ⟨by decide, by decide⟩
theorem lit_bytes (w : World) (l : List UInt8) (fr : Nat × Nat) (hl : l.length ≤ maxLen) : Bytes (w.alloc (.cells (cellsB l).toArray 5 fr)) (fun b => b = w.heap.size) (.slice (some ⟨w.heap.size, 0, none⟩) l.length l.length) l := by
  refine Or.inr ⟨w.heap.size, 0, l.length, by rw [List.length_map], rfl, by rw [List.length_map]; exact Nat.le_refl _, hl, fun i cs hi j u hj => ?_⟩
  have hf := flatten_at (even_byte l) i cs hi j u hj
  rw [cellsB_flat] at hf
  rw [World.cell?_alloc_mark, Nat.zero_add]
  simpa using hf
theorem conv_any (l : List UInt8) (v : Value) (w : World) (S : Nat → Prop) (hv : Bytes w S v l) : (convert 22 9 v).run Try.prog w = .ok (.string ⟨l.toArray⟩) w := by
  rcases hv with ⟨a, cap, rfl, hl⟩ | ⟨b, o, cap, rfl, hS, h1, h2, h5⟩
  · rw [List.map_eq_nil_iff.1 hl]
    cases a with
    | none => rw [run_convert_bytes_string w 22 9 5 none 0 cap Try.underlying22 Try.underlying5 Try.underlying9]; rfl
    | some a => exact run_convert_bytes_back (P := Try.prog) w 22 9 5 a cap [] Try.underlying22 Try.underlying5 Try.underlying9 (fun j hj => by simp at hj)
  · rw [List.length_map]
    exact run_convert_bytes_back (P := Try.prog) w 22 9 5 ⟨b, o, none⟩ cap l Try.underlying22 Try.underlying5 Try.underlying9 (fun j hj => by
      have := h5 j (byteC l[j]) (by rw [List.getElem?_map, List.getElem?_eq_getElem hj]; rfl) 0 _ rfl
      rw [Addr.add_lit]
      rwa [Nat.mul_one, Nat.add_zero] at this)
set_option maxHeartbeats 4000000 in
theorem alive5_any (w : World) : Calls Try.prog 26 #[] w fun e w' => e = .returned (.bool true) ∧ Below w.heap.size w w' := by
  have hinh : Inhabited Sp.Ent := ⟨⟨⟨#[]⟩, 0⟩⟩
  have kc := fun (w : World) (C : Array Value) (n c : Nat) => Lib.run_convert_bytes_const (P := Try.prog) w 22 5 C n c Try.underlying22 Try.underlying5
  go_enter Try.func26, Try.ntmps26
  go_wp2_with fail
  refine (new_any w).mono ?_
  rintro e w1 ⟨rfl, hO1, hb1⟩
  have HO1 : Hid (Objs w1 (fun b => b < w1.heap.size) (.slice (some ⟨w.heap.size, 0, none⟩) 1 1) [obR]) := hO1.more fun b hb => hb.2
  have HB1 : Hid (Below w.heap.size w w1) := hb1
  clear hO1 hb1
  go_wp2_with fail
  have hL2 : Bytes (w1.alloc (.cells #[.int .u8 97, .int .u8 98] 5 (2, 3))) (fun b => b = w1.heap.size) (.slice (some ⟨w1.heap.size, 0, none⟩) 2 2) [97, 98] := lit_bytes w1 [97, 98] (2, 3) (by decide)
  have hB2 : Below w.heap.size w (w1.alloc (.cells #[.int .u8 97, .int .u8 98] 5 (2, 3))) := HB1.out.alloc HB1.out.size _
  have hO2 : Objs (w1.alloc (.cells #[.int .u8 97, .int .u8 98] 5 (2, 3))) (fun b => b < w1.heap.size + 1) (.slice (some ⟨w.heap.size, 0, none⟩) 1 1) [obR] := (HO1.out.on (On.alloc w1 _)).more fun b hb => by omega
  have hz2 : (w1.alloc (.cells #[.int .u8 97, .int .u8 98] 5 (2, 3))).heap.size = w1.heap.size + 1 := by simp
  refine (make_app [obR] ⟨⟨some ⟨w1.heap.size, 0, none⟩, 2, 2⟩, nilSl, nilSl⟩ obF _ (fun b => b < w1.heap.size + 1) _ hO2 (fun b hb => by omega) (fun o ho => fits2 o (by simp at ho; simp [ho])) (by decide) rfl ⟨hL2.more fun b hb => by omega, Row.nil _ _ _ _ _, [], rfl, Row.nil _ _ _ _ _, fun t ht => by simp at ht⟩ (fits2 obF (by simp))).mono ?_
  rintro e w3 ⟨v3, rfl, hO3, hb3⟩
  have HB3 : Hid (Below w.heap.size w w3) := hB2.trans (hb3.mono hB2.size)
  have HO3 : Hid (Objs w3 (fun b => b < w3.heap.size) v3 [obR, obF]) := hO3.more fun b hb => hb.2
  obtain ⟨a3, c3, rfl, -⟩ := hO3.form
  clear hO3 hb3 hL2 hB2 hO2 hz2 HO1 HB1
  go_wp2_with fail
  refine (enter_ok [obR, obF] 0 1 nameF obR obF _ (fun b => b < w3.heap.size) w3 HO3.out (fun b hb => hb) (by decide) fits2 (by decide) links2 alive_no rfl rfl (by decide) (by decide)).mono ?_
  rintro e w4 ⟨v4, rfl, hO4, hb4⟩
  rw [alive_two] at hO4
  have HB4 : Hid (Below w.heap.size w w4) := HB3.out.trans (hb4.mono HB3.out.size)
  have HO4 : Hid (Objs w4 (fun b => b < w4.heap.size) v4 [obR', obF']) := hO4.more fun b hb => hb.2
  obtain ⟨a4, c4, rfl, -⟩ := hO4.form
  clear hO4 hb4 HO3 HB3
  go_wp2_with fail
  refine (remove_ok [obR', obF'] 0 0 1 nameF obR' obF' _ (fun b => b < w4.heap.size) w4 HO4.out (fun b hb => hb) fits2' (by decide) links2' rfl rfl alive_place ⟨nameF, rfl⟩ rfl (by decide) (fun h => by cases h)).mono ?_
  rintro e w5 ⟨v5, rfl, hO5, hb5⟩
  rw [alive_three] at hO5
  have HB5 : Hid (Below w.heap.size w w5) := HB4.out.trans (hb5.mono HB4.out.size)
  have HO5 : Hid (Objs w5 (fun b => b < w5.heap.size) v5 [obR, obF]) := hO5.more fun b hb => hb.2
  have HO45 : Hid (Objs w5 (fun b => b < w5.heap.size) (.slice a4 2 c4) [obR', obF']) := (HO4.out.on (On.of hb5)).more fun b hb => Nat.lt_of_lt_of_le hb hb5.size
  obtain ⟨a5, c5, rfl, -⟩ := hO5.form
  clear hO5 hb5 HO4 HB4
  obtain ⟨b4, o4, c4', s4, e4, hb4, hc4, hm4, hl4, k0, k1, k2, k3, k4, k5, k6, k7, k8⟩ := HO45.out.open (k := 1) (x := obF') rfl
  obtain ⟨rfl, -, rfl⟩ := Value.slice.inj e4
  have HL4 : Hid (Lists w5 (fun b => b < w5.heap.size) (s4, obF')) := hl4
  unfold maxLen at hm4
  clear e4 hl4
  dsimp only [obF'] at k0 k1 k2 k3 k4 k5 k6 k7 k8
  have hR := read_ok s4 obF' (fun b => b < w5.heap.size) 1 9 w5 HL4.out.1 (fun b hb => hb) (by decide) rfl
  rw [objV_eq] at hR
  have HR : Hid _ := hR
  clear hR
  go_wp2_with fail
  refine Calls.mono HR.out ?_
  rintro e w6 ⟨r6, rfl, hr6, hb6⟩
  have HB6 : Hid (Below w.heap.size w w6) := HB5.out.trans (hb6.mono HB5.out.size)
  have HR6 : Hid (Bytes w6 (fun b => b < w6.heap.size) (.slice r6.a r6.n r6.c) [98]) := Row.more hr6 fun b hb => hb.2
  have HO56 : Hid (Objs w6 (fun b => b < w6.heap.size) (.slice a5 2 c5) [obR, obF]) := (HO5.out.on (On.of hb6)).more fun b hb => Nat.lt_of_lt_of_le hb hb6.size
  have HO46 : Hid (Objs w6 (fun b => b < w6.heap.size) (.slice (some ⟨b4, o4, none⟩) 2 c4) [obR', obF']) := (HO45.out.on (On.of hb6)).more fun b hb => Nat.lt_of_lt_of_le hb hb6.size
  have HL6 : Hid (Lists w6 (fun b => b < w5.heap.size) (s4, obF')) := HL4.out.on (On.of hb6)
  have hz6 := hb6.size
  obtain ⟨hcc, -⟩ := bcell hb6
  have q0 := (hcc b4 (o4 + 1 * 9) hb4).trans k0
  have q1 := (hcc b4 (o4 + 1 * 9 + 1) hb4).trans k1
  have q2 := (hcc b4 (o4 + 1 * 9 + 2) hb4).trans k2
  have q3 := (hcc b4 (o4 + 1 * 9 + 3) hb4).trans k3
  have q4 := (hcc b4 (o4 + 1 * 9 + 4) hb4).trans k4
  have q5 := (hcc b4 (o4 + 1 * 9 + 5) hb4).trans k5
  have q6 := (hcc b4 (o4 + 1 * 9 + 6) hb4).trans k6
  have q7 := (hcc b4 (o4 + 1 * 9 + 7) hb4).trans k7
  have q8 := (hcc b4 (o4 + 1 * 9 + 8) hb4).trans k8
  clear hr6 hb6 hcc k0 k1 k2 k3 k4 k5 k6 k7 k8 HR HB5 HO5 HO45 HL4
  go_wp2_with fail
  have hL7 : Bytes (w6.alloc (.cells #[.int .u8 122] 5 (1, 2))) (fun b => b = w6.heap.size) (.slice (some ⟨w6.heap.size, 0, none⟩) 1 1) [122] := lit_bytes w6 [122] (1, 2) (by decide)
  have hz7 : (w6.alloc (.cells #[.int .u8 122] 5 (1, 2))).heap.size = w6.heap.size + 1 := by simp
  have hB7 : Below w.heap.size w (w6.alloc (.cells #[.int .u8 122] 5 (1, 2))) := HB6.out.alloc HB6.out.size _
  have onA := On.alloc w6 (.cells #[.int .u8 122] 5 (1, 2))
  have hWr := write_ok s4 obF' 3 [122] _ (fun b => b < w6.heap.size + 1) _ ((HL6.out.on (onA.less fun b hb => by omega)).more fun b hb => by omega) (hL7.more fun b hb => by omega) (fun b hb => by omega) (fits2' obF' (by simp)) rfl (by decide)
  rw [objV_eq] at hWr
  refine Calls.mono hWr ?_
  rintro e w8 ⟨s8, rfl, hl8, hb8⟩
  have hn8 : s8.d.n = 4 := by
    have := Row.eqNil hl8.1
    rw [List.length_map] at this
    rw [this]
    show (if 0 < [(122 : UInt8)].length then lay [97, 98] 3 [122] else [97, 98]).length = 4
    rw [if_pos (by decide), lay_length]
    rfl
  obtain ⟨⟨d8, n8, c8⟩, s8e, s8q⟩ := s8
  dsimp only at hn8
  subst hn8
  have HB8 : Hid (Below w.heap.size w w8) := hB7.trans (hb8.mono hB7.size)
  have on8 : On (fun b => b < w6.heap.size) w6 w8 := onA.trans ((On.of hb8).less fun b hb => by omega)
  have hz8 : w6.heap.size < w8.heap.size := by have := hb8.size; omega
  have HR8 : Hid (Bytes w8 (fun b => b < w8.heap.size) (.slice r6.a r6.n r6.c) [98]) := Row.more (Row.on HR6.out on8) fun b hb => by omega
  have HO58 : Hid (Objs w8 (fun b => b < w8.heap.size) (.slice a5 2 c5) [obR, obF]) := (HO56.out.on on8).more fun b hb => by omega
  have HO48 : Hid (Objs w8 (fun b => b < w8.heap.size) (.slice (some ⟨b4, o4, none⟩) 2 c4) [obR', obF']) := (HO46.out.on on8).more fun b hb => by omega
  clear hWr hb8 hL7 hB7 onA on8 HR6 HO56 HO46 HL6 HB6 hz7 q0 q1 q2 q3 q4 q5 q6 q7 q8
  rw [objV_eq]
  dsimp only [Sp.write, obF']
  have hz9 : (w8.alloc (.cells #[.int .i64 1, .slice d8 4 c8, .slice s8e.a s8e.n s8e.c, .string ⟨#[]⟩, .int .i64 (-1), .slice s8q.a s8q.n s8q.c, .int .i64 (-1), .int .i64 1, .int .i64 0] 35)).heap.size = w8.heap.size + 1 := by simp
  have on9 := On.alloc w8 (.cells #[.int .i64 1, .slice d8 4 c8, .slice s8e.a s8e.n s8e.c, .string ⟨#[]⟩, .int .i64 (-1), .slice s8q.a s8q.n s8q.c, .int .i64 (-1), .int .i64 1, .int .i64 0] 35)
  have hconv : (convert 22 9 (.slice r6.a r6.n r6.c)).run Try.prog (w8.alloc (.cells #[.int .i64 1, .slice d8 4 c8, .slice s8e.a s8e.n s8e.c, .string ⟨#[]⟩, .int .i64 (-1), .slice s8q.a s8q.n s8q.c, .int .i64 (-1), .int .i64 1, .int .i64 0] 35)) = .ok (.string ⟨#[98]⟩) (w8.alloc (.cells #[.int .i64 1, .slice d8 4 c8, .slice s8e.a s8e.n s8e.c, .string ⟨#[]⟩, .int .i64 (-1), .slice s8q.a s8q.n s8q.c, .int .i64 (-1), .int .i64 1, .int .i64 0] 35)) := conv_any [98] _ _ (fun b => b < w8.heap.size) (Row.on HR8.out on9)
  have HO59 : Hid (Objs (w8.alloc (.cells #[.int .i64 1, .slice d8 4 c8, .slice s8e.a s8e.n s8e.c, .string ⟨#[]⟩, .int .i64 (-1), .slice s8q.a s8q.n s8q.c, .int .i64 (-1), .int .i64 1, .int .i64 0] 35)) (fun b => b < w8.heap.size) (.slice a5 2 c5) [obR, obF]) := HO58.out.on on9
  have HO49 : Hid (Objs (w8.alloc (.cells #[.int .i64 1, .slice d8 4 c8, .slice s8e.a s8e.n s8e.c, .string ⟨#[]⟩, .int .i64 (-1), .slice s8q.a s8q.n s8q.c, .int .i64 (-1), .int .i64 1, .int .i64 0] 35)) (fun b => b < w8.heap.size) (.slice (some ⟨b4, o4, none⟩) 2 c4) [obR', obF']) := HO48.out.on on9
  have HB9 : Hid (Below w.heap.size w (w8.alloc (.cells #[.int .i64 1, .slice d8 4 c8, .slice s8e.a s8e.n s8e.c, .string ⟨#[]⟩, .int .i64 (-1), .slice s8q.a s8q.n s8q.c, .int .i64 (-1), .int .i64 1, .int .i64 0] 35))) := HB8.out.alloc HB8.out.size _
  have HZ9 : Hid _ := hz9
  clear hz9 on9 HR8 HO58 HO48 HB8 hl8
  go_wp2_with fail
  have hf1 := find_any [obR', obF'] 0 nameF _ (fun b => b < w8.heap.size) (w8.alloc (.cells #[.int .i64 1, .slice d8 4 c8, .slice s8e.a s8e.n s8e.c, .string ⟨#[]⟩, .int .i64 (-1), .slice s8q.a s8q.n s8q.c, .int .i64 (-1), .int .i64 1, .int .i64 0] 35)) HO49.out (fun b hb => by have := HZ9.out; omega)
  rw [alive_find2] at hf1
  refine Calls.mono hf1 ?_
  rintro e w10 ⟨rfl, hb10⟩
  have hz10 : w8.heap.size < w10.heap.size := by have := hb10.size; have := HZ9.out; omega
  have HB10 : Hid (Below w.heap.size w w10) := HB9.out.trans (hb10.mono HB9.out.size)
  have on10 : On (fun b => b < w8.heap.size) (w8.alloc (.cells #[.int .i64 1, .slice d8 4 c8, .slice s8e.a s8e.n s8e.c, .string ⟨#[]⟩, .int .i64 (-1), .slice s8q.a s8q.n s8q.c, .int .i64 (-1), .int .i64 1, .int .i64 0] 35)) w10 := (On.of hb10).less fun b hb => by have := HZ9.out; omega
  have HO510 : Hid (Objs w10 (fun b => b < w10.heap.size) (.slice a5 2 c5) [obR, obF]) := (HO59.out.on on10).more fun b hb => by omega
  have HO410 : Hid (Objs w10 (fun b => b < w10.heap.size) (.slice (some ⟨b4, o4, none⟩) 2 c4) [obR', obF']) := (HO49.out.on on10).more fun b hb => by omega
  clear hf1 hb10 on10 HO59 HO49 HB9 HZ9 hconv
  go_wp2_with fail
  have hf2 := find_any [obR, obF] 0 nameF _ (fun b => b < w10.heap.size) w10 HO510.out (fun b hb => hb)
  rw [alive_find3] at hf2
  refine Calls.mono hf2 ?_
  rintro e w11 ⟨rfl, hb11⟩
  have HB11 : Hid (Below w.heap.size w w11) := HB10.out.trans (hb11.mono HB10.out.size)
  have HO411 : Hid (Objs w11 (fun b => b < w11.heap.size) (.slice (some ⟨b4, o4, none⟩) 2 c4) [obR', obF']) := (HO410.out.on (On.of hb11)).more fun b hb => Nat.lt_of_lt_of_le hb hb11.size
  clear hf2 hb11 HO510 HO410 HB10
  obtain ⟨b4', o4', c4'', s0, e0, hb0, hc0, hm0, hl0, t0, t1, t2, t3, t4, t5, t6, t7, t8⟩ := HO411.out.open (k := 0) (x := obR') rfl
  obtain ⟨p1, -, rfl⟩ := Value.slice.inj e0
  obtain ⟨rfl, rfl, -⟩ := Addr.mk.inj (Option.some.inj p1)
  have hN := names_dir s0 obR' (fun b => b < w11.heap.size) w11 hl0.2.1 (fun b hb => hb) rfl (by decide)
  rw [objV_eq] at hN
  have HN : Hid _ := hN
  clear hN hl0 e0 p1
  dsimp only [obR'] at t0 t1 t2 t3 t4 t5 t6 t7 t8 HN
  simp only [Nat.zero_mul, Nat.add_zero] at t0 t1 t2 t3 t4 t5 t6 t7 t8
  go_wp2_with fail
  refine Calls.mono HN.out ?_
  rintro e w12 ⟨g12, rfl, -, hb12⟩
  have HB12 : Hid (Below w.heap.size w w12) := HB11.out.trans (hb12.mono HB11.out.size)
  clear hb12 HN
  go_wp2
  go_ret
  exact ⟨rfl, HB12.out⟩
end Go.Proofs.Ytaobjpajbpoamaa
