/-
  rglaw9.alive answers true.
-/
import Derived.Test.YthoacakdmnijcaaCSt
import Derived.Test.YthoacakdmnijcaaSAlive
import Derived.Test.YthoacakdmnijcaaCLater
namespace Go.Proofs.Ythoacakdmnijcaa
open Go.RowKit
theorem partA0 (x y : Value) (k : IntKind) (a : Int) (hx : x = .int k a) (w : World) : (part 3 #[x, y] 0).run Try.prog w = .ok x w := by subst hx; kernel_rfl
theorem partA1 (x y : Value) (k : IntKind) (a : Int) (hx : y = .int k a) (w : World) : (part 3 #[x, y] 1).run Try.prog w = .ok y w := by subst hx; kernel_rfl
theorem eqA' (d : Nat) (a b c e : Int) (w : World) : (Op.equalIn (d + 2) 50 (.agg #[.int .i64 a, .int .i64 b]) (.agg #[.int .i64 c, .int .i64 e])).run Try.prog w = .ok (a == c && b == e) w := by
  have hs : ∀ w, (sizeOf 3).run Try.prog w = .ok 1 w := Try.sizeOf3
  have p0 := fun (x y : Int) (w : World) => partA0 (.int .i64 x) (.int .i64 y) .i64 x rfl w
  have p1 := fun (x y : Int) (w : World) => partA1 (.int .i64 x) (.int .i64 y) .i64 y rfl w
  have q := fun (x y : Int) (w : World) => run_equalIn_int w d 3 .i64 .i64 x y Try.underlying3
  rw [Op.equalIn]
  simp only [Sem.run_bind, run_underlying Try.underlying50, Result.andThen_ok, hs]
  simp only [Std.Legacy.Range.forIn_eq_forIn_range', Std.Legacy.Range.size]
  simp [List.range', p0, p1, q]
  by_cases h1 : a = c <;> by_cases h2 : b = e <;> simp [h1, h2]
theorem eqA (a b c e : Int) (w : World) : (Op.equalIn 10000 50 (.agg #[.int .i64 a, .int .i64 b]) (.agg #[.int .i64 c, .int .i64 e])).run Try.prog w = .ok (a == c && b == e) w := eqA' 9998 a b c e w
def obD (l : Int) : Sp.Ob := ⟨2, [], [], ⟨#[]⟩, 0, [], 0, l, 0⟩
theorem fits_obD (l : Int) : ∀ o ∈ [obD l], Fits o := by
  intro o ho
  simp at ho
  subst ho
  exact ⟨Nat.zero_le _, Nat.zero_le _, Nat.zero_le _, fun m hm => by simp [obD] at hm⟩
theorem kind_obD (l : Int) : ∀ o ∈ [obD l], o.kind ≠ 0 := by
  intro o ho
  simp at ho
  subst ho
  show (2 : Int) ≠ 0
  decide
theorem objs_obD (l : Int) (w : World) : Objs (w.alloc (.cells #[.int .i64 2, .slice none 0 0, .slice none 0 0, .string ⟨#[]⟩, .int .i64 0, .slice none 0 0, .int .i64 0, .int .i64 l, .int .i64 0] 40)) (fun b => b < w.heap.size + 1) (.slice (some ⟨w.heap.size, 0, none⟩) 1 1) [obD l] := by
  refine ⟨[(⟨nilSl, nilSl, nilSl⟩, obD l)], rfl, (obj_row (s := ⟨nilSl, nilSl, nilSl⟩) (o := obD l) (Blk.new w _ _)).more fun b hb => by omega, fun t ht => ?_⟩
  simp at ht
  subst ht
  exact ⟨Row.nil _ _ _ _ _, Row.nil _ _ _ _ _, [], rfl, Row.nil _ _ _ _ _, fun t ht => by simp at ht⟩
def msgHi : Sp.Msg := ⟨[104, 105], false, 0, 0⟩
theorem okQ_hi : Ch.okQ (Ch.upd (fun _ => []) true [msgHi]) := Ch.okQ_upd Ch.okQ_none true (Nat.succ_le_succ (Nat.zero_le _)) fun m hm => by
  rw [List.mem_singleton.1 hm]
  decide
set_option maxRecDepth 100000 in
set_option maxHeartbeats 8000000 in
theorem alive9_any (w : World) : Calls Try.prog 26 #[] w fun e w' => e = .returned (.bool true) ∧ Below w.heap.size w w' := by
  have kc := fun (w : World) (C : Array Value) (n c : Nat) => Lib.run_convert_bytes_const (P := Try.prog) w 22 5 C n c Try.underlying22 Try.underlying5
  have kc2 : ∀ (W : World) (A : Obj), (convert 22 22 (.slice (some ⟨W.heap.size + 1, 0, none⟩) 2 2)).run Try.prog ((W.alloc A).alloc (.cells #[.int .u8 104, .int .u8 105] 5)) = .ok (.slice (some ⟨W.heap.size + 1, 0, none⟩) 2 2) ((W.alloc A).alloc (.cells #[.int .u8 104, .int .u8 105] 5 (2, 3))) := fun W A => by
    have h := kc (W.alloc A) #[.int .u8 104, .int .u8 105] 2 2
    have e : (W.alloc A).heap.size = W.heap.size + 1 := by simp
    rw [e] at h
    exact h
  clear kc
  have heq : ∀ w, (Op.equalIn 10000 50 (.agg #[.int .i64 1, .int .i64 2]) (.agg #[.int .i64 1, .int .i64 2])).run Try.prog w = .ok true w := fun w => by rw [eqA]; rfl
  go_enter Try.func26, Try.ntmps26
  go_wp2_with fail
  have hB1 : Below w.heap.size w (w.alloc (.cells #[.int .i64 2, .slice none 0 0, .slice none 0 0, .string ⟨#[]⟩, .int .i64 0, .slice none 0 0, .int .i64 0, .int .i64 0, .int .i64 0] 40)) := (Below.refl _ _).alloc (Nat.le_refl _) _
  refine (spair [obD 0] _ _ _ (objs_obD 0 w) (fun b hb => by simp; omega) (fits_obD 0) (by decide) (kind_obD 0)).mono ?_
  rintro e w2 ⟨a2, c2, rfl, hO2, hb2⟩
  have HB2 : Hid (Below w.heap.size w w2) := hB1.trans (hb2.mono hB1.size)
  have HO2 : Hid (Objs w2 (fun b => b < w2.heap.size) (.slice a2 3 c2) (Ch.st [obD 0] fun _ => [])) := hO2
  clear hO2 hb2 hB1
  go_wp2_with fail
  have hL3 : Bytes ((w2.alloc (.cells #[.int .i64 1, .int .i64 2] 50)).alloc (.cells #[.int .u8 104, .int .u8 105] 5 (2, 3))) (fun b => b = (w2.alloc (.cells #[.int .i64 1, .int .i64 2] 50)).heap.size) (.slice (some ⟨(w2.alloc (.cells #[.int .i64 1, .int .i64 2] 50)).heap.size, 0, none⟩) 2 2) [104, 105] := lit_bytes _ [104, 105] (2, 3) (by decide)
  have hz3 : (w2.alloc (.cells #[.int .i64 1, .int .i64 2] 50)).heap.size = w2.heap.size + 1 := by simp
  rw [hz3] at hL3
  have hK3 : Blk ((w2.alloc (.cells #[.int .i64 1, .int .i64 2] 50)).alloc (.cells #[.int .u8 104, .int .u8 105] 5 (2, 3))) w2.heap.size #[.int .i64 1, .int .i64 2] 50 := (Blk.new w2 _ _).alloc _
  have hz4 : ((w2.alloc (.cells #[.int .i64 1, .int .i64 2] 50)).alloc (.cells #[.int .u8 104, .int .u8 105] 5 (2, 3))).heap.size = w2.heap.size + 2 := by simp
  have hB3 : Below w2.heap.size w2 ((w2.alloc (.cells #[.int .i64 1, .int .i64 2] 50)).alloc (.cells #[.int .u8 104, .int .u8 105] 5 (2, 3))) := ((Below.refl _ _).alloc (Nat.le_refl _) _).alloc (by simp) _
  generalize (w2.alloc (.cells #[.int .i64 1, .int .i64 2] 50)).alloc (.cells #[.int .u8 104, .int .u8 105] 5 (2, 3)) = w3 at *
  have hO3 : Objs w3 (fun b => b < w3.heap.size) (.slice a2 3 c2) (Ch.st [obD 0] fun _ => []) := HO2.out.later hB3
  have hS : Calls Try.prog 22 #[.slice a2 3 c2, .int .i64 1, .agg #[.slice (some ⟨w2.heap.size + 1, 0, none⟩) 2 2, .bool false, .int .i64 0, .int .i64 0]] w3 fun e w' => ∃ a c, e = .returned (.tuple #[.slice a 3 c, .int .i64 0]) ∧ Objs w' (fun b => b < w'.heap.size) (.slice a 3 c) (Ch.st [obD 0] (Ch.upd (fun _ => []) true [msgHi])) ∧ Below w3.heap.size w3 w' :=
    ssend_ok [obD 0] (fun _ => []) false (⟨some ⟨w2.heap.size + 1, 0, none⟩, 2, 2⟩, msgHi) (.slice a2 3 c2) (fun b => b < w3.heap.size) w3 hO3 (fun b hb => hb) (Row.more hL3 fun b hb => by omega) (fits_obD 0) Ch.okQ_none (by decide) (show [(104 : UInt8), 105].length ≤ 60 by decide) (by decide)
  refine Calls.mono hS ?_
  rintro e w4 ⟨a4, c4, rfl, hO4, hb4⟩
  have HB4 : Hid (Below w.heap.size w w4) := HB2.out.trans ((hB3.trans (hb4.mono hB3.size)).mono HB2.out.size)
  have hK4 : Blk w4 w2.heap.size #[.int .i64 1, .int .i64 2] 50 := hK3.below hb4 hK3.lt
  have HK4 : Hid (Blk w4 w2.heap.size #[.int .i64 1, .int .i64 2] 50) := hK4
  have HO4 : Hid (Objs w4 (fun b => b < w4.heap.size) (.slice a4 3 c4) (Ch.st [obD 0] (Ch.upd (fun _ => []) true [msgHi]))) := hO4
  have k4 := hK4.cell
  have l4 := hK4.lt
  clear hS hO3 hL3 hK3 hB3 hz3 hz4 hO4 hb4 hK4 HB2 HO2
  go_wp2_with fail
  have hR : Calls Try.prog 24 #[.slice a4 3 c4, .int .i64 2] w4 fun e w' => ∃ a c r, e = .returned (.tuple #[.slice a 3 c, msgV (r, msgHi), .int .i64 0]) ∧ Objs w' (fun b => b < w'.heap.size) (.slice a 3 c) (Ch.st [obD 0] (Ch.upd (Ch.upd (fun _ => []) true [msgHi]) true [])) ∧ Bytes w' (fun b => b < w'.heap.size) (.slice r.a r.n r.c) msgHi.data ∧ Below w4.heap.size w4 w' :=
    srecv_ok [obD 0] (Ch.upd (fun _ => []) true [msgHi]) true msgHi [] (.slice a4 3 c4) _ w4 HO4.out (fun b hb => hb) (fits_obD 0) okQ_hi (by decide) rfl
  refine Calls.mono hR ?_
  rintro e w5 ⟨a5, c5, r, rfl, -, hr5, hb5⟩
  unfold msgV
  dsimp only [msgHi]
  have HB5 : Hid (Below w.heap.size w w5) := HB4.out.trans (hb5.mono HB4.out.size)
  have hK5 : Blk w5 w2.heap.size #[.int .i64 1, .int .i64 2] 50 := HK4.out.below hb5 l4
  have HK5 : Hid (Blk w5 w2.heap.size #[.int .i64 1, .int .i64 2] 50) := hK5
  have HO5 : Hid (Objs w5 (fun b => b < w5.heap.size) (.slice a4 3 c4) (Ch.st [obD 0] (Ch.upd (fun _ => []) true [msgHi]))) := HO4.out.later hb5
  have HR5 : Hid (Bytes w5 (fun b => b < w5.heap.size) (.slice r.a r.n r.c) [104, 105]) := hr5
  have l5 := hK5.lt
  have k5 := hK5.cell
  clear hR hr5 hb5 hK5 HB4 HK4 HO4 k4 l4
  go_wp2_with fail
  have hB6 : Below w5.heap.size w5 (w5.alloc (.cells #[.slice r.a r.n r.c, .bool false, .int .i64 0, .int .i64 0] 49)) := (Below.refl _ _).alloc (Nat.le_refl _) _
  have hK6 : Blk (w5.alloc (.cells #[.slice r.a r.n r.c, .bool false, .int .i64 0, .int .i64 0] 49)) w2.heap.size #[.int .i64 1, .int .i64 2] 50 := Blk.alloc HK5.out _
  have hN6 : Blk (w5.alloc (.cells #[.slice r.a r.n r.c, .bool false, .int .i64 0, .int .i64 0] 49)) w5.heap.size #[.slice r.a r.n r.c, .bool false, .int .i64 0, .int .i64 0] 49 := Blk.new _ _ _
  generalize (w5.alloc (.cells #[.slice r.a r.n r.c, .bool false, .int .i64 0, .int .i64 0] 49)) = w6 at *
  have hR : Calls Try.prog 24 #[.slice a4 3 c4, .int .i64 1] w6 fun e w' => e = .returned (.tuple #[.slice none 0 0, .agg #[.slice none 0 0, .bool false, .int .i64 0, .int .i64 0], .int .i64 16]) ∧ Below w6.heap.size w6 w' :=
    srecv_err [obD 0] (Ch.upd (fun _ => []) true [msgHi]) false (.slice a4 3 c4) _ w6 (HO5.out.later hB6) (fun b hb => hb) rfl
  refine Calls.mono hR ?_
  rintro e w7 ⟨rfl, hb7⟩
  have HB7 : Hid (Below w.heap.size w w7) := HB5.out.trans ((hB6.trans (hb7.mono hB6.size)).mono HB5.out.size)
  have hK7 : Blk w7 w2.heap.size #[.int .i64 1, .int .i64 2] 50 := hK6.below hb7 hK6.lt
  have hN7 : Blk w7 w5.heap.size #[.slice r.a r.n r.c, .bool false, .int .i64 0, .int .i64 0] 49 := hN6.below hb7 hN6.lt
  have hR7 : Bytes w7 (fun b => b < w7.heap.size) (.slice r.a r.n r.c) [104, 105] := Row.later (Row.later HR5.out hB6) hb7
  have conv : ∀ o, (convert 22 9 (.slice r.a r.n r.c)).run Try.prog (w7.alloc o) = .ok (.string ⟨#[104, 105]⟩) (w7.alloc o) := fun o => conv_any [104, 105] _ _ (fun b => b < w7.heap.size) (Row.on hR7 (On.alloc w7 _))
  have k7 := hK7.cell
  have n7 := hN7.cell
  have l7 := hK7.lt
  have m7 := hN7.lt
  clear hR hB6 hK6 hN6 hb7 hR7 hK7 hN7 HB5 HK5 HO5 HR5 l5 k5
  go_wp2
  go_ret
  exact ⟨rfl, HB7.out.alloc HB7.out.size _⟩
end Go.Proofs.Ythoacakdmnijcaa
