
/-
  rgref5.SameObject, piece by piece: entries; messages.
-/
import Derived.Test.YthoacakdmnijcaaSAlive
import Derived.Test.YthoacakdmnijcaaBW2
import Derived.Laws.StructEq
import Derived.Deep.RegionHeld3
import Derived.Deep.CutRange
import Derived.Deep.CutBlock
namespace Go.Proofs.Ythoacakdmnijcaa
open Go.RowKit
theorem partE_0 (a : ByteArray) (b : Int) (w : World) : (part 9 #[.string a, .int .i64 b] 0).run Try.prog w = .ok (.string a) w := by kernel_rfl
theorem partE_1 (a : ByteArray) (b : Int) (w : World) : (part 3 #[.string a, .int .i64 b] 1).run Try.prog w = .ok (.int .i64 b) w := by kernel_rfl
theorem fieldsEnt : Try.prog.underlying 82 = some (.struct (Try.prog.fieldsOf 82)) := by unfold Program.fieldsOf; rw [Try.underlying82]
theorem eqEnt' (n : Nat) (a : ByteArray) (b : Int) (w : World) : (Op.equalIn (n + 2) 82 (.agg #[.string a, .int .i64 b]) (.agg #[.string a, .int .i64 b])).run Try.prog w = .ok true w := by
  rw [run_equalIn_struct w (n + 1) 82 _ _ fieldsEnt (by kernel_rfl)]
  unfold Program.fieldsOf
  rw [Try.underlying82]
  have q := fun (x y : Int) (w : World) => run_equalIn_int (P := Try.prog) w n 3 .i64 .i64 x y Try.underlying3
  have q' := fun (x y : ByteArray) (w : World) => run_equalIn_string (P := Try.prog) w n 9 x y Try.underlying9
  simp [Op.eqFields, partE_0, partE_1, q, q']
theorem eqEnt (a : ByteArray) (b : Int) (w : World) : (Op.equalIn 10000 82 (.agg #[.string a, .int .i64 b]) (.agg #[.string a, .int .i64 b])).run Try.prog w = .ok true w := eqEnt' 9998 a b w
theorem guardEnt : Try.prog.eqGuardType Try.prog.depth 82 = false := by kernel_rfl
theorem partC_0 (a b : Int) (w : World) : (part 3 #[.int .i64 a, .int .i64 b] 0).run Try.prog w = .ok (.int .i64 a) w := by kernel_rfl
theorem partC_1 (a b : Int) (w : World) : (part 3 #[.int .i64 a, .int .i64 b] 1).run Try.prog w = .ok (.int .i64 b) w := by kernel_rfl
theorem fieldsCap : Try.prog.underlying 47 = some (.struct (Try.prog.fieldsOf 47)) := by unfold Program.fieldsOf; rw [Try.underlying47]
theorem eqCap' (n : Nat) (a b : Int) (w : World) : (Op.equalIn (n + 2) 47 (.agg #[.int .i64 a, .int .i64 b]) (.agg #[.int .i64 a, .int .i64 b])).run Try.prog w = .ok true w := by
  rw [run_equalIn_struct w (n + 1) 47 _ _ fieldsCap (by kernel_rfl)]
  unfold Program.fieldsOf
  rw [Try.underlying47]
  have q := fun (x y : Int) (w : World) => run_equalIn_int (P := Try.prog) w n 3 .i64 .i64 x y Try.underlying3
  simp [Op.eqFields, partC_0, partC_1, q]
theorem eqCap (a b : Int) (w : World) : (Op.equalIn 10000 47 (.agg #[.int .i64 a, .int .i64 b]) (.agg #[.int .i64 a, .int .i64 b])).run Try.prog w = .ok true w := eqCap' 9998 a b w
theorem guardCap : Try.prog.eqGuardType Try.prog.depth 47 = false := by kernel_rfl
set_option maxRecDepth 1000000 in
set_option maxHeartbeats 8000000 in
theorem sblk0_wp (Q : Exit → Act → World → Prop) (K : Act → World → Prop) (W : World) (gA gB : Nat) (es : List Sp.Ent) (S S' : Nat → Prop) (ea ea' : Option Addr) (ec ec' : Nat) (v0 v1 v3 v4 v5 v6 v7 v8 u0 u1 u3 u4 u5 u6 u7 u8 : Value) (hA : Blk W gA #[v0, v1, .slice ea es.length ec, v3, v4, v5, v6, v7, v8] 40) (hB : Blk W gB #[u0, u1, .slice ea' es.length ec', u3, u4, u5, u6, u7, u8] 40) (hE : Row W S 2 (.slice ea es.length ec) (es.map entC)) (hE' : Row W S' 2 (.slice ea' es.length ec') (es.map entC)) (hm : es.length ≤ maxLen)
    (x0 x1 x4 x5 x6 x7 x8 x9 x10 x11 x12 x13 x14 x15 x16 x17 x18 x19 x20 x21 x22 x23 x24 x25 x26 x27 x28 x29 x30 x31 x32 x33 x34 x35 x36 x37 x38 x39 x40 x41 x42 x43 x44 x45 x46 x47 x48 x49 x50 x51 x52 x53 x54 x55 x56 x57 x58 x59 x60 x61 x62 x63 x64 x65 x66 x67 x68 x69 x70 x71 x72 x73 x74 x75 x76 x77 x80 x81 x82 x83 x84 x85 x86 x87 x88 x89 x90 x91 x92 x93 x94 x95 x96 x97 x98 x99 x100 x101 x102 x103 x104 x105 x106 x107 x108 x109 x110 x111 x112 x113 x114 x115 x116 x117 x118 x119 x120 x121 x122 x123 x124 x125 x126 x127 x128 x129 x130 x131 : Value)
    (h : ∀ (y4 y5 y79 y80 y81 y82 y83 y84 y85 y86 y87 y88 y89 y90 y91 y92 y93 : Value) (n : Nat), K ⟨#[x0, x1, .pointer (some ⟨gA, 0, none⟩), .pointer (some ⟨gB, 0, none⟩), y4, y5, x6, x7, x8, x9, x10, x11, x12, x13, x14, x15, x16, x17, x18, x19, x20, x21, x22, x23, x24, x25, x26, x27, x28, x29, x30, x31, x32, x33, x34, x35, x36, x37, x38, x39, x40, x41, x42, x43, x44, x45, x46, x47, x48, x49, x50, x51, x52, x53, x54, x55, x56, x57, x58, x59, x60, x61, x62, x63, x64, x65, x66, x67, x68, x69, x70, x71, x72, x73, x74, x75, x76, x77, .int .i64 es.length, y79, y80, y81, y82, y83, y84, y85, y86, y87, y88, y89, y90, y91, y92, y93, x94, x95, x96, x97, x98, x99, x100, x101, x102, x103, x104, x105, x106, x107, x108, x109, x110, x111, x112, x113, x114, x115, x116, x117, x118, x119, x120, x121, x122, x123, x124, x125, x126, x127, x128, x129, x130, x131], []⟩ (W.drewN n)) :
    Code.wp Try.prog ((Try.f18.body.bind (findBlock 0)).getD .skip) (Exit.then K Q) ⟨#[x0, x1, .pointer (some ⟨gA, 0, none⟩), .pointer (some ⟨gB, 0, none⟩), x4, x5, x6, x7, x8, x9, x10, x11, x12, x13, x14, x15, x16, x17, x18, x19, x20, x21, x22, x23, x24, x25, x26, x27, x28, x29, x30, x31, x32, x33, x34, x35, x36, x37, x38, x39, x40, x41, x42, x43, x44, x45, x46, x47, x48, x49, x50, x51, x52, x53, x54, x55, x56, x57, x58, x59, x60, x61, x62, x63, x64, x65, x66, x67, x68, x69, x70, x71, x72, x73, x74, x75, x76, x77, .int .i64 es.length, .int .i64 0, x80, x81, x82, x83, x84, x85, x86, x87, x88, x89, x90, x91, x92, x93, x94, x95, x96, x97, x98, x99, x100, x101, x102, x103, x104, x105, x106, x107, x108, x109, x110, x111, x112, x113, x114, x115, x116, x117, x118, x119, x120, x121, x122, x123, x124, x125, x126, x127, x128, x129, x130, x131], []⟩ W := by
  have HH : Hid (∀ (y4 y5 y79 y80 y81 y82 y83 y84 y85 y86 y87 y88 y89 y90 y91 y92 y93 : Value) (n : Nat), K ⟨#[x0, x1, .pointer (some ⟨gA, 0, none⟩), .pointer (some ⟨gB, 0, none⟩), y4, y5, x6, x7, x8, x9, x10, x11, x12, x13, x14, x15, x16, x17, x18, x19, x20, x21, x22, x23, x24, x25, x26, x27, x28, x29, x30, x31, x32, x33, x34, x35, x36, x37, x38, x39, x40, x41, x42, x43, x44, x45, x46, x47, x48, x49, x50, x51, x52, x53, x54, x55, x56, x57, x58, x59, x60, x61, x62, x63, x64, x65, x66, x67, x68, x69, x70, x71, x72, x73, x74, x75, x76, x77, .int .i64 es.length, y79, y80, y81, y82, y83, y84, y85, y86, y87, y88, y89, y90, y91, y92, y93, x94, x95, x96, x97, x98, x99, x100, x101, x102, x103, x104, x105, x106, x107, x108, x109, x110, x111, x112, x113, x114, x115, x116, x117, x118, x119, x120, x121, x122, x123, x124, x125, x126, x127, x128, x129, x130, x131], []⟩ (W.drewN n)) := h
  have HE : Hid (Row W S 2 (.slice ea es.length ec) (es.map entC)) := hE
  have HE' : Hid (Row W S' 2 (.slice ea' es.length ec') (es.map entC)) := hE'
  have cA := hA.cell 2
  have cB := hB.cell 2
  simp only [List.getElem?_toArray, List.getElem?_cons_succ, List.getElem?_cons_zero] at cA cB
  unfold maxLen at hm
  clear h hE hE' hA hB
  conv => arg 2; whnf
  go_wp2_with fail
  go_loopw [79] (fun i wr => ∃ k n : Nat, k ≤ es.length ∧ i = .int .i64 k ∧ wr = W.drewN n) (fun i _ => es.length - (intOf i).toNat)
  case atStart => exact ⟨0, 0, Nat.zero_le _, rfl, rfl⟩
  case round =>
    obtain ⟨k, n, hk, rfl, rfl⟩ := hrel
    by_cases hlt : k < es.length
    · obtain ⟨b, o, c, he, hb, h3, h4, h5⟩ := HE.out.some (by rw [List.length_map]; omega)
      obtain ⟨b', o', c', he', hb', h3', h4', h5'⟩ := HE'.out.some (by rw [List.length_map]; omega)
      rw [List.length_map] at he h3 he' h3'
      obtain ⟨rfl, -, rfl⟩ := Value.slice.inj he
      obtain ⟨rfl, -, rfl⟩ := Value.slice.inj he'
      obtain ⟨y, hy⟩ : ∃ y, es[k]? = some y := ⟨_, List.getElem?_eq_getElem hlt⟩
      obtain ⟨d0, d1⟩ := ent_cells h5 hy
      obtain ⟨d2, d3⟩ := ent_cells h5' hy
      have hi : (k : Int) < es.length := by omega
      have heq := fun (w : World) => eqEnt y.name y.obj w
      have hgd := guardEnt
      unfold maxLen at h4 h4'
      clear hy h5 h5' he he'
      go_wp2_with fail
      go_quiet (fail)
      go_wp2
      go_roundw
      case rel => exact ⟨k + 1, _, by omega, by go_num, rfl⟩
      case measure => simp [intOf]; omega
    · go_wp2
      exact HH.out _ _ _ _ _ _ _ _ _ _ _ _ _ _ _ _ _ n
theorem two_boxes (W : World) (A B : Array Value) (t : TypeId) : Blk ((W.alloc (.cells A t)).alloc (.cells B t)).drew W.heap.size A t ∧ Blk ((W.alloc (.cells A t)).alloc (.cells B t)).drew (W.heap.size + 1) B t ∧ Below W.heap.size W ((W.alloc (.cells A t)).alloc (.cells B t)).drew := by
  have h1 : Blk ((W.alloc (.cells A t)).alloc (.cells B t)) W.heap.size A t := (Blk.new W A t).alloc _
  have h2 : Blk ((W.alloc (.cells A t)).alloc (.cells B t)) (W.alloc (.cells A t)).heap.size B t := Blk.new _ _ _
  have hz : (W.alloc (.cells A t)).heap.size = W.heap.size + 1 := by simp
  rw [hz] at h2
  exact ⟨h1, h2, (((Below.refl _ _).alloc (Nat.le_refl _) _).alloc (by simp) _).drew⟩
set_option maxRecDepth 1000000 in
set_option maxHeartbeats 8000000 in
theorem sreg12_wp (Q : Exit → Act → World → Prop) (K : Act → World → Prop) (W : World) (gA gB b o c b' o' c' n k : Nat) (s1 s2 : Sl) (m : Sp.Msg) (_hk : (k : Int) < (n : Int)) (_hc : n ≤ c) (_hc' : n ≤ c') (_hm : c ≤ 2 ^ 63 - 1) (_hm' : c' ≤ 2 ^ 63 - 1) (_hgA : gA < W.heap.size) (_hgB : gB < W.heap.size) (_hb : b < W.heap.size) (_hb' : b' < W.heap.size)
    (_a5 : W.cell? ⟨gA, 5, none⟩ = some (.slice (some ⟨b, o, none⟩) n c)) (_b5 : W.cell? ⟨gB, 5, none⟩ = some (.slice (some ⟨b', o', none⟩) n c'))
    (_m0 : W.cell? ⟨b, o + k * 4, none⟩ = some (.slice s1.a s1.n s1.c)) (_m1 : W.cell? ⟨b, o + k * 4 + 1, none⟩ = some (.bool m.has)) (_m2 : W.cell? ⟨b, o + k * 4 + 2, none⟩ = some (.int .i64 m.op)) (_m3 : W.cell? ⟨b, o + k * 4 + 3, none⟩ = some (.int .i64 m.rt))
    (_n0 : W.cell? ⟨b', o' + k * 4, none⟩ = some (.slice s2.a s2.n s2.c)) (_n1 : W.cell? ⟨b', o' + k * 4 + 1, none⟩ = some (.bool m.has)) (_n2 : W.cell? ⟨b', o' + k * 4 + 2, none⟩ = some (.int .i64 m.op)) (_n3 : W.cell? ⟨b', o' + k * 4 + 3, none⟩ = some (.int .i64 m.rt))
    (x0 x1 x4 x5 x7 x8 x9 x10 x11 x12 x13 x14 x15 x16 x17 x18 x19 x20 x21 x22 x23 x24 x25 x26 x27 x28 x29 x30 x31 x32 x33 x34 x35 x36 x37 x38 x39 x40 x41 x42 x43 x44 x45 x46 x47 x48 x49 x50 x51 x52 x53 x54 x55 x56 x57 x58 x59 x60 x61 x62 x63 x64 x65 x66 x67 x68 x69 x70 x71 x72 x73 x74 x75 x76 x77 x78 x79 x80 x81 x82 x83 x84 x85 x86 x87 x88 x89 x90 x91 x92 x93 x94 x95 x96 x97 x98 x99 x100 x101 x102 x103 x104 x105 x106 x107 x108 x109 x110 x111 x112 x113 x114 x115 x116 x117 x118 x119 x120 x121 x122 x123 x124 x125 x126 x127 x128 x129 x130 x131 : Value)
    (h : ∀ (y100 y101 y102 y103 y104 y105 y106 y107 y108 y109 : Value) (W' : World) (g7 g8 : Nat), g7 ≠ g8 → Blk W' g7 (msgC (s1, m)).toArray 49 → Blk W' g8 (msgC (s2, m)).toArray 49 → Below W.heap.size W W' → K ⟨#[x0, x1, .pointer (some ⟨gA, 0, none⟩), .pointer (some ⟨gB, 0, none⟩), x4, x5, .int .i64 k, .pointer (some ⟨g7, 0, none⟩), .pointer (some ⟨g8, 0, none⟩), x9, x10, x11, x12, x13, x14, x15, x16, x17, x18, x19, x20, x21, x22, x23, x24, x25, x26, x27, x28, x29, x30, x31, x32, x33, x34, x35, x36, x37, x38, x39, x40, x41, x42, x43, x44, x45, x46, x47, x48, x49, x50, x51, x52, x53, x54, x55, x56, x57, x58, x59, x60, x61, x62, x63, x64, x65, x66, x67, x68, x69, x70, x71, x72, x73, x74, x75, x76, x77, x78, x79, x80, x81, x82, x83, x84, x85, x86, x87, x88, x89, x90, x91, x92, x93, x94, x95, x96, x97, x98, x99, y100, y101, y102, y103, y104, y105, y106, y107, y108, y109, x110, x111, x112, x113, x114, x115, x116, x117, x118, x119, x120, x121, x122, x123, x124, x125, x126, x127, x128, x129, x130, x131], []⟩ W') :
    Code.wp Try.prog ((Try.f18.body.bind (findReg 12)).getD .skip) (Exit.then K Q) ⟨#[x0, x1, .pointer (some ⟨gA, 0, none⟩), .pointer (some ⟨gB, 0, none⟩), x4, x5, .int .i64 k, x7, x8, x9, x10, x11, x12, x13, x14, x15, x16, x17, x18, x19, x20, x21, x22, x23, x24, x25, x26, x27, x28, x29, x30, x31, x32, x33, x34, x35, x36, x37, x38, x39, x40, x41, x42, x43, x44, x45, x46, x47, x48, x49, x50, x51, x52, x53, x54, x55, x56, x57, x58, x59, x60, x61, x62, x63, x64, x65, x66, x67, x68, x69, x70, x71, x72, x73, x74, x75, x76, x77, x78, x79, x80, x81, x82, x83, x84, x85, x86, x87, x88, x89, x90, x91, x92, x93, x94, x95, x96, x97, x98, x99, x100, x101, x102, x103, x104, x105, x106, x107, x108, x109, x110, x111, x112, x113, x114, x115, x116, x117, x118, x119, x120, x121, x122, x123, x124, x125, x126, x127, x128, x129, x130, x131], []⟩ W := by
  have HH : Hid (∀ (y100 y101 y102 y103 y104 y105 y106 y107 y108 y109 : Value) (W' : World) (g7 g8 : Nat), g7 ≠ g8 → Blk W' g7 (msgC (s1, m)).toArray 49 → Blk W' g8 (msgC (s2, m)).toArray 49 → Below W.heap.size W W' → K ⟨#[x0, x1, .pointer (some ⟨gA, 0, none⟩), .pointer (some ⟨gB, 0, none⟩), x4, x5, .int .i64 k, .pointer (some ⟨g7, 0, none⟩), .pointer (some ⟨g8, 0, none⟩), x9, x10, x11, x12, x13, x14, x15, x16, x17, x18, x19, x20, x21, x22, x23, x24, x25, x26, x27, x28, x29, x30, x31, x32, x33, x34, x35, x36, x37, x38, x39, x40, x41, x42, x43, x44, x45, x46, x47, x48, x49, x50, x51, x52, x53, x54, x55, x56, x57, x58, x59, x60, x61, x62, x63, x64, x65, x66, x67, x68, x69, x70, x71, x72, x73, x74, x75, x76, x77, x78, x79, x80, x81, x82, x83, x84, x85, x86, x87, x88, x89, x90, x91, x92, x93, x94, x95, x96, x97, x98, x99, y100, y101, y102, y103, y104, y105, y106, y107, y108, y109, x110, x111, x112, x113, x114, x115, x116, x117, x118, x119, x120, x121, x122, x123, x124, x125, x126, x127, x128, x129, x130, x131], []⟩ W') := h
  have hk0 : (0 : Int) ≤ (k : Int) := by omega
  clear h
  refine wp_mono (Q := Exit.then K (fun _ _ _ => False)) ?_ (fun e a w h => by cases e <;> first | exact h | exact h.elim)
  conv => arg 2; whnf
  go_region_held3 (fun w' => w'.cell? ⟨gA, 5, none⟩ = some (.slice (some ⟨b, o, none⟩) n c) ∧ w'.cell? ⟨gB, 5, none⟩ = some (.slice (some ⟨b', o', none⟩) n c') ∧ w'.cell? ⟨b, o + k * 4, none⟩ = some (.slice s1.a s1.n s1.c) ∧ w'.cell? ⟨b, o + k * 4 + 1, none⟩ = some (.bool m.has) ∧ w'.cell? ⟨b, o + k * 4 + 2, none⟩ = some (.int .i64 m.op) ∧ w'.cell? ⟨b, o + k * 4 + 3, none⟩ = some (.int .i64 m.rt) ∧ w'.cell? ⟨b', o' + k * 4, none⟩ = some (.slice s2.a s2.n s2.c) ∧ w'.cell? ⟨b', o' + k * 4 + 1, none⟩ = some (.bool m.has) ∧ w'.cell? ⟨b', o' + k * 4 + 2, none⟩ = some (.int .i64 m.op) ∧ w'.cell? ⟨b', o' + k * 4 + 3, none⟩ = some (.int .i64 m.rt)) (go_keep) (fail)
  · obtain ⟨q1, q2, q3⟩ := two_boxes W (msgC (s1, m)).toArray (msgC (s2, m)).toArray 49
    exact HH.out _ _ _ _ _ _ _ _ _ _ _ W.heap.size (W.heap.size + 1) (by omega) q1 q2 q3
  · obtain ⟨q1, q2, q3⟩ := two_boxes W (msgC (s2, m)).toArray (msgC (s1, m)).toArray 49
    exact HH.out _ _ _ _ _ _ _ _ _ _ _ (W.heap.size + 1) W.heap.size (by omega) q2 q1 q3
theorem msg_cells {w : World} {b o i : Nat} {q : List (Sl × Sp.Msg)} (h5 : ∀ i cs, (q.map msgC)[i]? = some cs → ∀ j u, cs[j]? = some u → w.cell? ⟨b, o + i * 4 + j, none⟩ = some u) {s : Sl} {x : Sp.Msg} (hx : q[i]? = some (s, x)) :
    w.cell? ⟨b, o + i * 4, none⟩ = some (.slice s.a s.n s.c) ∧ w.cell? ⟨b, o + i * 4 + 1, none⟩ = some (.bool x.has) ∧ w.cell? ⟨b, o + i * 4 + 2, none⟩ = some (.int .i64 x.op) ∧ w.cell? ⟨b, o + i * 4 + 3, none⟩ = some (.int .i64 x.rt) := by
  have key := h5 i (msgC (s, x)) (by rw [List.getElem?_map, hx]; rfl)
  exact ⟨key 0 _ rfl, key 1 _ rfl, key 2 _ rfl, key 3 _ rfl⟩
set_option maxRecDepth 1000000 in
set_option maxHeartbeats 8000000 in
theorem sblk2_wp (Q : Exit → Act → World → Prop) (K : Act → World → Prop) (W : World) (gA gB : Nat) (q q' : List (Sl × Sp.Msg)) (S S' : Nat → Prop) (qa qa' : Option Addr) (qc qc' : Nat) (v0 v1 v2 v3 v4 v6 v7 v8 u0 u1 u2 u3 u4 u6 u7 u8 : Value) (hA : Blk W gA #[v0, v1, v2, v3, v4, .slice qa q.length qc, v6, v7, v8] 40) (hB : Blk W gB #[u0, u1, u2, u3, u4, .slice qa' q.length qc', u6, u7, u8] 40) (hS : ∀ b, S b → b < W.heap.size) (hS' : ∀ b, S' b → b < W.heap.size) (hE : Row W S 4 (.slice qa q.length qc) (q.map msgC) ∧ ∀ t ∈ q, Bytes W S (.slice t.1.a t.1.n t.1.c) t.2.data) (hE' : Row W S' 4 (.slice qa' q.length qc') (q'.map msgC) ∧ ∀ t ∈ q', Bytes W S' (.slice t.1.a t.1.n t.1.c) t.2.data) (hqq : q.map Prod.snd = q'.map Prod.snd) (hm : q.length ≤ maxLen)
    (x0 x1 x4 x5 x6 x7 x8 x9 x10 x11 x12 x13 x14 x15 x16 x17 x18 x19 x20 x21 x22 x23 x24 x25 x26 x27 x28 x29 x30 x31 x32 x33 x34 x35 x36 x37 x38 x39 x40 x41 x42 x43 x44 x45 x46 x47 x48 x49 x50 x51 x52 x53 x54 x55 x56 x57 x58 x59 x60 x61 x62 x63 x64 x65 x66 x67 x68 x69 x70 x71 x72 x73 x74 x75 x76 x77 x78 x79 x80 x81 x82 x83 x84 x85 x86 x87 x88 x89 x90 x91 x92 x93 x94 x95 x98 x99 x100 x101 x102 x103 x104 x105 x106 x107 x108 x109 x110 x111 x112 x113 x114 x115 x116 x117 x118 x119 x120 x121 x122 x123 x124 x125 x126 x127 x128 x129 x130 x131 : Value)
    (h : ∀ (y4 y6 y7 y8 y97 y98 y99 y100 y101 y102 y103 y104 y105 y106 y107 y108 y109 y110 y111 y112 y113 y114 y115 y116 y117 y118 y119 y120 y121 y122 y123 y124 y125 y126 y127 y128 y129 y130 y131 : Value) (W' : World), Below W.heap.size W W' → K ⟨#[x0, x1, .pointer (some ⟨gA, 0, none⟩), .pointer (some ⟨gB, 0, none⟩), y4, x5, y6, y7, y8, x9, x10, x11, x12, x13, x14, x15, x16, x17, x18, x19, x20, x21, x22, x23, x24, x25, x26, x27, x28, x29, x30, x31, x32, x33, x34, x35, x36, x37, x38, x39, x40, x41, x42, x43, x44, x45, x46, x47, x48, x49, x50, x51, x52, x53, x54, x55, x56, x57, x58, x59, x60, x61, x62, x63, x64, x65, x66, x67, x68, x69, x70, x71, x72, x73, x74, x75, x76, x77, x78, x79, x80, x81, x82, x83, x84, x85, x86, x87, x88, x89, x90, x91, x92, x93, x94, x95, .int .i64 q.length, y97, y98, y99, y100, y101, y102, y103, y104, y105, y106, y107, y108, y109, y110, y111, y112, y113, y114, y115, y116, y117, y118, y119, y120, y121, y122, y123, y124, y125, y126, y127, y128, y129, y130, y131], []⟩ W') :
    Code.wp Try.prog ((Try.f18.body.bind (findBlock 2)).getD .skip) (Exit.then K Q) ⟨#[x0, x1, .pointer (some ⟨gA, 0, none⟩), .pointer (some ⟨gB, 0, none⟩), x4, x5, x6, x7, x8, x9, x10, x11, x12, x13, x14, x15, x16, x17, x18, x19, x20, x21, x22, x23, x24, x25, x26, x27, x28, x29, x30, x31, x32, x33, x34, x35, x36, x37, x38, x39, x40, x41, x42, x43, x44, x45, x46, x47, x48, x49, x50, x51, x52, x53, x54, x55, x56, x57, x58, x59, x60, x61, x62, x63, x64, x65, x66, x67, x68, x69, x70, x71, x72, x73, x74, x75, x76, x77, x78, x79, x80, x81, x82, x83, x84, x85, x86, x87, x88, x89, x90, x91, x92, x93, x94, x95, .int .i64 q.length, .int .i64 0, x98, x99, x100, x101, x102, x103, x104, x105, x106, x107, x108, x109, x110, x111, x112, x113, x114, x115, x116, x117, x118, x119, x120, x121, x122, x123, x124, x125, x126, x127, x128, x129, x130, x131], []⟩ W := by
  have HH : Hid (∀ (y4 y6 y7 y8 y97 y98 y99 y100 y101 y102 y103 y104 y105 y106 y107 y108 y109 y110 y111 y112 y113 y114 y115 y116 y117 y118 y119 y120 y121 y122 y123 y124 y125 y126 y127 y128 y129 y130 y131 : Value) (W' : World), Below W.heap.size W W' → K ⟨#[x0, x1, .pointer (some ⟨gA, 0, none⟩), .pointer (some ⟨gB, 0, none⟩), y4, x5, y6, y7, y8, x9, x10, x11, x12, x13, x14, x15, x16, x17, x18, x19, x20, x21, x22, x23, x24, x25, x26, x27, x28, x29, x30, x31, x32, x33, x34, x35, x36, x37, x38, x39, x40, x41, x42, x43, x44, x45, x46, x47, x48, x49, x50, x51, x52, x53, x54, x55, x56, x57, x58, x59, x60, x61, x62, x63, x64, x65, x66, x67, x68, x69, x70, x71, x72, x73, x74, x75, x76, x77, x78, x79, x80, x81, x82, x83, x84, x85, x86, x87, x88, x89, x90, x91, x92, x93, x94, x95, .int .i64 q.length, y97, y98, y99, y100, y101, y102, y103, y104, y105, y106, y107, y108, y109, y110, y111, y112, y113, y114, y115, y116, y117, y118, y119, y120, y121, y122, y123, y124, y125, y126, y127, y128, y129, y130, y131], []⟩ W') := h
  have HE : Hid _ := hE
  have HE' : Hid _ := hE'
  have HS : Hid (∀ b, S b → b < W.heap.size) := hS
  have HS' : Hid (∀ b, S' b → b < W.heap.size) := hS'
  have HQQ : Hid (q.map Prod.snd = q'.map Prod.snd) := hqq
  have hql : q'.length = q.length := by
    have := congrArg List.length hqq
    simpa using this.symm
  have HA : Hid _ := hA
  have HB : Hid _ := hB
  have hgA := hA.lt
  have hgB := hB.lt
  unfold maxLen at hm
  have HQL : Hid (q'.length = q.length) := hql
  clear h hE hE' hA hB hqq hS hS' hql
  conv => arg 2; whnf
  go_wp2_with fail
  go_loopw [97] (fun i wr => ∃ k : Nat, k ≤ q.length ∧ i = .int .i64 k ∧ Below W.heap.size W wr) (fun i _ => q.length - (intOf i).toNat)
  case atStart => exact ⟨0, Nat.zero_le _, rfl, Below.refl _ _⟩
  case round =>
    obtain ⟨k, hk, rfl, hBl⟩ := hrel
    have HBL : Hid (Below W.heap.size W wr) := hBl
    have hzr := hBl.size
    clear hBl
    by_cases hlt : k < q.length
    · have hlt' : k < q'.length := by have := HQL.out; omega
      have r1 := HE.out.1.on ((On.of HBL.out).less HS.out)
      have r2 := HE'.out.1.on ((On.of HBL.out).less HS'.out)
      obtain ⟨b, o, c, he, hb, h3, h4, h5⟩ := r1.some (by rw [List.length_map]; omega)
      obtain ⟨b', o', c', he', hb', h3', h4', h5'⟩ := r2.some (by rw [List.length_map]; omega)
      rw [List.length_map] at he h3 he' h3'
      obtain ⟨ea1, en1, ec1⟩ := Value.slice.inj he
      obtain ⟨ea2, en2, ec2⟩ := Value.slice.inj he'
      have hbl := HS.out b hb
      have hbl' := HS'.out b' hb'
      rcases hq1 : q[k] with ⟨s1, m⟩
      rcases hq2 : q'[k] with ⟨s2, m'⟩
      have hmm : m' = m := by
        have e1 : (q.map Prod.snd)[k]? = some m := by rw [List.getElem?_map, List.getElem?_eq_getElem hlt, hq1]; rfl
        have e2 : (q'.map Prod.snd)[k]? = some m' := by rw [List.getElem?_map, List.getElem?_eq_getElem hlt', hq2]; rfl
        rw [HQQ.out, e2] at e1
        exact Option.some.inj e1
      subst hmm
      obtain ⟨d0, d1, d2, d3⟩ := msg_cells h5 (show q[k]? = some (s1, m') by rw [List.getElem?_eq_getElem hlt, hq1])
      obtain ⟨f0, f1, f2, f3⟩ := msg_cells h5' (show q'[k]? = some (s2, m') by rw [List.getElem?_eq_getElem hlt', hq2])
      have y1 : Bytes W S (.slice s1.a s1.n s1.c) m'.data := by have := HE.out.2 _ (List.getElem_mem hlt); rw [hq1] at this; exact this
      have y2 : Bytes W S' (.slice s2.a s2.n s2.c) m'.data := by have := HE'.out.2 _ (List.getElem_mem hlt'); rw [hq2] at this; exact this
      have Y1 : Hid (Bytes W S (.slice s1.a s1.n s1.c) m'.data) := y1
      have Y2 : Hid (Bytes W S' (.slice s2.a s2.n s2.c) m'.data) := y2
      have a5 : wr.cell? ⟨gA, 5, none⟩ = some (.slice (some ⟨b, o, none⟩) q.length c) := by rw [Blk.cell (Blk.below HA.out HBL.out hgA), ← ea1, ec1]; rfl
      have b5 : wr.cell? ⟨gB, 5, none⟩ = some (.slice (some ⟨b', o', none⟩) q.length c') := by rw [Blk.cell (Blk.below HB.out HBL.out hgB), ← ea2, ec2]; rfl
      have hki : (k : Int) < (q.length : Int) := by omega
      have hql := HQL.out
      unfold maxLen at h4 h4'
      clear r1 r2 h5 h5' he he' ea1 en1 ec1 ea2 en2 ec2 hb hb' y1 y2 hq1 hq2
      go_upto_region 12 with fail
      refine sreg12_wp _ _ wr gA gB b o c b' o' c' q.length k s1 s2 m' hki h3 (by omega) h4 h4' (by omega) (by omega) (by omega) (by omega) a5 b5 d0 d1 d2 d3 f0 f1 f2 f3 _ _ _ _ _ _ _ _ _ _ _ _ _ _ _ _ _ _ _ _ _ _ _ _ _ _ _ _ _ _ _ _ _ _ _ _ _ _ _ _ _ _ _ _ _ _ _ _ _ _ _ _ _ _ _ _ _ _ _ _ _ _ _ _ _ _ _ _ _ _ _ _ _ _ _ _ _ _ _ _ _ _ _ _ _ _ _ _ _ _ _ _ _ _ _ _ _ _ _ _ _ _ _ _ _ _ _ _ _ _ _ _ _ _ _ _ _ _ _ _ _ _ _ _ _ _ _ _ _ ?_
      intro y100 y101 y102 y103 y104 y105 y106 y107 y108 y109 W2 g7 g8 hne hb7 hb8 hbl2
      dsimp only
      have HBL2 : Hid (Below W.heap.size W W2) := HBL.out.trans (hbl2.mono hzr)
      have k1 := conv_any m'.data _ W2 S (Row.on Y1.out ((On.of HBL2.out).less HS.out))
      have k2 := conv_any m'.data _ W2 S' (Row.on Y2.out ((On.of HBL2.out).less HS'.out))
      have c7 := hb7.cell
      have c8 := hb8.cell
      have heq := fun (w : World) => eqCap m'.op m'.rt w
      have hgd := guardCap
      unfold msgC at c7 c8
      clear hb7 hb8 hbl2 hql a5 b5 d0 d1 d2 d3 f0 f1 f2 f3 Y1 Y2
      go_wp2
      exact ⟨⟨k + 1, by omega, by go_num, HBL2.out⟩, by simp [intOf]; omega⟩
    · go_wp2
      exact HH.out _ _ _ _ _ _ _ _ _ _ _ _ _ _ _ _ _ _ _ _ _ _ _ _ _ _ _ _ _ _ _ _ _ _ _ _ _ _ _ _ HBL.out
end Go.Proofs.Ythoacakdmnijcaa
