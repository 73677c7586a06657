
/-
  rgref5.Build, piece by piece: the directories are gathered.
-/
import Derived.Test.YtdciohinlhbliaaBW2
import Derived.Test.YtdciohinlhbliaaRPut
import Derived.Test.YtdciohinlhbliaaRFind
namespace Go.Proofs.Ytdciohinlhbliaa
open Go.RowKit
/-- Numbers of directories. -/
def Dirs (L : List Sp.Ob) (ds : List Int) : Prop := ∀ d ∈ ds, ∃ (n : Nat) (od : Sp.Ob), d = (n : Int) ∧ L[n]? = some od ∧ od.kind = 2
/-- A row of numbers, with one more behind it. -/
theorem more_int {w : World} {base : Nat} {v : Value} {es : List Int} {e : Int} {o : Oper} {ops : Array Oper} {rest : List Oper} {a : Act} {Q : Exit → Act → World → Prop} (hgd : o.guard = none) (s x : Operand)
    (ho : o.op = .call { callee := .builtin .append, args := #[s, x], argTypes := #[31, 31] }) (hs : a.eval s = v) (hown : Mine w base 3 1 v (es.map intC)) (b : Nat) (hxv : a.eval x = .slice (some ⟨b, 0, none⟩) 1 1) (hb : Blk w b #[.int .i64 e] 3) (hn : es.length ≤ 1000) (hbase : base ≤ w.heap.size)
    (h : ∀ r : Sl, ∀ w', Mine w' base 3 1 (.slice r.a r.n r.c) ((es ++ [e]).map intC) → w.heap.size ≤ w'.heap.size → (∀ B, B ≤ base → Below B w w') → wpList Try.prog ops Q rest (a.put o.dst (.slice r.a r.n r.c)) w') : wpList Try.prog ops Q (o :: rest) a w := by
  obtain ⟨i0, hi, hz0, hz1, hz2⟩ := info_parts Try.infoInt
  refine wpList_append_row hgd s x _ ho base 3 i0 (.int .i64 0) 1 8 Try.underlying31 hi hz0 hz1 hz2 rfl (by decide) v (es.map intC) hs hown _ _ [intC e] hxv (one_row (cs := intC e) hb) (even_int [e]) (ones_int [e]) ?_ (by decide) hbase ?_
  · rw [List.length_map]; simp only [List.length_cons, List.length_nil]; omega
  · intro v' w' hm hg
    have hm' : Mine w' base 3 1 v' ((es ++ [e]).map intC) := by rw [List.map_append]; exact hm
    obtain ⟨r, rfl⟩ := hm'.sl
    have hB : ∀ B, B ≤ base → Below B w w' := fun B hB => Below.grown (Below.refl B w) hg (by omega) (fun k hk => by have := (hown.lt k hk).1; omega)
    exact h r w' hm' (hB 0 (Nat.zero_le _)).size hB
/-- The directories' loop. -/
def DI (W : World) (L : List Sp.Ob) (k : Nat) (r : Sl) (wr : World) : Prop :=
  ∃ ds : List Int, Mine wr W.heap.size 3 1 (.slice r.a r.n r.c) (ds.map intC) ∧ ds.length ≤ k ∧ (1 ≤ k → ds ≠ []) ∧ Dirs L ds ∧ Below W.heap.size W wr
set_option maxRecDepth 1000000 in
set_option maxHeartbeats 4000000 in
theorem blk3_wp (Q : Exit → Act → World → Prop) (K : Act → World → Prop) (W : World) (L : List Sp.Ob) (a : Option Addr) (c : Nat) (S : Nat → Prop) (hv : Objs W S (.slice a L.length c) L) (hS : ∀ b, S b → b < W.heap.size) (hn : L.length ≤ 100) (hn1 : 1 ≤ L.length) (hT : ∃ o : Sp.Ob, L[0]? = some o ∧ o.kind = 2)
    (x0 x1 x2 x3 x4 x5 x6 x7 x8 x9 x11 x12 x13 x14 x15 x16 x17 x18 x19 x20 x21 x22 x23 x24 x25 x26 x27 x28 x29 x30 x31 x32 x33 x34 x35 x36 x37 x38 x39 x40 x41 x42 x43 x44 x45 x46 x47 x48 x49 x50 x51 x52 x53 x54 x55 x56 x57 x58 x59 x60 x61 x62 x63 x64 x65 x66 x67 x68 x69 x70 x71 x72 x73 x74 x78 x79 x80 x81 x82 x83 x84 x85 x86 x87 x88 x89 x90 x91 x92 x93 x94 x95 x96 x97 x98 x99 x100 x101 x102 x103 x104 x105 x106 x107 x108 x109 x110 x111 x112 x113 x114 x115 x116 x117 x118 x119 x120 x121 x122 x123 x124 x125 x126 x127 x128 x129 x130 x131 x132 x133 x134 x135 x136 x137 x138 x139 x140 x141 x142 x143 x144 x145 x146 x147 x148 x149 x150 x151 x152 x153 x154 x155 x156 x157 x158 x159 x160 x161 x162 x163 x164 x165 x166 x167 x168 x169 x170 x171 x172 x173 x174 x175 x176 x177 x178 x179 x180 x181 x182 x183 x184 x185 x186 x187 x188 x189 x190 x191 x192 x193 x194 x195 x196 x197 x198 x199 x200 x201 x202 x203 x204 x205 x206 x207 x208 x209 x210 x211 x212 x213 x214 x215 x216 x217 x218 x219 x220 x221 x222 x223 x224 x225 x226 x227 x228 x229 x230 x231 x232 x233 x234 x235 x236 x237 x238 x239 x240 x241 x242 x243 x244 x245 x246 x247 x248 x249 x250 x251 x252 x253 x254 x255 x256 x257 x258 x259 x260 x261 x262 x263 x264 x265 x266 x267 x268 x269 x270 x271 x272 x273 x274 x275 x276 x277 x278 x279 x280 x281 x282 x283 x284 x285 x286 x287 x288 x289 x290 x291 x292 x293 x294 x295 x296 x297 x298 : Value)
    (h : ∀ (y11 y12 y77 y78 y79 y80 y81 y82 y83 y84 y85 y86 y87 y88 y89 : Value) (W' : World) (a' : Option Addr) (c' : Nat) (ds : List Int), Row W' (fun b => W.heap.size ≤ b ∧ b < W'.heap.size) 1 (.slice a' ds.length c') (ds.map intC) → 1 ≤ ds.length → ds.length ≤ 100 → Dirs L ds → Below W.heap.size W W' → K ⟨#[x0, x1, x2, x3, x4, x5, x6, x7, x8, x9, .slice a' ds.length c', y11, y12, x13, x14, x15, x16, x17, x18, x19, x20, x21, x22, x23, x24, x25, x26, x27, x28, x29, x30, x31, x32, x33, x34, x35, x36, x37, x38, x39, x40, x41, x42, x43, x44, x45, x46, x47, x48, x49, x50, x51, x52, x53, x54, x55, x56, x57, x58, x59, x60, x61, x62, x63, x64, x65, x66, x67, x68, x69, x70, x71, x72, x73, x74, .slice a L.length c, .int .i64 L.length, y77, y78, y79, y80, y81, y82, y83, y84, y85, y86, y87, y88, y89, x90, x91, x92, x93, x94, x95, x96, x97, x98, x99, x100, x101, x102, x103, x104, x105, x106, x107, x108, x109, x110, x111, x112, x113, x114, x115, x116, x117, x118, x119, x120, x121, x122, x123, x124, x125, x126, x127, x128, x129, x130, x131, x132, x133, x134, x135, x136, x137, x138, x139, x140, x141, x142, x143, x144, x145, x146, x147, x148, x149, x150, x151, x152, x153, x154, x155, x156, x157, x158, x159, x160, x161, x162, x163, x164, x165, x166, x167, x168, x169, x170, x171, x172, x173, x174, x175, x176, x177, x178, x179, x180, x181, x182, x183, x184, x185, x186, x187, x188, x189, x190, x191, x192, x193, x194, x195, x196, x197, x198, x199, x200, x201, x202, x203, x204, x205, x206, x207, x208, x209, x210, x211, x212, x213, x214, x215, x216, x217, x218, x219, x220, x221, x222, x223, x224, x225, x226, x227, x228, x229, x230, x231, x232, x233, x234, x235, x236, x237, x238, x239, x240, x241, x242, x243, x244, x245, x246, x247, x248, x249, x250, x251, x252, x253, x254, x255, x256, x257, x258, x259, x260, x261, x262, x263, x264, x265, x266, x267, x268, x269, x270, x271, x272, x273, x274, x275, x276, x277, x278, x279, x280, x281, x282, x283, x284, x285, x286, x287, x288, x289, x290, x291, x292, x293, x294, x295, x296, x297, x298], []⟩ W') :
    Code.wp Try.prog ((Try.f9.body.bind (findBlock 3)).getD .skip) (Exit.then K Q) ⟨#[x0, x1, x2, x3, x4, x5, x6, x7, x8, x9, .slice none 0 0, x11, x12, x13, x14, x15, x16, x17, x18, x19, x20, x21, x22, x23, x24, x25, x26, x27, x28, x29, x30, x31, x32, x33, x34, x35, x36, x37, x38, x39, x40, x41, x42, x43, x44, x45, x46, x47, x48, x49, x50, x51, x52, x53, x54, x55, x56, x57, x58, x59, x60, x61, x62, x63, x64, x65, x66, x67, x68, x69, x70, x71, x72, x73, x74, .slice a L.length c, .int .i64 L.length, .int .i64 0, x78, x79, x80, x81, x82, x83, x84, x85, x86, x87, x88, x89, x90, x91, x92, x93, x94, x95, x96, x97, x98, x99, x100, x101, x102, x103, x104, x105, x106, x107, x108, x109, x110, x111, x112, x113, x114, x115, x116, x117, x118, x119, x120, x121, x122, x123, x124, x125, x126, x127, x128, x129, x130, x131, x132, x133, x134, x135, x136, x137, x138, x139, x140, x141, x142, x143, x144, x145, x146, x147, x148, x149, x150, x151, x152, x153, x154, x155, x156, x157, x158, x159, x160, x161, x162, x163, x164, x165, x166, x167, x168, x169, x170, x171, x172, x173, x174, x175, x176, x177, x178, x179, x180, x181, x182, x183, x184, x185, x186, x187, x188, x189, x190, x191, x192, x193, x194, x195, x196, x197, x198, x199, x200, x201, x202, x203, x204, x205, x206, x207, x208, x209, x210, x211, x212, x213, x214, x215, x216, x217, x218, x219, x220, x221, x222, x223, x224, x225, x226, x227, x228, x229, x230, x231, x232, x233, x234, x235, x236, x237, x238, x239, x240, x241, x242, x243, x244, x245, x246, x247, x248, x249, x250, x251, x252, x253, x254, x255, x256, x257, x258, x259, x260, x261, x262, x263, x264, x265, x266, x267, x268, x269, x270, x271, x272, x273, x274, x275, x276, x277, x278, x279, x280, x281, x282, x283, x284, x285, x286, x287, x288, x289, x290, x291, x292, x293, x294, x295, x296, x297, x298], []⟩ W := by
  have HH : Hid (∀ (y11 y12 y77 y78 y79 y80 y81 y82 y83 y84 y85 y86 y87 y88 y89 : Value) (W' : World) (a' : Option Addr) (c' : Nat) (ds : List Int), Row W' (fun b => W.heap.size ≤ b ∧ b < W'.heap.size) 1 (.slice a' ds.length c') (ds.map intC) → 1 ≤ ds.length → ds.length ≤ 100 → Dirs L ds → Below W.heap.size W W' → K ⟨#[x0, x1, x2, x3, x4, x5, x6, x7, x8, x9, .slice a' ds.length c', y11, y12, x13, x14, x15, x16, x17, x18, x19, x20, x21, x22, x23, x24, x25, x26, x27, x28, x29, x30, x31, x32, x33, x34, x35, x36, x37, x38, x39, x40, x41, x42, x43, x44, x45, x46, x47, x48, x49, x50, x51, x52, x53, x54, x55, x56, x57, x58, x59, x60, x61, x62, x63, x64, x65, x66, x67, x68, x69, x70, x71, x72, x73, x74, .slice a L.length c, .int .i64 L.length, y77, y78, y79, y80, y81, y82, y83, y84, y85, y86, y87, y88, y89, x90, x91, x92, x93, x94, x95, x96, x97, x98, x99, x100, x101, x102, x103, x104, x105, x106, x107, x108, x109, x110, x111, x112, x113, x114, x115, x116, x117, x118, x119, x120, x121, x122, x123, x124, x125, x126, x127, x128, x129, x130, x131, x132, x133, x134, x135, x136, x137, x138, x139, x140, x141, x142, x143, x144, x145, x146, x147, x148, x149, x150, x151, x152, x153, x154, x155, x156, x157, x158, x159, x160, x161, x162, x163, x164, x165, x166, x167, x168, x169, x170, x171, x172, x173, x174, x175, x176, x177, x178, x179, x180, x181, x182, x183, x184, x185, x186, x187, x188, x189, x190, x191, x192, x193, x194, x195, x196, x197, x198, x199, x200, x201, x202, x203, x204, x205, x206, x207, x208, x209, x210, x211, x212, x213, x214, x215, x216, x217, x218, x219, x220, x221, x222, x223, x224, x225, x226, x227, x228, x229, x230, x231, x232, x233, x234, x235, x236, x237, x238, x239, x240, x241, x242, x243, x244, x245, x246, x247, x248, x249, x250, x251, x252, x253, x254, x255, x256, x257, x258, x259, x260, x261, x262, x263, x264, x265, x266, x267, x268, x269, x270, x271, x272, x273, x274, x275, x276, x277, x278, x279, x280, x281, x282, x283, x284, x285, x286, x287, x288, x289, x290, x291, x292, x293, x294, x295, x296, x297, x298], []⟩ W') := h
  have HV : Hid (Objs W S (.slice a L.length c) L) := hv
  have HS : Hid (∀ b, S b → b < W.heap.size) := hS
  have HT : Hid (∃ o : Sp.Ob, L[0]? = some o ∧ o.kind = 2) := hT
  have hnz : (L.length : Int) ≤ 100 := by omega
  clear h hv hS hT
  conv => arg 2; whnf
  go_wp2_with fail
  go_loopw [10, 77] (fun s10 s77 wr => ∃ (k : Nat) (r : Sl), k ≤ L.length ∧ s77 = .int .i64 k ∧ s10 = .slice r.a r.n r.c ∧ DI W L k r wr) (fun _ s77 _ => L.length - (intOf s77).toNat)
  case atStart => exact ⟨0, nilSl, Nat.zero_le _, rfl, rfl, [], Mine.nil _ _ _ _, by simp, by omega, fun d hd => by simp at hd, Below.refl _ _⟩
  case round =>
    obtain ⟨k, r, hk, rfl, rfl, hI⟩ := hrel
    have HI : Hid (DI W L k r wr) := hI
    have hB : Hid (Below W.heap.size W wr) := by obtain ⟨ds, _, _, _, _, h5⟩ := hI; exact h5
    clear hI
    by_cases hlt : k < L.length
    · have hx : L[k]? = some L[k] := List.getElem?_eq_getElem hlt
      obtain ⟨b, o, c', s, he, hSb, h3, h4, -, c0, c1, c2, c3, c4, c5, c6, c7, c8⟩ := (HV.out.on ((On.of hB.out).less HS.out)).open hx
      obtain ⟨rfl, -, rfl⟩ := Value.slice.inj he
      have HX : Hid (L[k]? = some L[k]) := hx
      have H0 : Hid (k = 0 → L[k].kind = 2) := fun e => by
        obtain ⟨o, g1, g2⟩ := HT.out
        subst e
        rw [hx] at g1
        cases g1
        exact g2
      unfold maxLen at h4
      generalize L[k] = x at *
      clear hx he
      by_cases hd : x.kind = 2
      · rw [hd] at c0
        have HD : Hid (x.kind = 2) := hd
        clear hd
        go_wp2_with (with_reducible refine stop_at (.call { callee := .builtin .append, args := #[.tmp 85, .tmp 87], argTypes := #[31, 31] }) rfl ?_)
        unfold Hold
        have hB2 : Below W.heap.size W ((wr.alloc (.cells #[.int .i64 2, .slice s.d.a s.d.n s.d.c, .slice s.e.a s.e.n s.e.c, .string x.target, .int .i64 x.peer, .slice s.q.a s.q.n s.q.c, .int .i64 x.proc, .int .i64 x.links, .int .i64 x.up] 40)).alloc (.cells #[.int .i64 k] 3)) := (hB.out.alloc hB.out.size _).alloc (by have := hB.out.size; simp; omega) _
        have hon2 : On (fun b => b < wr.heap.size) wr ((wr.alloc (.cells #[.int .i64 2, .slice s.d.a s.d.n s.d.c, .slice s.e.a s.e.n s.e.c, .string x.target, .int .i64 x.peer, .slice s.q.a s.q.n s.q.c, .int .i64 x.proc, .int .i64 x.links, .int .i64 x.up] 40)).alloc (.cells #[.int .i64 k] 3)) := (On.alloc wr _).trans ((On.alloc _ _).less fun b hb => by simp; omega)
        have hN2 := Blk.new (wr.alloc (.cells #[.int .i64 2, .slice s.d.a s.d.n s.d.c, .slice s.e.a s.e.n s.e.c, .string x.target, .int .i64 x.peer, .slice s.q.a s.q.n s.q.c, .int .i64 x.proc, .int .i64 x.links, .int .i64 x.up] 40)) #[.int .i64 k] 3
        have hz2 : (wr.alloc (.cells #[.int .i64 2, .slice s.d.a s.d.n s.d.c, .slice s.e.a s.e.n s.e.c, .string x.target, .int .i64 x.peer, .slice s.q.a s.q.n s.q.c, .int .i64 x.proc, .int .i64 x.links, .int .i64 x.up] 40)).heap.size = wr.heap.size + 1 := by simp
        rw [hz2] at hN2
        have hz3 : ((wr.alloc (.cells #[.int .i64 2, .slice s.d.a s.d.n s.d.c, .slice s.e.a s.e.n s.e.c, .string x.target, .int .i64 x.peer, .slice s.q.a s.q.n s.q.c, .int .i64 x.proc, .int .i64 x.links, .int .i64 x.up] 40)).alloc (.cells #[.int .i64 k] 3)).heap.size = wr.heap.size + 2 := by simp
        generalize (wr.alloc (.cells #[.int .i64 2, .slice s.d.a s.d.n s.d.c, .slice s.e.a s.e.n s.e.c, .string x.target, .int .i64 x.peer, .slice s.q.a s.q.n s.q.c, .int .i64 x.proc, .int .i64 x.links, .int .i64 x.up] 40)).alloc (.cells #[.int .i64 k] 3) = w2 at *
        have HB2 : Hid (Below W.heap.size W w2) := hB2
        obtain ⟨ds, i1, i2, i3, i4, i5⟩ := HI.out
        have hzB := hB.out.size
        have i1' : Mine w2 W.heap.size 3 1 (.slice r.a r.n r.c) (ds.map intC) := i1.on hon2 fun g hg => (i1.lt g hg).2
        have I2 : Hid (ds.length ≤ k) := i2
        have I4 : Hid (Dirs L ds) := i4
        clear HI hB hB2 hon2 i1 i2 i3 i4 i5 c0 c1 c2 c3 c4 c5 c6 c7 c8 hz2
        refine more_int rfl _ _ rfl rfl i1' (wr.heap.size + 1) rfl hN2 (by have := I2.out; omega) (by omega) ?_
        intro r' w4 hm4 hz4 hb4
        have HI' : Hid (DI W L (k + 1) r' w4) := ⟨ds ++ [(k : Int)], hm4, by have := I2.out; simp; omega, fun _ => by simp, fun d hd => by
          rcases List.mem_append.1 hd with h1 | h1
          · exact I4.out d h1
          · simp at h1
            exact ⟨k, x, h1, HX.out, HD.out⟩, HB2.out.trans (hb4 _ (Nat.le_refl _))⟩
        clear hm4 hz4 hb4 i1' hN2 hz3 hzB
        go_wp2
        exact ⟨⟨k + 1, r', by omega, by go_num, rfl, HI'.out⟩, by simp [intOf]; omega⟩
      · have hdz : (x.kind == 2) = false := by simpa using hd
        have hk0 : 1 ≤ k := by
          rcases Nat.eq_zero_or_pos k with e | e
          · exact absurd (H0.out e) hd
          · exact e
        clear hd
        go_wp2
        refine ⟨⟨k + 1, r, by omega, by go_num, rfl, ?_⟩, by simp [intOf]; omega⟩
        obtain ⟨ds, i1, i2, i3, i4, i5⟩ := HI.out
        exact ⟨ds, i1.on (On.alloc wr _) fun g hg => (i1.lt g hg).2, by omega, fun _ => i3 hk0, i4, i5.alloc i5.size _⟩
    · obtain rfl : k = L.length := by omega
      obtain ⟨ds, i1, i2, i3, i4, i5⟩ := HI.out
      obtain ⟨a', c', e', -, -⟩ := i1.form
      rw [List.length_map] at e'
      have hR := (i1.row (even_int ds))
      have HR : Hid (Row wr (fun b => W.heap.size ≤ b ∧ b < wr.heap.size) 1 (.slice a' ds.length c') (ds.map intC)) := by rw [← e']; exact hR
      have I3 : Hid (ds ≠ []) := i3 hn1
      have I2 : Hid (ds.length ≤ L.length) := i2
      have I4 : Hid (Dirs L ds) := i4
      rw [e']
      clear HI hR i1 i2 i3 i4 i5 e'
      go_wp2
      exact HH.out _ _ _ _ _ _ _ _ _ _ _ _ _ _ _ _ a' c' ds HR.out (List.length_pos_iff.2 I3.out) (by have := I2.out; omega) I4.out hB.out
end Go.Proofs.Ytdciohinlhbliaa
