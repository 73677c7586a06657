
/-
  rgref5.Build, piece by piece: open files.
-/
import Derived.Test.YtdciohinlhbliaaBW22
import Derived.Test.YtdciohinlhbliaaRPut
import Derived.Test.YtdciohinlhbliaaSAppend
import Derived.Deep.RegionLaw
import Derived.Deep.CutRange
import Derived.Deep.CutBlock
namespace Go.Proofs.Ytdciohinlhbliaa
open Go.RowKit
section
variable {P : Program}
/-- append: one thing more, out of a block of its own. -/
theorem run_append_one (w : World) (base : Nat) (t ty e e' : TypeId) (i : TypeInfo) (z : Value) (k bytes : Nat) (ht : P.underlying t = some (.slice e)) (hi : P.info? e = some i) (hz : i.zero = some z)
    (hsize : i.size = k) (hby : i.bytes = bytes) (hzs : z.cells.size = k) (hk : 0 < k) (v : Value) (css : List (List Value)) (hown : Mine w base e k v css) (hE0 : Even k css)
    (b : Nat) (cs : List Value) (hb : Blk w b cs.toArray e') (hck : cs.length = k) (h1 : ∀ u ∈ cs, u.oneCell' = true) (hbytes : (css.length + 1) * bytes ≤ 140737488355328) (hb1 : 1 ≤ bytes) (hbase : base ≤ w.heap.size) :
    ∃ r : Sl, ∃ w', (Builtin.append_ #[t, t] ty #[v, .slice (some ⟨b, 0, none⟩) 1 1]).run P w = .ok (.slice r.a r.n r.c) w' ∧ Mine w' base e k (.slice r.a r.n r.c) (css ++ [cs]) ∧ w.grownBy w' v.ownBlock ∧ ((Value.slice r.a r.n r.c).ownBlock = v.ownBlock ∨ (Value.slice r.a r.n r.c).ownBlock = some w.heap.size) := by
  subst hck
  obtain ⟨v', w', h2, h3, h4, h5⟩ := run_append_row2 (P := P) w base t ty e i z cs.length bytes ht hi hz hsize hby hzs hk v css hown b 0 1 1 _ [cs] (one_row hb) (fun x hx => by simp at hx; rw [hx]) (fun x hx u hu => by simp at hx; subst hx; exact h1 u hu) hE0 hbytes hb1 hbase
  obtain ⟨r, rfl⟩ := h3.sl
  exact ⟨r, w', h2, h3, h4, h5⟩
theorem step_append_one {ops : Array Oper} {o : Oper} {a : Act} {w : World} {K : Act → World → Prop} {Q : Exit → Act → World → Prop} {E : Prop} (hgd : o.guard = none) (s x : Operand) (t : TypeId)
    (ho : o.op = .call { callee := .builtin .append, args := #[s, x], argTypes := #[t, t] }) (base : Nat) (e e' : TypeId) (i : TypeInfo) (z : Value) (k bytes : Nat) (ht : P.underlying t = some (.slice e)) (hi : P.info? e = some i) (hz : i.zero = some z)
    (hsize : i.size = k) (hby : i.bytes = bytes) (hzs : z.cells.size = k) (hk : 0 < k) (v : Value) (css : List (List Value)) (hs : a.eval s = v) (hown : Mine w base e k v css) (hE0 : Even k css)
    (b : Nat) (hxv : a.eval x = .slice (some ⟨b, 0, none⟩) 1 1) (cs : List Value) (hb : Blk w b cs.toArray e') (hck : cs.length = k) (h1 : ∀ u ∈ cs, u.oneCell' = true) (hbytes : (css.length + 1) * bytes ≤ 140737488355328) (hb1 : 1 ≤ bytes) (hbase : base ≤ w.heap.size)
    (h : ∀ r : Sl, ∀ w', Mine w' base e k (.slice r.a r.n r.c) (css ++ [cs]) → w.grownBy w' v.ownBlock → ((Value.slice r.a r.n r.c).ownBlock = v.ownBlock ∨ (Value.slice r.a r.n r.c).ownBlock = some w.heap.size) → K (a.put o.dst (.slice r.a r.n r.c)) w') :
    if Region.wanted o (yielded ops a.tmps) = true then Oper.wp P o a w K Q else E := by
  have hw : Region.wanted o (yielded ops a.tmps) = true := by simp [Region.wanted, hgd]
  rw [if_pos hw]
  obtain ⟨r, w', hr, h2, h3, h4⟩ := run_append_one (P := P) w base t o.type e e' i z k bytes ht hi hz hsize hby hzs hk v css hown hE0 b cs hb hck h1 hbytes hb1 hbase
  unfold Oper.wp execOp
  simp only [ho, resolve, invoke, builtin, Sem.run_bind, Sem.run_pure, Result.andThen_ok, List.map_toArray, List.map_cons, List.map_nil, hs, hxv, hr]
  exact h r w' h2 h3 h4
theorem wpList_append_one {ops : Array Oper} {rest : List Oper} {o : Oper} {a : Act} {w : World} {Q : Exit → Act → World → Prop} (hgd : o.guard = none) (s x : Operand) (t : TypeId)
    (ho : o.op = .call { callee := .builtin .append, args := #[s, x], argTypes := #[t, t] }) (base : Nat) (e e' : TypeId) (i : TypeInfo) (z : Value) (k bytes : Nat) (ht : P.underlying t = some (.slice e)) (hi : P.info? e = some i) (hz : i.zero = some z)
    (hsize : i.size = k) (hby : i.bytes = bytes) (hzs : z.cells.size = k) (hk : 0 < k) (v : Value) (css : List (List Value)) (hs : a.eval s = v) (hown : Mine w base e k v css) (hE0 : Even k css)
    (b : Nat) (hxv : a.eval x = .slice (some ⟨b, 0, none⟩) 1 1) (cs : List Value) (hb : Blk w b cs.toArray e') (hck : cs.length = k) (h1 : ∀ u ∈ cs, u.oneCell' = true) (hbytes : (css.length + 1) * bytes ≤ 140737488355328) (hb1 : 1 ≤ bytes) (hbase : base ≤ w.heap.size)
    (h : ∀ r : Sl, ∀ w', Mine w' base e k (.slice r.a r.n r.c) (css ++ [cs]) → w.grownBy w' v.ownBlock → ((Value.slice r.a r.n r.c).ownBlock = v.ownBlock ∨ (Value.slice r.a r.n r.c).ownBlock = some w.heap.size) → wpList P ops Q rest (a.put o.dst (.slice r.a r.n r.c)) w') : wpList P ops Q (o :: rest) a w := by
  refine wpList_plain hgd fun K hK => ?_
  obtain ⟨r, w', hr, h2, h3, h4⟩ := run_append_one (P := P) w base t o.type e e' i z k bytes ht hi hz hsize hby hzs hk v css hown hE0 b cs hb hck h1 hbytes hb1 hbase
  unfold Oper.wp execOp
  simp only [ho, resolve, invoke, builtin, Sem.run_bind, Sem.run_pure, Result.andThen_ok, List.map_toArray, List.map_cons, List.map_nil, hs, hxv, hr]
  exact hK _ _ (h r w' h2 h3 h4)
end
/-- Open files, as they are gathered. -/
def OI (W : World) (g gk : Nat) (Sb : Nat → Prop) (vo : Value) (m : Nat) (r : Sl) (O : List Sp.Opn) (wr : World) : Prop :=
  MK wr g Sb ∧ Blk wr gk #[vo, .slice r.a r.n r.c, .slice none 0 0] 27 ∧ Mine wr W.heap.size 54 2 (.slice r.a r.n r.c) (O.map opnC) ∧ (∀ x ∈ O, Sp.OpnOk m x) ∧ On (fun b => b < W.heap.size ∧ b ≠ g ∧ b ≠ gk) W wr ∧ (∀ C, C ≤ g → Below C W wr)
/-- One more. -/
theorem OI.more {W W1 W2 : World} {g gk m i y : Nat} {Sb : Nat → Prop} {vo : Value} {r r' : Sl} {O : List Sp.Opn} {wr : World} (h : OI W g gk Sb vo m r O wr) (hSb : ∀ b, Sb b → b < g) (hgk : g < gk) (hgW : gk < W.heap.size) (hp : Pk g Sb wr W1) (hi : i < m) (hy : y < 4) (hm : Mine W2 W.heap.size 54 2 (.slice r'.a r'.n r'.c) (O.map opnC ++ [opnC ⟨(i : Int), (y : Int)⟩])) (hg : (W1.alloc (.cells #[.int .i64 i, .int .i64 y] 54)).grownBy W2 (Value.slice r.a r.n r.c).ownBlock) :
    Blk W2 gk #[vo, .slice r.a r.n r.c, .slice none 0 0] 27 ∧ OI W g gk Sb vo m r' (O ++ [⟨(i : Int), (y : Int)⟩]) (W2.setCell ⟨gk, 1, none⟩ (.slice r'.a r'.n r'.c)) := by
  obtain ⟨h1, h2, h3, h4, h5, h6⟩ := h
  obtain ⟨p1, p2, p3, p4⟩ := hp
  have hwr : W.heap.size ≤ wr.heap.size := (h6 0 (Nat.zero_le _)).size
  have hal := On.alloc W1 (.cells #[.int .i64 (i : Int), .int .i64 (y : Int)] 54)
  have hzA : (W1.alloc (.cells #[.int .i64 (i : Int), .int .i64 (y : Int)] 54)).heap.size = W1.heap.size + 1 := by simp
  have hon : On (fun b => b < W.heap.size) W1 W2 := (hal.less fun b hb => by show b < W1.heap.size; omega).trans (fun b hb => hg.block b (by omega) (fun e => by have := (h3.lt b e.symm).1; omega))
  have hset := On.set W2 ⟨gk, 1, none⟩ (.slice r'.a r'.n r'.c)
  have hb2 : Blk W2 gk #[vo, .slice r.a r.n r.c, .slice none 0 0] 27 := (h2.on p2 (by show gk ≠ g; omega)).on hon hgW
  have hB : ∀ C, C ≤ g → Below C W1 W2 := fun C hC => ((Below.refl C W1).alloc (by omega) _).grown hg (by omega) (fun k hk => by have := (h3.lt k hk).1; omega)
  refine ⟨hb2, ?_, hb2.set 1 _, ?_, ?_, ?_, fun C hC => ((h6 C hC).trans ((p4 C hC).trans (hB C hC))).setCell (by show C ≤ gk; omega) _⟩
  · exact (p1.on hon (by show g < W.heap.size; omega) (fun b hb => by have := hSb b hb; show b < W.heap.size; omega)).on hset (by show g ≠ gk; omega) (fun b hb => by have := hSb b hb; show b ≠ gk; omega)
  · rw [List.map_append]
    exact hm.on hset fun k hk => by have := (hm.lt k hk).1; show k ≠ gk; omega
  · intro x hx
    rcases List.mem_append.1 hx with hx | hx
    · exact h4 x hx
    · simp at hx
      subst hx
      exact ⟨by show (0 : Int) ≤ i; omega, by show (i : Int) < m; omega, by show (0 : Int) ≤ y; omega, by show (y : Int) < 4; omega⟩
  · exact ((h5.trans (p2.less fun b hb => hb.2.1)).trans (hon.less fun b hb => hb.1)).trans (hset.less fun b hb => hb.2.2)
set_option maxRecDepth 1000000 in
set_option maxHeartbeats 16000000 in
theorem reg50_wp (Q : Exit → Act → World → Prop) (W wr : World) (g gk : Nat) (Sb : Nat → Prop) (vo : Value) (m i : Nat) (r : Sl) (O : List Sp.Opn) (hSb : ∀ b, Sb b → b < g) (hgk : g < gk) (hgW : gk < W.heap.size) (hi : i < m) (hn : O.length ≤ 100) (hI : OI W g gk Sb vo m r O wr)
    (x0 x1 x2 x4 x5 x6 x7 x8 x9 x10 x11 x12 x13 x14 x15 x16 x17 x18 x20 x21 x22 x23 x24 x26 x27 x28 x29 x30 x31 x32 x33 x34 x35 x36 x37 x38 x39 x40 x41 x42 x43 x44 x45 x46 x47 x48 x49 x50 x51 x52 x53 x54 x55 x56 x57 x58 x59 x60 x61 x62 x63 x64 x65 x66 x67 x68 x69 x70 x71 x72 x73 x74 x75 x76 x77 x78 x79 x80 x81 x82 x83 x84 x85 x86 x87 x88 x89 x90 x91 x92 x93 x94 x95 x96 x97 x98 x99 x100 x101 x102 x103 x104 x105 x106 x107 x108 x109 x110 x111 x112 x113 x114 x115 x116 x117 x118 x119 x120 x121 x122 x123 x124 x125 x126 x127 x128 x129 x130 x131 x132 x133 x134 x135 x136 x137 x138 x139 x140 x141 x142 x143 x144 x145 x146 x147 x148 x149 x150 x151 x152 x153 x154 x155 x156 x157 x158 x159 x160 x161 x162 x163 x164 x165 x166 x167 x168 x169 x170 x171 x172 x173 x174 x175 x176 x177 x178 x179 x180 x181 x182 x183 x184 x185 x186 x187 x188 x189 x190 x191 x192 x193 x194 x195 x196 x197 x198 x199 x200 x201 x202 x203 x204 x205 x206 x207 x208 x209 x210 x211 x212 x213 x214 x215 x216 x217 x218 x219 x220 x221 x222 x223 x224 x225 x226 x227 x228 x229 x230 x231 x232 x233 x234 x235 x236 x237 x238 x239 x240 x241 x242 x243 x244 x245 x246 x247 x248 x249 x250 x251 x252 x253 x254 x255 x256 x257 x258 x259 x260 x261 x262 x263 x264 x265 x266 x267 x268 x269 x270 x271 x272 x273 x274 x275 x276 x277 x278 x279 x280 x281 x282 x283 x284 x285 x286 x287 x288 x289 x290 x291 x292 x293 x294 x295 x296 x297 x298 : Value)
    (h : ∀ (y173 y174 y175 y176 y177 y178 y179 y180 y181 : Value) (W' : World) (r' : Sl) (y : Nat), OI W g gk Sb vo m r' (O ++ [⟨(i : Int), (y : Int)⟩]) W' → Q .normal ⟨#[x0, x1, x2, .pointer (some ⟨g, 0, none⟩), x4, x5, x6, x7, x8, x9, x10, x11, x12, x13, x14, x15, x16, x17, x18, .pointer (some ⟨gk, 0, none⟩), x20, x21, x22, x23, x24, .int .i64 i, x26, x27, x28, x29, x30, x31, x32, x33, x34, x35, x36, x37, x38, x39, x40, x41, x42, x43, x44, x45, x46, x47, x48, x49, x50, x51, x52, x53, x54, x55, x56, x57, x58, x59, x60, x61, x62, x63, x64, x65, x66, x67, x68, x69, x70, x71, x72, x73, x74, x75, x76, x77, x78, x79, x80, x81, x82, x83, x84, x85, x86, x87, x88, x89, x90, x91, x92, x93, x94, x95, x96, x97, x98, x99, x100, x101, x102, x103, x104, x105, x106, x107, x108, x109, x110, x111, x112, x113, x114, x115, x116, x117, x118, x119, x120, x121, x122, x123, x124, x125, x126, x127, x128, x129, x130, x131, x132, x133, x134, x135, x136, x137, x138, x139, x140, x141, x142, x143, x144, x145, x146, x147, x148, x149, x150, x151, x152, x153, x154, x155, x156, x157, x158, x159, x160, x161, x162, x163, x164, x165, x166, x167, x168, x169, x170, x171, x172, y173, y174, y175, y176, y177, y178, y179, y180, y181, x182, x183, x184, x185, x186, x187, x188, x189, x190, x191, x192, x193, x194, x195, x196, x197, x198, x199, x200, x201, x202, x203, x204, x205, x206, x207, x208, x209, x210, x211, x212, x213, x214, x215, x216, x217, x218, x219, x220, x221, x222, x223, x224, x225, x226, x227, x228, x229, x230, x231, x232, x233, x234, x235, x236, x237, x238, x239, x240, x241, x242, x243, x244, x245, x246, x247, x248, x249, x250, x251, x252, x253, x254, x255, x256, x257, x258, x259, x260, x261, x262, x263, x264, x265, x266, x267, x268, x269, x270, x271, x272, x273, x274, x275, x276, x277, x278, x279, x280, x281, x282, x283, x284, x285, x286, x287, x288, x289, x290, x291, x292, x293, x294, x295, x296, x297, x298], []⟩ W') :
    Code.wp Try.prog ((Try.f9.body.bind (findReg 50)).getD .skip) Q ⟨#[x0, x1, x2, .pointer (some ⟨g, 0, none⟩), x4, x5, x6, x7, x8, x9, x10, x11, x12, x13, x14, x15, x16, x17, x18, .pointer (some ⟨gk, 0, none⟩), x20, x21, x22, x23, x24, .int .i64 i, x26, x27, x28, x29, x30, x31, x32, x33, x34, x35, x36, x37, x38, x39, x40, x41, x42, x43, x44, x45, x46, x47, x48, x49, x50, x51, x52, x53, x54, x55, x56, x57, x58, x59, x60, x61, x62, x63, x64, x65, x66, x67, x68, x69, x70, x71, x72, x73, x74, x75, x76, x77, x78, x79, x80, x81, x82, x83, x84, x85, x86, x87, x88, x89, x90, x91, x92, x93, x94, x95, x96, x97, x98, x99, x100, x101, x102, x103, x104, x105, x106, x107, x108, x109, x110, x111, x112, x113, x114, x115, x116, x117, x118, x119, x120, x121, x122, x123, x124, x125, x126, x127, x128, x129, x130, x131, x132, x133, x134, x135, x136, x137, x138, x139, x140, x141, x142, x143, x144, x145, x146, x147, x148, x149, x150, x151, x152, x153, x154, x155, x156, x157, x158, x159, x160, x161, x162, x163, x164, x165, x166, x167, x168, x169, x170, x171, x172, x173, x174, x175, x176, x177, x178, x179, x180, x181, x182, x183, x184, x185, x186, x187, x188, x189, x190, x191, x192, x193, x194, x195, x196, x197, x198, x199, x200, x201, x202, x203, x204, x205, x206, x207, x208, x209, x210, x211, x212, x213, x214, x215, x216, x217, x218, x219, x220, x221, x222, x223, x224, x225, x226, x227, x228, x229, x230, x231, x232, x233, x234, x235, x236, x237, x238, x239, x240, x241, x242, x243, x244, x245, x246, x247, x248, x249, x250, x251, x252, x253, x254, x255, x256, x257, x258, x259, x260, x261, x262, x263, x264, x265, x266, x267, x268, x269, x270, x271, x272, x273, x274, x275, x276, x277, x278, x279, x280, x281, x282, x283, x284, x285, x286, x287, x288, x289, x290, x291, x292, x293, x294, x295, x296, x297, x298], []⟩ wr := by
  have HH : Hid (∀ (y173 y174 y175 y176 y177 y178 y179 y180 y181 : Value) (W' : World) (r' : Sl) (y : Nat), OI W g gk Sb vo m r' (O ++ [⟨(i : Int), (y : Int)⟩]) W' → Q .normal ⟨#[x0, x1, x2, .pointer (some ⟨g, 0, none⟩), x4, x5, x6, x7, x8, x9, x10, x11, x12, x13, x14, x15, x16, x17, x18, .pointer (some ⟨gk, 0, none⟩), x20, x21, x22, x23, x24, .int .i64 i, x26, x27, x28, x29, x30, x31, x32, x33, x34, x35, x36, x37, x38, x39, x40, x41, x42, x43, x44, x45, x46, x47, x48, x49, x50, x51, x52, x53, x54, x55, x56, x57, x58, x59, x60, x61, x62, x63, x64, x65, x66, x67, x68, x69, x70, x71, x72, x73, x74, x75, x76, x77, x78, x79, x80, x81, x82, x83, x84, x85, x86, x87, x88, x89, x90, x91, x92, x93, x94, x95, x96, x97, x98, x99, x100, x101, x102, x103, x104, x105, x106, x107, x108, x109, x110, x111, x112, x113, x114, x115, x116, x117, x118, x119, x120, x121, x122, x123, x124, x125, x126, x127, x128, x129, x130, x131, x132, x133, x134, x135, x136, x137, x138, x139, x140, x141, x142, x143, x144, x145, x146, x147, x148, x149, x150, x151, x152, x153, x154, x155, x156, x157, x158, x159, x160, x161, x162, x163, x164, x165, x166, x167, x168, x169, x170, x171, x172, y173, y174, y175, y176, y177, y178, y179, y180, y181, x182, x183, x184, x185, x186, x187, x188, x189, x190, x191, x192, x193, x194, x195, x196, x197, x198, x199, x200, x201, x202, x203, x204, x205, x206, x207, x208, x209, x210, x211, x212, x213, x214, x215, x216, x217, x218, x219, x220, x221, x222, x223, x224, x225, x226, x227, x228, x229, x230, x231, x232, x233, x234, x235, x236, x237, x238, x239, x240, x241, x242, x243, x244, x245, x246, x247, x248, x249, x250, x251, x252, x253, x254, x255, x256, x257, x258, x259, x260, x261, x262, x263, x264, x265, x266, x267, x268, x269, x270, x271, x272, x273, x274, x275, x276, x277, x278, x279, x280, x281, x282, x283, x284, x285, x286, x287, x288, x289, x290, x291, x292, x293, x294, x295, x296, x297, x298], []⟩ W') := h
  have HI : Hid (OI W g gk Sb vo m r O wr) := hI
  have HP0 : Hid (Pk g Sb wr wr.drew) := Pk.drew hI.1
  have hwr : W.heap.size ≤ wr.heap.size := (hI.2.2.2.2.2 0 (Nat.zero_le _)).size
  have HP1 : Hid (Calls Try.prog 28 #[.pointer (some ⟨g, 0, none⟩), .int .i64 4] wr.drew fun e w' => ∃ x : Nat, e = .returned (.int .i64 x) ∧ x < 4 ∧ Pk g Sb wr w' ∧ w'.heap.size = wr.heap.size ∧ (∀ j, w'.cell? ⟨gk, j, none⟩ = (#[vo, .slice r.a r.n r.c, .slice none 0 0] : Array Value)[j]?)) := by
    refine (pick_pk g Sb hSb 4 (by decide) (by decide) wr _ HP0.out).mono ?_
    rintro e w' ⟨x, rfl, hx, hp⟩
    exact ⟨x, rfl, hx, hp, hp.2.2.1, Blk.cell (hI.2.1.on hp.2.1 (by show gk ≠ g; omega))⟩
  have HAP : Hid (∀ (W1 : World) (y : Nat), Pk g Sb wr W1 → y < 4 → ∀ (ops : Array Oper) (o : Oper) (a : Act) (K' : Act → World → Prop) (Q' : Exit → Act → World → Prop) (E : Prop), o.guard = none → ∀ (s x : Operand), o.op = .call { callee := .builtin .append, args := #[s, x], argTypes := #[24, 24] } → a.eval s = .slice r.a r.n r.c → a.eval x = .slice (some ⟨wr.heap.size, 0, none⟩) 1 1 → (∀ r' : Sl, ∀ W2, Blk W2 gk #[vo, .slice r.a r.n r.c, .slice none 0 0] 27 → OI W g gk Sb vo m r' (O ++ [⟨(i : Int), (y : Int)⟩]) (W2.setCell ⟨gk, 1, none⟩ (.slice r'.a r'.n r'.c)) → K' (a.put o.dst (.slice r'.a r'.n r'.c)) W2) → if Region.wanted o (yielded ops a.tmps) = true then Oper.wp Try.prog o a (W1.alloc (.cells #[.int .i64 i, .int .i64 y] 54)) K' Q' else E) := by
    intro W1 y hp hy ops o a K' Q' E hgd s x ho hs hx hk
    obtain ⟨i0, hi0, hz0, hz1, hz2⟩ := info_parts Try.infoOpen
    have hzp := hp.2.2.1
    have hm1 : Mine (W1.alloc (.cells #[.int .i64 (i : Int), .int .i64 (y : Int)] 54)) W.heap.size 54 2 (.slice r.a r.n r.c) (O.map opnC) := (hI.2.2.1.on hp.2.1 fun k hk => by have := (hI.2.2.1.lt k hk).1; show k ≠ g; omega).on (On.alloc W1 _) fun k hk => by have := (hI.2.2.1.lt k hk).2; show k < W1.heap.size; omega
    have hbn : Blk (W1.alloc (.cells #[.int .i64 (i : Int), .int .i64 (y : Int)] 54)) wr.heap.size (opnC ⟨(i : Int), (y : Int)⟩).toArray 54 := by rw [← hzp]; exact Blk.new W1 _ _
    refine step_append_one hgd s x _ ho W.heap.size 54 54 i0 (.agg #[.int .i64 0, .int .i64 0]) 2 16 Try.underlying24 hi0 hz0 hz1 hz2 rfl (by decide) _ (O.map opnC) hs hm1 (even_opn O) wr.heap.size hx (opnC ⟨(i : Int), (y : Int)⟩) hbn rfl (fun u hu => ones_opn [⟨(i : Int), (y : Int)⟩] _ (List.mem_singleton.2 rfl) u hu) (by rw [List.length_map]; omega) (by decide) (by simp; omega) ?_
    intro r' W2 hm2 hg2 _
    obtain ⟨q1, q2⟩ := hI.more hSb hgk hgW hp hi hy hm2 hg2
    exact hk r' W2 q1 q2
  have hc0 := Blk.cell hI.2.1
  have hgl : gk < wr.heap.size := by omega
  clear h hI hn hSb
  refine wp_mono (Q := Exit.then (fun a w => Q .normal a w) (fun _ _ _ => False)) ?_ (fun e a w h => by cases e <;> first | exact h | exact h.elim)
  conv => arg 2; whnf
  go_region_law (first
    | ((refine HAP.out W1 y hp1 hy _ _ _ _ _ _ rfl _ _ rfl (by rfl) (by rfl) ?_; intro r2 W2 hq1 hq2; have hc2 := Blk.cell hq1; have hf2 := Blk.free hq1))
    | (go_simp; go_at_call 28; with_reducible (refine Calls.mono HP1.out ?_); rintro e W1 ⟨y, rfl, hy, hp1, hz1, hc1⟩; have hgl1 : gk < W1.heap.size := by omega))
  all_goals exact HH.out _ _ _ _ _ _ _ _ _ _ r2 y hq2
end Go.Proofs.Ytdciohinlhbliaa
