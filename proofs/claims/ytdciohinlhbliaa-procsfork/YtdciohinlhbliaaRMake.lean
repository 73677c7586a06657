
/-
  rgref5.Is, rgref5.Make, walked.
-/
import Derived.Test.YtdciohinlhbliaaRPick
namespace Go.Proofs.Ytdciohinlhbliaa
open Go.RowKit
namespace Sp
def is (L : List Ob) (k : Int) (kd : Int) : Bool := match objAt L k with
  | none => false
  | some o => kd == 0 || o.kind == kd
end Sp
set_option maxRecDepth 100000 in
theorem is_any (L : List Sp.Ob) (k kd : Int) (v : Value) (S : Nat → Prop) (w : World) (hv : Objs w S v L) :
    Calls Try.prog 22 #[v, .int .i64 k, .int .i64 kd] w fun e w' => e = .returned (.bool (Sp.is L k kd)) ∧ w' = w := by
  by_cases h0 : 0 ≤ k
  · obtain ⟨n, rfl⟩ := Int.eq_ofNat_of_zero_le h0
    by_cases h1 : n < L.length
    · have hx : L[n]? = some L[n] := List.getElem?_eq_getElem h1
      obtain ⟨b, o, c, s, rfl, hb, hc, hm, -, c0, -⟩ := hv.open hx
      have HE : Hid (Sp.is L n kd = ((L[n].kind != 0) && (kd == 0 || L[n].kind == kd))) := by
        unfold Hid Sp.is
        rw [objAt_nat, hx, Option.filter_some]
        cases L[n].kind != 0 <;> rfl
      generalize L[n] = x at *
      unfold maxLen at hm
      rw [HE.out]
      clear hv hx HE
      by_cases hk : x.kind = 0
      · have hk' : (x.kind != 0) = false := by simpa using hk
        rw [hk', Bool.false_and]
        go_enter Try.func22, Try.ntmps22
        go_wp2
        go_ret
        exact ⟨rfl, rfl⟩
      · have hk' : (x.kind != 0) = true := by simpa using hk
        clear hk
        by_cases hd : kd = 0
        · have hd' : (kd == 0) = true := by simpa using hd
          rw [hk', hd', Bool.true_and, Bool.true_or]
          clear hd
          go_enter Try.func22, Try.ntmps22
          go_wp2
          go_ret
          exact ⟨rfl, rfl⟩
        · have hd' : (kd == 0) = false := by simpa using hd
          rw [hk', hd', Bool.true_and, Bool.false_or]
          clear hd
          go_enter Try.func22, Try.ntmps22
          go_wp2
          go_ret
          exact ⟨rfl, rfl⟩
    · have HE : Hid (Sp.is L n kd = false) := by
        unfold Hid Sp.is
        rw [objAt_nat, List.getElem?_eq_none (by omega)]
        rfl
      obtain ⟨a, c, rfl, -⟩ := hv.form
      rw [HE.out]
      clear hv HE
      go_enter Try.func22, Try.ntmps22
      go_wp2
      go_ret
      exact ⟨rfl, rfl⟩
  · have HE : Hid (Sp.is L k kd = false) := by unfold Hid Sp.is; rw [objAt_neg h0]
    obtain ⟨a, c, rfl, -⟩ := hv.form
    rw [HE.out]
    clear hv HE
    go_enter Try.func22, Try.ntmps22
    go_wp2
    go_ret
    exact ⟨rfl, rfl⟩
set_option maxRecDepth 100000 in
set_option maxHeartbeats 2000000 in
theorem rmake_app (L : List Sp.Ob) (s : Sls) (o : Sp.Ob) (v : Value) (S : Nat → Prop) (w : World) (hv : Objs w S v L) (hS : ∀ b, S b → b < w.heap.size) (hn : L.length < 40) (hnf : ∀ o ∈ L, o.kind ≠ 0) (ho : Lists w S (s, o)) :
    Calls Try.prog 29 #[v, .agg (objC (s, o)).toArray] w fun e w' => ∃ a c, e = .returned (.tuple #[.slice a (L.length + 1) c, .int .i64 L.length, .int .i64 0]) ∧ Objs w' (Or' S w.heap.size w'.heap.size) (.slice a (L.length + 1) c) (L ++ [o]) ∧ Below w.heap.size w w' := by
  have HW : Hid (∀ W, Below w.heap.size w W → Calls Try.prog 31 #[v, .int .i64 L.length, .agg (objC (s, o)).toArray] W fun e w' => ∃ a c, e = .returned (.slice a (L.length + 1) c) ∧ Objs w' (Or' S W.heap.size w'.heap.size) (.slice a (L.length + 1) c) (L ++ [o]) ∧ Below W.heap.size W w') := fun W hW => by
    have := rwith_any L L.length s o v S W (hv.on ((On.of hW).less hS)) (fun b hb => Nat.lt_of_lt_of_le (hS b hb) hW.size) (by omega) (Nat.le_refl _) (ho.on ((On.of hW).less hS))
    have e : Sp.rwith L L.length o = L ++ [o] := if_pos rfl
    rw [e, List.length_append] at this
    exact this
  have HV : Hid (Objs w S v L) := hv
  have HNF : Hid (∀ o ∈ L, o.kind ≠ 0) := hnf
  have HS : Hid (∀ b, S b → b < w.heap.size) := hS
  obtain ⟨va, vc, rfl, -⟩ := hv.form
  simp only [objV_eq] at HW ⊢
  have hn40 : ¬ (40 : Int) ≤ (L.length : Int) := by omega
  clear hv hS hnf ho
  go_enter Try.func29, Try.ntmps29
  go_wp2
  have HB1 : Hid (Below w.heap.size w (w.alloc (.cells #[.int .i64 o.kind, .slice s.d.a s.d.n s.d.c, .slice s.e.a s.e.n s.e.c, .string o.target, .int .i64 o.peer, .slice s.q.a s.q.n s.q.c, .int .i64 o.proc, .int .i64 o.links, .int .i64 o.up] 40))) := (Below.refl _ _).alloc (Nat.le_refl _) _
  have HBX : Hid (Blk (w.alloc (.cells #[.int .i64 o.kind, .slice s.d.a s.d.n s.d.c, .slice s.e.a s.e.n s.e.c, .string o.target, .int .i64 o.peer, .slice s.q.a s.q.n s.q.c, .int .i64 o.proc, .int .i64 o.links, .int .i64 o.up] 40)) w.heap.size #[.int .i64 o.kind, .slice s.d.a s.d.n s.d.c, .slice s.e.a s.e.n s.e.c, .string o.target, .int .i64 o.peer, .slice s.q.a s.q.n s.q.c, .int .i64 o.proc, .int .i64 o.links, .int .i64 o.up] 40) := Blk.new _ _ _
  generalize w.alloc (.cells #[.int .i64 o.kind, .slice s.d.a s.d.n s.d.c, .slice s.e.a s.e.n s.e.c, .string o.target, .int .i64 o.peer, .slice s.q.a s.q.n s.q.c, .int .i64 o.proc, .int .i64 o.links, .int .i64 o.up] 40) = w1 at *
  go_loop [7] (fun i => ∃ k : Nat, k ≤ L.length ∧ i = .int .i64 k) (fun i => L.length - (intOf i).toNat)
  case atStart => exact ⟨0, Nat.zero_le _, rfl⟩
  case round =>
    obtain ⟨k, hk, rfl⟩ := hrel
    by_cases hlt : k < L.length
    · have hx : L[k]? = some L[k] := List.getElem?_eq_getElem hlt
      obtain ⟨b, of, c', s', he, hSb, h3, h4, -, c0, -⟩ := (HV.out.on ((On.of HB1.out).less HS.out)).open hx
      obtain ⟨rfl, -, rfl⟩ := Value.slice.inj he
      have hkz : (L[k].kind != 0) = true := by simpa using HNF.out _ (List.getElem_mem hlt)
      unfold maxLen at h4
      generalize L[k] = x at *
      clear hx he
      go_wp2
      exact ⟨⟨k + 1, by omega, by go_num⟩, by simp [intOf]; omega⟩
    · obtain rfl : k = L.length := by omega
      have cb := Blk.cell HBX.out
      go_wp2_with fail
      refine Calls.mono (HW.out _ HB1.out) ?_
      rintro e w3 ⟨a3, c3, rfl, hO3, hb3⟩
      have HF : Hid (Objs w3 (Or' S w.heap.size w3.heap.size) (.slice a3 (L.length + 1) c3) (L ++ [o])) := hO3.more fun b hb => by
        rcases hb with h | h
        · exact Or.inl h
        · exact Or.inr ⟨Nat.le_trans HB1.out.size h.1, h.2⟩
      have HBF : Hid (Below w.heap.size w w3) := HB1.out.trans (hb3.mono HB1.out.size)
      clear hO3 hb3
      go_wp2
      go_ret3
      exact ⟨a3, c3, rfl, HF.out, HBF.out⟩
theorem is_dir {L : List Sp.Ob} {k : Int} : Sp.is L k 2 = true → ∃ (n : Nat) (o : Sp.Ob), k = n ∧ L[n]? = some o ∧ o.kind = 2 ∧ Sp.objAt L k = some o := by
  intro h
  unfold Sp.is at h
  cases ho : Sp.objAt L k with
  | none => rw [ho] at h; cases h
  | some o =>
    rw [ho] at h
    obtain ⟨n, rfl, hx, _⟩ := objAt_some ho
    exact ⟨n, o, rfl, hx, by simpa using h, rfl⟩
theorem find_off {L : List Sp.Ob} {k : Int} (h : Sp.is L k 2 = false) (name : ByteArray) : Sp.find L k name = -1 := by
  unfold Sp.is at h
  unfold Sp.find
  cases ho : Sp.objAt L k with
  | none => rfl
  | some o =>
    rw [ho] at h
    dsimp only at h ⊢
    rw [if_neg (by simpa using h)]
end Go.Proofs.Ytdciohinlhbliaa
