/-
  store.Read, walked.
-/
import Derived.Test.YtaobjpajbpoamaaSWalkG
namespace Go.Proofs.Ytaobjpajbpoamaa
open Go.RowKit
namespace Sp
def noFile (k : Int) : Int := if k = 1 then 0 else if k = 2 then 12 else 8
def readErr (o : Ob) (at_ n : Int) : Int := if noFile o.kind ≠ 0 then noFile o.kind else if at_ < 0 ∨ n < 0 then 3 else 0
def read (o : Ob) (at_ n : Int) : List UInt8 := if readErr o at_ n = 0 then (o.data.drop at_.toNat).take n.toNat else []
def writeErr (o : Ob) (at_ : Int) (b : List UInt8) : Int := if noFile o.kind ≠ 0 then noFile o.kind else if at_ < 0 then 3 else if at_ > 60 - (b.length : Int) then 15 else 0
end Sp
theorem noFile_any (s : Sls) (o : Sp.Ob) (w : World) :
    Calls Try.prog 57 #[.agg (objC (s, o)).toArray] w fun e w' => e = .returned (.int .i64 (Sp.noFile o.kind)) ∧ Below w.heap.size w w' := by
  unfold objC Sp.noFile
  dsimp only
  by_cases h1 : o.kind = 1
  · rw [if_pos h1, h1]
    go_enter Try.func57, Try.ntmps57
    go_wp2
    go_ret
    exact ⟨rfl, (Below.refl _ _).alloc (Nat.le_refl _) _⟩
  · rw [if_neg h1]
    by_cases h2 : o.kind = 2
    · rw [if_pos h2, h2]
      go_enter Try.func57, Try.ntmps57
      go_wp2
      go_ret
      exact ⟨rfl, (Below.refl _ _).alloc (Nat.le_refl _) _⟩
    · rw [if_neg h2]
      have h1' : (o.kind == 1) = false := by simpa using h1
      have h2' : (o.kind == 2) = false := by simpa using h2
      clear h1 h2
      go_enter Try.func57, Try.ntmps57
      go_wp2
      go_ret
      exact ⟨rfl, (Below.refl _ _).alloc (Nat.le_refl _) _⟩
theorem read_err (s : Sls) (o : Sp.Ob) (p n : Int) (w : World) (he : Sp.readErr o p n ≠ 0) :
    Calls Try.prog 20 #[.agg (objC (s, o)).toArray, .int .i64 p, .int .i64 n] w fun e w' => e = .returned (.tuple #[.slice none 0 0, .int .i64 (Sp.readErr o p n)]) ∧ Below w.heap.size w w' := by
  have HF : Hid (∀ W, Calls Try.prog 57 #[.agg (objC (s, o)).toArray] W fun e w' => e = .returned (.int .i64 (Sp.noFile o.kind)) ∧ Below W.heap.size W w') := fun W => noFile_any s o W
  unfold Sp.readErr at he ⊢
  by_cases hk : Sp.noFile o.kind = 0
  · rw [if_neg (by simpa using hk)] at he ⊢
    by_cases hp : p < 0 ∨ n < 0
    · rw [if_pos hp]
      rw [hk] at HF
      clear he hk
      unfold objC at HF ⊢
      dsimp only at HF ⊢
      by_cases hp0 : p < 0
      all_goals
        go_enter Try.func20, Try.ntmps20
        go_wp2_with fail
        refine Calls.mono (HF.out _) ?_
        rintro e w2 ⟨rfl, hb2⟩
        go_wp2
        go_ret2
        exact ⟨rfl, ((Below.refl _ _).alloc (Nat.le_refl _) _).trans (hb2.mono (by simp))⟩
    · rw [if_neg hp] at he; exact absurd rfl he
  · rw [if_pos hk]
    have hk' : (Sp.noFile o.kind != 0) = true := by simpa using hk
    clear he hk
    generalize Sp.noFile o.kind = z at *
    unfold objC at HF ⊢
    dsimp only at HF ⊢
    go_enter Try.func20, Try.ntmps20
    go_wp2_with fail
    refine Calls.mono (HF.out _) ?_
    rintro e w2 ⟨rfl, hb2⟩
    go_wp2
    go_ret2
    exact ⟨rfl, ((Below.refl _ _).alloc (Nat.le_refl _) _).trans (hb2.mono (by simp))⟩
theorem Row.nil' (w : World) (S : Nat → Prop) (k : Nat) (a : Option Addr) (n c : Nat) (h : n = 0) : Row w S k (.slice a n c) [] := by subst h; exact Row.nil _ _ _ _ _
theorem Bytes.sub {w : World} {S : Nat → Prop} {b o c : Nat} {d : List UInt8} (h : Bytes w S (.slice (some ⟨b, o, none⟩) d.length c) d) (p n m c' : Nat) (hm : m = ((d.drop p).take n).length) (hc : m ≤ c') (hc' : c' ≤ maxLen) : Bytes w S (.slice (some ⟨b, o + p, none⟩) m c') ((d.drop p).take n) := by
  rcases h with ⟨a, c, e, hn⟩ | ⟨b', o', c0, e, hS, h3, h4, h5⟩
  · rw [List.map_eq_nil_iff.1 hn] at hm ⊢
    simp at hm ⊢
    subst hm
    exact Row.nil _ _ _ _ _
  · obtain ⟨h1, -, -⟩ := Value.slice.inj e
    obtain ⟨rfl, rfl, -⟩ := Addr.mk.inj (Option.some.inj h1)
    subst hm
    refine Or.inr ⟨b, o + p, c', by rw [List.length_map], hS, by rw [List.length_map]; exact hc, hc', fun i cs hi j u hj => ?_⟩
    rw [List.getElem?_map] at hi
    cases hx : ((d.drop p).take n)[i]? with
    | none => rw [hx] at hi; cases hi
    | some x =>
      rw [hx] at hi
      simp at hi
      subst hi
      rw [List.getElem?_take] at hx
      split at hx
      · rw [List.getElem?_drop] at hx
        have := h5 (p + i) (byteC x) (by rw [List.getElem?_map, hx]; rfl) j u hj
        rw [show o + p + i * 1 + j = o + (p + i) * 1 + j by omega]
        exact this
      · cases hx
theorem read_ok (s : Sls) (o : Sp.Ob) (S : Nat → Prop) (p n : Nat) (w : World) (hd : Bytes w S (.slice s.d.a s.d.n s.d.c) o.data) (hS : ∀ b, S b → b < w.heap.size) (hl : o.data.length ≤ 140737488355328) (hk : Sp.noFile o.kind = 0) :
    Calls Try.prog 20 #[.agg (objC (s, o)).toArray, .int .i64 p, .int .i64 n] w fun e w' => ∃ r : Sl, e = .returned (.tuple #[.slice r.a r.n r.c, .int .i64 0]) ∧ Bytes w' (fun b => w.heap.size ≤ b ∧ b < w'.heap.size) (.slice r.a r.n r.c) ((o.data.drop p).take n) ∧ Below w.heap.size w w' := by
  have HF : Hid (∀ W, Calls Try.prog 57 #[.agg (objC (s, o)).toArray] W fun e w' => e = .returned (.int .i64 (Sp.noFile o.kind)) ∧ Below W.heap.size W w') := fun W => noFile_any s o W
  rw [hk] at HF
  unfold objC at HF ⊢
  dsimp only at HF ⊢
  obtain ⟨⟨da, dn, dc⟩, se, sq⟩ := s
  obtain ⟨kd, dd, es, tg, pe, qu, pr, li, up⟩ := o
  dsimp only at hd hl HF ⊢
  have hdn := Row.eqNil hd
  rw [List.length_map] at hdn
  subst hdn
  have HD : Hid (Bytes w S (.slice da dd.length dc) dd) := hd
  have HS : Hid (∀ b, S b → b < w.heap.size) := hS
  clear hd hS hk
  by_cases hp : p < dd.length
  · obtain ⟨b, of, c', he, hSb, h3, h4, -⟩ := Row.some HD.out (by rw [List.length_map]; omega)
    rw [List.length_map] at he h3
    obtain ⟨rfl, -, rfl⟩ := Value.slice.inj he
    clear he
    have HL : Hid (∀ N : Nat, N = ((dd.drop p).take n).length → Bytes w S (.slice (some ⟨b, of + p, none⟩) N (dc - p)) ((dd.drop p).take n)) := fun N hN => HD.out.sub p n N (dc - p) hN (by rw [hN, List.length_take, List.length_drop]; omega) (by omega)
    unfold maxLen at h4
    have hlen : ((dd.drop p).take n).length = min n (dd.length - p) := by rw [List.length_take, List.length_drop]
    generalize (dd.drop p).take n = R at *
    by_cases hn : n ≤ dd.length - p
    · have HN : Hid (n = R.length) := by unfold Hid; omega
      have hR : R.length ≤ 140737488355328 := by omega
      clear hlen
      go_enter Try.func20, Try.ntmps20
      go_wp2_with fail
      refine Calls.mono (HF.out _) ?_
      rintro e w2 ⟨rfl, hb2⟩
      have hB2 := ((Below.refl w.heap.size w).alloc (Nat.le_refl _) _).trans (hb2.mono (by simp))
      obtain ⟨hc, -⟩ := bcell hb2
      clear hb2
      go_wp2_with fail
      all_goals
        refine (ownBytes_any R _ S _ (Row.on (HL.out n HN.out) ((On.of hB2).less HS.out)) hR).mono ?_
        rintro e w3 ⟨r, rfl, hm3, hb3⟩
        go_wp2
        go_ret2
        exact ⟨r, rfl, Row.more (hm3.row (even_byte R)) (fun b hb => ⟨Nat.le_trans hB2.size hb.1, hb.2⟩), hB2.trans (hb3.mono hB2.size)⟩
    · have HN : Hid (dd.length - p = R.length) := by unfold Hid; omega
      have hR : R.length ≤ 140737488355328 := by omega
      clear hlen
      go_enter Try.func20, Try.ntmps20
      go_wp2_with fail
      refine Calls.mono (HF.out _) ?_
      rintro e w2 ⟨rfl, hb2⟩
      have hB2 := ((Below.refl w.heap.size w).alloc (Nat.le_refl _) _).trans (hb2.mono (by simp))
      obtain ⟨hc, -⟩ := bcell hb2
      clear hb2
      go_wp2_with fail
      all_goals
        refine (ownBytes_any R _ S _ (Row.on (HL.out (dd.length - p) HN.out) ((On.of hB2).less HS.out)) hR).mono ?_
        rintro e w3 ⟨r, rfl, hm3, hb3⟩
        go_wp2
        go_ret2
        exact ⟨r, rfl, Row.more (hm3.row (even_byte R)) (fun b hb => ⟨Nat.le_trans hB2.size hb.1, hb.2⟩), hB2.trans (hb3.mono hB2.size)⟩
  · have HR : Hid ((dd.drop p).take n = []) := by unfold Hid; rw [List.drop_eq_nil_of_le (by omega)]; simp
    rw [HR.out]
    have hp' : (dd.length : Int) ≤ p := by omega
    go_enter Try.func20, Try.ntmps20
    go_wp2_with fail
    refine Calls.mono (HF.out _) ?_
    rintro e w2 ⟨rfl, hb2⟩
    have hB2 := ((Below.refl w.heap.size w).alloc (Nat.le_refl _) _).trans (hb2.mono (by simp))
    obtain ⟨hc, -⟩ := bcell hb2
    clear hb2
    go_wp2_with fail
    all_goals
      refine (ownBytes_any [] _ S _ (Row.nil' _ _ _ _ _ _ (by omega)) (by simp)).mono ?_
      rintro e w3 ⟨r, rfl, hm3, hb3⟩
      go_wp2
      go_ret2
      exact ⟨r, rfl, Row.more (hm3.row (even_byte [])) (fun b hb => ⟨Nat.le_trans hB2.size hb.1, hb.2⟩), hB2.trans (hb3.mono hB2.size)⟩
end Go.Proofs.Ytaobjpajbpoamaa
