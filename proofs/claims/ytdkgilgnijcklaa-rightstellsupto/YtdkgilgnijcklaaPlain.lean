import Derived.Laws.BitsAllLaws
import Derived.Laws.BitsLemmas
import Derived.RowKit
import Derived.Lib.IndexMore
import Derived.Lib.IndexBytes
import Derived.Lib.IndexLaws
namespace Go.Proofs.Rg
open Go Go.RowKit

/-! ### Sets of rights as numbers below 4096: plain facts, nothing of the program -/

def meet (a b : Nat) : Nat := a &&& b
def join (a b : Nat) : Nat := a ||| b
def within (a b : Nat) : Bool := a &&& b == a
def count (n : Nat) : Nat := n % 2 + n / 2 % 2 + n / 4 % 2 + n / 8 % 2 + n / 16 % 2 + n / 32 % 2 + n / 64 % 2 + n / 128 % 2 + n / 256 % 2 + n / 512 % 2 + n / 1024 % 2 + n / 2048 % 2

theorem meet_lt (a b : Nat) (ha : a < 4096) : meet a b < 4096 := by
  have := Nat.and_le_left (n := a) (m := b); unfold meet; omega
theorem join_lt (a b : Nat) (ha : a < 4096) (hb : b < 4096) : join a b < 4096 := by
  exact Nat.or_lt_two_pow (n := 12) ha hb

theorem i64_and_nat (a b : Nat) (ha : a < 4611686018427387904) : bits .and .i64 (a : Int) (b : Int) = ((meet a (b % 18446744073709551616) : Nat) : Int) := by
  have hx : a &&& (b % 18446744073709551616) ≤ a := Nat.and_le_left
  show IntKind.i64.wrap ((BitVec.ofInt 64 (a : Int) &&& BitVec.ofInt 64 (b : Int)).toNat : Int) = _
  rw [BitVec.toNat_and, BitVec.ofInt_natCast, BitVec.toNat_ofNat, BitVec.ofInt_natCast, BitVec.toNat_ofNat, IntKind.wrap_i64]
  have e1 : a % 2 ^ 64 = a := by omega
  have e2 : b % 2 ^ 64 = b % 18446744073709551616 := by omega
  rw [e1, e2]
  unfold meet
  omega
theorem i64_and (a b : Nat) (ha : a < 4096) (hb : b < 4096) : bits .and .i64 (a : Int) (b : Int) = ((meet a b : Nat) : Int) := by
  rw [i64_and_nat a b (by omega), Nat.mod_eq_of_lt (by omega)]
theorem i64_or (a b : Nat) (ha : a < 4096) (hb : b < 4096) : bits .or .i64 (a : Int) (b : Int) = ((join a b : Nat) : Int) := by
  have hx := join_lt a b ha hb
  show IntKind.i64.wrap ((BitVec.ofInt 64 (a : Int) ||| BitVec.ofInt 64 (b : Int)).toNat : Int) = _
  rw [BitVec.toNat_or, BitVec.ofInt_natCast, BitVec.toNat_ofNat, BitVec.ofInt_natCast, BitVec.toNat_ofNat, IntKind.wrap_i64]
  have e1 : a % 2 ^ 64 = a := by omega
  have e2 : b % 2 ^ 64 = b := by omega
  rw [e1, e2]
  unfold join at *
  omega
theorem andNot_zero (a b : Nat) (ha : a < 4096) (hb : b < 4096) : a &&& (2 ^ 64 - 1 - b) = 0 ↔ a &&& b = a := by
  have e : 2 ^ 64 - 1 - b = 2 ^ 64 - (b + 1) := by omega
  rw [e]
  constructor
  · intro h
    apply Nat.eq_of_testBit_eq
    intro j
    have hj := congrArg (fun x => Nat.testBit x j) h
    simp only [Nat.testBit_and, Nat.zero_testBit, Nat.testBit_two_pow_sub_succ (by omega : b < 2 ^ 64)] at hj
    rw [Nat.testBit_and]
    by_cases h64 : j < 64
    · cases ha' : a.testBit j <;> cases hb' : b.testBit j <;> simp_all
    · have : a.testBit j = false := Nat.testBit_lt_two_pow (Nat.lt_of_lt_of_le ha (by
        have : 2 ^ 12 ≤ 2 ^ j := Nat.pow_le_pow_right (by decide) (by omega)
        omega))
      simp [this]
  · intro h
    apply Nat.eq_of_testBit_eq
    intro j
    have hj := congrArg (fun x => Nat.testBit x j) h
    simp only [Nat.testBit_and] at hj
    rw [Nat.testBit_and, Nat.zero_testBit, Nat.testBit_two_pow_sub_succ (by omega : b < 2 ^ 64)]
    cases ha' : a.testBit j <;> cases hb' : b.testBit j <;> simp_all
theorem i64_within (a b : Nat) (ha : a < 4096) (hb : b < 4096) : (bits .andNot .i64 (a : Int) (b : Int) == 0) = within a b := by
  have hx : a &&& (2 ^ 64 - 1 - b) ≤ a := Nat.and_le_left
  have h0 : bits .andNot .i64 (a : Int) (b : Int) = ((a &&& (2 ^ 64 - 1 - b) : Nat) : Int) := by
    show IntKind.i64.wrap ((BitVec.ofInt 64 (a : Int) &&& ~~~BitVec.ofInt 64 (b : Int)).toNat : Int) = _
    rw [BitVec.toNat_and, BitVec.toNat_not, BitVec.ofInt_natCast, BitVec.toNat_ofNat, BitVec.ofInt_natCast, BitVec.toNat_ofNat, IntKind.wrap_i64]
    have e1 : a % 2 ^ 64 = a := by omega
    have e2 : b % 2 ^ 64 = b := by omega
    rw [e1, e2]
    omega
  rw [h0, Bool.eq_iff_iff]
  unfold within
  rw [beq_iff_eq, beq_iff_eq, ← andNot_zero a b ha hb]
  omega
/-- 'x &^ 63' at every int. -/
theorem i64_andNot63 (n : Int) : bits .andNot .i64 n 63 = wrap64 ((n % 18446744073709551616) / 64 * 64) := by
  have key : (BitVec.ofInt 64 n &&& ~~~BitVec.ofInt 64 63).toNat = (n % ((2 ^ 64 : Nat) : Int)).toNat % 2 ^ 64 / 2 ^ 6 * 2 ^ 6 := by
    have h63 : (~~~BitVec.ofInt 64 63).toNat = 2 ^ 64 - 2 ^ 6 := by decide
    rw [BitVec.toNat_and, BitVec.toNat_ofInt, h63, nat_midmask 64 6 _ (by decide)]
  show IntKind.i64.wrap ((BitVec.ofInt 64 n &&& ~~~BitVec.ofInt 64 63).toNat : Nat) = _
  rw [key, IntKind.wrap_i64]
  unfold wrap64
  omega
theorem i64_and63 (n : Int) : bits .and .i64 n 63 = n % 64 := by
  have h63 : (BitVec.ofInt 64 63).toNat = 2 ^ 6 - 1 := by decide
  have key : (BitVec.ofInt 64 n &&& BitVec.ofInt 64 63).toNat = (n % ((2 ^ 64 : Nat) : Int)).toNat % 2 ^ 6 := by
    rw [BitVec.toNat_and, BitVec.toNat_ofInt, h63, Nat.and_two_pow_sub_one_eq_mod]
  show IntKind.i64.wrap ((BitVec.ofInt 64 n &&& BitVec.ofInt 64 63).toNat : Nat) = n % 64
  rw [key, IntKind.wrap_i64]
  omega
theorem low_is (n : Int) (h : -9223372036854775808 ≤ n ∧ n ≤ 9223372036854775807) : (bits .andNot .i64 n 63 != 64) = !decide (64 ≤ n ∧ n ≤ 127) := by
  rw [i64_andNot63]; unfold wrap64
  rw [Bool.eq_iff_iff]
  simp only [bne_iff_ne, Bool.not_eq_true', decide_eq_false_iff_not]
  omega
theorem high_is (n : Int) (h : -9223372036854775808 ≤ n ∧ n ≤ 9223372036854775807) : (bits .andNot .i64 n 63 != 128) = !decide (128 ≤ n ∧ n ≤ 191) := by
  rw [i64_andNot63]; unfold wrap64
  rw [Bool.eq_iff_iff]
  simp only [bne_iff_ne, Bool.not_eq_true', decide_eq_false_iff_not]
  omega
def lo (n : Nat) : Nat := n % 64 + 64
def hi (n : Nat) : Nat := n / 64 % 64 + 128
theorem i64_or_nat (a b : Nat) (ha : a < 4096) (hb : b < 4096) : bits .or .i64 (a : Int) (b : Int) = ((a ||| b : Nat) : Int) := i64_or a b ha hb
theorem lo_is (n : Nat) : bits .or .i64 (bits .and .i64 (n : Int) 63) 64 = (lo n : Nat) := by
  rw [i64_and63]
  have e : (n : Int) % 64 = ((n % 64 : Nat) : Int) := by omega
  rw [e]
  have := i64_or_nat (n % 64) 64 (by omega) (by omega)
  rw [show ((64 : Nat) : Int) = 64 from rfl] at this
  rw [this, Nat.or_comm, nat_join 6 64 (n % 64) (by decide) (by omega)]
  unfold lo; omega
theorem hi_is (n : Nat) : bits .or .i64 (bits .and .i64 ((n : Int) / 64) 63) 128 = (hi n : Nat) := by
  rw [i64_and63]
  have e : (n : Int) / 64 % 64 = ((n / 64 % 64 : Nat) : Int) := by omega
  rw [e]
  have := i64_or_nat (n / 64 % 64) 128 (by omega) (by omega)
  rw [show ((128 : Nat) : Int) = 128 from rfl] at this
  rw [this, Nat.or_comm, nat_join 6 128 (n / 64 % 64) (by decide) (by omega)]
  unfold hi; omega
/-- the set of two words -/
def fw (a b : Int) : Nat := (a % 64 + 64 * (b % 64)).toNat
theorem fw_is (a b : Int) : bits .or .i64 (bits .and .i64 a 63) (wrap64 (bits .and .i64 b 63 * 64)) = (fw a b : Nat) := by
  rw [i64_and63, i64_and63]
  have e1 : a % 64 = (((a % 64).toNat : Nat) : Int) := by omega
  have e2 : wrap64 (b % 64 * 64) = (((b % 64).toNat * 64 : Nat) : Int) := by unfold wrap64; omega
  rw [e2, e1, i64_or_nat _ _ (by omega) (by omega), Nat.or_comm, nat_join 6 _ _ (by omega) (by omega)]
  unfold fw; omega
/-- these words are a set's -/
def okw (a b : Int) : Bool := decide ((64 ≤ a ∧ a ≤ 127) ∧ 128 ≤ b ∧ b ≤ 191)
theorem fw_lt (a b : Int) : fw a b < 4096 := by unfold fw; omega
/-! ### The twelve names -/
def nm : List ByteArray := [⟨#[114, 101, 97, 100]⟩, ⟨#[119, 114, 105, 116, 101]⟩, ⟨#[115, 101, 101, 107]⟩, ⟨#[108, 111, 111, 107, 117, 112]⟩, ⟨#[99, 114, 101, 97, 116, 101]⟩, ⟨#[117, 110, 108, 105, 110, 107]⟩, ⟨#[108, 105, 115, 116]⟩, ⟨#[115, 116, 97, 116]⟩, ⟨#[115, 101, 110, 100]⟩, ⟨#[114, 101, 99, 118]⟩, ⟨#[119, 97, 105, 116]⟩, ⟨#[107, 105, 108, 108]⟩]
def nmL : List (List UInt8) := [[114, 101, 97, 100], [119, 114, 105, 116, 101], [115, 101, 101, 107], [108, 111, 111, 107, 117, 112], [99, 114, 101, 97, 116, 101], [117, 110, 108, 105, 110, 107], [108, 105, 115, 116], [115, 116, 97, 116], [115, 101, 110, 100], [114, 101, 99, 118], [119, 97, 105, 116], [107, 105, 108, 108]]
theorem nm_length : nm.length = 12 := rfl
theorem nmL_length : nmL.length = 12 := rfl
theorem nm_nmL : nm.map (·.data.toList) = nmL := rfl
def idxIn (x : List UInt8) : List (List UInt8) → Nat → Int
  | [], _ => -1
  | y :: ys, k => if x = y then k else idxIn x ys (k + 1)
/-- the place of a name; -1: it is none -/
def idx (x : List UInt8) : Int := idxIn x nmL 0
theorem idxIn_hit (x : List UInt8) : ∀ (ys : List (List UInt8)) (k b : Nat), ys[k]? = some x → (∀ j, j < k → ys[j]? ≠ some x) → idxIn x ys b = ((b + k : Nat) : Int)
  | [], k, b, h, _ => by simp at h
  | y :: ys, 0, b, h, _ => by
    have : y = x := by simpa using h
    simp [idxIn, this]
  | y :: ys, k + 1, b, h, hn => by
    have h0 : x ≠ y := by have := hn 0 (by omega); simp at this; exact fun e => this e.symm
    rw [idxIn, if_neg h0, idxIn_hit x ys k (b + 1) (by simpa using h) (fun j hj => by have := hn (j + 1) (by omega); simpa using this)]
    omega
theorem idxIn_miss (x : List UInt8) : ∀ (ys : List (List UInt8)) (b : Nat), (∀ j : Nat, ys[j]? ≠ some x) → idxIn x ys b = -1
  | [], b, _ => rfl
  | y :: ys, b, hn => by
    have h0 : x ≠ y := by have := hn 0; simp at this; exact fun e => this e.symm
    rw [idxIn, if_neg h0, idxIn_miss x ys (b + 1) (fun j => by have := hn (j + 1); simpa using this)]
theorem nmL_get (j : Nat) (x : ByteArray) (h : nm[j]? = some x) : nmL[j]? = some x.data.toList := by
  rw [← nm_nmL, List.getElem?_map, h]; rfl
theorem bytes_ext {a b : ByteArray} (h : a.data.toList = b.data.toList) : a = b := by
  cases a; cases b; simp only [ByteArray.mk.injEq]; exact Array.ext' h
theorem nm_of_nmL (j : Nat) (x : ByteArray) (h : nmL[j]? = some x.data.toList) : nm[j]? = some x := by
  rw [← nm_nmL, List.getElem?_map, Option.map_eq_some_iff] at h
  obtain ⟨y, hy, e⟩ := h
  rw [hy, bytes_ext e]
theorem idx_hit (x : ByteArray) (k : Nat) (h : nm[k]? = some x) (hn : ∀ j, j < k → nm[j]? ≠ some x) : idx x.data.toList = (k : Int) := by
  unfold idx
  rw [idxIn_hit x.data.toList nmL k 0 (nmL_get k x h) (fun j hj e => hn j hj (nm_of_nmL j x e))]
  omega
theorem idx_miss (x : ByteArray) (hn : ∀ j : Nat, nm[j]? ≠ some x) : idx x.data.toList = -1 := by
  unfold idx
  exact idxIn_miss _ _ _ (fun j e => hn j (nm_of_nmL j x e))
theorem idx_cases (x : List UInt8) : idx x = -1 ∨ ∃ k : Nat, k < 12 ∧ idx x = (k : Int) ∧ nmL[k]? = some x := by
  by_cases h : x ∈ nmL
  · right
    unfold nmL at h
    simp only [List.mem_cons, List.not_mem_nil, or_false] at h
    rcases h with h | h | h | h | h | h | h | h | h | h | h | h <;> subst h
    · exact ⟨0, by decide, rfl, rfl⟩
    · exact ⟨1, by decide, rfl, rfl⟩
    · exact ⟨2, by decide, rfl, rfl⟩
    · exact ⟨3, by decide, rfl, rfl⟩
    · exact ⟨4, by decide, rfl, rfl⟩
    · exact ⟨5, by decide, rfl, rfl⟩
    · exact ⟨6, by decide, rfl, rfl⟩
    · exact ⟨7, by decide, rfl, rfl⟩
    · exact ⟨8, by decide, rfl, rfl⟩
    · exact ⟨9, by decide, rfl, rfl⟩
    · exact ⟨10, by decide, rfl, rfl⟩
    · exact ⟨11, by decide, rfl, rfl⟩
  · left
    unfold idx
    refine idxIn_miss _ _ _ fun j e => h (List.mem_of_getElem? e)

/-! ### A text cut at its commas, and what Parse makes of it -/
def pieces : List UInt8 → List (List UInt8)
  | [] => [[]]
  | c :: r => if c = 44 then [] :: pieces r else match pieces r with
    | p :: ps => (c :: p) :: ps
    | [] => [[c]]
theorem pieces_ne (l : List UInt8) : pieces l ≠ [] := by
  cases l with
  | nil => simp [pieces]
  | cons c r => simp only [pieces]; split; · simp
                split <;> simp
theorem pieces_no : ∀ (l : List UInt8), (∀ k : Nat, l[k]? ≠ some 44) → pieces l = [l]
  | [], _ => rfl
  | c :: r, h => by
    have h0 : c ≠ 44 := by have := h 0; simpa using this
    have hr := pieces_no r (fun k => by have := h (k + 1); simpa using this)
    rw [pieces, if_neg h0, hr]
theorem pieces_at : ∀ (l : List UInt8) (i : Nat), l[i]? = some 44 → (∀ k : Nat, k < i → l[k]? ≠ some 44) → pieces l = l.take i :: pieces (l.drop (i + 1))
  | [], i, h, _ => by simp at h
  | c :: r, 0, h, _ => by
    have : c = 44 := by simpa using h
    simp [pieces, this]
  | c :: r, i + 1, h, hn => by
    have h0 : c ≠ 44 := by have := hn 0 (by omega); simpa using this
    have hr := pieces_at r i (by simpa using h) (fun k hk => by have := hn (k + 1) (by omega); simpa using this)
    rw [pieces, if_neg h0, hr]
    simp
/-- the pieces from the left: (the set, the error's number) -/
def prs : List (List UInt8) → Nat → Int → Nat × Nat
  | [], set, _ => (set, 0)
  | p :: ps, set, last => if idx p < 0 then (0, 6) else if idx p ≤ last then (0, 2) else prs ps (join set (2 ^ (idx p).toNat)) (idx p)
def parse (l : List UInt8) : Nat × Nat := if l = [] then (0, 0) else prs (pieces l) 0 (-1)
/-- what is left behind a cut: none where there was no comma -/
theorem cut_pieces (l : List UInt8) : (Lib.cut l [44]).2.2 = true ∧ pieces l = (Lib.cut l [44]).1 :: pieces (Lib.cut l [44]).2.1 ∧ (Lib.cut l [44]).2.1.length < l.length ∨ (Lib.cut l [44]).2.2 = false ∧ pieces l = [(Lib.cut l [44]).1] ∧ (Lib.cut l [44]).2.1 = [] := by
  unfold Lib.cut
  rw [Lib.index_one]
  by_cases h : 0 ≤ Lib.indexByte l 44
  · left
    obtain ⟨i, hi⟩ := Int.eq_ofNat_of_zero_le h
    rw [if_pos h, hi]
    have hs := Lib.indexByte_some hi
    have hlt : i < l.length := by have := hs.1; exact (List.getElem?_eq_some_iff.1 this).1
    refine ⟨rfl, ?_, ?_⟩
    · simpa using pieces_at l i hs.1 hs.2
    · simp; omega
  · right
    rw [if_neg h]
    have := Lib.indexByte_ge l 44
    exact ⟨rfl, pieces_no l (Lib.indexByte_none (by omega)), rfl⟩
end Go.Proofs.Rg
