
/-
  Paths, as chapter 4 has them: plain facts of lists of bytes.
-/
import Derived.Lib.SplitLaws
import Derived.Lib.Join
namespace Go.Proofs.Pt
open Go
/-- What stands in names. -/
def inN (c : UInt8) : Bool := decide ((97 ≤ c.toNat ∧ c.toNat ≤ 122) ∨ (48 ≤ c.toNat ∧ c.toNat ≤ 57) ∨ c.toNat = 46 ∨ c.toNat = 95)
/-- Whether a text is a name. -/
def isName (l : List UInt8) : Bool := decide (l ≠ [] ∧ l.length ≤ 12 ∧ l ≠ [46] ∧ l ≠ [46, 46]) && l.all inN
/-- What stands between signs 47. -/
def cut : List UInt8 → List (List UInt8)
  | [] => [[]]
  | c :: l => if c = 47 then [] :: cut l else ((c :: (cut l).headD []) :: (cut l).tail)
theorem cut_ne (l : List UInt8) : cut l ≠ [] := by
  cases l with
  | nil => simp [cut]
  | cons c l => rw [cut]; split <;> simp
theorem cut_cons (l : List UInt8) : ∃ p r, cut l = p :: r := by
  cases h : cut l with
  | nil => exact absurd h (cut_ne l)
  | cons p r => exact ⟨p, r, rfl⟩
theorem cut_no : ∀ (l : List UInt8), (47 : UInt8) ∉ l → cut l = [l]
  | [], _ => rfl
  | c :: l, h => by
    have hc : c ≠ 47 := fun e => h (by simp [e])
    have hl : (47 : UInt8) ∉ l := fun e => h (by simp [e])
    rw [cut, if_neg hc, cut_no l hl]; rfl
theorem cut_at : ∀ (l r : List UInt8), (47 : UInt8) ∉ l → cut (l ++ 47 :: r) = l :: cut r
  | [], r, _ => by simp [cut]
  | c :: l, r, h => by
    have hc : c ≠ 47 := fun e => h (by simp [e])
    have hl : (47 : UInt8) ∉ l := fun e => h (by simp [e])
    rw [List.cons_append, cut, if_neg hc, cut_at l r hl]; rfl
theorem cut_join : ∀ (xs : List (List UInt8)), xs ≠ [] → (∀ x ∈ xs, (47 : UInt8) ∉ x) → cut (Lib.join xs [47]) = xs
  | [], h, _ => absurd rfl h
  | [x], _, h => by rw [Lib.join_one]; exact cut_no x (h x (by simp))
  | x :: y :: r, _, h => by
    have e : Lib.join (x :: y :: r) [47] = x ++ 47 :: Lib.join (y :: r) [47] := by
      rw [Lib.join_cons, Lib.join_cons]; simp [Lib.joinTail]
    rw [e, cut_at x _ (h x (by simp)), cut_join (y :: r) (by simp) (fun z hz => h z (by simp at hz ⊢; right; exact hz))]
/-- bytes, and the signs between -/
def wide (xs : List (List UInt8)) : Nat := (xs.map fun x => x.length + 1).sum
theorem wide_cut : ∀ l : List UInt8, wide (cut l) = l.length + 1
  | [] => rfl
  | c :: l => by
    have ih := wide_cut l
    rw [cut]
    split
    · unfold wide at ih ⊢; simp only [List.map_cons, List.sum_cons, List.length_nil, List.length_cons, ih]; omega
    · obtain ⟨p, r, e⟩ := cut_cons l
      rw [e] at ih ⊢
      unfold wide at ih ⊢
      simp only [List.headD_cons, List.tail_cons, List.map_cons, List.sum_cons, List.length_cons] at ih ⊢
      omega
theorem wide_filter (p : List UInt8 → Bool) : ∀ xs : List (List UInt8), wide (xs.filter p) ≤ wide xs
  | [] => Nat.le_refl _
  | x :: r => by
    have ih := wide_filter p r
    unfold wide at ih ⊢
    rw [List.filter_cons]
    split
    · simp only [List.map_cons, List.sum_cons]; omega
    · simp only [List.map_cons, List.sum_cons]; omega
theorem wide_join : ∀ xs : List (List UInt8), xs ≠ [] → (Lib.join xs [47]).length + 1 = wide xs
  | [], h => absurd rfl h
  | x :: r, _ => by
    rw [Lib.join_length]
    unfold Lib.lens wide
    have : ∀ r : List (List UInt8), (r.map fun x => x.length + 1).sum = r.length + (r.map (·.length)).sum := by
      intro r
      induction r with
      | nil => rfl
      | cons a t ih => simp only [List.map_cons, List.sum_cons, List.length_cons, ih]; omega
    simp only [List.map_cons, List.sum_cons, this, List.length_cons, List.length_nil]
    omega
theorem join_le (xs : List (List UInt8)) : (Lib.join xs [47]).length ≤ wide xs := by
  cases xs with
  | nil => simp [Lib.join_nil]
  | cons x r => have := wide_join (x :: r) (by simp); omega
/-- What is not kept of a path. -/
def idle (p : List UInt8) : Bool := decide (p = [] ∨ p = [46])
def keep (p : List UInt8) : Bool := !idle p
/-- What may stand between. -/
def fit (p : List UInt8) : Bool := decide (p = [46, 46]) || isName p
/-- A path's parts. -/
def parts (l : List UInt8) : List (List UInt8) := (cut l).filter keep
def fine (l : List UInt8) : Bool := (parts l).all fit
def root (l : List UInt8) : Bool := decide (l.head? = some 47)
/-- Parts joined. -/
def joined (xs : List (List UInt8)) (r : Bool) : List UInt8 := if r then 47 :: Lib.join xs [47] else if xs = [] then [46] else Lib.join xs [47]
theorem inN_47 : inN 47 = false := by decide
theorem fit_plain {x : List UInt8} (h : fit x = true) : (47 : UInt8) ∉ x := by
  unfold fit at h
  rw [Bool.or_eq_true, decide_eq_true_eq] at h
  rcases h with rfl | h
  · decide
  · unfold isName at h
    rw [Bool.and_eq_true, List.all_eq_true] at h
    intro hm
    have := h.2 _ hm
    rw [inN_47] at this
    cases this
theorem keep_ne {x : List UInt8} (h : keep x = true) : x ≠ [] ∧ x ≠ [46] := by
  unfold keep idle at h
  rw [Bool.not_eq_true', decide_eq_false_iff_not] at h
  exact ⟨fun e => h (Or.inl e), fun e => h (Or.inr e)⟩
theorem parts_keep (l : List UInt8) : ∀ x ∈ parts l, keep x = true := fun _ hx => (List.mem_filter.1 hx).2
theorem filter_self (xs : List (List UInt8)) (h : ∀ x ∈ xs, keep x = true) : xs.filter keep = xs := List.filter_eq_self.2 h
theorem root_cut {l : List UInt8} (h : root l = true) : ∃ r, l = 47 :: r := by
  unfold root at h
  rw [decide_eq_true_eq] at h
  cases l with
  | nil => cases h
  | cons c r => simp at h; exact ⟨r, by rw [h]⟩
theorem idle_nil : keep [] = false := by decide
theorem idle_dot : keep [46] = false := by decide
/-- What parts, joined, are parted into, and how long that is. -/
theorem turn (l : List UInt8) (hf : fine l = true) :
    parts (joined (parts l) (root l)) = parts l ∧ root (joined (parts l) (root l)) = root l ∧ joined (parts l) (root l) ≠ [] ∧ (joined (parts l) (root l)).length ≤ max l.length 1 := by
  have hk := parts_keep l
  have hp : ∀ x ∈ parts l, (47 : UInt8) ∉ x := fun x hx => fit_plain (List.all_eq_true.1 hf x hx)
  have hw : wide (parts l) ≤ l.length + 1 := by rw [← wide_cut l]; exact wide_filter keep (cut l)
  cases hr : root l with
  | true =>
    obtain ⟨t, rfl⟩ := root_cut hr
    have hw2 : wide (parts (47 :: t)) ≤ t.length + 1 := by
      have e : parts (47 :: t) = parts t := by
        unfold parts; rw [cut, if_pos rfl, List.filter_cons, idle_nil]; rfl
      rw [e, ← wide_cut t]; exact wide_filter keep (cut t)
    unfold joined
    rw [if_pos rfl]
    generalize parts (47 :: t) = xs at *
    refine ⟨?_, rfl, by simp, ?_⟩
    · unfold parts
      rw [cut, if_pos rfl, List.filter_cons, idle_nil]
      cases xs with
      | nil => rfl
      | cons x r =>
        rw [cut_join (x :: r) (by simp) hp]
        exact filter_self _ hk
    · cases xs with
      | nil => simp [Lib.join_nil]
      | cons x r =>
        have := wide_join (x :: r) (by simp)
        simp only [List.length_cons] at *
        omega
  | false =>
    unfold joined
    rw [if_neg (by simp)]
    generalize parts l = xs at *
    cases xs with
    | nil =>
      rw [if_pos rfl]
      exact ⟨by decide, by decide, by simp, by simp; omega⟩
    | cons x r =>
      rw [if_neg (by simp)]
      have hx := keep_ne (hk x (by simp))
      have hw3 := wide_join (x :: r) (by simp)
      refine ⟨?_, ?_, ?_, by omega⟩
      · unfold parts
        rw [cut_join (x :: r) (by simp) hp]
        exact filter_self _ hk
      · rw [Lib.join_cons]
        cases x with
        | nil => exact absurd rfl hx.1
        | cons c x =>
          have : c ≠ 47 := fun e => hp (c :: x) (by simp) (by simp [e])
          unfold root
          simp [this]
      · rw [Lib.join_cons]
        intro e
        exact hx.1 (List.append_eq_nil_iff.1 e).1
theorem fine_again (l : List UInt8) (hf : fine l = true) : fine (joined (parts l) (root l)) = true := by
  have := (turn l hf).1
  unfold fine at hf ⊢
  rw [this]; exact hf
theorem index_cons_ne (c : UInt8) (l : List UInt8) (h : c ≠ 47) : Lib.index (c :: l) [47] = if Lib.index l [47] == -1 then -1 else Lib.index l [47] + 1 := by
  have hp : ([47] : List UInt8).isPrefixOf (c :: l) = false := by simp [List.isPrefixOf, Ne.symm h]
  rw [Lib.index, hp]; simp
theorem splitK_cons (c : UInt8) (l : List UInt8) (h : c ≠ 47) : ∀ n, Lib.splitK [47] 0 n (c :: l) = (c :: (Lib.splitK [47] 0 n l).headD []) :: (Lib.splitK [47] 0 n l).tail
  | 0 => rfl
  | n + 1 => by
    rw [Lib.splitK, Lib.splitK, index_cons_ne c l h]
    have hge := Lib.index_ge l [47]
    by_cases hm : Lib.index l [47] = -1
    · rw [hm]; rfl
    · obtain ⟨j, hj⟩ : ∃ j : Nat, Lib.index l [47] = j := ⟨(Lib.index l [47]).toNat, by omega⟩
      rw [hj]
      have e1 : ((j : Int) == -1) = false := by rw [beq_eq_false_iff_ne]; omega
      have e2 : ((j : Int) + 1 == -1) = false := by rw [beq_eq_false_iff_ne]; omega
      have e3 : ((j : Int) + 1).toNat = j + 1 := by omega
      simp only [e1, e2, Bool.false_eq_true, if_false, e3, Int.toNat_natCast]
      simp
/-- the pieces of strings.Split at the sign 47 -/
theorem splitK_cut : ∀ l : List UInt8, Lib.splitK [47] 0 (Lib.count l [47]) l = cut l
  | [] => by rw [Lib.count_miss (by simp [Lib.index])]; rfl
  | c :: l => by
    have ih := splitK_cut l
    by_cases h : c = 47
    · subst h
      have hix : Lib.index (47 :: l) [47] = ((0 : Nat) : Int) := by rw [Lib.index]; simp [List.isPrefixOf]
      rw [Lib.count_cons_eq, Nat.add_comm, Lib.splitK, hix, cut, if_pos rfl, ← ih]
      simp
    · rw [Lib.count_cons_ne c 47 l h, splitK_cons c l h, ih, cut, if_neg h]
/-- strings.Split's own answer at the sign 47. -/
def pcs (s : ByteArray) : List ByteArray := Lib.splitB ⟨#[47]⟩ 0 (Lib.countB s ⟨#[47]⟩) s
theorem pcs_cut (s : ByteArray) : (pcs s).map (·.data.toList) = cut s.data.toList := by
  unfold pcs
  rw [Lib.splitB_data]
  exact splitK_cut s.data.toList
theorem pcs_length (s : ByteArray) : (pcs s).length = Lib.countB s ⟨#[47]⟩ + 1 := Lib.splitB_all ⟨#[47]⟩ (by decide) 0 _ s rfl
theorem bytes_ext {a b : ByteArray} (h : a.data.toList = b.data.toList) : a = b := by
  obtain ⟨⟨x⟩⟩ := a; obtain ⟨⟨y⟩⟩ := b; simp at h; rw [h]
/-- How far up: (the height, the highest). -/
def step (h : Int × Int) (x : List UInt8) : Int × Int := (if x = [46, 46] then h.1 + 1 else h.1 - 1, max h.2 (if x = [46, 46] then h.1 + 1 else h.1 - 1))
def climb (xs : List (List UInt8)) : Int × Int := xs.foldl step (0, 0)
def ups (xs : List (List UInt8)) : Nat := (xs.filter fun x => decide (x = [46, 46])).length
theorem climb_snoc (xs : List (List UInt8)) (x : List UInt8) : climb (xs ++ [x]) = step (climb xs) x := by
  unfold climb; rw [List.foldl_append]; rfl
theorem ups_snoc (xs : List (List UInt8)) (x : List UInt8) : ups (xs ++ [x]) = ups xs + if x = [46, 46] then 1 else 0 := by
  unfold ups; rw [List.filter_append, List.length_append, List.filter_cons, List.filter_nil]
  by_cases h : x = [46, 46] <;> simp [h]
theorem climb_facts (xs : List (List UInt8)) : -(xs.length : Int) ≤ (climb xs).1 ∧ (climb xs).1 ≤ (climb xs).2 ∧ 0 ≤ (climb xs).2 ∧ (climb xs).2 ≤ ups xs ∧ (climb xs).1 ≤ ups xs ∧ ups xs ≤ xs.length := by
  rw [← List.reverse_reverse xs]
  generalize xs.reverse = ys
  induction ys with
  | nil => simp [climb, ups]
  | cons x ys ih =>
    rw [List.reverse_cons]
    generalize ys.reverse = xs at *
    rw [climb_snoc, ups_snoc, List.length_append]
    unfold step
    simp only [List.length_cons, List.length_nil]
    split <;> omega
end Go.Proofs.Pt
