/-
  StoreWrites, walked.
-/
import Derived.Test.YtihfmlillgklkacSWritesP
namespace Go.Proofs.Ytihfmlillgklkac
open Go.RowKit
set_option maxRecDepth 100000 in
set_option maxHeartbeats 8000000 in
theorem writes_ok (d b : List UInt8) (k : Nat) (q : Int) (vd vb : Value) (w : World) (hd : Bytes w (fun x => x < w.heap.size) vd d) (hb : Bytes w (fun x => x < w.heap.size) vb b) (hdl : d.length ≤ 140737488355000) (hkb : k + b.length ≤ 60) :
    Calls Try.prog 5 #[vd, .int .i64 k, vb, .int .i64 q] w fun e w' => e = .returned (.bool true) ∧ Below w.heap.size w w' := by
  obtain ⟨da, dc, rfl, -⟩ := Row.form hd
  obtain ⟨ba, bc, rfl, -⟩ := Row.form hb
  rw [List.length_map] at hd hb ⊢
  rw [List.length_map]
  have HD : Hid (Bytes w (fun x => x < w.heap.size) (.slice da d.length dc) d) := hd
  have HB : Hid (Bytes w (fun x => x < w.heap.size) (.slice ba b.length bc) b) := hb
  have HW : Hid (∀ W, Below w.heap.size w W → Calls Try.prog 20 #[.agg (objC (⟨⟨da, d.length, dc⟩, nilSl, nilSl⟩, fileOf d)).toArray, .int .i64 k, .slice ba b.length bc] W fun e w' => ∃ s' : Sls, e = .returned (.tuple #[.agg (objC (s', fileOf (wrote d k b))).toArray, .int .i64 0]) ∧ Lists w' (fun x => W.heap.size ≤ x ∧ x < w'.heap.size) (s', fileOf (wrote d k b)) ∧ Below W.heap.size W w') := fun W hW => by
    have hL : Lists W (fun x => x < w.heap.size) (⟨⟨da, d.length, dc⟩, nilSl, nilSl⟩, fileOf d) := ⟨Row.on hd (On.of hW), Row.nil _ _ _ _ _, [], rfl, Row.nil _ _ _ _ _, fun t ht => by simp at ht⟩
    exact write_ok _ (fileOf d) k b _ _ W hL (Row.on hb (On.of hW)) (fun x hx => Nat.lt_of_lt_of_le hx hW.size) (fits_file d (by omega)) rfl hkb
  have HRO : Hid (∀ W (n : Nat), Below w.heap.size w W → Calls Try.prog 18 #[.agg (objC (⟨⟨da, d.length, dc⟩, nilSl, nilSl⟩, fileOf d)).toArray, .int .i64 n, .int .i64 1] W fun e w' => ∃ r : Sl, e = .returned (.tuple #[.slice r.a r.n r.c, .int .i64 0]) ∧ Bytes w' (fun b => W.heap.size ≤ b ∧ b < w'.heap.size) (.slice r.a r.n r.c) ((d.drop n).take 1) ∧ Below W.heap.size W w') := fun W n hW => read_ok _ (fileOf d) _ n 1 W (Row.on hd (On.of hW)) (fun x hx => Nat.lt_of_lt_of_le hx hW.size) (by show d.length ≤ _; omega) rfl
  have hxl : (wrote d k b).length ≤ 140737488355328 := by
    unfold wrote
    split
    · rw [lay_length]; omega
    · omega
  have HRX : Hid (∀ (s : Sls) (W W' : World) (S : Nat → Prop) (n m : Nat), Lists W S (s, fileOf (wrote d k b)) → (∀ x, S x → x < W.heap.size) → Below W.heap.size W W' → Calls Try.prog 18 #[.agg (objC (s, fileOf (wrote d k b))).toArray, .int .i64 n, .int .i64 m] W' fun e w' => ∃ r : Sl, e = .returned (.tuple #[.slice r.a r.n r.c, .int .i64 0]) ∧ Bytes w' (fun b => W'.heap.size ≤ b ∧ b < w'.heap.size) (.slice r.a r.n r.c) (((wrote d k b).drop n).take m) ∧ Below W'.heap.size W' w') := fun s W W' S n m hL hS hW => read_ok s (fileOf (wrote d k b)) S n m W' (Row.on hL.1 ((On.of hW).less hS)) (fun x hx => Nat.lt_of_lt_of_le (hS x hx) hW.size) hxl rfl
  have HWR : Hid (((wrote d k b).drop k).take b.length = b) := wrote_read d k b
  have HWO : Hid (∀ n : Nat, ¬ (k ≤ n ∧ n < k + b.length) → ((d.drop n).take 1 = [] ∧ (((wrote d k b).drop n).take 1 = [] ∨ ((wrote d k b).drop n).take 1 = [0])) ∨ ∃ x, (d.drop n).take 1 = [x] ∧ ((wrote d k b).drop n).take 1 = [x]) := fun n hn => wrote_other d k b n hn
  clear hd hb hxl
  generalize wrote d k b = X at *
  simp only [fileC] at HW HRO
  simp only [objV_eq] at HW HRX
  dsimp only [fileOf] at HW
  go_enter Try.func5, Try.ntmps5
  go_wp2_with fail
  refine (alive5_any w).mono ?_
  rintro e w1 ⟨rfl, hb1⟩
  have HB1 : Hid (Below w.heap.size w w1) := hb1
  have hz1 := hb1.size
  clear hb1
  go_wp2_with fail
  refine Calls.mono (HW.out _ (HB1.out.alloc HB1.out.size _)) ?_
  rintro e w2 ⟨s2, rfl, hl2, hb2⟩
  have HB2 : Hid (Below w.heap.size w w2) := (HB1.out.alloc HB1.out.size _).trans (hb2.mono (by simp; omega))
  have HL2 : Hid (Lists w2 (fun x => x < w2.heap.size) (s2, fileOf X)) := hl2.more fun x hx => hx.2
  have HBX2 : Hid (Blk w2 w1.heap.size #[.int .i64 1, .slice da d.length dc, .slice none 0 0, .string ⟨#[]⟩, .int .i64 0, .slice none 0 0, .int .i64 0, .int .i64 0, .int .i64 0] 35) := (Blk.new w1 _ _).below hb2 (by simp)
  clear hb2 hl2 HW
  by_cases hq : q < 0 ∨ 60 ≤ q
  · by_cases hq0 : q < 0
    all_goals
      go_wp2
      go_ret
      exact ⟨rfl, HB2.out.alloc HB2.out.size _⟩
  · obtain ⟨n, rfl⟩ := Int.eq_ofNat_of_zero_le (show 0 ≤ q by omega)
    have hn60 : n < 60 := by omega
    clear hq
    go_wp2_with (with_reducible refine stop_at (.call { callee := .builtin .len, args := #[.tmp 41], argTypes := #[22] }) rfl ?_)
    unfold Hold
    have hon3 := On.alloc w2 (.cells #[.int .i64 1, .slice s2.d.a s2.d.n s2.d.c, .slice s2.e.a s2.e.n s2.e.c, .string ⟨#[]⟩, .int .i64 0, .slice s2.q.a s2.q.n s2.q.c, .int .i64 0, .int .i64 0, .int .i64 0] 35)
    have HL3 : Hid (Lists (w2.alloc (.cells #[.int .i64 1, .slice s2.d.a s2.d.n s2.d.c, .slice s2.e.a s2.e.n s2.e.c, .string ⟨#[]⟩, .int .i64 0, .slice s2.q.a s2.q.n s2.q.c, .int .i64 0, .int .i64 0, .int .i64 0] 35)) (fun x => x < w2.heap.size) (s2, fileOf X)) := HL2.out.on hon3
    have HBX3 : Hid (Blk (w2.alloc (.cells #[.int .i64 1, .slice s2.d.a s2.d.n s2.d.c, .slice s2.e.a s2.e.n s2.e.c, .string ⟨#[]⟩, .int .i64 0, .slice s2.q.a s2.q.n s2.q.c, .int .i64 0, .int .i64 0, .int .i64 0] 35)) w1.heap.size #[.int .i64 1, .slice da d.length dc, .slice none 0 0, .string ⟨#[]⟩, .int .i64 0, .slice none 0 0, .int .i64 0, .int .i64 0, .int .i64 0] 35) := Blk.alloc HBX2.out _
    have HBN3 : Hid (Blk (w2.alloc (.cells #[.int .i64 1, .slice s2.d.a s2.d.n s2.d.c, .slice s2.e.a s2.e.n s2.e.c, .string ⟨#[]⟩, .int .i64 0, .slice s2.q.a s2.q.n s2.q.c, .int .i64 0, .int .i64 0, .int .i64 0] 35)) w2.heap.size #[.int .i64 1, .slice s2.d.a s2.d.n s2.d.c, .slice s2.e.a s2.e.n s2.e.c, .string ⟨#[]⟩, .int .i64 0, .slice s2.q.a s2.q.n s2.q.c, .int .i64 0, .int .i64 0, .int .i64 0] 35) := Blk.new w2 _ _
    have HB3 : Hid (Below w.heap.size w (w2.alloc (.cells #[.int .i64 1, .slice s2.d.a s2.d.n s2.d.c, .slice s2.e.a s2.e.n s2.e.c, .string ⟨#[]⟩, .int .i64 0, .slice s2.q.a s2.q.n s2.q.c, .int .i64 0, .int .i64 0, .int .i64 0] 35))) := HB2.out.alloc HB2.out.size _
    have hz3 : w2.heap.size < (w2.alloc (.cells #[.int .i64 1, .slice s2.d.a s2.d.n s2.d.c, .slice s2.e.a s2.e.n s2.e.c, .string ⟨#[]⟩, .int .i64 0, .slice s2.q.a s2.q.n s2.q.c, .int .i64 0, .int .i64 0, .int .i64 0] 35)).heap.size := by simp
    clear hon3 HL2 HBX2 HB2
    generalize w2.alloc (.cells #[.int .i64 1, .slice s2.d.a s2.d.n s2.d.c, .slice s2.e.a s2.e.n s2.e.c, .string ⟨#[]⟩, .int .i64 0, .slice s2.q.a s2.q.n s2.q.c, .int .i64 0, .int .i64 0, .int .i64 0] 35) = w3 at *
    have HR3 := HRX.out s2 w3 w3 (fun x => x < w2.heap.size) k b.length HL3.out (fun x hx => by omega) (Below.refl _ _)
    dsimp only [fileOf] at HR3
    rw [HWR.out] at HR3
    have HR3' : Hid _ := HR3
    clear HR3
    go_wp2_with fail
    refine Calls.mono HR3'.out ?_
    rintro e w4 ⟨r4, rfl, hr4, hb4⟩
    have HB4 : Hid (Below w.heap.size w w4) := HB3.out.trans (hb4.mono HB3.out.size)
    have hz4 := hb4.size
    have conv1 : (convert 22 9 (.slice r4.a r4.n r4.c)).run Try.prog w4 = .ok (.string ⟨b.toArray⟩) w4 := conv_any b _ w4 _ hr4
    have conv2 : (convert 22 9 (.slice ba b.length bc)).run Try.prog w4 = .ok (.string ⟨b.toArray⟩) w4 := conv_any b _ w4 _ (Row.on HB.out (On.of HB4.out))
    have HL4 : Hid (Lists w4 (fun x => x < w2.heap.size) (s2, fileOf X)) := HL3.out.on ((On.of hb4).less fun x hx => by omega)
    have HBX4 : Hid (Blk w4 w1.heap.size #[.int .i64 1, .slice da d.length dc, .slice none 0 0, .string ⟨#[]⟩, .int .i64 0, .slice none 0 0, .int .i64 0, .int .i64 0, .int .i64 0] 35) := Blk.below HBX3.out hb4 (Blk.lt HBX3.out)
    have HBN4 : Hid (Blk w4 w2.heap.size #[.int .i64 1, .slice s2.d.a s2.d.n s2.d.c, .slice s2.e.a s2.e.n s2.e.c, .string ⟨#[]⟩, .int .i64 0, .slice s2.q.a s2.q.n s2.q.c, .int .i64 0, .int .i64 0, .int .i64 0] 35) := Blk.below HBN3.out hb4 (Blk.lt HBN3.out)
    clear hr4 hb4 HR3' HL3 HBX3 HBN3 HB3
    by_cases hin : k ≤ n ∧ n < k + b.length
    · obtain ⟨hi1, hi2⟩ := hin
      have hi1' : (k : Int) ≤ (n : Int) := by omega
      have hi2' : (n : Int) - (k : Int) < (b.length : Int) := by omega
      go_wp2
      go_ret
      exact ⟨rfl, HB4.out⟩
    · have hcx := Blk.cell HBX4.out
      have HRO4 : Hid _ := HRO.out w4 n HB4.out
      have HIN : Hid (¬ (k ≤ n ∧ n < k + b.length)) := hin
      by_cases hkn : (k : Int) ≤ (n : Int)
      focus
        have hlt' : (b.length : Int) ≤ (n : Int) - (k : Int) := by omega
        clear hin
        go_wp2_with fail
      rotate_left
      focus
        have hkn' : (n : Int) < (k : Int) := by omega
        clear hin hkn
        go_wp2_with fail
      all_goals
        refine Calls.mono HRO4.out ?_
        rintro e w5 ⟨r5, rfl, hr5, hb5⟩
        have HB5 : Hid (Below w.heap.size w w5) := HB4.out.trans (hb5.mono HB4.out.size)
        have hz5 := hb5.size
        have HR5 : Hid (Bytes w5 (fun x => x < w5.heap.size) (.slice r5.a r5.n r5.c) ((d.drop n).take 1)) := Row.more hr5 fun x hx => hx.2
        have HL5 : Hid (Lists w5 (fun x => x < w2.heap.size) (s2, fileOf X)) := HL4.out.on ((On.of hb5).less fun x hx => by omega)
        have HBN5 : Hid (Blk w5 w2.heap.size #[.int .i64 1, .slice s2.d.a s2.d.n s2.d.c, .slice s2.e.a s2.e.n s2.e.c, .string ⟨#[]⟩, .int .i64 0, .slice s2.q.a s2.q.n s2.q.c, .int .i64 0, .int .i64 0, .int .i64 0] 35) := Blk.below HBN4.out hb5 (by omega)
        have hcn := Blk.cell HBN5.out
        have HR6 := HRX.out s2 w5 w5 (fun x => x < w2.heap.size) n 1 HL5.out (fun x hx => by omega) (Below.refl _ _)
        dsimp only [fileOf] at HR6
        have HR6' : Hid _ := HR6
        clear HR6 hr5 hb5 hcx HRO4 HL4 HBX4 HBN4 conv1 conv2
        go_wp2_with fail
        refine Calls.mono HR6'.out ?_
        rintro e w6 ⟨r6, rfl, hr6, hb6⟩
        have HB6 : Hid (Below w.heap.size w w6) := HB5.out.trans (hb6.mono HB5.out.size)
        have HR56 : Hid (Bytes w6 (fun x => x < w5.heap.size) (.slice r5.a r5.n r5.c) ((d.drop n).take 1)) := Row.on HR5.out (On.of hb6)
        have HR66 : Hid (Bytes w6 (fun b => w5.heap.size ≤ b ∧ b < w6.heap.size) (.slice r6.a r6.n r6.c) ((X.drop n).take 1)) := hr6
        clear hr6 hb6 hcn HR6' HR5 HL5 HBN5 HB5
        obtain ⟨r5a, r5n, r5c⟩ := r5
        obtain ⟨r6a, r6n, r6c⟩ := r6
        dsimp only at HR56 HR66 ⊢
        rcases HWO.out n HIN.out with ⟨hP, hQ | hQ⟩ | ⟨x, hP, hQ⟩
        · rw [hP] at HR56
          rw [hQ] at HR66
          have e5 := Row.eqNil HR56.out
          have e6 := Row.eqNil HR66.out
          simp at e5 e6
          subst e5
          subst e6
          clear hP hQ HR56 HR66
          go_wp2
          go_ret
          exact ⟨rfl, HB6.out⟩
        · rw [hP] at HR56
          rw [hQ] at HR66
          have e5 := Row.eqNil HR56.out
          simp at e5
          subst e5
          obtain ⟨b6, o6, c6, e6, -, h63, h64, h65⟩ := Row.some HR66.out (by simp)
          have c60 := h65 0 (byteC 0) rfl 0 _ rfl
          obtain ⟨rfl, rfl, rfl⟩ := Value.slice.inj e6
          simp only [Nat.zero_mul, Nat.add_zero] at c60
          have h64' := h64
          unfold maxLen at h64'
          simp only [List.map_cons, List.map_nil, List.length_cons, List.length_nil] at h63 ⊢
          clear hP hQ HR56 HR66 e6 h65 h64
          go_wp2
          go_ret
          exact ⟨rfl, HB6.out⟩
        · rw [hP] at HR56
          rw [hQ] at HR66
          have e5 := Row.eqNil HR56.out
          have e6 := Row.eqNil HR66.out
          simp at e5 e6
          subst e5
          subst e6
          have conv5 : (convert 22 9 (.slice r5a 1 r5c)).run Try.prog w6 = .ok (.string ⟨#[x]⟩) w6 := conv_any [x] _ w6 _ HR56.out
          have conv6 : (convert 22 9 (.slice r6a 1 r6c)).run Try.prog w6 = .ok (.string ⟨#[x]⟩) w6 := conv_any [x] _ w6 _ HR66.out
          clear hP hQ HR56 HR66
          go_wp2
          go_ret
          exact ⟨rfl, HB6.out⟩
end Go.Proofs.Ytihfmlillgklkac
