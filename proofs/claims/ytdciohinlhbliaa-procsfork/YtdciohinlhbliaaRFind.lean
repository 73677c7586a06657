
/-
  rgref5.Find, walked.
-/
import Derived.Test.YtdciohinlhbliaaRMake
namespace Go.Proofs.Ytdciohinlhbliaa
open Go.RowKit
theorem find_drop (es : List Sp.Ent) (name : ByteArray) (k : Nat) (x : Sp.Ent) (hx : es[k]? = some x) : (es.drop k).find? (fun e => Sp.eqB e.name name) = if Sp.eqB x.name name = true then some x else (es.drop (k + 1)).find? (fun e => Sp.eqB e.name name) := by
  obtain ⟨hk, rfl⟩ := List.getElem?_eq_some_iff.1 hx
  rw [List.drop_eq_getElem_cons hk, List.find?_cons]
  cases Sp.eqB es[k].name name <;> rfl
def entObj : Option Sp.Ent → Int
  | none => -1
  | some e => e.obj
set_option maxRecDepth 100000 in
set_option maxHeartbeats 2000000 in
theorem rfind_any (L : List Sp.Ob) (k : Int) (name : ByteArray) (v : Value) (S : Nat → Prop) (w : World) (hv : Objs w S v L) (hS : ∀ b, S b → b < w.heap.size) :
    Calls Try.prog 60 #[v, .int .i64 k, .string name] w fun e w' => e = .returned (.int .i64 (Sp.find L k name)) ∧ Below w.heap.size w w' := by
  have HD : Hid (Calls Try.prog 22 #[v, .int .i64 k, .int .i64 2] w fun e w' => e = .returned (.bool (Sp.is L k 2)) ∧ w' = w) := is_any L k 2 v S w hv
  have HS : Hid (∀ b, S b → b < w.heap.size) := hS
  clear hS
  cases h : Sp.is L k 2 with
  | true =>
    obtain ⟨n, o, rfl, hx, hk, ho⟩ := is_dir h
    have hlt := (List.getElem?_eq_some_iff.1 hx).1
    rw [h] at HD
    obtain ⟨b, of, c, s, rfl, hb, hc, hm, hl, c0, c1, c2, -⟩ := hv.open hx
    have hbw := HS.out b hb
    unfold maxLen at hm
    have HF : Hid (Sp.find L n name = entObj (o.ents.find? (fun e => Sp.eqB e.name name))) := by
      unfold Hid Sp.find
      rw [ho]
      dsimp only
      rw [if_pos hk]
      cases o.ents.find? (fun e => Sp.eqB e.name name) <;> rfl
    rw [HF.out]
    have hen := Row.eqNil hl.2.1
    rw [List.length_map] at hen
    obtain ⟨⟨_, _, _⟩, ⟨ea, en, ec⟩, ⟨_, _, _⟩⟩ := s
    dsimp only at hen c2
    subst hen
    have HE : Hid (Ents w S (.slice ea o.ents.length ec) o.ents) := hl.2.1
    obtain ⟨_, _, hfm, hem⟩ := Row.form hl.2.1
    rw [List.length_map] at hem
    generalize o.ents = es at *
    unfold maxLen at hem
    clear hv hl ho h hx HF hfm
    go_enter Try.func60, Try.ntmps60
    go_wp2_with fail
    refine Calls.mono HD.out ?_
    rintro e w2 ⟨rfl, hw⟩
    rw [hw]
    clear hw
    go_wp2
    go_loopw [19] (fun i wr => ∃ q : Nat, q ≤ es.length ∧ i = .int .i64 q ∧ Below w.heap.size w wr ∧ entObj (es.find? (fun e => Sp.eqB e.name name)) = entObj ((es.drop q).find? (fun e => Sp.eqB e.name name))) (fun i _ => es.length - (intOf i).toNat)
    case atStart => exact ⟨0, Nat.zero_le _, rfl, Below.refl _ _, by rw [List.drop_zero]⟩
    case round =>
      obtain ⟨q, hq, rfl, hB, hF⟩ := hrel
      have HFF : Hid (entObj (es.find? (fun e => Sp.eqB e.name name)) = entObj ((es.drop q).find? (fun e => Sp.eqB e.name name))) := hF
      clear hF
      by_cases hlt : q < es.length
      · have hx : es[q]? = some es[q] := List.getElem?_eq_getElem hlt
        obtain ⟨eb, eo, ec', he, hSb, h3, h4, h5⟩ := (Row.on HE.out ((On.of hB).less HS.out)).some (by rw [List.length_map]; omega)
        rw [List.length_map] at he h3
        obtain ⟨rfl, -, rfl⟩ := Value.slice.inj he
        obtain ⟨x0, x1⟩ := ent_cells h5 hx
        have HDR : Hid (entObj (es.find? (fun e => Sp.eqB e.name name)) = entObj (if Sp.eqB es[q].name name = true then some es[q] else (es.drop (q + 1)).find? (fun e => Sp.eqB e.name name))) := HFF.out.trans (congrArg entObj (find_drop es name q _ hx))
        have HBq : Hid (Below w.heap.size w wr) := hB
        have hzr := hB.size
        generalize es[q] = x at *
        clear hx he h5 hB HFF
        cases hy : Sp.eqB x.name name with
        | true =>
          have HN : Hid (entObj (es.find? (fun e => Sp.eqB e.name name)) = x.obj) := HDR.out.trans (by rw [if_pos hy]; rfl)
          have hy' : (x.name.toList == name.toList) = true := hy
          clear HDR hy
          go_wp2
          go_ret
          exact ⟨by rw [HN.out]; rfl, HBq.out.alloc hzr _⟩
        | false =>
          have HN : Hid (entObj (es.find? (fun e => Sp.eqB e.name name)) = entObj ((es.drop (q + 1)).find? (fun e => Sp.eqB e.name name))) := HDR.out.trans (by rw [if_neg (by rw [hy]; simp)])
          have hy' : (x.name.toList == name.toList) = false := hy
          clear HDR hy
          go_wp2
          exact ⟨⟨q + 1, by omega, by go_num, HBq.out.alloc hzr _, HN.out⟩, by simp [intOf]; omega⟩
      · obtain rfl : q = es.length := by omega
        have HN : Hid (entObj (es.find? (fun e => Sp.eqB e.name name)) = -1) := by unfold Hid; rw [HFF.out, List.drop_length]; rfl
        clear HFF
        go_wp2
        go_ret
        exact ⟨by rw [HN.out]; rfl, hB⟩
  | false =>
    rw [find_off h]
    rw [h] at HD
    obtain ⟨a, c, rfl, -⟩ := hv.form
    clear hv h
    go_enter Try.func60, Try.ntmps60
    go_wp2_with fail
    refine Calls.mono HD.out ?_
    rintro e w2 ⟨rfl, hw⟩
    rw [hw]
    clear hw
    go_wp2
    go_ret
    exact ⟨rfl, Below.refl _ _⟩
end Go.Proofs.Ytdciohinlhbliaa
