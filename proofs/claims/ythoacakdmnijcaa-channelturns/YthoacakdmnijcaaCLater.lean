/-
  What lies there lies there later, too.
-/
import Derived.Test.YthoacakdmnijcaaSWalkK
namespace Go.Proofs.Ythoacakdmnijcaa
open Go.RowKit
theorem Objs.later {W W' : World} {v : Value} {L : List Sp.Ob} (h : Objs W (fun x => x < W.heap.size) v L) (hb : Below W.heap.size W W') : Objs W' (fun x => x < W'.heap.size) v L := (h.on (On.of hb)).more fun _ hx => Nat.lt_of_lt_of_le hx hb.size
theorem Row.later {k : Nat} {css : List (List Value)} {W W' : World} {v : Value} (h : Row W (fun x => x < W.heap.size) k v css) (hb : Below W.heap.size W W') : Row W' (fun x => x < W'.heap.size) k v css := (h.on (On.of hb)).more fun _ hx => Nat.lt_of_lt_of_le hx hb.size
end Go.Proofs.Ythoacakdmnijcaa
