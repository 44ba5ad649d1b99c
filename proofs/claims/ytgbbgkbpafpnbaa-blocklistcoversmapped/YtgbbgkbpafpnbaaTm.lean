/-
  What lies in memory is below its size.
  Conditions: none.
-/
import Derived.Test.YtgbbgkbpafpnbaaTq
namespace Go.Proofs.Ytgbbgkbpafpnbaa
open Go.ChangeShapes Go.WideShapes Go.ChangeAt Go.RowKit
theorem some_lt {w : World} {k : Nat} {o : Obj} (h : w.heap[k]? = some o) : k < w.heap.size := (Array.getElem?_eq_some_iff.1 h).1
end Go.Proofs.Ytgbbgkbpafpnbaa
