/-
  No cell of these rows narrows 'for every input' (looked for: loops, veiled, ifaces, maps, wideKeys, modest, calm, conditions, laid).
  DERIVED. THE GIVEN ROWS OF THIS SEAT. 4 by the template 'for every input the law returns true; each argument reads behind the call as it read before'; 0 by the template 'total and deterministic' (their statements: YtmgpeonnmfidhaaTotals.lean).
  GIVEN WITH THE SEED: the statements are not yours to turn. If you find one false, say at which input.
  Laid BY PROGRAM, IN A SANDBOX (cutbox-rows.mjs): the forced cells as the released guide's own fill.sh prints them over the translation f09070f8c5d771d2… (all of the seat's roots in one cut). By AI agents, Wed Nov 11 2026. No macro, syntax, notation, axiom, sorry.
-/
import Derived.Test.YtmgpeonnmfidhaaChecked
import GoSem.Claim
import GoSem.ClaimJoined
import GoSem.ClaimMapViews
import Derived.JoinedTies
import Derived.KernelRfl
namespace Go.Proofs.Ytmgpeonnmfidhaa
/- THE CELL 'sum', in the pinned program and in every row, IS THE sha256 OF THE DUMP (.gsa) THAT YtmgpeonnmfidhaaProg.lean LOADS. Nothing in Lean hashes anything: it is a label: what it is worth is what the hold of that sum in a sandbox is worth. -/
noncomputable def Try.pinned : Pinned := { name := "ytmgpeonnmfidhaa", sum := "f09070f8c5d771d2f10b50d17a6d3bdb78bae7a2afa630e9922dc3bb1ee64345", checked := Try.checked }
namespace Rows
def none {H : Type} : Left H := { results := [], args := [] }

/-- 'ginnellaw05.RingValidatesCapacity': WHATEVER THE INPUT: true; the input reads as it did. -/
def ringValidatesCapacitySpec : ChangeSpec := { name := "ringValidatesCapacity", fn := fun _ => fun
  | [d] => { results := [.lit (.bool true)], args := [d] }
  | _ => none }
def ringValidatesCapacityRow : OpenClaim := { program := "ytmgpeonnmfidhaa", sum := "f09070f8c5d771d2f10b50d17a6d3bdb78bae7a2afa630e9922dc3bb1ee64345", func := "ginnel/ginnellaw05.RingValidatesCapacity", spec := "ringValidatesCapacity", unfollowed := true, recurses := true, apart := false }
def RingValidatesCapacitySaid : Prop := ringValidatesCapacityRow.holds Try.pinned (OpenSpec.ofChange ringValidatesCapacitySpec)

/-- ITS FALSE NEIGHBOUR: 'it returns false'. Refute it at one input. -/
def ringValidatesCapacityWrong : ChangeSpec := { name := "ringValidatesCapacity", fn := fun _ => fun
  | [d] => { results := [.lit (.bool false)], args := [d] }
  | _ => none }
def RingValidatesCapacityWrongFalsely : Prop := ringValidatesCapacityRow.holds Try.pinned (OpenSpec.ofChange ringValidatesCapacityWrong)

/-- 'ginnellaw05.RingMatchesModel': WHATEVER THE INPUT: true; the input reads as it did. -/
def ringMatchesModelSpec : ChangeSpec := { name := "ringMatchesModel", fn := fun _ => fun
  | [d1, d2] => { results := [.lit (.bool true)], args := [d1, d2] }
  | _ => none }
def ringMatchesModelRow : OpenClaim := { program := "ytmgpeonnmfidhaa", sum := "f09070f8c5d771d2f10b50d17a6d3bdb78bae7a2afa630e9922dc3bb1ee64345", func := "ginnel/ginnellaw05.RingMatchesModel", spec := "ringMatchesModel", unfollowed := true, recurses := true, apart := false }
def RingMatchesModelSaid : Prop := ringMatchesModelRow.holds Try.pinned (OpenSpec.ofChange ringMatchesModelSpec)

/-- ITS FALSE NEIGHBOUR: 'it returns false'. Refute it at one input. -/
def ringMatchesModelWrong : ChangeSpec := { name := "ringMatchesModel", fn := fun _ => fun
  | [d1, d2] => { results := [.lit (.bool false)], args := [d1, d2] }
  | _ => none }
def RingMatchesModelWrongFalsely : Prop := ringMatchesModelRow.holds Try.pinned (OpenSpec.ofChange ringMatchesModelWrong)

/-- 'ginnellaw05.RingIsFIFO': WHATEVER THE INPUT: true; the input reads as it did. -/
def ringIsFIFOSpec : ChangeSpec := { name := "ringIsFIFO", fn := fun _ => fun
  | [d1, d2, d3, d4] => { results := [.lit (.bool true)], args := [d1, d2, d3, d4] }
  | _ => none }
def ringIsFIFORow : OpenClaim := { program := "ytmgpeonnmfidhaa", sum := "f09070f8c5d771d2f10b50d17a6d3bdb78bae7a2afa630e9922dc3bb1ee64345", func := "ginnel/ginnellaw05.RingIsFIFO", spec := "ringIsFIFO", unfollowed := true, recurses := true, apart := false }
def RingIsFIFOSaid : Prop := ringIsFIFORow.holds Try.pinned (OpenSpec.ofChange ringIsFIFOSpec)

/-- ITS FALSE NEIGHBOUR: 'it returns false'. Refute it at one input. -/
def ringIsFIFOWrong : ChangeSpec := { name := "ringIsFIFO", fn := fun _ => fun
  | [d1, d2, d3, d4] => { results := [.lit (.bool false)], args := [d1, d2, d3, d4] }
  | _ => none }
def RingIsFIFOWrongFalsely : Prop := ringIsFIFORow.holds Try.pinned (OpenSpec.ofChange ringIsFIFOWrong)

/-- 'ginnellaw05.RingDoesNotAlias': WHATEVER THE INPUT: true; the input reads as it did. -/
def ringDoesNotAliasSpec : ChangeSpec := { name := "ringDoesNotAlias", fn := fun _ => fun
  | [d1, d2] => { results := [.lit (.bool true)], args := [d1, d2] }
  | _ => none }
def ringDoesNotAliasRow : OpenClaim := { program := "ytmgpeonnmfidhaa", sum := "f09070f8c5d771d2f10b50d17a6d3bdb78bae7a2afa630e9922dc3bb1ee64345", func := "ginnel/ginnellaw05.RingDoesNotAlias", spec := "ringDoesNotAlias", unfollowed := true, recurses := true, apart := false }
def RingDoesNotAliasSaid : Prop := ringDoesNotAliasRow.holds Try.pinned (OpenSpec.ofChange ringDoesNotAliasSpec)

/-- ITS FALSE NEIGHBOUR: 'it returns false'. Refute it at one input. -/
def ringDoesNotAliasWrong : ChangeSpec := { name := "ringDoesNotAlias", fn := fun _ => fun
  | [d1, d2] => { results := [.lit (.bool false)], args := [d1, d2] }
  | _ => none }
def RingDoesNotAliasWrongFalsely : Prop := ringDoesNotAliasRow.holds Try.pinned (OpenSpec.ofChange ringDoesNotAliasWrong)

/- THE SECOND FORM. 'bulk': how many values and letters a reading holds, each counted each time it is reached (what is shared counts as often as it is met; a slice's spare places count too). A statement '..UptoSaid' is the law's where the arguments, and the package variables that the reading takes, are together of bulk at most 1048576: NARROWER than '..Said'. Prove '..Said' where nothing that the law and all that it calls make is longer than what came in: it says more and counts as full. Else prove '..UptoSaid'. A law counts once. -/
mutual
def uptoBulk {H : Type} : DataW H → Nat
  | .lit (.string bytes) => bytes.length + 1
  | .lit _ => 1
  | .nil => 1
  | .ptr d => uptoBulk d + 1
  | .slice elems spare => uptoBulkAll elems + uptoBulkAll spare + 1
  | .agg parts => uptoBulkAll parts + 1
  | .iface _ d => uptoBulk d + 1
  | .map entries => uptoBulkEntries entries + 1
  | .held _ => 1
def uptoBulkAll {H : Type} : List (DataW H) → Nat
  | [] => 0
  | d :: r => uptoBulk d + uptoBulkAll r
def uptoBulkEntries {H : Type} : List (Lit × DataW H) → Nat
  | [] => 0
  | x :: r => uptoBulkEntry x + uptoBulkEntries r
def uptoBulkEntry {H : Type} : Lit × DataW H → Nat
  | (.string bytes, d) => bytes.length + uptoBulk d + 1
  | (_, d) => uptoBulk d + 1
 end
def uptoSmall : (H : Type) → List (DataW H) → Bool := fun _ ds => decide (uptoBulkAll ds ≤ 1048576)
def OpenSpec.upto (s : _root_.Go.ChangeSpec) : _root_.Go.OpenSpec := { _root_.Go.OpenSpec.ofChange s with cond := some uptoSmall }

/-- 'ginnellaw05.RingValidatesCapacity', WHERE WHAT IT READS IS OF BULK AT MOST 1048576: true; the input reads as it did. -/
def ringValidatesCapacityUptoRow : OpenClaim := { program := "ytmgpeonnmfidhaa", sum := "f09070f8c5d771d2f10b50d17a6d3bdb78bae7a2afa630e9922dc3bb1ee64345", func := "ginnel/ginnellaw05.RingValidatesCapacity", spec := "ringValidatesCapacity", unfollowed := true, recurses := true, apart := false, narrowed := true }
def RingValidatesCapacityUptoSaid : Prop := ringValidatesCapacityUptoRow.holds Try.pinned (OpenSpec.upto ringValidatesCapacitySpec)

/-- 'ginnellaw05.RingMatchesModel', WHERE WHAT IT READS IS OF BULK AT MOST 1048576: true; the input reads as it did. -/
def ringMatchesModelUptoRow : OpenClaim := { program := "ytmgpeonnmfidhaa", sum := "f09070f8c5d771d2f10b50d17a6d3bdb78bae7a2afa630e9922dc3bb1ee64345", func := "ginnel/ginnellaw05.RingMatchesModel", spec := "ringMatchesModel", unfollowed := true, recurses := true, apart := false, narrowed := true }
def RingMatchesModelUptoSaid : Prop := ringMatchesModelUptoRow.holds Try.pinned (OpenSpec.upto ringMatchesModelSpec)

/-- 'ginnellaw05.RingIsFIFO', WHERE WHAT IT READS IS OF BULK AT MOST 1048576: true; the input reads as it did. -/
def ringIsFIFOUptoRow : OpenClaim := { program := "ytmgpeonnmfidhaa", sum := "f09070f8c5d771d2f10b50d17a6d3bdb78bae7a2afa630e9922dc3bb1ee64345", func := "ginnel/ginnellaw05.RingIsFIFO", spec := "ringIsFIFO", unfollowed := true, recurses := true, apart := false, narrowed := true }
def RingIsFIFOUptoSaid : Prop := ringIsFIFOUptoRow.holds Try.pinned (OpenSpec.upto ringIsFIFOSpec)

/-- 'ginnellaw05.RingDoesNotAlias', WHERE WHAT IT READS IS OF BULK AT MOST 1048576: true; the input reads as it did. -/
def ringDoesNotAliasUptoRow : OpenClaim := { program := "ytmgpeonnmfidhaa", sum := "f09070f8c5d771d2f10b50d17a6d3bdb78bae7a2afa630e9922dc3bb1ee64345", func := "ginnel/ginnellaw05.RingDoesNotAlias", spec := "ringDoesNotAlias", unfollowed := true, recurses := true, apart := false, narrowed := true }
def RingDoesNotAliasUptoSaid : Prop := ringDoesNotAliasUptoRow.holds Try.pinned (OpenSpec.upto ringDoesNotAliasSpec)

end Rows
end Go.Proofs.Ytmgpeonnmfidhaa
