/-
  No cell of these rows narrows 'for every input' (looked for: loops, veiled, ifaces, maps, wideKeys, modest, calm, conditions, laid).
  DERIVED. THE GIVEN ROWS OF THIS SEAT. 5 by the template 'for every input the law returns true; each argument reads behind the call as it read before'; 0 by the template 'total and deterministic' (their statements: YtnadendhboiliaaTotals.lean).
  GIVEN WITH THE SEED: the statements are not yours to turn. If you find one false, say at which input.
  Laid BY PROGRAM, IN A SANDBOX (cutbox-rows.mjs): the forced cells as the released guide's own fill.sh prints them over the translation 77662e78d4677d98… (all of the seat's roots in one cut). By AI agents, Wed Nov 11 2026. No macro, syntax, notation, axiom, sorry.
-/
import Derived.Test.YtnadendhboiliaaChecked
import GoSem.Claim
import GoSem.ClaimJoined
import GoSem.ClaimMapViews
import Derived.JoinedTies
import Derived.KernelRfl
namespace Go.Proofs.Ytnadendhboiliaa
/- THE CELL 'sum', in the pinned program and in every row, IS THE sha256 OF THE DUMP (.gsa) THAT YtnadendhboiliaaProg.lean LOADS. Nothing in Lean hashes anything: it is a label: what it is worth is what the hold of that sum in a sandbox is worth. -/
noncomputable def Try.pinned : Pinned := { name := "ytnadendhboiliaa", sum := "77662e78d4677d98aedd8daa1704408723a7f0cca337fb0825720db4aef06f85", checked := Try.checked }
namespace Rows
def none {H : Type} : Left H := { results := [], args := [] }

/-- 'ginnellaw12.AclValidatesRules': WHATEVER THE INPUT: true; the input reads as it did. -/
def aclValidatesRulesSpec : ChangeSpec := { name := "aclValidatesRules", fn := fun _ => fun
  | [d1, d2] => { results := [.lit (.bool true)], args := [d1, d2] }
  | _ => none }
def aclValidatesRulesRow : OpenClaim := { program := "ytnadendhboiliaa", sum := "77662e78d4677d98aedd8daa1704408723a7f0cca337fb0825720db4aef06f85", func := "ginnel/ginnellaw12.AclValidatesRules", spec := "aclValidatesRules", inPlace := ["internal/bytealg.CountString", "internal/bytealg.IndexByteString", "internal/bytealg.IndexString"], unfollowed := true, recurses := true, named := ["internal/bytealg.MaxLen"], apart := false }
def AclValidatesRulesSaid : Prop := aclValidatesRulesRow.holds Try.pinned (OpenSpec.ofChange aclValidatesRulesSpec)

/-- ITS FALSE NEIGHBOUR: 'it returns false'. Refute it at one input. -/
def aclValidatesRulesWrong : ChangeSpec := { name := "aclValidatesRules", fn := fun _ => fun
  | [d1, d2] => { results := [.lit (.bool false)], args := [d1, d2] }
  | _ => none }
def AclValidatesRulesWrongFalsely : Prop := aclValidatesRulesRow.holds Try.pinned (OpenSpec.ofChange aclValidatesRulesWrong)

/-- 'ginnellaw12.AclAddressDecision': WHATEVER THE INPUT: true; the input reads as it did. -/
def aclAddressDecisionSpec : ChangeSpec := { name := "aclAddressDecision", fn := fun _ => fun
  | [d1, d2, d3, d4] => { results := [.lit (.bool true)], args := [d1, d2, d3, d4] }
  | _ => none }
def aclAddressDecisionRow : OpenClaim := { program := "ytnadendhboiliaa", sum := "77662e78d4677d98aedd8daa1704408723a7f0cca337fb0825720db4aef06f85", func := "ginnel/ginnellaw12.AclAddressDecision", spec := "aclAddressDecision", inPlace := ["internal/bytealg.CountString", "internal/bytealg.IndexByteString", "internal/bytealg.IndexString"], unfollowed := true, recurses := true, named := ["internal/bytealg.MaxLen"], apart := false }
def AclAddressDecisionSaid : Prop := aclAddressDecisionRow.holds Try.pinned (OpenSpec.ofChange aclAddressDecisionSpec)

/-- ITS FALSE NEIGHBOUR: 'it returns false'. Refute it at one input. -/
def aclAddressDecisionWrong : ChangeSpec := { name := "aclAddressDecision", fn := fun _ => fun
  | [d1, d2, d3, d4] => { results := [.lit (.bool false)], args := [d1, d2, d3, d4] }
  | _ => none }
def AclAddressDecisionWrongFalsely : Prop := aclAddressDecisionRow.holds Try.pinned (OpenSpec.ofChange aclAddressDecisionWrong)

/-- 'ginnellaw12.AclNameDecision': WHATEVER THE INPUT: true; the input reads as it did. -/
def aclNameDecisionSpec : ChangeSpec := { name := "aclNameDecision", fn := fun _ => fun
  | [d1, d2, d3, d4] => { results := [.lit (.bool true)], args := [d1, d2, d3, d4] }
  | _ => none }
def aclNameDecisionRow : OpenClaim := { program := "ytnadendhboiliaa", sum := "77662e78d4677d98aedd8daa1704408723a7f0cca337fb0825720db4aef06f85", func := "ginnel/ginnellaw12.AclNameDecision", spec := "aclNameDecision", inPlace := ["internal/bytealg.CountString", "internal/bytealg.IndexByteString", "internal/bytealg.IndexString"], unfollowed := true, recurses := true, named := ["internal/bytealg.MaxLen"], apart := false }
def AclNameDecisionSaid : Prop := aclNameDecisionRow.holds Try.pinned (OpenSpec.ofChange aclNameDecisionSpec)

/-- ITS FALSE NEIGHBOUR: 'it returns false'. Refute it at one input. -/
def aclNameDecisionWrong : ChangeSpec := { name := "aclNameDecision", fn := fun _ => fun
  | [d1, d2, d3, d4] => { results := [.lit (.bool false)], args := [d1, d2, d3, d4] }
  | _ => none }
def AclNameDecisionWrongFalsely : Prop := aclNameDecisionRow.holds Try.pinned (OpenSpec.ofChange aclNameDecisionWrong)

/-- 'ginnellaw12.AclTargetDecision': WHATEVER THE INPUT: true; the input reads as it did. -/
def aclTargetDecisionSpec : ChangeSpec := { name := "aclTargetDecision", fn := fun _ => fun
  | [d1, d2, d3, d4] => { results := [.lit (.bool true)], args := [d1, d2, d3, d4] }
  | _ => none }
def aclTargetDecisionRow : OpenClaim := { program := "ytnadendhboiliaa", sum := "77662e78d4677d98aedd8daa1704408723a7f0cca337fb0825720db4aef06f85", func := "ginnel/ginnellaw12.AclTargetDecision", spec := "aclTargetDecision", inPlace := ["internal/bytealg.CountString", "internal/bytealg.IndexByteString", "internal/bytealg.IndexString"], unfollowed := true, recurses := true, named := ["internal/bytealg.MaxLen"], apart := false }
def AclTargetDecisionSaid : Prop := aclTargetDecisionRow.holds Try.pinned (OpenSpec.ofChange aclTargetDecisionSpec)

/-- ITS FALSE NEIGHBOUR: 'it returns false'. Refute it at one input. -/
def aclTargetDecisionWrong : ChangeSpec := { name := "aclTargetDecision", fn := fun _ => fun
  | [d1, d2, d3, d4] => { results := [.lit (.bool false)], args := [d1, d2, d3, d4] }
  | _ => none }
def AclTargetDecisionWrongFalsely : Prop := aclTargetDecisionRow.holds Try.pinned (OpenSpec.ofChange aclTargetDecisionWrong)

/-- 'ginnellaw12.AclNeverAllowsBlocked': WHATEVER THE INPUT: true; the input reads as it did. -/
def aclNeverAllowsBlockedSpec : ChangeSpec := { name := "aclNeverAllowsBlocked", fn := fun _ => fun
  | [d1, d2, d3] => { results := [.lit (.bool true)], args := [d1, d2, d3] }
  | _ => none }
def aclNeverAllowsBlockedRow : OpenClaim := { program := "ytnadendhboiliaa", sum := "77662e78d4677d98aedd8daa1704408723a7f0cca337fb0825720db4aef06f85", func := "ginnel/ginnellaw12.AclNeverAllowsBlocked", spec := "aclNeverAllowsBlocked", inPlace := ["internal/bytealg.CountString", "internal/bytealg.IndexByteString", "internal/bytealg.IndexString"], unfollowed := true, recurses := true, named := ["internal/bytealg.MaxLen"], apart := false }
def AclNeverAllowsBlockedSaid : Prop := aclNeverAllowsBlockedRow.holds Try.pinned (OpenSpec.ofChange aclNeverAllowsBlockedSpec)

/-- ITS FALSE NEIGHBOUR: 'it returns false'. Refute it at one input. -/
def aclNeverAllowsBlockedWrong : ChangeSpec := { name := "aclNeverAllowsBlocked", fn := fun _ => fun
  | [d1, d2, d3] => { results := [.lit (.bool false)], args := [d1, d2, d3] }
  | _ => none }
def AclNeverAllowsBlockedWrongFalsely : Prop := aclNeverAllowsBlockedRow.holds Try.pinned (OpenSpec.ofChange aclNeverAllowsBlockedWrong)

/- THE SECOND FORM. 'bulk': how many values and letters a reading holds, each counted each time it is reached (what is shared counts as often as it is met; a slice's spare places count too). A statement '..UptoSaid' is the law's where the arguments, and the package variables that the reading takes, are together of bulk at most 1048576: NARROWER than '..Said'. Prove '..Said' where nothing that the law and all that it calls make is longer than what came in: it says more and counts as full. Else prove '..UptoSaid'. A law counts once. -/
mutual
def uptoBulk {H : Type} : DataW H → Nat
  | .lit (.string bytes) => bytes.length + 1
  | .lit _ => 1
  | .nil => 1
  | .ptr d => uptoBulk d + 1
  | .slice elems spare => uptoBulkAll elems + uptoBulkAll spare + 1
  | .agg parts => uptoBulkAll parts + 1
  | .iface _ d => uptoBulk d + 1
  | .map entries => uptoBulkEntries entries + 1
  | .held _ => 1
def uptoBulkAll {H : Type} : List (DataW H) → Nat
  | [] => 0
  | d :: r => uptoBulk d + uptoBulkAll r
def uptoBulkEntries {H : Type} : List (Lit × DataW H) → Nat
  | [] => 0
  | x :: r => uptoBulkEntry x + uptoBulkEntries r
def uptoBulkEntry {H : Type} : Lit × DataW H → Nat
  | (.string bytes, d) => bytes.length + uptoBulk d + 1
  | (_, d) => uptoBulk d + 1
 end
def uptoSmall : (H : Type) → List (DataW H) → Bool := fun _ ds => decide (uptoBulkAll ds ≤ 1048576)
def OpenSpec.upto (s : _root_.Go.ChangeSpec) : _root_.Go.OpenSpec := { _root_.Go.OpenSpec.ofChange s with cond := some uptoSmall }

/-- 'ginnellaw12.AclValidatesRules', WHERE WHAT IT READS IS OF BULK AT MOST 1048576: true; the input reads as it did. -/
def aclValidatesRulesUptoRow : OpenClaim := { program := "ytnadendhboiliaa", sum := "77662e78d4677d98aedd8daa1704408723a7f0cca337fb0825720db4aef06f85", func := "ginnel/ginnellaw12.AclValidatesRules", spec := "aclValidatesRules", inPlace := ["internal/bytealg.CountString", "internal/bytealg.IndexByteString", "internal/bytealg.IndexString"], unfollowed := true, recurses := true, named := ["internal/bytealg.MaxLen"], apart := false, narrowed := true }
def AclValidatesRulesUptoSaid : Prop := aclValidatesRulesUptoRow.holds Try.pinned (OpenSpec.upto aclValidatesRulesSpec)

/-- 'ginnellaw12.AclAddressDecision', WHERE WHAT IT READS IS OF BULK AT MOST 1048576: true; the input reads as it did. -/
def aclAddressDecisionUptoRow : OpenClaim := { program := "ytnadendhboiliaa", sum := "77662e78d4677d98aedd8daa1704408723a7f0cca337fb0825720db4aef06f85", func := "ginnel/ginnellaw12.AclAddressDecision", spec := "aclAddressDecision", inPlace := ["internal/bytealg.CountString", "internal/bytealg.IndexByteString", "internal/bytealg.IndexString"], unfollowed := true, recurses := true, named := ["internal/bytealg.MaxLen"], apart := false, narrowed := true }
def AclAddressDecisionUptoSaid : Prop := aclAddressDecisionUptoRow.holds Try.pinned (OpenSpec.upto aclAddressDecisionSpec)

/-- 'ginnellaw12.AclNameDecision', WHERE WHAT IT READS IS OF BULK AT MOST 1048576: true; the input reads as it did. -/
def aclNameDecisionUptoRow : OpenClaim := { program := "ytnadendhboiliaa", sum := "77662e78d4677d98aedd8daa1704408723a7f0cca337fb0825720db4aef06f85", func := "ginnel/ginnellaw12.AclNameDecision", spec := "aclNameDecision", inPlace := ["internal/bytealg.CountString", "internal/bytealg.IndexByteString", "internal/bytealg.IndexString"], unfollowed := true, recurses := true, named := ["internal/bytealg.MaxLen"], apart := false, narrowed := true }
def AclNameDecisionUptoSaid : Prop := aclNameDecisionUptoRow.holds Try.pinned (OpenSpec.upto aclNameDecisionSpec)

/-- 'ginnellaw12.AclTargetDecision', WHERE WHAT IT READS IS OF BULK AT MOST 1048576: true; the input reads as it did. -/
def aclTargetDecisionUptoRow : OpenClaim := { program := "ytnadendhboiliaa", sum := "77662e78d4677d98aedd8daa1704408723a7f0cca337fb0825720db4aef06f85", func := "ginnel/ginnellaw12.AclTargetDecision", spec := "aclTargetDecision", inPlace := ["internal/bytealg.CountString", "internal/bytealg.IndexByteString", "internal/bytealg.IndexString"], unfollowed := true, recurses := true, named := ["internal/bytealg.MaxLen"], apart := false, narrowed := true }
def AclTargetDecisionUptoSaid : Prop := aclTargetDecisionUptoRow.holds Try.pinned (OpenSpec.upto aclTargetDecisionSpec)

/-- 'ginnellaw12.AclNeverAllowsBlocked', WHERE WHAT IT READS IS OF BULK AT MOST 1048576: true; the input reads as it did. -/
def aclNeverAllowsBlockedUptoRow : OpenClaim := { program := "ytnadendhboiliaa", sum := "77662e78d4677d98aedd8daa1704408723a7f0cca337fb0825720db4aef06f85", func := "ginnel/ginnellaw12.AclNeverAllowsBlocked", spec := "aclNeverAllowsBlocked", inPlace := ["internal/bytealg.CountString", "internal/bytealg.IndexByteString", "internal/bytealg.IndexString"], unfollowed := true, recurses := true, named := ["internal/bytealg.MaxLen"], apart := false, narrowed := true }
def AclNeverAllowsBlockedUptoSaid : Prop := aclNeverAllowsBlockedUptoRow.holds Try.pinned (OpenSpec.upto aclNeverAllowsBlockedSpec)

end Rows
end Go.Proofs.Ytnadendhboiliaa
