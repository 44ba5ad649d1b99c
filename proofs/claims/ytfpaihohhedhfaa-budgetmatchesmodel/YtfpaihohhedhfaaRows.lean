/-
  No cell of these rows narrows 'for every input' (looked for: loops, veiled, ifaces, maps, wideKeys, modest, calm, conditions, laid).
  DERIVED. THE GIVEN ROWS OF THIS SEAT. 4 by the template 'for every input the law returns true; each argument reads behind the call as it read before'; 0 by the template 'total and deterministic' (their statements: YtfpaihohhedhfaaTotals.lean).
  GIVEN WITH THE SEED: the statements are not yours to turn. If you find one false, say at which input.
  Laid BY PROGRAM, IN A SANDBOX (cutbox-rows.mjs): the forced cells as the released guide's own fill.sh prints them over the translation c35b56e5a164ff2b… (all of the seat's roots in one cut). By AI agents, Wed Nov 11 2026. No macro, syntax, notation, axiom, sorry.
-/
import Derived.Test.YtfpaihohhedhfaaChecked
import GoSem.Claim
import GoSem.ClaimJoined
import GoSem.ClaimMapViews
import Derived.JoinedTies
import Derived.KernelRfl
namespace Go.Proofs.Ytfpaihohhedhfaa
/- THE CELL 'sum', in the pinned program and in every row, IS THE sha256 OF THE DUMP (.gsa) THAT YtfpaihohhedhfaaProg.lean LOADS. Nothing in Lean hashes anything: it is a label: what it is worth is what the hold of that sum in a sandbox is worth. -/
noncomputable def Try.pinned : Pinned := { name := "ytfpaihohhedhfaa", sum := "c35b56e5a164ff2bc729db2ce2d5644ed85370e7df05ae3935ed6c376c6a20ac", checked := Try.checked }
namespace Rows
def none {H : Type} : Left H := { results := [], args := [] }

/-- 'ginnellaw13.BudgetValidatesParameters': WHATEVER THE INPUT: true; the input reads as it did. -/
def budgetValidatesParametersSpec : ChangeSpec := { name := "budgetValidatesParameters", fn := fun _ => fun
  | [d1, d2] => { results := [.lit (.bool true)], args := [d1, d2] }
  | _ => none }
def budgetValidatesParametersRow : OpenClaim := { program := "ytfpaihohhedhfaa", sum := "c35b56e5a164ff2bc729db2ce2d5644ed85370e7df05ae3935ed6c376c6a20ac", func := "ginnel/ginnellaw13.BudgetValidatesParameters", spec := "budgetValidatesParameters", apart := false }
def BudgetValidatesParametersSaid : Prop := budgetValidatesParametersRow.holds Try.pinned (OpenSpec.ofChange budgetValidatesParametersSpec)

/-- ITS FALSE NEIGHBOUR: 'it returns false'. Refute it at one input. -/
def budgetValidatesParametersWrong : ChangeSpec := { name := "budgetValidatesParameters", fn := fun _ => fun
  | [d1, d2] => { results := [.lit (.bool false)], args := [d1, d2] }
  | _ => none }
def BudgetValidatesParametersWrongFalsely : Prop := budgetValidatesParametersRow.holds Try.pinned (OpenSpec.ofChange budgetValidatesParametersWrong)

/-- 'ginnellaw13.BudgetMatchesModel': WHATEVER THE INPUT: true; the input reads as it did. -/
def budgetMatchesModelSpec : ChangeSpec := { name := "budgetMatchesModel", fn := fun _ => fun
  | [d1, d2, d3, d4] => { results := [.lit (.bool true)], args := [d1, d2, d3, d4] }
  | _ => none }
def budgetMatchesModelRow : OpenClaim := { program := "ytfpaihohhedhfaa", sum := "c35b56e5a164ff2bc729db2ce2d5644ed85370e7df05ae3935ed6c376c6a20ac", func := "ginnel/ginnellaw13.BudgetMatchesModel", spec := "budgetMatchesModel", apart := false }
def BudgetMatchesModelSaid : Prop := budgetMatchesModelRow.holds Try.pinned (OpenSpec.ofChange budgetMatchesModelSpec)

/-- ITS FALSE NEIGHBOUR: 'it returns false'. Refute it at one input. -/
def budgetMatchesModelWrong : ChangeSpec := { name := "budgetMatchesModel", fn := fun _ => fun
  | [d1, d2, d3, d4] => { results := [.lit (.bool false)], args := [d1, d2, d3, d4] }
  | _ => none }
def BudgetMatchesModelWrongFalsely : Prop := budgetMatchesModelRow.holds Try.pinned (OpenSpec.ofChange budgetMatchesModelWrong)

/-- 'ginnellaw13.BudgetLimitPerWindow': WHATEVER THE INPUT: true; the input reads as it did. -/
def budgetLimitPerWindowSpec : ChangeSpec := { name := "budgetLimitPerWindow", fn := fun _ => fun
  | [d1, d2, d3] => { results := [.lit (.bool true)], args := [d1, d2, d3] }
  | _ => none }
def budgetLimitPerWindowRow : OpenClaim := { program := "ytfpaihohhedhfaa", sum := "c35b56e5a164ff2bc729db2ce2d5644ed85370e7df05ae3935ed6c376c6a20ac", func := "ginnel/ginnellaw13.BudgetLimitPerWindow", spec := "budgetLimitPerWindow", apart := false }
def BudgetLimitPerWindowSaid : Prop := budgetLimitPerWindowRow.holds Try.pinned (OpenSpec.ofChange budgetLimitPerWindowSpec)

/-- ITS FALSE NEIGHBOUR: 'it returns false'. Refute it at one input. -/
def budgetLimitPerWindowWrong : ChangeSpec := { name := "budgetLimitPerWindow", fn := fun _ => fun
  | [d1, d2, d3] => { results := [.lit (.bool false)], args := [d1, d2, d3] }
  | _ => none }
def BudgetLimitPerWindowWrongFalsely : Prop := budgetLimitPerWindowRow.holds Try.pinned (OpenSpec.ofChange budgetLimitPerWindowWrong)

/-- 'ginnellaw13.BudgetRemainingIsExact': WHATEVER THE INPUT: true; the input reads as it did. -/
def budgetRemainingIsExactSpec : ChangeSpec := { name := "budgetRemainingIsExact", fn := fun _ => fun
  | [d1, d2, d3, d4] => { results := [.lit (.bool true)], args := [d1, d2, d3, d4] }
  | _ => none }
def budgetRemainingIsExactRow : OpenClaim := { program := "ytfpaihohhedhfaa", sum := "c35b56e5a164ff2bc729db2ce2d5644ed85370e7df05ae3935ed6c376c6a20ac", func := "ginnel/ginnellaw13.BudgetRemainingIsExact", spec := "budgetRemainingIsExact", apart := false }
def BudgetRemainingIsExactSaid : Prop := budgetRemainingIsExactRow.holds Try.pinned (OpenSpec.ofChange budgetRemainingIsExactSpec)

/-- ITS FALSE NEIGHBOUR: 'it returns false'. Refute it at one input. -/
def budgetRemainingIsExactWrong : ChangeSpec := { name := "budgetRemainingIsExact", fn := fun _ => fun
  | [d1, d2, d3, d4] => { results := [.lit (.bool false)], args := [d1, d2, d3, d4] }
  | _ => none }
def BudgetRemainingIsExactWrongFalsely : Prop := budgetRemainingIsExactRow.holds Try.pinned (OpenSpec.ofChange budgetRemainingIsExactWrong)

/- THE SECOND FORM. 'bulk': how many values and letters a reading holds, each counted each time it is reached (what is shared counts as often as it is met; a slice's spare places count too). A statement '..UptoSaid' is the law's where the arguments, and the package variables that the reading takes, are together of bulk at most 1048576: NARROWER than '..Said'. Prove '..Said' where nothing that the law and all that it calls make is longer than what came in: it says more and counts as full. Else prove '..UptoSaid'. A law counts once. -/
mutual
def uptoBulk {H : Type} : DataW H → Nat
  | .lit (.string bytes) => bytes.length + 1
  | .lit _ => 1
  | .nil => 1
  | .ptr d => uptoBulk d + 1
  | .slice elems spare => uptoBulkAll elems + uptoBulkAll spare + 1
  | .agg parts => uptoBulkAll parts + 1
  | .iface _ d => uptoBulk d + 1
  | .map entries => uptoBulkEntries entries + 1
  | .held _ => 1
def uptoBulkAll {H : Type} : List (DataW H) → Nat
  | [] => 0
  | d :: r => uptoBulk d + uptoBulkAll r
def uptoBulkEntries {H : Type} : List (Lit × DataW H) → Nat
  | [] => 0
  | x :: r => uptoBulkEntry x + uptoBulkEntries r
def uptoBulkEntry {H : Type} : Lit × DataW H → Nat
  | (.string bytes, d) => bytes.length + uptoBulk d + 1
  | (_, d) => uptoBulk d + 1
 end
def uptoSmall : (H : Type) → List (DataW H) → Bool := fun _ ds => decide (uptoBulkAll ds ≤ 1048576)
def OpenSpec.upto (s : _root_.Go.ChangeSpec) : _root_.Go.OpenSpec := { _root_.Go.OpenSpec.ofChange s with cond := some uptoSmall }

/-- 'ginnellaw13.BudgetValidatesParameters', WHERE WHAT IT READS IS OF BULK AT MOST 1048576: true; the input reads as it did. -/
def budgetValidatesParametersUptoRow : OpenClaim := { program := "ytfpaihohhedhfaa", sum := "c35b56e5a164ff2bc729db2ce2d5644ed85370e7df05ae3935ed6c376c6a20ac", func := "ginnel/ginnellaw13.BudgetValidatesParameters", spec := "budgetValidatesParameters", apart := false, narrowed := true }
def BudgetValidatesParametersUptoSaid : Prop := budgetValidatesParametersUptoRow.holds Try.pinned (OpenSpec.upto budgetValidatesParametersSpec)

/-- 'ginnellaw13.BudgetMatchesModel', WHERE WHAT IT READS IS OF BULK AT MOST 1048576: true; the input reads as it did. -/
def budgetMatchesModelUptoRow : OpenClaim := { program := "ytfpaihohhedhfaa", sum := "c35b56e5a164ff2bc729db2ce2d5644ed85370e7df05ae3935ed6c376c6a20ac", func := "ginnel/ginnellaw13.BudgetMatchesModel", spec := "budgetMatchesModel", apart := false, narrowed := true }
def BudgetMatchesModelUptoSaid : Prop := budgetMatchesModelUptoRow.holds Try.pinned (OpenSpec.upto budgetMatchesModelSpec)

/-- 'ginnellaw13.BudgetLimitPerWindow', WHERE WHAT IT READS IS OF BULK AT MOST 1048576: true; the input reads as it did. -/
def budgetLimitPerWindowUptoRow : OpenClaim := { program := "ytfpaihohhedhfaa", sum := "c35b56e5a164ff2bc729db2ce2d5644ed85370e7df05ae3935ed6c376c6a20ac", func := "ginnel/ginnellaw13.BudgetLimitPerWindow", spec := "budgetLimitPerWindow", apart := false, narrowed := true }
def BudgetLimitPerWindowUptoSaid : Prop := budgetLimitPerWindowUptoRow.holds Try.pinned (OpenSpec.upto budgetLimitPerWindowSpec)

/-- 'ginnellaw13.BudgetRemainingIsExact', WHERE WHAT IT READS IS OF BULK AT MOST 1048576: true; the input reads as it did. -/
def budgetRemainingIsExactUptoRow : OpenClaim := { program := "ytfpaihohhedhfaa", sum := "c35b56e5a164ff2bc729db2ce2d5644ed85370e7df05ae3935ed6c376c6a20ac", func := "ginnel/ginnellaw13.BudgetRemainingIsExact", spec := "budgetRemainingIsExact", apart := false, narrowed := true }
def BudgetRemainingIsExactUptoSaid : Prop := budgetRemainingIsExactUptoRow.holds Try.pinned (OpenSpec.upto budgetRemainingIsExactSpec)

end Rows
end Go.Proofs.Ytfpaihohhedhfaa
