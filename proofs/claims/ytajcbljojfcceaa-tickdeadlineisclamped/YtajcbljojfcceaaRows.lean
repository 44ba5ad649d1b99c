/-
  No cell of these rows narrows 'for every input' (looked for: loops, veiled, ifaces, maps, wideKeys, modest, calm, conditions, laid).
  DERIVED. THE GIVEN ROWS OF THIS SEAT. 4 by the template 'for every input the law returns true; each argument reads behind the call as it read before'; 0 by the template 'total and deterministic' (their statements: YtajcbljojfcceaaTotals.lean).
  GIVEN WITH THE SEED: the statements are not yours to turn. If you find one false, say at which input.
  Laid BY PROGRAM, IN A SANDBOX (cutbox-rows.mjs): the forced cells as the released guide's own fill.sh prints them over the translation 2b86b4b5ab31c579… (all of the seat's roots in one cut). By AI agents, Wed Nov 11 2026. No macro, syntax, notation, axiom, sorry.
-/
import Derived.Test.YtajcbljojfcceaaChecked
import GoSem.Claim
import GoSem.ClaimJoined
import GoSem.ClaimMapViews
import Derived.JoinedTies
import Derived.KernelRfl
namespace Go.Proofs.Ytajcbljojfcceaa
/- THE CELL 'sum', in the pinned program and in every row, IS THE sha256 OF THE DUMP (.gsa) THAT YtajcbljojfcceaaProg.lean LOADS. Nothing in Lean hashes anything: it is a label: what it is worth is what the hold of that sum in a sandbox is worth. -/
noncomputable def Try.pinned : Pinned := { name := "ytajcbljojfcceaa", sum := "2b86b4b5ab31c579523926bf114c7653f55726b59c9022149316e881e7f11a8f", checked := Try.checked }
namespace Rows
def none {H : Type} : Left H := { results := [], args := [] }

/-- 'ginnellaw01.TickSaturates': WHATEVER THE INPUT: true; the input reads as it did. -/
def tickSaturatesSpec : ChangeSpec := { name := "tickSaturates", fn := fun _ => fun
  | [d1, d2] => { results := [.lit (.bool true)], args := [d1, d2] }
  | _ => none }
def tickSaturatesRow : OpenClaim := { program := "ytajcbljojfcceaa", sum := "2b86b4b5ab31c579523926bf114c7653f55726b59c9022149316e881e7f11a8f", func := "ginnel/ginnellaw01.TickSaturates", spec := "tickSaturates", apart := false }
def TickSaturatesSaid : Prop := tickSaturatesRow.holds Try.pinned (OpenSpec.ofChange tickSaturatesSpec)

/-- ITS FALSE NEIGHBOUR: 'it returns false'. Refute it at one input. -/
def tickSaturatesWrong : ChangeSpec := { name := "tickSaturates", fn := fun _ => fun
  | [d1, d2] => { results := [.lit (.bool false)], args := [d1, d2] }
  | _ => none }
def TickSaturatesWrongFalsely : Prop := tickSaturatesRow.holds Try.pinned (OpenSpec.ofChange tickSaturatesWrong)

/-- 'ginnellaw01.TickMinAndDeadline': WHATEVER THE INPUT: true; the input reads as it did. -/
def tickMinAndDeadlineSpec : ChangeSpec := { name := "tickMinAndDeadline", fn := fun _ => fun
  | [d1, d2, d3] => { results := [.lit (.bool true)], args := [d1, d2, d3] }
  | _ => none }
def tickMinAndDeadlineRow : OpenClaim := { program := "ytajcbljojfcceaa", sum := "2b86b4b5ab31c579523926bf114c7653f55726b59c9022149316e881e7f11a8f", func := "ginnel/ginnellaw01.TickMinAndDeadline", spec := "tickMinAndDeadline", apart := false }
def TickMinAndDeadlineSaid : Prop := tickMinAndDeadlineRow.holds Try.pinned (OpenSpec.ofChange tickMinAndDeadlineSpec)

/-- ITS FALSE NEIGHBOUR: 'it returns false'. Refute it at one input. -/
def tickMinAndDeadlineWrong : ChangeSpec := { name := "tickMinAndDeadline", fn := fun _ => fun
  | [d1, d2, d3] => { results := [.lit (.bool false)], args := [d1, d2, d3] }
  | _ => none }
def TickMinAndDeadlineWrongFalsely : Prop := tickMinAndDeadlineRow.holds Try.pinned (OpenSpec.ofChange tickMinAndDeadlineWrong)

/-- 'ginnellaw01.TickDeadlineIsClamped': WHATEVER THE INPUT: true; the input reads as it did. -/
def tickDeadlineIsClampedSpec : ChangeSpec := { name := "tickDeadlineIsClamped", fn := fun _ => fun
  | [d1, d2, d3, d4] => { results := [.lit (.bool true)], args := [d1, d2, d3, d4] }
  | _ => none }
def tickDeadlineIsClampedRow : OpenClaim := { program := "ytajcbljojfcceaa", sum := "2b86b4b5ab31c579523926bf114c7653f55726b59c9022149316e881e7f11a8f", func := "ginnel/ginnellaw01.TickDeadlineIsClamped", spec := "tickDeadlineIsClamped", apart := false }
def TickDeadlineIsClampedSaid : Prop := tickDeadlineIsClampedRow.holds Try.pinned (OpenSpec.ofChange tickDeadlineIsClampedSpec)

/-- ITS FALSE NEIGHBOUR: 'it returns false'. Refute it at one input. -/
def tickDeadlineIsClampedWrong : ChangeSpec := { name := "tickDeadlineIsClamped", fn := fun _ => fun
  | [d1, d2, d3, d4] => { results := [.lit (.bool false)], args := [d1, d2, d3, d4] }
  | _ => none }
def TickDeadlineIsClampedWrongFalsely : Prop := tickDeadlineIsClampedRow.holds Try.pinned (OpenSpec.ofChange tickDeadlineIsClampedWrong)

/-- 'ginnellaw01.TickWindowNumbers': WHATEVER THE INPUT: true; the input reads as it did. -/
def tickWindowNumbersSpec : ChangeSpec := { name := "tickWindowNumbers", fn := fun _ => fun
  | [d1, d2, d3] => { results := [.lit (.bool true)], args := [d1, d2, d3] }
  | _ => none }
def tickWindowNumbersRow : OpenClaim := { program := "ytajcbljojfcceaa", sum := "2b86b4b5ab31c579523926bf114c7653f55726b59c9022149316e881e7f11a8f", func := "ginnel/ginnellaw01.TickWindowNumbers", spec := "tickWindowNumbers", apart := false }
def TickWindowNumbersSaid : Prop := tickWindowNumbersRow.holds Try.pinned (OpenSpec.ofChange tickWindowNumbersSpec)

/-- ITS FALSE NEIGHBOUR: 'it returns false'. Refute it at one input. -/
def tickWindowNumbersWrong : ChangeSpec := { name := "tickWindowNumbers", fn := fun _ => fun
  | [d1, d2, d3] => { results := [.lit (.bool false)], args := [d1, d2, d3] }
  | _ => none }
def TickWindowNumbersWrongFalsely : Prop := tickWindowNumbersRow.holds Try.pinned (OpenSpec.ofChange tickWindowNumbersWrong)

/- THE SECOND FORM. 'bulk': how many values and letters a reading holds, each counted each time it is reached (what is shared counts as often as it is met; a slice's spare places count too). A statement '..UptoSaid' is the law's where the arguments, and the package variables that the reading takes, are together of bulk at most 1048576: NARROWER than '..Said'. Prove '..Said' where nothing that the law and all that it calls make is longer than what came in: it says more and counts as full. Else prove '..UptoSaid'. A law counts once. -/
mutual
def uptoBulk {H : Type} : DataW H → Nat
  | .lit (.string bytes) => bytes.length + 1
  | .lit _ => 1
  | .nil => 1
  | .ptr d => uptoBulk d + 1
  | .slice elems spare => uptoBulkAll elems + uptoBulkAll spare + 1
  | .agg parts => uptoBulkAll parts + 1
  | .iface _ d => uptoBulk d + 1
  | .map entries => uptoBulkEntries entries + 1
  | .held _ => 1
def uptoBulkAll {H : Type} : List (DataW H) → Nat
  | [] => 0
  | d :: r => uptoBulk d + uptoBulkAll r
def uptoBulkEntries {H : Type} : List (Lit × DataW H) → Nat
  | [] => 0
  | x :: r => uptoBulkEntry x + uptoBulkEntries r
def uptoBulkEntry {H : Type} : Lit × DataW H → Nat
  | (.string bytes, d) => bytes.length + uptoBulk d + 1
  | (_, d) => uptoBulk d + 1
 end
def uptoSmall : (H : Type) → List (DataW H) → Bool := fun _ ds => decide (uptoBulkAll ds ≤ 1048576)
def OpenSpec.upto (s : _root_.Go.ChangeSpec) : _root_.Go.OpenSpec := { _root_.Go.OpenSpec.ofChange s with cond := some uptoSmall }

/-- 'ginnellaw01.TickSaturates', WHERE WHAT IT READS IS OF BULK AT MOST 1048576: true; the input reads as it did. -/
def tickSaturatesUptoRow : OpenClaim := { program := "ytajcbljojfcceaa", sum := "2b86b4b5ab31c579523926bf114c7653f55726b59c9022149316e881e7f11a8f", func := "ginnel/ginnellaw01.TickSaturates", spec := "tickSaturates", apart := false, narrowed := true }
def TickSaturatesUptoSaid : Prop := tickSaturatesUptoRow.holds Try.pinned (OpenSpec.upto tickSaturatesSpec)

/-- 'ginnellaw01.TickMinAndDeadline', WHERE WHAT IT READS IS OF BULK AT MOST 1048576: true; the input reads as it did. -/
def tickMinAndDeadlineUptoRow : OpenClaim := { program := "ytajcbljojfcceaa", sum := "2b86b4b5ab31c579523926bf114c7653f55726b59c9022149316e881e7f11a8f", func := "ginnel/ginnellaw01.TickMinAndDeadline", spec := "tickMinAndDeadline", apart := false, narrowed := true }
def TickMinAndDeadlineUptoSaid : Prop := tickMinAndDeadlineUptoRow.holds Try.pinned (OpenSpec.upto tickMinAndDeadlineSpec)

/-- 'ginnellaw01.TickDeadlineIsClamped', WHERE WHAT IT READS IS OF BULK AT MOST 1048576: true; the input reads as it did. -/
def tickDeadlineIsClampedUptoRow : OpenClaim := { program := "ytajcbljojfcceaa", sum := "2b86b4b5ab31c579523926bf114c7653f55726b59c9022149316e881e7f11a8f", func := "ginnel/ginnellaw01.TickDeadlineIsClamped", spec := "tickDeadlineIsClamped", apart := false, narrowed := true }
def TickDeadlineIsClampedUptoSaid : Prop := tickDeadlineIsClampedUptoRow.holds Try.pinned (OpenSpec.upto tickDeadlineIsClampedSpec)

/-- 'ginnellaw01.TickWindowNumbers', WHERE WHAT IT READS IS OF BULK AT MOST 1048576: true; the input reads as it did. -/
def tickWindowNumbersUptoRow : OpenClaim := { program := "ytajcbljojfcceaa", sum := "2b86b4b5ab31c579523926bf114c7653f55726b59c9022149316e881e7f11a8f", func := "ginnel/ginnellaw01.TickWindowNumbers", spec := "tickWindowNumbers", apart := false, narrowed := true }
def TickWindowNumbersUptoSaid : Prop := tickWindowNumbersUptoRow.holds Try.pinned (OpenSpec.upto tickWindowNumbersSpec)

end Rows
end Go.Proofs.Ytajcbljojfcceaa
