/-
  No cell of these rows narrows 'for every input' (looked for: loops, veiled, ifaces, maps, wideKeys, modest, calm, conditions, laid).
  DERIVED. THE GIVEN ROWS OF THIS SEAT. 3 by the template 'for every input the law returns true; each argument reads behind the call as it read before'; 0 by the template 'total and deterministic' (their statements: YtgbbgkbpafpnbaaTotals.lean).
  GIVEN WITH THE SEED: the statements are not yours to turn. If you find one false, say at which input.
  Laid BY PROGRAM, IN A SANDBOX (cutbox-rows.mjs): the forced cells as the released guide's own fill.sh prints them over the translation 355ef5c1d9d4396a… (all of the seat's roots in one cut). By AI agents, Wed Nov 11 2026. No macro, syntax, notation, axiom, sorry.
-/
import Derived.Test.YtgbbgkbpafpnbaaChecked
import GoSem.Claim
import GoSem.ClaimJoined
import GoSem.ClaimMapViews
import Derived.JoinedTies
import Derived.KernelRfl
namespace Go.Proofs.Ytgbbgkbpafpnbaa
/- THE CELL 'sum', in the pinned program and in every row, IS THE sha256 OF THE DUMP (.gsa) THAT YtgbbgkbpafpnbaaProg.lean LOADS. Nothing in Lean hashes anything: it is a label: what it is worth is what the hold of that sum in a sandbox is worth. -/
noncomputable def Try.pinned : Pinned := { name := "ytgbbgkbpafpnbaa", sum := "355ef5c1d9d4396ae94135f1b9da302b45af9eec81866b027728a3879c9d9384", checked := Try.checked }
namespace Rows
def none {H : Type} : Left H := { results := [], args := [] }

/-- 'ginnellaw11.BlocklistMatchesModel': WHATEVER THE INPUT: true; the input reads as it did. -/
def blocklistMatchesModelSpec : ChangeSpec := { name := "blocklistMatchesModel", fn := fun _ => fun
  | [d1, d2, d3, d4] => { results := [.lit (.bool true)], args := [d1, d2, d3, d4] }
  | _ => none }
def blocklistMatchesModelRow : OpenClaim := { program := "ytgbbgkbpafpnbaa", sum := "355ef5c1d9d4396ae94135f1b9da302b45af9eec81866b027728a3879c9d9384", func := "ginnel/ginnellaw11.BlocklistMatchesModel", spec := "blocklistMatchesModel", unfollowed := true, recurses := true, apart := false }
def BlocklistMatchesModelSaid : Prop := blocklistMatchesModelRow.holds Try.pinned (OpenSpec.ofChange blocklistMatchesModelSpec)

/-- ITS FALSE NEIGHBOUR: 'it returns false'. Refute it at one input. -/
def blocklistMatchesModelWrong : ChangeSpec := { name := "blocklistMatchesModel", fn := fun _ => fun
  | [d1, d2, d3, d4] => { results := [.lit (.bool false)], args := [d1, d2, d3, d4] }
  | _ => none }
def BlocklistMatchesModelWrongFalsely : Prop := blocklistMatchesModelRow.holds Try.pinned (OpenSpec.ofChange blocklistMatchesModelWrong)

/-- 'ginnellaw11.BlocklistDisjoint': WHATEVER THE INPUT: true; the input reads as it did. -/
def blocklistDisjointSpec : ChangeSpec := { name := "blocklistDisjoint", fn := fun _ => fun
  | [d1, d2] => { results := [.lit (.bool true)], args := [d1, d2] }
  | _ => none }
def blocklistDisjointRow : OpenClaim := { program := "ytgbbgkbpafpnbaa", sum := "355ef5c1d9d4396ae94135f1b9da302b45af9eec81866b027728a3879c9d9384", func := "ginnel/ginnellaw11.BlocklistDisjoint", spec := "blocklistDisjoint", unfollowed := true, recurses := true, apart := false }
def BlocklistDisjointSaid : Prop := blocklistDisjointRow.holds Try.pinned (OpenSpec.ofChange blocklistDisjointSpec)

/-- ITS FALSE NEIGHBOUR: 'it returns false'. Refute it at one input. -/
def blocklistDisjointWrong : ChangeSpec := { name := "blocklistDisjoint", fn := fun _ => fun
  | [d1, d2] => { results := [.lit (.bool false)], args := [d1, d2] }
  | _ => none }
def BlocklistDisjointWrongFalsely : Prop := blocklistDisjointRow.holds Try.pinned (OpenSpec.ofChange blocklistDisjointWrong)

/-- 'ginnellaw11.BlocklistCoversMapped': WHATEVER THE INPUT: true; the input reads as it did. -/
def blocklistCoversMappedSpec : ChangeSpec := { name := "blocklistCoversMapped", fn := fun _ => fun
  | [d1, d2, d3, d4] => { results := [.lit (.bool true)], args := [d1, d2, d3, d4] }
  | _ => none }
def blocklistCoversMappedRow : OpenClaim := { program := "ytgbbgkbpafpnbaa", sum := "355ef5c1d9d4396ae94135f1b9da302b45af9eec81866b027728a3879c9d9384", func := "ginnel/ginnellaw11.BlocklistCoversMapped", spec := "blocklistCoversMapped", unfollowed := true, recurses := true, apart := false }
def BlocklistCoversMappedSaid : Prop := blocklistCoversMappedRow.holds Try.pinned (OpenSpec.ofChange blocklistCoversMappedSpec)

/-- ITS FALSE NEIGHBOUR: 'it returns false'. Refute it at one input. -/
def blocklistCoversMappedWrong : ChangeSpec := { name := "blocklistCoversMapped", fn := fun _ => fun
  | [d1, d2, d3, d4] => { results := [.lit (.bool false)], args := [d1, d2, d3, d4] }
  | _ => none }
def BlocklistCoversMappedWrongFalsely : Prop := blocklistCoversMappedRow.holds Try.pinned (OpenSpec.ofChange blocklistCoversMappedWrong)

/- THE SECOND FORM. 'bulk': how many values and letters a reading holds, each counted each time it is reached (what is shared counts as often as it is met; a slice's spare places count too). A statement '..UptoSaid' is the law's where the arguments, and the package variables that the reading takes, are together of bulk at most 1048576: NARROWER than '..Said'. Prove '..Said' where nothing that the law and all that it calls make is longer than what came in: it says more and counts as full. Else prove '..UptoSaid'. A law counts once. -/
mutual
def uptoBulk {H : Type} : DataW H → Nat
  | .lit (.string bytes) => bytes.length + 1
  | .lit _ => 1
  | .nil => 1
  | .ptr d => uptoBulk d + 1
  | .slice elems spare => uptoBulkAll elems + uptoBulkAll spare + 1
  | .agg parts => uptoBulkAll parts + 1
  | .iface _ d => uptoBulk d + 1
  | .map entries => uptoBulkEntries entries + 1
  | .held _ => 1
def uptoBulkAll {H : Type} : List (DataW H) → Nat
  | [] => 0
  | d :: r => uptoBulk d + uptoBulkAll r
def uptoBulkEntries {H : Type} : List (Lit × DataW H) → Nat
  | [] => 0
  | x :: r => uptoBulkEntry x + uptoBulkEntries r
def uptoBulkEntry {H : Type} : Lit × DataW H → Nat
  | (.string bytes, d) => bytes.length + uptoBulk d + 1
  | (_, d) => uptoBulk d + 1
 end
def uptoSmall : (H : Type) → List (DataW H) → Bool := fun _ ds => decide (uptoBulkAll ds ≤ 1048576)
def OpenSpec.upto (s : _root_.Go.ChangeSpec) : _root_.Go.OpenSpec := { _root_.Go.OpenSpec.ofChange s with cond := some uptoSmall }

/-- 'ginnellaw11.BlocklistMatchesModel', WHERE WHAT IT READS IS OF BULK AT MOST 1048576: true; the input reads as it did. -/
def blocklistMatchesModelUptoRow : OpenClaim := { program := "ytgbbgkbpafpnbaa", sum := "355ef5c1d9d4396ae94135f1b9da302b45af9eec81866b027728a3879c9d9384", func := "ginnel/ginnellaw11.BlocklistMatchesModel", spec := "blocklistMatchesModel", unfollowed := true, recurses := true, apart := false, narrowed := true }
def BlocklistMatchesModelUptoSaid : Prop := blocklistMatchesModelUptoRow.holds Try.pinned (OpenSpec.upto blocklistMatchesModelSpec)

/-- 'ginnellaw11.BlocklistDisjoint', WHERE WHAT IT READS IS OF BULK AT MOST 1048576: true; the input reads as it did. -/
def blocklistDisjointUptoRow : OpenClaim := { program := "ytgbbgkbpafpnbaa", sum := "355ef5c1d9d4396ae94135f1b9da302b45af9eec81866b027728a3879c9d9384", func := "ginnel/ginnellaw11.BlocklistDisjoint", spec := "blocklistDisjoint", unfollowed := true, recurses := true, apart := false, narrowed := true }
def BlocklistDisjointUptoSaid : Prop := blocklistDisjointUptoRow.holds Try.pinned (OpenSpec.upto blocklistDisjointSpec)

/-- 'ginnellaw11.BlocklistCoversMapped', WHERE WHAT IT READS IS OF BULK AT MOST 1048576: true; the input reads as it did. -/
def blocklistCoversMappedUptoRow : OpenClaim := { program := "ytgbbgkbpafpnbaa", sum := "355ef5c1d9d4396ae94135f1b9da302b45af9eec81866b027728a3879c9d9384", func := "ginnel/ginnellaw11.BlocklistCoversMapped", spec := "blocklistCoversMapped", unfollowed := true, recurses := true, apart := false, narrowed := true }
def BlocklistCoversMappedUptoSaid : Prop := blocklistCoversMappedUptoRow.holds Try.pinned (OpenSpec.upto blocklistCoversMappedSpec)

end Rows
end Go.Proofs.Ytgbbgkbpafpnbaa
