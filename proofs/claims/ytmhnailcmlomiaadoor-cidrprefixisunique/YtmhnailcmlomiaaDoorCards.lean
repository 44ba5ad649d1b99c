/-
  DERIVED. GIVEN WITH THE SEED: THE CARDS: each row of YtmhnailcmlomiaaDoorRows.lean that lists a variable, with what it lists TIED to the program's text (the seventh form; the later family's looks); each row that meets fmt, with fmt's text TOLD by the authors' own Lean function (tested against real Go, not proved from fmt's source: count such statements apart). THE CARD IS WHAT COUNTS. Prove the row's statement (the work); the ties are given (YtmhnailcmlomiaaDoorTie.lean); close each card by the builder's one call (the guide's Derived/Test/ToyasCard.lean, 'card_holds'). Laid BY PROGRAM, IN A SANDBOX (cutbox-door.mjs). By AI agents, Wed Nov 11 2026. No macro, syntax, notation, axiom, sorry.
-/
import Derived.Test.YtmhnailcmlomiaaDoorRows
import GoSem.ClaimSeven
namespace Go.Proofs.YtmhnailcmlomiaaDoor
namespace Rows

/-- THE TIED CARD OF 'ginnellaw09.CidrPrefixIsUnique'. -/
def cidrPrefixIsUniqueCard : Claim7 := { stood := { row := cidrPrefixIsUniqueRow, standIns := [], harness := (true, "d1c3d95f8cfed412d5d3197396b4ae7af80d1dd54d174a43a212eac8a53b2338"), looks := true }, kinds := [], alts := [], laidByText := true, laidKinds := [.data, .data, .data, .sentinel, .sentinel], laidTests := true, laidLooks := .later }
def CidrPrefixIsUniqueCardSaid : Prop := Claim7.holds Tryd.pinned (.plain (OpenSpec.ofChange cidrPrefixIsUniqueSpec)) cidrPrefixIsUniqueCard

/-- THE TIED CARD OF 'ginnellaw09.CidrNesting'. -/
def cidrNestingCard : Claim7 := { stood := { row := cidrNestingRow, standIns := [], harness := (true, "d1c3d95f8cfed412d5d3197396b4ae7af80d1dd54d174a43a212eac8a53b2338"), looks := true }, kinds := [], alts := [], laidByText := true, laidKinds := [.data, .data, .data, .sentinel, .sentinel], laidTests := true, laidLooks := .later }
def CidrNestingCardSaid : Prop := Claim7.holds Tryd.pinned (.plain (OpenSpec.ofChange cidrNestingSpec)) cidrNestingCard

/-- THE SECOND FORM's CARD OF 'ginnellaw09.CidrPrefixIsUnique'. -/
def cidrPrefixIsUniqueUptoCard : Claim7 := { stood := { row := cidrPrefixIsUniqueUptoRow, standIns := [], harness := (true, "d1c3d95f8cfed412d5d3197396b4ae7af80d1dd54d174a43a212eac8a53b2338"), looks := true }, kinds := [], alts := [], laidByText := true, laidKinds := [.data, .data, .data, .sentinel, .sentinel], laidTests := true, laidLooks := .later }
def CidrPrefixIsUniqueUptoCardSaid : Prop := Claim7.holds Tryd.pinned (.plain (OpenSpec.upto cidrPrefixIsUniqueSpec)) cidrPrefixIsUniqueUptoCard

/-- THE SECOND FORM's CARD OF 'ginnellaw09.CidrNesting'. -/
def cidrNestingUptoCard : Claim7 := { stood := { row := cidrNestingUptoRow, standIns := [], harness := (true, "d1c3d95f8cfed412d5d3197396b4ae7af80d1dd54d174a43a212eac8a53b2338"), looks := true }, kinds := [], alts := [], laidByText := true, laidKinds := [.data, .data, .data, .sentinel, .sentinel], laidTests := true, laidLooks := .later }
def CidrNestingUptoCardSaid : Prop := Claim7.holds Tryd.pinned (.plain (OpenSpec.upto cidrNestingSpec)) cidrNestingUptoCard
end Rows
end Go.Proofs.YtmhnailcmlomiaaDoor
