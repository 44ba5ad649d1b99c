/-
  DERIVED. GIVEN WITH THE SEED: THE CARDS: each row of YtmhnailcmlomiaaGreatDoorRows.lean that lists a variable, with what it lists TIED to the program's text (the seventh form; the later family's looks); each row that meets fmt, with fmt's text TOLD by the authors' own Lean function (tested against real Go, not proved from fmt's source: count such statements apart). THE CARD IS WHAT COUNTS. Prove the row's statement (the work); the ties are given (YtmhnailcmlomiaaGreatDoorTie.lean); close each card by the builder's one call (the guide's Derived/Test/ToyasCard.lean, 'card_holds'). Laid BY PROGRAM, IN A SANDBOX (cutbox-door.mjs). By AI agents, Wed Nov 11 2026. No macro, syntax, notation, axiom, sorry.
-/
import Derived.Test.YtmhnailcmlomiaaGreatDoorRows
import GoSem.ClaimSeven
namespace Go.Proofs.YtmhnailcmlomiaaGreatDoor
namespace Rows

/-- THE TIED CARD OF 'ginnellaw08.HostParsesExactly'. -/
def hostParsesExactlyCard : Claim7 := { stood := { row := hostParsesExactlyRow, standIns := [], harness := (true, "e45766c48267df5df96682c7f66cb6bfe181adad0d7d79886f88292e0a7b90f3"), looks := true }, kinds := [], alts := [], laidByText := true, laidKinds := [.data, .data, .data, .sentinel, .sentinel], laidTests := true, laidLooks := .later }
def HostParsesExactlyCardSaid : Prop := Claim7.holds Tryz.pinned (.plain (OpenSpec.ofChange hostParsesExactlySpec)) hostParsesExactlyCard

/-- THE TIED CARD OF 'ginnellaw08.HostLengthLimits'. -/
def hostLengthLimitsCard : Claim7 := { stood := { row := hostLengthLimitsRow, standIns := [], harness := (true, "e45766c48267df5df96682c7f66cb6bfe181adad0d7d79886f88292e0a7b90f3"), looks := true }, kinds := [], alts := [], laidByText := true, laidKinds := [.data, .data, .data, .sentinel, .sentinel], laidTests := true, laidLooks := .later }
def HostLengthLimitsCardSaid : Prop := Claim7.holds Tryz.pinned (.plain (OpenSpec.ofChange hostLengthLimitsSpec)) hostLengthLimitsCard

/-- THE TIED CARD OF 'ginnellaw08.HostRoundTrip'. -/
def hostRoundTripCard : Claim7 := { stood := { row := hostRoundTripRow, standIns := [], harness := (true, "e45766c48267df5df96682c7f66cb6bfe181adad0d7d79886f88292e0a7b90f3"), looks := true }, kinds := [], alts := [], laidByText := true, laidKinds := [.data, .data, .data, .sentinel, .sentinel], laidTests := true, laidLooks := .later }
def HostRoundTripCardSaid : Prop := Claim7.holds Tryz.pinned (.plain (OpenSpec.ofChange hostRoundTripSpec)) hostRoundTripCard

/-- THE TIED CARD OF 'ginnellaw09.CidrMatchesModel'. -/
def cidrMatchesModelCard : Claim7 := { stood := { row := cidrMatchesModelRow, standIns := [], harness := (true, "e45766c48267df5df96682c7f66cb6bfe181adad0d7d79886f88292e0a7b90f3"), looks := true }, kinds := [], alts := [], laidByText := true, laidKinds := [.data, .data, .data, .sentinel, .sentinel], laidTests := true, laidLooks := .later }
def CidrMatchesModelCardSaid : Prop := Claim7.holds Tryz.pinned (.plain (OpenSpec.ofChange cidrMatchesModelSpec)) cidrMatchesModelCard

/-- THE TIED CARD OF 'ginnellaw09.CidrTextForms'. -/
def cidrTextFormsCard : Claim7 := { stood := { row := cidrTextFormsRow, standIns := [], harness := (true, "e45766c48267df5df96682c7f66cb6bfe181adad0d7d79886f88292e0a7b90f3"), looks := true }, kinds := [], alts := [], laidByText := true, laidKinds := [.data, .data, .data, .sentinel, .sentinel], laidTests := true, laidLooks := .later }
def CidrTextFormsCardSaid : Prop := Claim7.holds Tryz.pinned (.plain (OpenSpec.ofChange cidrTextFormsSpec)) cidrTextFormsCard

/-- THE SECOND FORM's CARD OF 'ginnellaw08.HostParsesExactly'. -/
def hostParsesExactlyUptoCard : Claim7 := { stood := { row := hostParsesExactlyUptoRow, standIns := [], harness := (true, "e45766c48267df5df96682c7f66cb6bfe181adad0d7d79886f88292e0a7b90f3"), looks := true }, kinds := [], alts := [], laidByText := true, laidKinds := [.data, .data, .data, .sentinel, .sentinel], laidTests := true, laidLooks := .later }
def HostParsesExactlyUptoCardSaid : Prop := Claim7.holds Tryz.pinned (.plain (OpenSpec.upto hostParsesExactlySpec)) hostParsesExactlyUptoCard

/-- THE SECOND FORM's CARD OF 'ginnellaw08.HostLengthLimits'. -/
def hostLengthLimitsUptoCard : Claim7 := { stood := { row := hostLengthLimitsUptoRow, standIns := [], harness := (true, "e45766c48267df5df96682c7f66cb6bfe181adad0d7d79886f88292e0a7b90f3"), looks := true }, kinds := [], alts := [], laidByText := true, laidKinds := [.data, .data, .data, .sentinel, .sentinel], laidTests := true, laidLooks := .later }
def HostLengthLimitsUptoCardSaid : Prop := Claim7.holds Tryz.pinned (.plain (OpenSpec.upto hostLengthLimitsSpec)) hostLengthLimitsUptoCard

/-- THE SECOND FORM's CARD OF 'ginnellaw08.HostRoundTrip'. -/
def hostRoundTripUptoCard : Claim7 := { stood := { row := hostRoundTripUptoRow, standIns := [], harness := (true, "e45766c48267df5df96682c7f66cb6bfe181adad0d7d79886f88292e0a7b90f3"), looks := true }, kinds := [], alts := [], laidByText := true, laidKinds := [.data, .data, .data, .sentinel, .sentinel], laidTests := true, laidLooks := .later }
def HostRoundTripUptoCardSaid : Prop := Claim7.holds Tryz.pinned (.plain (OpenSpec.upto hostRoundTripSpec)) hostRoundTripUptoCard

/-- THE SECOND FORM's CARD OF 'ginnellaw09.CidrMatchesModel'. -/
def cidrMatchesModelUptoCard : Claim7 := { stood := { row := cidrMatchesModelUptoRow, standIns := [], harness := (true, "e45766c48267df5df96682c7f66cb6bfe181adad0d7d79886f88292e0a7b90f3"), looks := true }, kinds := [], alts := [], laidByText := true, laidKinds := [.data, .data, .data, .sentinel, .sentinel], laidTests := true, laidLooks := .later }
def CidrMatchesModelUptoCardSaid : Prop := Claim7.holds Tryz.pinned (.plain (OpenSpec.upto cidrMatchesModelSpec)) cidrMatchesModelUptoCard

/-- THE SECOND FORM's CARD OF 'ginnellaw09.CidrTextForms'. -/
def cidrTextFormsUptoCard : Claim7 := { stood := { row := cidrTextFormsUptoRow, standIns := [], harness := (true, "e45766c48267df5df96682c7f66cb6bfe181adad0d7d79886f88292e0a7b90f3"), looks := true }, kinds := [], alts := [], laidByText := true, laidKinds := [.data, .data, .data, .sentinel, .sentinel], laidTests := true, laidLooks := .later }
def CidrTextFormsUptoCardSaid : Prop := Claim7.holds Tryz.pinned (.plain (OpenSpec.upto cidrTextFormsSpec)) cidrTextFormsUptoCard
end Rows
end Go.Proofs.YtmhnailcmlomiaaGreatDoor
