/-
  DERIVED. GIVEN WITH THE SEED: THE CARDS: each row of YtdnfmilihfkhmaaDoorRows.lean that lists a variable, with what it lists TIED to the program's text (the seventh form; the later family's looks); each row that meets fmt, with fmt's text TOLD by the authors' own Lean function (tested against real Go, not proved from fmt's source: count such statements apart). THE CARD IS WHAT COUNTS. Prove the row's statement (the work); the ties are given (YtdnfmilihfkhmaaDoorTie.lean); close each card by the builder's one call (the guide's Derived/Test/ToyasCard.lean, 'card_holds'). Laid BY PROGRAM, IN A SANDBOX (cutbox-door.mjs). By AI agents, Wed Nov 11 2026. No macro, syntax, notation, axiom, sorry.
-/
import Derived.Test.YtdnfmilihfkhmaaDoorRows
import GoSem.ClaimSeven
namespace Go.Proofs.YtdnfmilihfkhmaaDoor
namespace Rows

/-- THE TIED CARD OF 'ginnellaw07.IpFormats'. -/
def ipFormatsCard : Claim7 := { stood := { row := ipFormatsRow, standIns := [], harness := (true, "a35da55d7877a8a557af40bf3c1725b39b9c701029a86015f58b1c14590102e4"), looks := true }, kinds := [], alts := [], laidByText := true, laidKinds := [.data, .data, .data, .sentinel, .sentinel], laidTests := true, laidLooks := .later }
def IpFormatsCardSaid : Prop := Claim7.holds Tryd.pinned (.plain (OpenSpec.ofChange ipFormatsSpec)) ipFormatsCard

/-- THE TIED CARD OF 'ginnellaw07.IpRoundTrip'. -/
def ipRoundTripCard : Claim7 := { stood := { row := ipRoundTripRow, standIns := [], harness := (true, "a35da55d7877a8a557af40bf3c1725b39b9c701029a86015f58b1c14590102e4"), looks := true }, kinds := [], alts := [], laidByText := true, laidKinds := [.data, .data, .data, .sentinel, .sentinel], laidTests := true, laidLooks := .later }
def IpRoundTripCardSaid : Prop := Claim7.holds Tryd.pinned (.plain (OpenSpec.ofChange ipRoundTripSpec)) ipRoundTripCard

/-- THE TIED CARD OF 'ginnellaw07.IpParsesExactly'. -/
def ipParsesExactlyCard : Claim7 := { stood := { row := ipParsesExactlyRow, standIns := [], harness := (true, "a35da55d7877a8a557af40bf3c1725b39b9c701029a86015f58b1c14590102e4"), looks := true }, kinds := [], alts := [], laidByText := true, laidKinds := [.data, .data, .data, .sentinel, .sentinel], laidTests := true, laidLooks := .later }
def IpParsesExactlyCardSaid : Prop := Claim7.holds Tryd.pinned (.plain (OpenSpec.ofChange ipParsesExactlySpec)) ipParsesExactlyCard

/-- THE TIED CARD OF 'ginnellaw07.IpParsesGroups'. -/
def ipParsesGroupsCard : Claim7 := { stood := { row := ipParsesGroupsRow, standIns := [], harness := (true, "a35da55d7877a8a557af40bf3c1725b39b9c701029a86015f58b1c14590102e4"), looks := true }, kinds := [], alts := [], laidByText := true, laidKinds := [.data, .data, .data, .sentinel, .sentinel], laidTests := true, laidLooks := .later }
def IpParsesGroupsCardSaid : Prop := Claim7.holds Tryd.pinned (.plain (OpenSpec.ofChange ipParsesGroupsSpec)) ipParsesGroupsCard

/-- THE TIED CARD OF 'ginnellaw07.IpConstructors'. -/
def ipConstructorsCard : Claim7 := { stood := { row := ipConstructorsRow, standIns := [], harness := (true, "a35da55d7877a8a557af40bf3c1725b39b9c701029a86015f58b1c14590102e4"), looks := true }, kinds := [], alts := [], laidByText := true, laidKinds := [.data, .data, .data, .sentinel, .sentinel], laidTests := true, laidLooks := .later }
def IpConstructorsCardSaid : Prop := Claim7.holds Tryd.pinned (.plain (OpenSpec.ofChange ipConstructorsSpec)) ipConstructorsCard

/-- THE TIED CARD OF 'ginnellaw08.HostSubdomains'. -/
def hostSubdomainsCard : Claim7 := { stood := { row := hostSubdomainsRow, standIns := [], harness := (true, "a35da55d7877a8a557af40bf3c1725b39b9c701029a86015f58b1c14590102e4"), looks := true }, kinds := [], alts := [], laidByText := true, laidKinds := [.data, .data, .data, .sentinel, .sentinel], laidTests := true, laidLooks := .later }
def HostSubdomainsCardSaid : Prop := Claim7.holds Tryd.pinned (.plain (OpenSpec.ofChange hostSubdomainsSpec)) hostSubdomainsCard

/-- THE TIED CARD OF 'ginnellaw08.HostPortForms'. -/
def hostPortFormsCard : Claim7 := { stood := { row := hostPortFormsRow, standIns := [], harness := (true, "a35da55d7877a8a557af40bf3c1725b39b9c701029a86015f58b1c14590102e4"), looks := true }, kinds := [], alts := [], laidByText := true, laidKinds := [.data, .data, .data, .sentinel, .sentinel], laidTests := true, laidLooks := .later }
def HostPortFormsCardSaid : Prop := Claim7.holds Tryd.pinned (.plain (OpenSpec.ofChange hostPortFormsSpec)) hostPortFormsCard

/-- THE SECOND FORM's CARD OF 'ginnellaw07.IpFormats'. -/
def ipFormatsUptoCard : Claim7 := { stood := { row := ipFormatsUptoRow, standIns := [], harness := (true, "a35da55d7877a8a557af40bf3c1725b39b9c701029a86015f58b1c14590102e4"), looks := true }, kinds := [], alts := [], laidByText := true, laidKinds := [.data, .data, .data, .sentinel, .sentinel], laidTests := true, laidLooks := .later }
def IpFormatsUptoCardSaid : Prop := Claim7.holds Tryd.pinned (.plain (OpenSpec.upto ipFormatsSpec)) ipFormatsUptoCard

/-- THE SECOND FORM's CARD OF 'ginnellaw07.IpRoundTrip'. -/
def ipRoundTripUptoCard : Claim7 := { stood := { row := ipRoundTripUptoRow, standIns := [], harness := (true, "a35da55d7877a8a557af40bf3c1725b39b9c701029a86015f58b1c14590102e4"), looks := true }, kinds := [], alts := [], laidByText := true, laidKinds := [.data, .data, .data, .sentinel, .sentinel], laidTests := true, laidLooks := .later }
def IpRoundTripUptoCardSaid : Prop := Claim7.holds Tryd.pinned (.plain (OpenSpec.upto ipRoundTripSpec)) ipRoundTripUptoCard

/-- THE SECOND FORM's CARD OF 'ginnellaw07.IpParsesExactly'. -/
def ipParsesExactlyUptoCard : Claim7 := { stood := { row := ipParsesExactlyUptoRow, standIns := [], harness := (true, "a35da55d7877a8a557af40bf3c1725b39b9c701029a86015f58b1c14590102e4"), looks := true }, kinds := [], alts := [], laidByText := true, laidKinds := [.data, .data, .data, .sentinel, .sentinel], laidTests := true, laidLooks := .later }
def IpParsesExactlyUptoCardSaid : Prop := Claim7.holds Tryd.pinned (.plain (OpenSpec.upto ipParsesExactlySpec)) ipParsesExactlyUptoCard

/-- THE SECOND FORM's CARD OF 'ginnellaw07.IpParsesGroups'. -/
def ipParsesGroupsUptoCard : Claim7 := { stood := { row := ipParsesGroupsUptoRow, standIns := [], harness := (true, "a35da55d7877a8a557af40bf3c1725b39b9c701029a86015f58b1c14590102e4"), looks := true }, kinds := [], alts := [], laidByText := true, laidKinds := [.data, .data, .data, .sentinel, .sentinel], laidTests := true, laidLooks := .later }
def IpParsesGroupsUptoCardSaid : Prop := Claim7.holds Tryd.pinned (.plain (OpenSpec.upto ipParsesGroupsSpec)) ipParsesGroupsUptoCard

/-- THE SECOND FORM's CARD OF 'ginnellaw07.IpConstructors'. -/
def ipConstructorsUptoCard : Claim7 := { stood := { row := ipConstructorsUptoRow, standIns := [], harness := (true, "a35da55d7877a8a557af40bf3c1725b39b9c701029a86015f58b1c14590102e4"), looks := true }, kinds := [], alts := [], laidByText := true, laidKinds := [.data, .data, .data, .sentinel, .sentinel], laidTests := true, laidLooks := .later }
def IpConstructorsUptoCardSaid : Prop := Claim7.holds Tryd.pinned (.plain (OpenSpec.upto ipConstructorsSpec)) ipConstructorsUptoCard

/-- THE SECOND FORM's CARD OF 'ginnellaw08.HostSubdomains'. -/
def hostSubdomainsUptoCard : Claim7 := { stood := { row := hostSubdomainsUptoRow, standIns := [], harness := (true, "a35da55d7877a8a557af40bf3c1725b39b9c701029a86015f58b1c14590102e4"), looks := true }, kinds := [], alts := [], laidByText := true, laidKinds := [.data, .data, .data, .sentinel, .sentinel], laidTests := true, laidLooks := .later }
def HostSubdomainsUptoCardSaid : Prop := Claim7.holds Tryd.pinned (.plain (OpenSpec.upto hostSubdomainsSpec)) hostSubdomainsUptoCard

/-- THE SECOND FORM's CARD OF 'ginnellaw08.HostPortForms'. -/
def hostPortFormsUptoCard : Claim7 := { stood := { row := hostPortFormsUptoRow, standIns := [], harness := (true, "a35da55d7877a8a557af40bf3c1725b39b9c701029a86015f58b1c14590102e4"), looks := true }, kinds := [], alts := [], laidByText := true, laidKinds := [.data, .data, .data, .sentinel, .sentinel], laidTests := true, laidLooks := .later }
def HostPortFormsUptoCardSaid : Prop := Claim7.holds Tryd.pinned (.plain (OpenSpec.upto hostPortFormsSpec)) hostPortFormsUptoCard
end Rows
end Go.Proofs.YtdnfmilihfkhmaaDoor
