/-
  DERIVED. GIVEN WITH THE SEED: THE CARDS: each row of YtonoaopioifedaaGreatDoorRows.lean that lists a variable, with what it lists TIED to the program's text (the seventh form; the later family's looks); each row that meets fmt, with fmt's text TOLD by the authors' own Lean function (tested against real Go, not proved from fmt's source: count such statements apart). THE CARD IS WHAT COUNTS. Prove the row's statement (the work); the ties are given (YtonoaopioifedaaGreatDoorTie.lean); close each card by the builder's one call (the guide's Derived/Test/ToyasCard.lean, 'card_holds'). Laid BY PROGRAM, IN A SANDBOX (cutbox-door.mjs). By AI agents, Wed Nov 11 2026. No macro, syntax, notation, axiom, sorry.
-/
import Derived.Test.YtonoaopioifedaaGreatDoorRows
import GoSem.ClaimSeven
namespace Go.Proofs.YtonoaopioifedaaGreatDoor
namespace Rows

/-- THE TIED CARD OF 'hearthlaw23.SsdpFinds'. -/
def ssdpFindsCard : Claim7 := { stood := { row := ssdpFindsRow, standIns := [], harness := (true, "374e1f925cddd7a3f0a17b2a95595b770bdc2da4a0833f7094c84df4ba19f4cf"), looks := true }, kinds := [], alts := [], laidByText := true, laidKinds := [.data, .data, .data, .data, .sentinel, .sentinel, .pinned], laidTests := true, laidLooks := .later }
def SsdpFindsCardSaid : Prop := Claim7.holds Tryz.pinned (.plain (OpenSpec.ofChange ssdpFindsSpec)) ssdpFindsCard

/-- THE TIED CARD OF 'hearthlaw23.SsdpTells'. -/
def ssdpTellsCard : Claim7 := { stood := { row := ssdpTellsRow, standIns := [], harness := (true, "374e1f925cddd7a3f0a17b2a95595b770bdc2da4a0833f7094c84df4ba19f4cf"), looks := true }, kinds := [], alts := [], laidByText := true, laidKinds := [.data, .data, .data, .data, .sentinel, .sentinel, .pinned], laidTests := true, laidLooks := .later }
def SsdpTellsCardSaid : Prop := Claim7.holds Tryz.pinned (.plain (OpenSpec.ofChange ssdpTellsSpec)) ssdpTellsCard

/-- THE TIED CARD OF 'hearthlaw23.SsdpOwn'. -/
def ssdpOwnCard : Claim7 := { stood := { row := ssdpOwnRow, standIns := [], harness := (true, "374e1f925cddd7a3f0a17b2a95595b770bdc2da4a0833f7094c84df4ba19f4cf"), looks := true }, kinds := [], alts := [], laidByText := true, laidKinds := [.data, .data, .data, .data, .sentinel, .sentinel, .pinned], laidTests := true, laidLooks := .later }
def SsdpOwnCardSaid : Prop := Claim7.holds Tryz.pinned (.plain (OpenSpec.ofChange ssdpOwnSpec)) ssdpOwnCard

/-- THE TIED CARD OF 'hearthlaw23.SsdpPlace'. -/
def ssdpPlaceCard : Claim7 := { stood := { row := ssdpPlaceRow, standIns := [], harness := (true, "374e1f925cddd7a3f0a17b2a95595b770bdc2da4a0833f7094c84df4ba19f4cf"), looks := true }, kinds := [], alts := [], laidByText := true, laidKinds := [.data, .data, .data, .data, .sentinel, .sentinel, .pinned], laidTests := true, laidLooks := .later }
def SsdpPlaceCardSaid : Prop := Claim7.holds Tryz.pinned (.plain (OpenSpec.ofChange ssdpPlaceSpec)) ssdpPlaceCard

/-- THE SECOND FORM's CARD OF 'hearthlaw23.SsdpFinds'. -/
def ssdpFindsUptoCard : Claim7 := { stood := { row := ssdpFindsUptoRow, standIns := [], harness := (true, "374e1f925cddd7a3f0a17b2a95595b770bdc2da4a0833f7094c84df4ba19f4cf"), looks := true }, kinds := [], alts := [], laidByText := true, laidKinds := [.data, .data, .data, .data, .sentinel, .sentinel, .pinned], laidTests := true, laidLooks := .later }
def SsdpFindsUptoCardSaid : Prop := Claim7.holds Tryz.pinned (.plain (OpenSpec.upto ssdpFindsSpec)) ssdpFindsUptoCard

/-- THE SECOND FORM's CARD OF 'hearthlaw23.SsdpTells'. -/
def ssdpTellsUptoCard : Claim7 := { stood := { row := ssdpTellsUptoRow, standIns := [], harness := (true, "374e1f925cddd7a3f0a17b2a95595b770bdc2da4a0833f7094c84df4ba19f4cf"), looks := true }, kinds := [], alts := [], laidByText := true, laidKinds := [.data, .data, .data, .data, .sentinel, .sentinel, .pinned], laidTests := true, laidLooks := .later }
def SsdpTellsUptoCardSaid : Prop := Claim7.holds Tryz.pinned (.plain (OpenSpec.upto ssdpTellsSpec)) ssdpTellsUptoCard

/-- THE SECOND FORM's CARD OF 'hearthlaw23.SsdpOwn'. -/
def ssdpOwnUptoCard : Claim7 := { stood := { row := ssdpOwnUptoRow, standIns := [], harness := (true, "374e1f925cddd7a3f0a17b2a95595b770bdc2da4a0833f7094c84df4ba19f4cf"), looks := true }, kinds := [], alts := [], laidByText := true, laidKinds := [.data, .data, .data, .data, .sentinel, .sentinel, .pinned], laidTests := true, laidLooks := .later }
def SsdpOwnUptoCardSaid : Prop := Claim7.holds Tryz.pinned (.plain (OpenSpec.upto ssdpOwnSpec)) ssdpOwnUptoCard

/-- THE SECOND FORM's CARD OF 'hearthlaw23.SsdpPlace'. -/
def ssdpPlaceUptoCard : Claim7 := { stood := { row := ssdpPlaceUptoRow, standIns := [], harness := (true, "374e1f925cddd7a3f0a17b2a95595b770bdc2da4a0833f7094c84df4ba19f4cf"), looks := true }, kinds := [], alts := [], laidByText := true, laidKinds := [.data, .data, .data, .data, .sentinel, .sentinel, .pinned], laidTests := true, laidLooks := .later }
def SsdpPlaceUptoCardSaid : Prop := Claim7.holds Tryz.pinned (.plain (OpenSpec.upto ssdpPlaceSpec)) ssdpPlaceUptoCard
end Rows
end Go.Proofs.YtonoaopioifedaaGreatDoor
