/-
  DERIVED. GIVEN WITH THE SEED: THE CARDS: each row of YtbiblaeocbcfhaaGreatDoorRows.lean that lists a variable, with what it lists TIED to the program's text (the seventh form; the later family's looks); each row that meets fmt, with fmt's text TOLD by the authors' own Lean function (tested against real Go, not proved from fmt's source: count such statements apart). THE CARD IS WHAT COUNTS. Prove the row's statement (the work); the ties are given (YtbiblaeocbcfhaaGreatDoorTie.lean); close each card by the builder's one call (the guide's Derived/Test/ToyasCard.lean, 'card_holds'). Laid BY PROGRAM, IN A SANDBOX (cutbox-door.mjs). By AI agents, Wed Nov 11 2026. No macro, syntax, notation, axiom, sorry.
-/
import Derived.Test.YtbiblaeocbcfhaaGreatDoorRows
import GoSem.ClaimSeven
namespace Go.Proofs.YtbiblaeocbcfhaaGreatDoor
namespace Rows

/-- THE TIED CARD OF 'hearthlaw16.HttpWhole'. -/
def httpWholeCard : Claim7 := { stood := { row := httpWholeRow, standIns := [], harness := (true, "87cbac3e378da5b2446dbe34ede63dc2fa9f0ac5a5a6928f5b6e0a50ecc9ee46"), looks := true }, kinds := [], alts := [], laidByText := true, laidKinds := [.data, .data, .data, .data, .sentinel, .sentinel, .pinned], laidTests := true, laidLooks := .later }
def HttpWholeCardSaid : Prop := Claim7.holds Tryz.pinned (.plain (OpenSpec.ofChange httpWholeSpec)) httpWholeCard

/-- THE TIED CARD OF 'hearthlaw16.HttpEnds'. -/
def httpEndsCard : Claim7 := { stood := { row := httpEndsRow, standIns := [], harness := (true, "87cbac3e378da5b2446dbe34ede63dc2fa9f0ac5a5a6928f5b6e0a50ecc9ee46"), looks := true }, kinds := [], alts := [], laidByText := true, laidKinds := [.data, .data, .data, .data, .sentinel, .sentinel, .pinned], laidTests := true, laidLooks := .later }
def HttpEndsCardSaid : Prop := Claim7.holds Tryz.pinned (.plain (OpenSpec.ofChange httpEndsSpec)) httpEndsCard

/-- THE SECOND FORM's CARD OF 'hearthlaw16.HttpWhole'. -/
def httpWholeUptoCard : Claim7 := { stood := { row := httpWholeUptoRow, standIns := [], harness := (true, "87cbac3e378da5b2446dbe34ede63dc2fa9f0ac5a5a6928f5b6e0a50ecc9ee46"), looks := true }, kinds := [], alts := [], laidByText := true, laidKinds := [.data, .data, .data, .data, .sentinel, .sentinel, .pinned], laidTests := true, laidLooks := .later }
def HttpWholeUptoCardSaid : Prop := Claim7.holds Tryz.pinned (.plain (OpenSpec.upto httpWholeSpec)) httpWholeUptoCard

/-- THE SECOND FORM's CARD OF 'hearthlaw16.HttpEnds'. -/
def httpEndsUptoCard : Claim7 := { stood := { row := httpEndsUptoRow, standIns := [], harness := (true, "87cbac3e378da5b2446dbe34ede63dc2fa9f0ac5a5a6928f5b6e0a50ecc9ee46"), looks := true }, kinds := [], alts := [], laidByText := true, laidKinds := [.data, .data, .data, .data, .sentinel, .sentinel, .pinned], laidTests := true, laidLooks := .later }
def HttpEndsUptoCardSaid : Prop := Claim7.holds Tryz.pinned (.plain (OpenSpec.upto httpEndsSpec)) httpEndsUptoCard
end Rows
end Go.Proofs.YtbiblaeocbcfhaaGreatDoor
