/-
  DERIVED. GIVEN WITH THE SEED: THE CARDS: each row of YtinmlndimgengaaGreatDoorRows.lean that lists a variable, with what it lists TIED to the program's text (the seventh form; the later family's looks); each row that meets fmt, with fmt's text TOLD by the authors' own Lean function (tested against real Go, not proved from fmt's source: count such statements apart). THE CARD IS WHAT COUNTS. Prove the row's statement (the work); the ties are given (YtinmlndimgengaaGreatDoorTie.lean); close each card by the builder's one call (the guide's Derived/Test/ToyasCard.lean, 'card_holds'). Laid BY PROGRAM, IN A SANDBOX (cutbox-door.mjs). By AI agents, Wed Nov 11 2026. No macro, syntax, notation, axiom, sorry.
-/
import Derived.Test.YtinmlndimgengaaGreatDoorRows
import GoSem.ClaimSeven
namespace Go.Proofs.YtinmlndimgengaaGreatDoor
namespace Rows

/-- THE TIED CARD OF 'hearthlaw21.IgdPlays'. -/
def igdPlaysCard : Claim7 := { stood := { row := igdPlaysRow, standIns := [], harness := (true, "0263cd1e7a410c4e6272984d2ca10cebc4f26e37414fe49170d4f03a64688a69"), looks := true }, kinds := [], alts := [], laidByText := true, laidKinds := [.data, .data, .data, .data, .sentinel, .sentinel, .pinned], laidTests := true, laidLooks := .later }
def IgdPlaysCardSaid : Prop := Claim7.holds Tryz.pinned (.plain (OpenSpec.ofChange igdPlaysSpec)) igdPlaysCard

/-- THE TIED CARD OF 'hearthlaw21.IgdWords'. -/
def igdWordsCard : Claim7 := { stood := { row := igdWordsRow, standIns := [], harness := (true, "0263cd1e7a410c4e6272984d2ca10cebc4f26e37414fe49170d4f03a64688a69"), looks := true }, kinds := [], alts := [], laidByText := true, laidKinds := [.data, .data, .data, .data, .sentinel, .sentinel, .pinned], laidTests := true, laidLooks := .later }
def IgdWordsCardSaid : Prop := Claim7.holds Tryz.pinned (.plain (OpenSpec.ofChange igdWordsSpec)) igdWordsCard

/-- THE TIED CARD OF 'hearthlaw21.IgdTells'. -/
def igdTellsCard : Claim7 := { stood := { row := igdTellsRow, standIns := [], harness := (true, "0263cd1e7a410c4e6272984d2ca10cebc4f26e37414fe49170d4f03a64688a69"), looks := true }, kinds := [], alts := [], laidByText := true, laidKinds := [.data, .data, .data, .data, .sentinel, .sentinel, .pinned], laidTests := true, laidLooks := .later }
def IgdTellsCardSaid : Prop := Claim7.holds Tryz.pinned (.plain (OpenSpec.ofChange igdTellsSpec)) igdTellsCard

/-- THE TIED CARD OF 'hearthlaw21.IgdBack'. -/
def igdBackCard : Claim7 := { stood := { row := igdBackRow, standIns := [], harness := (true, "0263cd1e7a410c4e6272984d2ca10cebc4f26e37414fe49170d4f03a64688a69"), looks := true }, kinds := [], alts := [], laidByText := true, laidKinds := [.data, .data, .data, .data, .sentinel, .sentinel, .pinned], laidTests := true, laidLooks := .later }
def IgdBackCardSaid : Prop := Claim7.holds Tryz.pinned (.plain (OpenSpec.ofChange igdBackSpec)) igdBackCard

/-- THE TIED CARD OF 'hearthlaw21.IgdOrder'. -/
def igdOrderCard : Claim7 := { stood := { row := igdOrderRow, standIns := [], harness := (true, "0263cd1e7a410c4e6272984d2ca10cebc4f26e37414fe49170d4f03a64688a69"), looks := true }, kinds := [], alts := [], laidByText := true, laidKinds := [.data, .data, .data, .data, .sentinel, .sentinel, .pinned], laidTests := true, laidLooks := .later }
def IgdOrderCardSaid : Prop := Claim7.holds Tryz.pinned (.plain (OpenSpec.ofChange igdOrderSpec)) igdOrderCard

/-- THE TIED CARD OF 'hearthlaw21.IgdRefused'. -/
def igdRefusedCard : Claim7 := { stood := { row := igdRefusedRow, standIns := [], harness := (true, "0263cd1e7a410c4e6272984d2ca10cebc4f26e37414fe49170d4f03a64688a69"), looks := true }, kinds := [], alts := [], laidByText := true, laidKinds := [.data, .data, .data, .data, .sentinel, .sentinel, .pinned], laidTests := true, laidLooks := .later }
def IgdRefusedCardSaid : Prop := Claim7.holds Tryz.pinned (.plain (OpenSpec.ofChange igdRefusedSpec)) igdRefusedCard

/-- THE SECOND FORM's CARD OF 'hearthlaw21.IgdPlays'. -/
def igdPlaysUptoCard : Claim7 := { stood := { row := igdPlaysUptoRow, standIns := [], harness := (true, "0263cd1e7a410c4e6272984d2ca10cebc4f26e37414fe49170d4f03a64688a69"), looks := true }, kinds := [], alts := [], laidByText := true, laidKinds := [.data, .data, .data, .data, .sentinel, .sentinel, .pinned], laidTests := true, laidLooks := .later }
def IgdPlaysUptoCardSaid : Prop := Claim7.holds Tryz.pinned (.plain (OpenSpec.upto igdPlaysSpec)) igdPlaysUptoCard

/-- THE SECOND FORM's CARD OF 'hearthlaw21.IgdWords'. -/
def igdWordsUptoCard : Claim7 := { stood := { row := igdWordsUptoRow, standIns := [], harness := (true, "0263cd1e7a410c4e6272984d2ca10cebc4f26e37414fe49170d4f03a64688a69"), looks := true }, kinds := [], alts := [], laidByText := true, laidKinds := [.data, .data, .data, .data, .sentinel, .sentinel, .pinned], laidTests := true, laidLooks := .later }
def IgdWordsUptoCardSaid : Prop := Claim7.holds Tryz.pinned (.plain (OpenSpec.upto igdWordsSpec)) igdWordsUptoCard

/-- THE SECOND FORM's CARD OF 'hearthlaw21.IgdTells'. -/
def igdTellsUptoCard : Claim7 := { stood := { row := igdTellsUptoRow, standIns := [], harness := (true, "0263cd1e7a410c4e6272984d2ca10cebc4f26e37414fe49170d4f03a64688a69"), looks := true }, kinds := [], alts := [], laidByText := true, laidKinds := [.data, .data, .data, .data, .sentinel, .sentinel, .pinned], laidTests := true, laidLooks := .later }
def IgdTellsUptoCardSaid : Prop := Claim7.holds Tryz.pinned (.plain (OpenSpec.upto igdTellsSpec)) igdTellsUptoCard

/-- THE SECOND FORM's CARD OF 'hearthlaw21.IgdBack'. -/
def igdBackUptoCard : Claim7 := { stood := { row := igdBackUptoRow, standIns := [], harness := (true, "0263cd1e7a410c4e6272984d2ca10cebc4f26e37414fe49170d4f03a64688a69"), looks := true }, kinds := [], alts := [], laidByText := true, laidKinds := [.data, .data, .data, .data, .sentinel, .sentinel, .pinned], laidTests := true, laidLooks := .later }
def IgdBackUptoCardSaid : Prop := Claim7.holds Tryz.pinned (.plain (OpenSpec.upto igdBackSpec)) igdBackUptoCard

/-- THE SECOND FORM's CARD OF 'hearthlaw21.IgdOrder'. -/
def igdOrderUptoCard : Claim7 := { stood := { row := igdOrderUptoRow, standIns := [], harness := (true, "0263cd1e7a410c4e6272984d2ca10cebc4f26e37414fe49170d4f03a64688a69"), looks := true }, kinds := [], alts := [], laidByText := true, laidKinds := [.data, .data, .data, .data, .sentinel, .sentinel, .pinned], laidTests := true, laidLooks := .later }
def IgdOrderUptoCardSaid : Prop := Claim7.holds Tryz.pinned (.plain (OpenSpec.upto igdOrderSpec)) igdOrderUptoCard

/-- THE SECOND FORM's CARD OF 'hearthlaw21.IgdRefused'. -/
def igdRefusedUptoCard : Claim7 := { stood := { row := igdRefusedUptoRow, standIns := [], harness := (true, "0263cd1e7a410c4e6272984d2ca10cebc4f26e37414fe49170d4f03a64688a69"), looks := true }, kinds := [], alts := [], laidByText := true, laidKinds := [.data, .data, .data, .data, .sentinel, .sentinel, .pinned], laidTests := true, laidLooks := .later }
def IgdRefusedUptoCardSaid : Prop := Claim7.holds Tryz.pinned (.plain (OpenSpec.upto igdRefusedSpec)) igdRefusedUptoCard
end Rows
end Go.Proofs.YtinmlndimgengaaGreatDoor
