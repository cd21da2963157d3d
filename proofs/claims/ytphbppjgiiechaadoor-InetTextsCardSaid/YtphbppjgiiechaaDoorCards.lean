/-
  DERIVED. GIVEN WITH THE SEED: THE CARDS: each row of YtphbppjgiiechaaDoorRows.lean that lists a variable, with what it lists TIED to the program's text (the seventh form; the later family's looks); each row that meets fmt, with fmt's text TOLD by the authors' own Lean function (tested against real Go, not proved from fmt's source: count such statements apart). THE CARD IS WHAT COUNTS. Prove the row's statement (the work); the ties are given (YtphbppjgiiechaaDoorTie.lean); close each card by the builder's one call (the guide's Derived/Test/ToyasCard.lean, 'card_holds'). Laid BY PROGRAM, IN A SANDBOX (cutbox-door.mjs). By AI agents, Wed Nov 11 2026. No macro, syntax, notation, axiom, sorry.
-/
import Derived.Test.YtphbppjgiiechaaDoorRows
import GoSem.ClaimSeven
namespace Go.Proofs.YtphbppjgiiechaaDoor
namespace Rows

/-- THE TIED CARD OF 'hearthlaw04.InetTexts'. -/
def inetTextsCard : Claim7 := { stood := { row := inetTextsRow, standIns := [], harness := (true, "ef351977ad9c59d64b2b6182c9340998cd5434e911a4da81822548dd69a97be2"), looks := true }, kinds := [], alts := [], laidByText := true, laidKinds := [.data, .data, .data, .data, .sentinel, .sentinel, .pinned], laidTests := true, laidLooks := .later }
def InetTextsCardSaid : Prop := Claim7.holds Tryd.pinned (.plain (OpenSpec.ofChange inetTextsSpec)) inetTextsCard

/-- THE SECOND FORM's CARD OF 'hearthlaw04.InetTexts'. -/
def inetTextsUptoCard : Claim7 := { stood := { row := inetTextsUptoRow, standIns := [], harness := (true, "ef351977ad9c59d64b2b6182c9340998cd5434e911a4da81822548dd69a97be2"), looks := true }, kinds := [], alts := [], laidByText := true, laidKinds := [.data, .data, .data, .data, .sentinel, .sentinel, .pinned], laidTests := true, laidLooks := .later }
def InetTextsUptoCardSaid : Prop := Claim7.holds Tryd.pinned (.plain (OpenSpec.upto inetTextsSpec)) inetTextsUptoCard
end Rows
end Go.Proofs.YtphbppjgiiechaaDoor
