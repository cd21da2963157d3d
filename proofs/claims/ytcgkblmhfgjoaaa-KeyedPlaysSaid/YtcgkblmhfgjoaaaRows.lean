/-
  No cell of these rows narrows 'for every input' (looked for: loops, veiled, ifaces, maps, wideKeys, modest, calm, conditions, laid).
  DERIVED. THE GIVEN ROWS OF THIS SEAT. 5 by the template 'for every input the law returns true; each argument reads behind the call as it read before'; 0 by the template 'total and deterministic' (their statements: YtcgkblmhfgjoaaaTotals.lean).
  GIVEN WITH THE SEED: the statements are not yours to turn. If you find one false, say at which input.
  Laid BY PROGRAM, IN A SANDBOX (cutbox-rows.mjs): the forced cells as the released guide's own fill.sh prints them over the translation 534a3e9199ffafc4… (all of the seat's roots in one cut). By AI agents, Wed Nov 11 2026. No macro, syntax, notation, axiom, sorry.
-/
import Derived.Test.YtcgkblmhfgjoaaaChecked
import GoSem.Claim
import GoSem.ClaimJoined
import GoSem.ClaimMapViews
import Derived.JoinedTies
import Derived.KernelRfl
namespace Go.Proofs.Ytcgkblmhfgjoaaa
/- THE CELL 'sum', in the pinned program and in every row, IS THE sha256 OF THE DUMP (.gsa) THAT YtcgkblmhfgjoaaaProg.lean LOADS. Nothing in Lean hashes anything: it is a label: what it is worth is what the hold of that sum in a sandbox is worth. -/
noncomputable def Try.pinned : Pinned := { name := "ytcgkblmhfgjoaaa", sum := "534a3e9199ffafc4be63364451415ab1db3ec4c51fd3532cedbdf756c470bec6", checked := Try.checked }
namespace Rows
def none {H : Type} : Left H := { results := [], args := [] }

/-- 'hearthlaw06.KeyedPlays': WHATEVER THE INPUT: true; the input reads as it did. -/
def keyedPlaysSpec : ChangeSpec := { name := "keyedPlays", fn := fun _ => fun
  | [d1, d2] => { results := [.lit (.bool true)], args := [d1, d2] }
  | _ => none }
def keyedPlaysRow : OpenClaim := { program := "ytcgkblmhfgjoaaa", sum := "534a3e9199ffafc4be63364451415ab1db3ec4c51fd3532cedbdf756c470bec6", func := "hearth/hearthlaw06.KeyedPlays", spec := "keyedPlays", unfollowed := true, recurses := true, apart := false }
def KeyedPlaysSaid : Prop := keyedPlaysRow.holds Try.pinned (OpenSpec.ofChange keyedPlaysSpec)

/-- ITS FALSE NEIGHBOUR: 'it returns false'. Refute it at one input. -/
def keyedPlaysWrong : ChangeSpec := { name := "keyedPlays", fn := fun _ => fun
  | [d1, d2] => { results := [.lit (.bool false)], args := [d1, d2] }
  | _ => none }
def KeyedPlaysWrongFalsely : Prop := keyedPlaysRow.holds Try.pinned (OpenSpec.ofChange keyedPlaysWrong)

/-- 'hearthlaw06.KeyedStops': WHATEVER THE INPUT: true; the input reads as it did. -/
def keyedStopsSpec : ChangeSpec := { name := "keyedStops", fn := fun _ => fun
  | [d1, d2] => { results := [.lit (.bool true)], args := [d1, d2] }
  | _ => none }
def keyedStopsRow : OpenClaim := { program := "ytcgkblmhfgjoaaa", sum := "534a3e9199ffafc4be63364451415ab1db3ec4c51fd3532cedbdf756c470bec6", func := "hearth/hearthlaw06.KeyedStops", spec := "keyedStops", unfollowed := true, recurses := true, apart := false }
def KeyedStopsSaid : Prop := keyedStopsRow.holds Try.pinned (OpenSpec.ofChange keyedStopsSpec)

/-- ITS FALSE NEIGHBOUR: 'it returns false'. Refute it at one input. -/
def keyedStopsWrong : ChangeSpec := { name := "keyedStops", fn := fun _ => fun
  | [d1, d2] => { results := [.lit (.bool false)], args := [d1, d2] }
  | _ => none }
def KeyedStopsWrongFalsely : Prop := keyedStopsRow.holds Try.pinned (OpenSpec.ofChange keyedStopsWrong)

/-- 'hearthlaw06.KeyedTurned': WHATEVER THE INPUT: true; the input reads as it did. -/
def keyedTurnedSpec : ChangeSpec := { name := "keyedTurned", fn := fun _ => fun
  | [d] => { results := [.lit (.bool true)], args := [d] }
  | _ => none }
def keyedTurnedRow : OpenClaim := { program := "ytcgkblmhfgjoaaa", sum := "534a3e9199ffafc4be63364451415ab1db3ec4c51fd3532cedbdf756c470bec6", func := "hearth/hearthlaw06.KeyedTurned", spec := "keyedTurned", unfollowed := true, recurses := true, apart := false }
def KeyedTurnedSaid : Prop := keyedTurnedRow.holds Try.pinned (OpenSpec.ofChange keyedTurnedSpec)

/-- ITS FALSE NEIGHBOUR: 'it returns false'. Refute it at one input. -/
def keyedTurnedWrong : ChangeSpec := { name := "keyedTurned", fn := fun _ => fun
  | [d] => { results := [.lit (.bool false)], args := [d] }
  | _ => none }
def KeyedTurnedWrongFalsely : Prop := keyedTurnedRow.holds Try.pinned (OpenSpec.ofChange keyedTurnedWrong)

/-- 'hearthlaw06.KeyedLast': WHATEVER THE INPUT: true; the input reads as it did. -/
def keyedLastSpec : ChangeSpec := { name := "keyedLast", fn := fun _ => fun
  | [d1, d2, d3] => { results := [.lit (.bool true)], args := [d1, d2, d3] }
  | _ => none }
def keyedLastRow : OpenClaim := { program := "ytcgkblmhfgjoaaa", sum := "534a3e9199ffafc4be63364451415ab1db3ec4c51fd3532cedbdf756c470bec6", func := "hearth/hearthlaw06.KeyedLast", spec := "keyedLast", unfollowed := true, recurses := true, apart := false }
def KeyedLastSaid : Prop := keyedLastRow.holds Try.pinned (OpenSpec.ofChange keyedLastSpec)

/-- ITS FALSE NEIGHBOUR: 'it returns false'. Refute it at one input. -/
def keyedLastWrong : ChangeSpec := { name := "keyedLast", fn := fun _ => fun
  | [d1, d2, d3] => { results := [.lit (.bool false)], args := [d1, d2, d3] }
  | _ => none }
def KeyedLastWrongFalsely : Prop := keyedLastRow.holds Try.pinned (OpenSpec.ofChange keyedLastWrong)

/-- 'hearthlaw06.KeyedRises': WHATEVER THE INPUT: true; the input reads as it did. -/
def keyedRisesSpec : ChangeSpec := { name := "keyedRises", fn := fun _ => fun
  | [d1, d2] => { results := [.lit (.bool true)], args := [d1, d2] }
  | _ => none }
def keyedRisesRow : OpenClaim := { program := "ytcgkblmhfgjoaaa", sum := "534a3e9199ffafc4be63364451415ab1db3ec4c51fd3532cedbdf756c470bec6", func := "hearth/hearthlaw06.KeyedRises", spec := "keyedRises", unfollowed := true, recurses := true, apart := false }
def KeyedRisesSaid : Prop := keyedRisesRow.holds Try.pinned (OpenSpec.ofChange keyedRisesSpec)

/-- ITS FALSE NEIGHBOUR: 'it returns false'. Refute it at one input. -/
def keyedRisesWrong : ChangeSpec := { name := "keyedRises", fn := fun _ => fun
  | [d1, d2] => { results := [.lit (.bool false)], args := [d1, d2] }
  | _ => none }
def KeyedRisesWrongFalsely : Prop := keyedRisesRow.holds Try.pinned (OpenSpec.ofChange keyedRisesWrong)

/- THE SECOND FORM. 'bulk': how many values and letters a reading holds, each counted each time it is reached (what is shared counts as often as it is met; a slice's spare places count too). A statement '..UptoSaid' is the law's where the arguments, and the package variables that the reading takes, are together of bulk at most 1048576: NARROWER than '..Said'. Prove '..Said' where nothing that the law and all that it calls make is longer than what came in: it says more and counts as full. Else prove '..UptoSaid'. A law counts once. -/
mutual
def uptoBulk {H : Type} : DataW H → Nat
  | .lit (.string bytes) => bytes.length + 1
  | .lit _ => 1
  | .nil => 1
  | .ptr d => uptoBulk d + 1
  | .slice elems spare => uptoBulkAll elems + uptoBulkAll spare + 1
  | .agg parts => uptoBulkAll parts + 1
  | .iface _ d => uptoBulk d + 1
  | .map entries => uptoBulkEntries entries + 1
  | .held _ => 1
def uptoBulkAll {H : Type} : List (DataW H) → Nat
  | [] => 0
  | d :: r => uptoBulk d + uptoBulkAll r
def uptoBulkEntries {H : Type} : List (Lit × DataW H) → Nat
  | [] => 0
  | x :: r => uptoBulkEntry x + uptoBulkEntries r
def uptoBulkEntry {H : Type} : Lit × DataW H → Nat
  | (.string bytes, d) => bytes.length + uptoBulk d + 1
  | (_, d) => uptoBulk d + 1
 end
def uptoSmall : (H : Type) → List (DataW H) → Bool := fun _ ds => decide (uptoBulkAll ds ≤ 1048576)
def OpenSpec.upto (s : _root_.Go.ChangeSpec) : _root_.Go.OpenSpec := { _root_.Go.OpenSpec.ofChange s with cond := some uptoSmall }

/-- 'hearthlaw06.KeyedPlays', WHERE WHAT IT READS IS OF BULK AT MOST 1048576: true; the input reads as it did. -/
def keyedPlaysUptoRow : OpenClaim := { program := "ytcgkblmhfgjoaaa", sum := "534a3e9199ffafc4be63364451415ab1db3ec4c51fd3532cedbdf756c470bec6", func := "hearth/hearthlaw06.KeyedPlays", spec := "keyedPlays", unfollowed := true, recurses := true, apart := false, narrowed := true }
def KeyedPlaysUptoSaid : Prop := keyedPlaysUptoRow.holds Try.pinned (OpenSpec.upto keyedPlaysSpec)

/-- 'hearthlaw06.KeyedStops', WHERE WHAT IT READS IS OF BULK AT MOST 1048576: true; the input reads as it did. -/
def keyedStopsUptoRow : OpenClaim := { program := "ytcgkblmhfgjoaaa", sum := "534a3e9199ffafc4be63364451415ab1db3ec4c51fd3532cedbdf756c470bec6", func := "hearth/hearthlaw06.KeyedStops", spec := "keyedStops", unfollowed := true, recurses := true, apart := false, narrowed := true }
def KeyedStopsUptoSaid : Prop := keyedStopsUptoRow.holds Try.pinned (OpenSpec.upto keyedStopsSpec)

/-- 'hearthlaw06.KeyedTurned', WHERE WHAT IT READS IS OF BULK AT MOST 1048576: true; the input reads as it did. -/
def keyedTurnedUptoRow : OpenClaim := { program := "ytcgkblmhfgjoaaa", sum := "534a3e9199ffafc4be63364451415ab1db3ec4c51fd3532cedbdf756c470bec6", func := "hearth/hearthlaw06.KeyedTurned", spec := "keyedTurned", unfollowed := true, recurses := true, apart := false, narrowed := true }
def KeyedTurnedUptoSaid : Prop := keyedTurnedUptoRow.holds Try.pinned (OpenSpec.upto keyedTurnedSpec)

/-- 'hearthlaw06.KeyedLast', WHERE WHAT IT READS IS OF BULK AT MOST 1048576: true; the input reads as it did. -/
def keyedLastUptoRow : OpenClaim := { program := "ytcgkblmhfgjoaaa", sum := "534a3e9199ffafc4be63364451415ab1db3ec4c51fd3532cedbdf756c470bec6", func := "hearth/hearthlaw06.KeyedLast", spec := "keyedLast", unfollowed := true, recurses := true, apart := false, narrowed := true }
def KeyedLastUptoSaid : Prop := keyedLastUptoRow.holds Try.pinned (OpenSpec.upto keyedLastSpec)

/-- 'hearthlaw06.KeyedRises', WHERE WHAT IT READS IS OF BULK AT MOST 1048576: true; the input reads as it did. -/
def keyedRisesUptoRow : OpenClaim := { program := "ytcgkblmhfgjoaaa", sum := "534a3e9199ffafc4be63364451415ab1db3ec4c51fd3532cedbdf756c470bec6", func := "hearth/hearthlaw06.KeyedRises", spec := "keyedRises", unfollowed := true, recurses := true, apart := false, narrowed := true }
def KeyedRisesUptoSaid : Prop := keyedRisesUptoRow.holds Try.pinned (OpenSpec.upto keyedRisesSpec)

end Rows
end Go.Proofs.Ytcgkblmhfgjoaaa
