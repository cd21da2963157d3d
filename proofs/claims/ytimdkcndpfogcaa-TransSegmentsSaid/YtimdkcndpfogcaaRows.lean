/-
  No cell of these rows narrows 'for every input' (looked for: loops, veiled, ifaces, maps, wideKeys, modest, calm, conditions, laid).
  DERIVED. THE GIVEN ROWS OF THIS SEAT. 6 by the template 'for every input the law returns true; each argument reads behind the call as it read before'; 0 by the template 'total and deterministic' (their statements: YtimdkcndpfogcaaTotals.lean).
  GIVEN WITH THE SEED: the statements are not yours to turn. If you find one false, say at which input.
  Laid BY PROGRAM, IN A SANDBOX (cutbox-rows.mjs): the forced cells as the released guide's own fill.sh prints them over the translation e9082c17e6a5c076… (all of the seat's roots in one cut). By AI agents, Wed Nov 11 2026. No macro, syntax, notation, axiom, sorry.
-/
import Derived.Test.YtimdkcndpfogcaaChecked
import GoSem.Claim
import GoSem.ClaimJoined
import GoSem.ClaimMapViews
import Derived.JoinedTies
import Derived.KernelRfl
namespace Go.Proofs.Ytimdkcndpfogcaa
/- THE CELL 'sum', in the pinned program and in every row, IS THE sha256 OF THE DUMP (.gsa) THAT YtimdkcndpfogcaaProg.lean LOADS. Nothing in Lean hashes anything: it is a label: what it is worth is what the hold of that sum in a sandbox is worth. -/
noncomputable def Try.pinned : Pinned := { name := "ytimdkcndpfogcaa", sum := "e9082c17e6a5c076450a0c2a25dfec83da7abfebaee189c7e58975cdecba69bd", checked := Try.checked }
namespace Rows
def none {H : Type} : Left H := { results := [], args := [] }

/-- 'hearthlaw05.TransSegments': WHATEVER THE INPUT: true; the input reads as it did. -/
def transSegmentsSpec : ChangeSpec := { name := "transSegments", fn := fun _ => fun
  | [d1, d2, d3] => { results := [.lit (.bool true)], args := [d1, d2, d3] }
  | _ => none }
def transSegmentsRow : OpenClaim := { program := "ytimdkcndpfogcaa", sum := "e9082c17e6a5c076450a0c2a25dfec83da7abfebaee189c7e58975cdecba69bd", func := "hearth/hearthlaw05.TransSegments", spec := "transSegments", unfollowed := true, recurses := true, apart := false }
def TransSegmentsSaid : Prop := transSegmentsRow.holds Try.pinned (OpenSpec.ofChange transSegmentsSpec)

/-- ITS FALSE NEIGHBOUR: 'it returns false'. Refute it at one input. -/
def transSegmentsWrong : ChangeSpec := { name := "transSegments", fn := fun _ => fun
  | [d1, d2, d3] => { results := [.lit (.bool false)], args := [d1, d2, d3] }
  | _ => none }
def TransSegmentsWrongFalsely : Prop := transSegmentsRow.holds Try.pinned (OpenSpec.ofChange transSegmentsWrong)

/-- 'hearthlaw05.TransDatagrams': WHATEVER THE INPUT: true; the input reads as it did. -/
def transDatagramsSpec : ChangeSpec := { name := "transDatagrams", fn := fun _ => fun
  | [d1, d2, d3] => { results := [.lit (.bool true)], args := [d1, d2, d3] }
  | _ => none }
def transDatagramsRow : OpenClaim := { program := "ytimdkcndpfogcaa", sum := "e9082c17e6a5c076450a0c2a25dfec83da7abfebaee189c7e58975cdecba69bd", func := "hearth/hearthlaw05.TransDatagrams", spec := "transDatagrams", unfollowed := true, recurses := true, apart := false }
def TransDatagramsSaid : Prop := transDatagramsRow.holds Try.pinned (OpenSpec.ofChange transDatagramsSpec)

/-- ITS FALSE NEIGHBOUR: 'it returns false'. Refute it at one input. -/
def transDatagramsWrong : ChangeSpec := { name := "transDatagrams", fn := fun _ => fun
  | [d1, d2, d3] => { results := [.lit (.bool false)], args := [d1, d2, d3] }
  | _ => none }
def TransDatagramsWrongFalsely : Prop := transDatagramsRow.holds Try.pinned (OpenSpec.ofChange transDatagramsWrong)

/-- 'hearthlaw05.TransMessages': WHATEVER THE INPUT: true; the input reads as it did. -/
def transMessagesSpec : ChangeSpec := { name := "transMessages", fn := fun _ => fun
  | [d] => { results := [.lit (.bool true)], args := [d] }
  | _ => none }
def transMessagesRow : OpenClaim := { program := "ytimdkcndpfogcaa", sum := "e9082c17e6a5c076450a0c2a25dfec83da7abfebaee189c7e58975cdecba69bd", func := "hearth/hearthlaw05.TransMessages", spec := "transMessages", unfollowed := true, recurses := true, apart := false }
def TransMessagesSaid : Prop := transMessagesRow.holds Try.pinned (OpenSpec.ofChange transMessagesSpec)

/-- ITS FALSE NEIGHBOUR: 'it returns false'. Refute it at one input. -/
def transMessagesWrong : ChangeSpec := { name := "transMessages", fn := fun _ => fun
  | [d] => { results := [.lit (.bool false)], args := [d] }
  | _ => none }
def TransMessagesWrongFalsely : Prop := transMessagesRow.holds Try.pinned (OpenSpec.ofChange transMessagesWrong)

/-- 'hearthlaw05.TransReads': WHATEVER THE INPUT: true; the input reads as it did. -/
def transReadsSpec : ChangeSpec := { name := "transReads", fn := fun _ => fun
  | [d1, d2, d3] => { results := [.lit (.bool true)], args := [d1, d2, d3] }
  | _ => none }
def transReadsRow : OpenClaim := { program := "ytimdkcndpfogcaa", sum := "e9082c17e6a5c076450a0c2a25dfec83da7abfebaee189c7e58975cdecba69bd", func := "hearth/hearthlaw05.TransReads", spec := "transReads", unfollowed := true, recurses := true, apart := false }
def TransReadsSaid : Prop := transReadsRow.holds Try.pinned (OpenSpec.ofChange transReadsSpec)

/-- ITS FALSE NEIGHBOUR: 'it returns false'. Refute it at one input. -/
def transReadsWrong : ChangeSpec := { name := "transReads", fn := fun _ => fun
  | [d1, d2, d3] => { results := [.lit (.bool false)], args := [d1, d2, d3] }
  | _ => none }
def TransReadsWrongFalsely : Prop := transReadsRow.holds Try.pinned (OpenSpec.ofChange transReadsWrong)

/-- 'hearthlaw05.TransTurned': WHATEVER THE INPUT: true; the input reads as it did. -/
def transTurnedSpec : ChangeSpec := { name := "transTurned", fn := fun _ => fun
  | [d1, d2, d3, d4] => { results := [.lit (.bool true)], args := [d1, d2, d3, d4] }
  | _ => none }
def transTurnedRow : OpenClaim := { program := "ytimdkcndpfogcaa", sum := "e9082c17e6a5c076450a0c2a25dfec83da7abfebaee189c7e58975cdecba69bd", func := "hearth/hearthlaw05.TransTurned", spec := "transTurned", unfollowed := true, recurses := true, apart := false }
def TransTurnedSaid : Prop := transTurnedRow.holds Try.pinned (OpenSpec.ofChange transTurnedSpec)

/-- ITS FALSE NEIGHBOUR: 'it returns false'. Refute it at one input. -/
def transTurnedWrong : ChangeSpec := { name := "transTurned", fn := fun _ => fun
  | [d1, d2, d3, d4] => { results := [.lit (.bool false)], args := [d1, d2, d3, d4] }
  | _ => none }
def TransTurnedWrongFalsely : Prop := transTurnedRow.holds Try.pinned (OpenSpec.ofChange transTurnedWrong)

/-- 'hearthlaw05.TransPlain': WHATEVER THE INPUT: true; the input reads as it did. -/
def transPlainSpec : ChangeSpec := { name := "transPlain", fn := fun _ => fun
  | [d1, d2, d3] => { results := [.lit (.bool true)], args := [d1, d2, d3] }
  | _ => none }
def transPlainRow : OpenClaim := { program := "ytimdkcndpfogcaa", sum := "e9082c17e6a5c076450a0c2a25dfec83da7abfebaee189c7e58975cdecba69bd", func := "hearth/hearthlaw05.TransPlain", spec := "transPlain", unfollowed := true, recurses := true, apart := false }
def TransPlainSaid : Prop := transPlainRow.holds Try.pinned (OpenSpec.ofChange transPlainSpec)

/-- ITS FALSE NEIGHBOUR: 'it returns false'. Refute it at one input. -/
def transPlainWrong : ChangeSpec := { name := "transPlain", fn := fun _ => fun
  | [d1, d2, d3] => { results := [.lit (.bool false)], args := [d1, d2, d3] }
  | _ => none }
def TransPlainWrongFalsely : Prop := transPlainRow.holds Try.pinned (OpenSpec.ofChange transPlainWrong)

/- THE SECOND FORM. 'bulk': how many values and letters a reading holds, each counted each time it is reached (what is shared counts as often as it is met; a slice's spare places count too). A statement '..UptoSaid' is the law's where the arguments, and the package variables that the reading takes, are together of bulk at most 1048576: NARROWER than '..Said'. Prove '..Said' where nothing that the law and all that it calls make is longer than what came in: it says more and counts as full. Else prove '..UptoSaid'. A law counts once. -/
mutual
def uptoBulk {H : Type} : DataW H → Nat
  | .lit (.string bytes) => bytes.length + 1
  | .lit _ => 1
  | .nil => 1
  | .ptr d => uptoBulk d + 1
  | .slice elems spare => uptoBulkAll elems + uptoBulkAll spare + 1
  | .agg parts => uptoBulkAll parts + 1
  | .iface _ d => uptoBulk d + 1
  | .map entries => uptoBulkEntries entries + 1
  | .held _ => 1
def uptoBulkAll {H : Type} : List (DataW H) → Nat
  | [] => 0
  | d :: r => uptoBulk d + uptoBulkAll r
def uptoBulkEntries {H : Type} : List (Lit × DataW H) → Nat
  | [] => 0
  | x :: r => uptoBulkEntry x + uptoBulkEntries r
def uptoBulkEntry {H : Type} : Lit × DataW H → Nat
  | (.string bytes, d) => bytes.length + uptoBulk d + 1
  | (_, d) => uptoBulk d + 1
 end
def uptoSmall : (H : Type) → List (DataW H) → Bool := fun _ ds => decide (uptoBulkAll ds ≤ 1048576)
def OpenSpec.upto (s : _root_.Go.ChangeSpec) : _root_.Go.OpenSpec := { _root_.Go.OpenSpec.ofChange s with cond := some uptoSmall }

/-- 'hearthlaw05.TransSegments', WHERE WHAT IT READS IS OF BULK AT MOST 1048576: true; the input reads as it did. -/
def transSegmentsUptoRow : OpenClaim := { program := "ytimdkcndpfogcaa", sum := "e9082c17e6a5c076450a0c2a25dfec83da7abfebaee189c7e58975cdecba69bd", func := "hearth/hearthlaw05.TransSegments", spec := "transSegments", unfollowed := true, recurses := true, apart := false, narrowed := true }
def TransSegmentsUptoSaid : Prop := transSegmentsUptoRow.holds Try.pinned (OpenSpec.upto transSegmentsSpec)

/-- 'hearthlaw05.TransDatagrams', WHERE WHAT IT READS IS OF BULK AT MOST 1048576: true; the input reads as it did. -/
def transDatagramsUptoRow : OpenClaim := { program := "ytimdkcndpfogcaa", sum := "e9082c17e6a5c076450a0c2a25dfec83da7abfebaee189c7e58975cdecba69bd", func := "hearth/hearthlaw05.TransDatagrams", spec := "transDatagrams", unfollowed := true, recurses := true, apart := false, narrowed := true }
def TransDatagramsUptoSaid : Prop := transDatagramsUptoRow.holds Try.pinned (OpenSpec.upto transDatagramsSpec)

/-- 'hearthlaw05.TransMessages', WHERE WHAT IT READS IS OF BULK AT MOST 1048576: true; the input reads as it did. -/
def transMessagesUptoRow : OpenClaim := { program := "ytimdkcndpfogcaa", sum := "e9082c17e6a5c076450a0c2a25dfec83da7abfebaee189c7e58975cdecba69bd", func := "hearth/hearthlaw05.TransMessages", spec := "transMessages", unfollowed := true, recurses := true, apart := false, narrowed := true }
def TransMessagesUptoSaid : Prop := transMessagesUptoRow.holds Try.pinned (OpenSpec.upto transMessagesSpec)

/-- 'hearthlaw05.TransReads', WHERE WHAT IT READS IS OF BULK AT MOST 1048576: true; the input reads as it did. -/
def transReadsUptoRow : OpenClaim := { program := "ytimdkcndpfogcaa", sum := "e9082c17e6a5c076450a0c2a25dfec83da7abfebaee189c7e58975cdecba69bd", func := "hearth/hearthlaw05.TransReads", spec := "transReads", unfollowed := true, recurses := true, apart := false, narrowed := true }
def TransReadsUptoSaid : Prop := transReadsUptoRow.holds Try.pinned (OpenSpec.upto transReadsSpec)

/-- 'hearthlaw05.TransTurned', WHERE WHAT IT READS IS OF BULK AT MOST 1048576: true; the input reads as it did. -/
def transTurnedUptoRow : OpenClaim := { program := "ytimdkcndpfogcaa", sum := "e9082c17e6a5c076450a0c2a25dfec83da7abfebaee189c7e58975cdecba69bd", func := "hearth/hearthlaw05.TransTurned", spec := "transTurned", unfollowed := true, recurses := true, apart := false, narrowed := true }
def TransTurnedUptoSaid : Prop := transTurnedUptoRow.holds Try.pinned (OpenSpec.upto transTurnedSpec)

/-- 'hearthlaw05.TransPlain', WHERE WHAT IT READS IS OF BULK AT MOST 1048576: true; the input reads as it did. -/
def transPlainUptoRow : OpenClaim := { program := "ytimdkcndpfogcaa", sum := "e9082c17e6a5c076450a0c2a25dfec83da7abfebaee189c7e58975cdecba69bd", func := "hearth/hearthlaw05.TransPlain", spec := "transPlain", unfollowed := true, recurses := true, apart := false, narrowed := true }
def TransPlainUptoSaid : Prop := transPlainUptoRow.holds Try.pinned (OpenSpec.upto transPlainSpec)

end Rows
end Go.Proofs.Ytimdkcndpfogcaa
