/-
  No cell of these rows narrows 'for every input' (looked for: loops, veiled, ifaces, maps, wideKeys, modest, calm, conditions, laid).
  DERIVED. THE GIVEN ROWS OF THIS SEAT. 3 by the template 'for every input the law returns true; each argument reads behind the call as it read before'; 0 by the template 'total and deterministic' (their statements: YtgpmgfpmfdaecaaTotals.lean).
  GIVEN WITH THE SEED: the statements are not yours to turn. If you find one false, say at which input.
  Laid BY PROGRAM, IN A SANDBOX (cutbox-rows.mjs): the forced cells as the released guide's own fill.sh prints them over the translation 55b983c8c59a7ce1… (all of the seat's roots in one cut). By AI agents, Wed Nov 11 2026. No macro, syntax, notation, axiom, sorry.
-/
import Derived.Test.YtgpmgfpmfdaecaaChecked
import GoSem.Claim
import GoSem.ClaimJoined
import GoSem.ClaimMapViews
import Derived.JoinedTies
import Derived.KernelRfl
namespace Go.Proofs.Ytgpmgfpmfdaecaa
/- THE CELL 'sum', in the pinned program and in every row, IS THE sha256 OF THE DUMP (.gsa) THAT YtgpmgfpmfdaecaaProg.lean LOADS. Nothing in Lean hashes anything: it is a label: what it is worth is what the hold of that sum in a sandbox is worth. -/
noncomputable def Try.pinned : Pinned := { name := "ytgpmgfpmfdaecaa", sum := "55b983c8c59a7ce1561018e70467e716e636b855a24a3c8ab553f26e2b859530", checked := Try.checked }
namespace Rows
def none {H : Type} : Left H := { results := [], args := [] }

/-- 'hearthlaw03.EtherReads': WHATEVER THE INPUT: true; the input reads as it did. -/
def etherReadsSpec : ChangeSpec := { name := "etherReads", fn := fun _ => fun
  | [d] => { results := [.lit (.bool true)], args := [d] }
  | _ => none }
def etherReadsRow : OpenClaim := { program := "ytgpmgfpmfdaecaa", sum := "55b983c8c59a7ce1561018e70467e716e636b855a24a3c8ab553f26e2b859530", func := "hearth/hearthlaw03.EtherReads", spec := "etherReads", apart := false }
def EtherReadsSaid : Prop := etherReadsRow.holds Try.pinned (OpenSpec.ofChange etherReadsSpec)

/-- ITS FALSE NEIGHBOUR: 'it returns false'. Refute it at one input. -/
def etherReadsWrong : ChangeSpec := { name := "etherReads", fn := fun _ => fun
  | [d] => { results := [.lit (.bool false)], args := [d] }
  | _ => none }
def EtherReadsWrongFalsely : Prop := etherReadsRow.holds Try.pinned (OpenSpec.ofChange etherReadsWrong)

/-- 'hearthlaw03.EtherARP': WHATEVER THE INPUT: true; the input reads as it did. -/
def etherARPSpec : ChangeSpec := { name := "etherARP", fn := fun _ => fun
  | [d1, d2, d3] => { results := [.lit (.bool true)], args := [d1, d2, d3] }
  | _ => none }
def etherARPRow : OpenClaim := { program := "ytgpmgfpmfdaecaa", sum := "55b983c8c59a7ce1561018e70467e716e636b855a24a3c8ab553f26e2b859530", func := "hearth/hearthlaw03.EtherARP", spec := "etherARP", apart := false }
def EtherARPSaid : Prop := etherARPRow.holds Try.pinned (OpenSpec.ofChange etherARPSpec)

/-- ITS FALSE NEIGHBOUR: 'it returns false'. Refute it at one input. -/
def etherARPWrong : ChangeSpec := { name := "etherARP", fn := fun _ => fun
  | [d1, d2, d3] => { results := [.lit (.bool false)], args := [d1, d2, d3] }
  | _ => none }
def EtherARPWrongFalsely : Prop := etherARPRow.holds Try.pinned (OpenSpec.ofChange etherARPWrong)

/-- 'hearthlaw05.TransReads': WHATEVER THE INPUT: true; the input reads as it did. -/
def transReadsSpec : ChangeSpec := { name := "transReads", fn := fun _ => fun
  | [d1, d2, d3] => { results := [.lit (.bool true)], args := [d1, d2, d3] }
  | _ => none }
def transReadsRow : OpenClaim := { program := "ytgpmgfpmfdaecaa", sum := "55b983c8c59a7ce1561018e70467e716e636b855a24a3c8ab553f26e2b859530", func := "hearth/hearthlaw05.TransReads", spec := "transReads", unfollowed := true, recurses := true, apart := false }
def TransReadsSaid : Prop := transReadsRow.holds Try.pinned (OpenSpec.ofChange transReadsSpec)

/-- ITS FALSE NEIGHBOUR: 'it returns false'. Refute it at one input. -/
def transReadsWrong : ChangeSpec := { name := "transReads", fn := fun _ => fun
  | [d1, d2, d3] => { results := [.lit (.bool false)], args := [d1, d2, d3] }
  | _ => none }
def TransReadsWrongFalsely : Prop := transReadsRow.holds Try.pinned (OpenSpec.ofChange transReadsWrong)

/- THE SECOND FORM. 'bulk': how many values and letters a reading holds, each counted each time it is reached (what is shared counts as often as it is met; a slice's spare places count too). A statement '..UptoSaid' is the law's where the arguments, and the package variables that the reading takes, are together of bulk at most 1048576: NARROWER than '..Said'. Prove '..Said' where nothing that the law and all that it calls make is longer than what came in: it says more and counts as full. Else prove '..UptoSaid'. A law counts once. -/
mutual
def uptoBulk {H : Type} : DataW H → Nat
  | .lit (.string bytes) => bytes.length + 1
  | .lit _ => 1
  | .nil => 1
  | .ptr d => uptoBulk d + 1
  | .slice elems spare => uptoBulkAll elems + uptoBulkAll spare + 1
  | .agg parts => uptoBulkAll parts + 1
  | .iface _ d => uptoBulk d + 1
  | .map entries => uptoBulkEntries entries + 1
  | .held _ => 1
def uptoBulkAll {H : Type} : List (DataW H) → Nat
  | [] => 0
  | d :: r => uptoBulk d + uptoBulkAll r
def uptoBulkEntries {H : Type} : List (Lit × DataW H) → Nat
  | [] => 0
  | x :: r => uptoBulkEntry x + uptoBulkEntries r
def uptoBulkEntry {H : Type} : Lit × DataW H → Nat
  | (.string bytes, d) => bytes.length + uptoBulk d + 1
  | (_, d) => uptoBulk d + 1
 end
def uptoSmall : (H : Type) → List (DataW H) → Bool := fun _ ds => decide (uptoBulkAll ds ≤ 1048576)
def OpenSpec.upto (s : _root_.Go.ChangeSpec) : _root_.Go.OpenSpec := { _root_.Go.OpenSpec.ofChange s with cond := some uptoSmall }

/-- 'hearthlaw03.EtherReads', WHERE WHAT IT READS IS OF BULK AT MOST 1048576: true; the input reads as it did. -/
def etherReadsUptoRow : OpenClaim := { program := "ytgpmgfpmfdaecaa", sum := "55b983c8c59a7ce1561018e70467e716e636b855a24a3c8ab553f26e2b859530", func := "hearth/hearthlaw03.EtherReads", spec := "etherReads", apart := false, narrowed := true }
def EtherReadsUptoSaid : Prop := etherReadsUptoRow.holds Try.pinned (OpenSpec.upto etherReadsSpec)

/-- 'hearthlaw03.EtherARP', WHERE WHAT IT READS IS OF BULK AT MOST 1048576: true; the input reads as it did. -/
def etherARPUptoRow : OpenClaim := { program := "ytgpmgfpmfdaecaa", sum := "55b983c8c59a7ce1561018e70467e716e636b855a24a3c8ab553f26e2b859530", func := "hearth/hearthlaw03.EtherARP", spec := "etherARP", apart := false, narrowed := true }
def EtherARPUptoSaid : Prop := etherARPUptoRow.holds Try.pinned (OpenSpec.upto etherARPSpec)

/-- 'hearthlaw05.TransReads', WHERE WHAT IT READS IS OF BULK AT MOST 1048576: true; the input reads as it did. -/
def transReadsUptoRow : OpenClaim := { program := "ytgpmgfpmfdaecaa", sum := "55b983c8c59a7ce1561018e70467e716e636b855a24a3c8ab553f26e2b859530", func := "hearth/hearthlaw05.TransReads", spec := "transReads", unfollowed := true, recurses := true, apart := false, narrowed := true }
def TransReadsUptoSaid : Prop := transReadsUptoRow.holds Try.pinned (OpenSpec.upto transReadsSpec)

end Rows
end Go.Proofs.Ytgpmgfpmfdaecaa
