/-
  No cell of these rows narrows 'for every input' (looked for: loops, veiled, ifaces, maps, wideKeys, modest, calm, conditions, laid).
  DERIVED. THE GIVEN ROWS OF THIS SEAT. 7 by the template 'for every input the law returns true; each argument reads behind the call as it read before'; 0 by the template 'total and deterministic' (their statements: YtgggcapgaikbeaaTotals.lean).
  GIVEN WITH THE SEED: the statements are not yours to turn. If you find one false, say at which input.
  Laid BY PROGRAM, IN A SANDBOX (cutbox-rows.mjs): the forced cells as the released guide's own fill.sh prints them over the translation 707fbf5a1bf62338… (all of the seat's roots in one cut). By AI agents, Wed Nov 11 2026. No macro, syntax, notation, axiom, sorry.
-/
import Derived.Test.YtgggcapgaikbeaaChecked
import GoSem.Claim
import GoSem.ClaimJoined
import GoSem.ClaimMapViews
import Derived.JoinedTies
import Derived.KernelRfl
namespace Go.Proofs.Ytgggcapgaikbeaa
/- THE CELL 'sum', in the pinned program and in every row, IS THE sha256 OF THE DUMP (.gsa) THAT YtgggcapgaikbeaaProg.lean LOADS. Nothing in Lean hashes anything: it is a label: what it is worth is what the hold of that sum in a sandbox is worth. -/
noncomputable def Try.pinned : Pinned := { name := "ytgggcapgaikbeaa", sum := "707fbf5a1bf62338429e6c7f1a3d28d8714810a022d1d46d521e158dba043c2c", checked := Try.checked }
namespace Rows
def none {H : Type} : Left H := { results := [], args := [] }

/-- 'hearthlaw10.FlowRewrites': WHATEVER THE INPUT: true; the input reads as it did. -/
def flowRewritesSpec : ChangeSpec := { name := "flowRewrites", fn := fun _ => fun
  | [d1, d2] => { results := [.lit (.bool true)], args := [d1, d2] }
  | _ => none }
def flowRewritesRow : OpenClaim := { program := "ytgggcapgaikbeaa", sum := "707fbf5a1bf62338429e6c7f1a3d28d8714810a022d1d46d521e158dba043c2c", func := "hearth/hearthlaw10.FlowRewrites", spec := "flowRewrites", unfollowed := true, recurses := true, apart := false }
def FlowRewritesSaid : Prop := flowRewritesRow.holds Try.pinned (OpenSpec.ofChange flowRewritesSpec)

/-- ITS FALSE NEIGHBOUR: 'it returns false'. Refute it at one input. -/
def flowRewritesWrong : ChangeSpec := { name := "flowRewrites", fn := fun _ => fun
  | [d1, d2] => { results := [.lit (.bool false)], args := [d1, d2] }
  | _ => none }
def FlowRewritesWrongFalsely : Prop := flowRewritesRow.holds Try.pinned (OpenSpec.ofChange flowRewritesWrong)

/-- 'hearthlaw10.FlowBack': WHATEVER THE INPUT: true; the input reads as it did. -/
def flowBackSpec : ChangeSpec := { name := "flowBack", fn := fun _ => fun
  | [d1, d2] => { results := [.lit (.bool true)], args := [d1, d2] }
  | _ => none }
def flowBackRow : OpenClaim := { program := "ytgggcapgaikbeaa", sum := "707fbf5a1bf62338429e6c7f1a3d28d8714810a022d1d46d521e158dba043c2c", func := "hearth/hearthlaw10.FlowBack", spec := "flowBack", unfollowed := true, recurses := true, apart := false }
def FlowBackSaid : Prop := flowBackRow.holds Try.pinned (OpenSpec.ofChange flowBackSpec)

/-- ITS FALSE NEIGHBOUR: 'it returns false'. Refute it at one input. -/
def flowBackWrong : ChangeSpec := { name := "flowBack", fn := fun _ => fun
  | [d1, d2] => { results := [.lit (.bool false)], args := [d1, d2] }
  | _ => none }
def FlowBackWrongFalsely : Prop := flowBackRow.holds Try.pinned (OpenSpec.ofChange flowBackWrong)

/-- 'hearthlaw10.FlowErrors': WHATEVER THE INPUT: true; the input reads as it did. -/
def flowErrorsSpec : ChangeSpec := { name := "flowErrors", fn := fun _ => fun
  | [d1, d2, d3] => { results := [.lit (.bool true)], args := [d1, d2, d3] }
  | _ => none }
def flowErrorsRow : OpenClaim := { program := "ytgggcapgaikbeaa", sum := "707fbf5a1bf62338429e6c7f1a3d28d8714810a022d1d46d521e158dba043c2c", func := "hearth/hearthlaw10.FlowErrors", spec := "flowErrors", unfollowed := true, recurses := true, apart := false }
def FlowErrorsSaid : Prop := flowErrorsRow.holds Try.pinned (OpenSpec.ofChange flowErrorsSpec)

/-- ITS FALSE NEIGHBOUR: 'it returns false'. Refute it at one input. -/
def flowErrorsWrong : ChangeSpec := { name := "flowErrors", fn := fun _ => fun
  | [d1, d2, d3] => { results := [.lit (.bool false)], args := [d1, d2, d3] }
  | _ => none }
def FlowErrorsWrongFalsely : Prop := flowErrorsRow.holds Try.pinned (OpenSpec.ofChange flowErrorsWrong)

/-- 'hearthlaw13.IcmpTells': WHATEVER THE INPUT: true; the input reads as it did. -/
def icmpTellsSpec : ChangeSpec := { name := "icmpTells", fn := fun _ => fun
  | [d1, d2, d3] => { results := [.lit (.bool true)], args := [d1, d2, d3] }
  | _ => none }
def icmpTellsRow : OpenClaim := { program := "ytgggcapgaikbeaa", sum := "707fbf5a1bf62338429e6c7f1a3d28d8714810a022d1d46d521e158dba043c2c", func := "hearth/hearthlaw13.IcmpTells", spec := "icmpTells", unfollowed := true, recurses := true, apart := false }
def IcmpTellsSaid : Prop := icmpTellsRow.holds Try.pinned (OpenSpec.ofChange icmpTellsSpec)

/-- ITS FALSE NEIGHBOUR: 'it returns false'. Refute it at one input. -/
def icmpTellsWrong : ChangeSpec := { name := "icmpTells", fn := fun _ => fun
  | [d1, d2, d3] => { results := [.lit (.bool false)], args := [d1, d2, d3] }
  | _ => none }
def IcmpTellsWrongFalsely : Prop := icmpTellsRow.holds Try.pinned (OpenSpec.ofChange icmpTellsWrong)

/-- 'hearthlaw13.IcmpGoes': WHATEVER THE INPUT: true; the input reads as it did. -/
def icmpGoesSpec : ChangeSpec := { name := "icmpGoes", fn := fun _ => fun
  | [d1, d2, d3] => { results := [.lit (.bool true)], args := [d1, d2, d3] }
  | _ => none }
def icmpGoesRow : OpenClaim := { program := "ytgggcapgaikbeaa", sum := "707fbf5a1bf62338429e6c7f1a3d28d8714810a022d1d46d521e158dba043c2c", func := "hearth/hearthlaw13.IcmpGoes", spec := "icmpGoes", unfollowed := true, recurses := true, apart := false }
def IcmpGoesSaid : Prop := icmpGoesRow.holds Try.pinned (OpenSpec.ofChange icmpGoesSpec)

/-- ITS FALSE NEIGHBOUR: 'it returns false'. Refute it at one input. -/
def icmpGoesWrong : ChangeSpec := { name := "icmpGoes", fn := fun _ => fun
  | [d1, d2, d3] => { results := [.lit (.bool false)], args := [d1, d2, d3] }
  | _ => none }
def IcmpGoesWrongFalsely : Prop := icmpGoesRow.holds Try.pinned (OpenSpec.ofChange icmpGoesWrong)

/-- 'hearthlaw13.IcmpEchoes': WHATEVER THE INPUT: true; the input reads as it did. -/
def icmpEchoesSpec : ChangeSpec := { name := "icmpEchoes", fn := fun _ => fun
  | [d1, d2, d3, d4] => { results := [.lit (.bool true)], args := [d1, d2, d3, d4] }
  | _ => none }
def icmpEchoesRow : OpenClaim := { program := "ytgggcapgaikbeaa", sum := "707fbf5a1bf62338429e6c7f1a3d28d8714810a022d1d46d521e158dba043c2c", func := "hearth/hearthlaw13.IcmpEchoes", spec := "icmpEchoes", unfollowed := true, recurses := true, apart := false }
def IcmpEchoesSaid : Prop := icmpEchoesRow.holds Try.pinned (OpenSpec.ofChange icmpEchoesSpec)

/-- ITS FALSE NEIGHBOUR: 'it returns false'. Refute it at one input. -/
def icmpEchoesWrong : ChangeSpec := { name := "icmpEchoes", fn := fun _ => fun
  | [d1, d2, d3, d4] => { results := [.lit (.bool false)], args := [d1, d2, d3, d4] }
  | _ => none }
def IcmpEchoesWrongFalsely : Prop := icmpEchoesRow.holds Try.pinned (OpenSpec.ofChange icmpEchoesWrong)

/-- 'hearthlaw13.IcmpSizes': WHATEVER THE INPUT: true; the input reads as it did. -/
def icmpSizesSpec : ChangeSpec := { name := "icmpSizes", fn := fun _ => fun
  | [d1, d2, d3] => { results := [.lit (.bool true)], args := [d1, d2, d3] }
  | _ => none }
def icmpSizesRow : OpenClaim := { program := "ytgggcapgaikbeaa", sum := "707fbf5a1bf62338429e6c7f1a3d28d8714810a022d1d46d521e158dba043c2c", func := "hearth/hearthlaw13.IcmpSizes", spec := "icmpSizes", unfollowed := true, recurses := true, apart := false }
def IcmpSizesSaid : Prop := icmpSizesRow.holds Try.pinned (OpenSpec.ofChange icmpSizesSpec)

/-- ITS FALSE NEIGHBOUR: 'it returns false'. Refute it at one input. -/
def icmpSizesWrong : ChangeSpec := { name := "icmpSizes", fn := fun _ => fun
  | [d1, d2, d3] => { results := [.lit (.bool false)], args := [d1, d2, d3] }
  | _ => none }
def IcmpSizesWrongFalsely : Prop := icmpSizesRow.holds Try.pinned (OpenSpec.ofChange icmpSizesWrong)

/- THE SECOND FORM. 'bulk': how many values and letters a reading holds, each counted each time it is reached (what is shared counts as often as it is met; a slice's spare places count too). A statement '..UptoSaid' is the law's where the arguments, and the package variables that the reading takes, are together of bulk at most 1048576: NARROWER than '..Said'. Prove '..Said' where nothing that the law and all that it calls make is longer than what came in: it says more and counts as full. Else prove '..UptoSaid'. A law counts once. -/
mutual
def uptoBulk {H : Type} : DataW H → Nat
  | .lit (.string bytes) => bytes.length + 1
  | .lit _ => 1
  | .nil => 1
  | .ptr d => uptoBulk d + 1
  | .slice elems spare => uptoBulkAll elems + uptoBulkAll spare + 1
  | .agg parts => uptoBulkAll parts + 1
  | .iface _ d => uptoBulk d + 1
  | .map entries => uptoBulkEntries entries + 1
  | .held _ => 1
def uptoBulkAll {H : Type} : List (DataW H) → Nat
  | [] => 0
  | d :: r => uptoBulk d + uptoBulkAll r
def uptoBulkEntries {H : Type} : List (Lit × DataW H) → Nat
  | [] => 0
  | x :: r => uptoBulkEntry x + uptoBulkEntries r
def uptoBulkEntry {H : Type} : Lit × DataW H → Nat
  | (.string bytes, d) => bytes.length + uptoBulk d + 1
  | (_, d) => uptoBulk d + 1
 end
def uptoSmall : (H : Type) → List (DataW H) → Bool := fun _ ds => decide (uptoBulkAll ds ≤ 1048576)
def OpenSpec.upto (s : _root_.Go.ChangeSpec) : _root_.Go.OpenSpec := { _root_.Go.OpenSpec.ofChange s with cond := some uptoSmall }

/-- 'hearthlaw10.FlowRewrites', WHERE WHAT IT READS IS OF BULK AT MOST 1048576: true; the input reads as it did. -/
def flowRewritesUptoRow : OpenClaim := { program := "ytgggcapgaikbeaa", sum := "707fbf5a1bf62338429e6c7f1a3d28d8714810a022d1d46d521e158dba043c2c", func := "hearth/hearthlaw10.FlowRewrites", spec := "flowRewrites", unfollowed := true, recurses := true, apart := false, narrowed := true }
def FlowRewritesUptoSaid : Prop := flowRewritesUptoRow.holds Try.pinned (OpenSpec.upto flowRewritesSpec)

/-- 'hearthlaw10.FlowBack', WHERE WHAT IT READS IS OF BULK AT MOST 1048576: true; the input reads as it did. -/
def flowBackUptoRow : OpenClaim := { program := "ytgggcapgaikbeaa", sum := "707fbf5a1bf62338429e6c7f1a3d28d8714810a022d1d46d521e158dba043c2c", func := "hearth/hearthlaw10.FlowBack", spec := "flowBack", unfollowed := true, recurses := true, apart := false, narrowed := true }
def FlowBackUptoSaid : Prop := flowBackUptoRow.holds Try.pinned (OpenSpec.upto flowBackSpec)

/-- 'hearthlaw10.FlowErrors', WHERE WHAT IT READS IS OF BULK AT MOST 1048576: true; the input reads as it did. -/
def flowErrorsUptoRow : OpenClaim := { program := "ytgggcapgaikbeaa", sum := "707fbf5a1bf62338429e6c7f1a3d28d8714810a022d1d46d521e158dba043c2c", func := "hearth/hearthlaw10.FlowErrors", spec := "flowErrors", unfollowed := true, recurses := true, apart := false, narrowed := true }
def FlowErrorsUptoSaid : Prop := flowErrorsUptoRow.holds Try.pinned (OpenSpec.upto flowErrorsSpec)

/-- 'hearthlaw13.IcmpTells', WHERE WHAT IT READS IS OF BULK AT MOST 1048576: true; the input reads as it did. -/
def icmpTellsUptoRow : OpenClaim := { program := "ytgggcapgaikbeaa", sum := "707fbf5a1bf62338429e6c7f1a3d28d8714810a022d1d46d521e158dba043c2c", func := "hearth/hearthlaw13.IcmpTells", spec := "icmpTells", unfollowed := true, recurses := true, apart := false, narrowed := true }
def IcmpTellsUptoSaid : Prop := icmpTellsUptoRow.holds Try.pinned (OpenSpec.upto icmpTellsSpec)

/-- 'hearthlaw13.IcmpGoes', WHERE WHAT IT READS IS OF BULK AT MOST 1048576: true; the input reads as it did. -/
def icmpGoesUptoRow : OpenClaim := { program := "ytgggcapgaikbeaa", sum := "707fbf5a1bf62338429e6c7f1a3d28d8714810a022d1d46d521e158dba043c2c", func := "hearth/hearthlaw13.IcmpGoes", spec := "icmpGoes", unfollowed := true, recurses := true, apart := false, narrowed := true }
def IcmpGoesUptoSaid : Prop := icmpGoesUptoRow.holds Try.pinned (OpenSpec.upto icmpGoesSpec)

/-- 'hearthlaw13.IcmpEchoes', WHERE WHAT IT READS IS OF BULK AT MOST 1048576: true; the input reads as it did. -/
def icmpEchoesUptoRow : OpenClaim := { program := "ytgggcapgaikbeaa", sum := "707fbf5a1bf62338429e6c7f1a3d28d8714810a022d1d46d521e158dba043c2c", func := "hearth/hearthlaw13.IcmpEchoes", spec := "icmpEchoes", unfollowed := true, recurses := true, apart := false, narrowed := true }
def IcmpEchoesUptoSaid : Prop := icmpEchoesUptoRow.holds Try.pinned (OpenSpec.upto icmpEchoesSpec)

/-- 'hearthlaw13.IcmpSizes', WHERE WHAT IT READS IS OF BULK AT MOST 1048576: true; the input reads as it did. -/
def icmpSizesUptoRow : OpenClaim := { program := "ytgggcapgaikbeaa", sum := "707fbf5a1bf62338429e6c7f1a3d28d8714810a022d1d46d521e158dba043c2c", func := "hearth/hearthlaw13.IcmpSizes", spec := "icmpSizes", unfollowed := true, recurses := true, apart := false, narrowed := true }
def IcmpSizesUptoSaid : Prop := icmpSizesUptoRow.holds Try.pinned (OpenSpec.upto icmpSizesSpec)

end Rows
end Go.Proofs.Ytgggcapgaikbeaa
