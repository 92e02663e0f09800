/-
  No cell of these rows narrows 'for every input' (looked for: loops, veiled, ifaces, maps, wideKeys, modest, calm, conditions, laid).
  DERIVED. THE GIVEN ROWS OF THIS SEAT. 6 by the template 'for every input the law returns true; each argument reads behind the call as it read before'; 0 by the template 'total and deterministic' (their statements: YtodelndbbpgblaaTotals.lean).
  GIVEN WITH THE SEED: the statements are not yours to turn. If you find one false, say at which input.
  Laid BY PROGRAM, IN A SANDBOX (cutbox-rows.mjs): the forced cells as the released guide's own fill.sh prints them over the translation 652b498afb4c815d… (all of the seat's roots in one cut). By AI agents, Wed Nov 11 2026. No macro, syntax, notation, axiom, sorry.
-/
import Derived.Test.YtodelndbbpgblaaChecked
import GoSem.Claim
import GoSem.ClaimJoined
import GoSem.ClaimMapViews
import Derived.JoinedTies
import Derived.KernelRfl
namespace Go.Proofs.Ytodelndbbpgblaa
/- THE CELL 'sum', in the pinned program and in every row, IS THE sha256 OF THE DUMP (.gsa) THAT YtodelndbbpgblaaProg.lean LOADS. Nothing in Lean hashes anything: it is a label: what it is worth is what the hold of that sum in a sandbox is worth. -/
noncomputable def Try.pinned : Pinned := { name := "ytodelndbbpgblaa", sum := "652b498afb4c815dd4e6bda5148dbf18984b23925c32b0ae1c15d838ba7bf2a4", checked := Try.checked }
namespace Rows
def none {H : Type} : Left H := { results := [], args := [] }

/-- 'flitlaw03.StampPacks': WHATEVER THE INPUT: true; the input reads as it did. -/
def stampPacksSpec : ChangeSpec := { name := "stampPacks", fn := fun _ => fun
  | [d1, d2, d3] => { results := [.lit (.bool true)], args := [d1, d2, d3] }
  | _ => none }
def stampPacksRow : OpenClaim := { program := "ytodelndbbpgblaa", sum := "652b498afb4c815dd4e6bda5148dbf18984b23925c32b0ae1c15d838ba7bf2a4", func := "flit/flitlaw03.StampPacks", spec := "stampPacks", apart := false }
def StampPacksSaid : Prop := stampPacksRow.holds Try.pinned (OpenSpec.ofChange stampPacksSpec)

/-- ITS FALSE NEIGHBOUR: 'it returns false'. Refute it at one input. -/
def stampPacksWrong : ChangeSpec := { name := "stampPacks", fn := fun _ => fun
  | [d1, d2, d3] => { results := [.lit (.bool false)], args := [d1, d2, d3] }
  | _ => none }
def StampPacksWrongFalsely : Prop := stampPacksRow.holds Try.pinned (OpenSpec.ofChange stampPacksWrong)

/-- 'flitlaw03.StampReads': WHATEVER THE INPUT: true; the input reads as it did. -/
def stampReadsSpec : ChangeSpec := { name := "stampReads", fn := fun _ => fun
  | [d1, d2] => { results := [.lit (.bool true)], args := [d1, d2] }
  | _ => none }
def stampReadsRow : OpenClaim := { program := "ytodelndbbpgblaa", sum := "652b498afb4c815dd4e6bda5148dbf18984b23925c32b0ae1c15d838ba7bf2a4", func := "flit/flitlaw03.StampReads", spec := "stampReads", apart := false }
def StampReadsSaid : Prop := stampReadsRow.holds Try.pinned (OpenSpec.ofChange stampReadsSpec)

/-- ITS FALSE NEIGHBOUR: 'it returns false'. Refute it at one input. -/
def stampReadsWrong : ChangeSpec := { name := "stampReads", fn := fun _ => fun
  | [d1, d2] => { results := [.lit (.bool false)], args := [d1, d2] }
  | _ => none }
def StampReadsWrongFalsely : Prop := stampReadsRow.holds Try.pinned (OpenSpec.ofChange stampReadsWrong)

/-- 'flitlaw03.StampBack': WHATEVER THE INPUT: true; the input reads as it did. -/
def stampBackSpec : ChangeSpec := { name := "stampBack", fn := fun _ => fun
  | [d1, d2, d3] => { results := [.lit (.bool true)], args := [d1, d2, d3] }
  | _ => none }
def stampBackRow : OpenClaim := { program := "ytodelndbbpgblaa", sum := "652b498afb4c815dd4e6bda5148dbf18984b23925c32b0ae1c15d838ba7bf2a4", func := "flit/flitlaw03.StampBack", spec := "stampBack", apart := false }
def StampBackSaid : Prop := stampBackRow.holds Try.pinned (OpenSpec.ofChange stampBackSpec)

/-- ITS FALSE NEIGHBOUR: 'it returns false'. Refute it at one input. -/
def stampBackWrong : ChangeSpec := { name := "stampBack", fn := fun _ => fun
  | [d1, d2, d3] => { results := [.lit (.bool false)], args := [d1, d2, d3] }
  | _ => none }
def StampBackWrongFalsely : Prop := stampBackRow.holds Try.pinned (OpenSpec.ofChange stampBackWrong)

/-- 'flitlaw03.StampNext': WHATEVER THE INPUT: true; the input reads as it did. -/
def stampNextSpec : ChangeSpec := { name := "stampNext", fn := fun _ => fun
  | [d1, d2] => { results := [.lit (.bool true)], args := [d1, d2] }
  | _ => none }
def stampNextRow : OpenClaim := { program := "ytodelndbbpgblaa", sum := "652b498afb4c815dd4e6bda5148dbf18984b23925c32b0ae1c15d838ba7bf2a4", func := "flit/flitlaw03.StampNext", spec := "stampNext", apart := false }
def StampNextSaid : Prop := stampNextRow.holds Try.pinned (OpenSpec.ofChange stampNextSpec)

/-- ITS FALSE NEIGHBOUR: 'it returns false'. Refute it at one input. -/
def stampNextWrong : ChangeSpec := { name := "stampNext", fn := fun _ => fun
  | [d1, d2] => { results := [.lit (.bool false)], args := [d1, d2] }
  | _ => none }
def StampNextWrongFalsely : Prop := stampNextRow.holds Try.pinned (OpenSpec.ofChange stampNextWrong)

/-- 'flitlaw03.StampLow': WHATEVER THE INPUT: true; the input reads as it did. -/
def stampLowSpec : ChangeSpec := { name := "stampLow", fn := fun _ => fun
  | [d] => { results := [.lit (.bool true)], args := [d] }
  | _ => none }
def stampLowRow : OpenClaim := { program := "ytodelndbbpgblaa", sum := "652b498afb4c815dd4e6bda5148dbf18984b23925c32b0ae1c15d838ba7bf2a4", func := "flit/flitlaw03.StampLow", spec := "stampLow", apart := false }
def StampLowSaid : Prop := stampLowRow.holds Try.pinned (OpenSpec.ofChange stampLowSpec)

/-- ITS FALSE NEIGHBOUR: 'it returns false'. Refute it at one input. -/
def stampLowWrong : ChangeSpec := { name := "stampLow", fn := fun _ => fun
  | [d] => { results := [.lit (.bool false)], args := [d] }
  | _ => none }
def StampLowWrongFalsely : Prop := stampLowRow.holds Try.pinned (OpenSpec.ofChange stampLowWrong)

/-- 'flitlaw03.StampVersions': WHATEVER THE INPUT: true; the input reads as it did. -/
def stampVersionsSpec : ChangeSpec := { name := "stampVersions", fn := fun _ => fun
  | [d1, d2] => { results := [.lit (.bool true)], args := [d1, d2] }
  | _ => none }
def stampVersionsRow : OpenClaim := { program := "ytodelndbbpgblaa", sum := "652b498afb4c815dd4e6bda5148dbf18984b23925c32b0ae1c15d838ba7bf2a4", func := "flit/flitlaw03.StampVersions", spec := "stampVersions", apart := false }
def StampVersionsSaid : Prop := stampVersionsRow.holds Try.pinned (OpenSpec.ofChange stampVersionsSpec)

/-- ITS FALSE NEIGHBOUR: 'it returns false'. Refute it at one input. -/
def stampVersionsWrong : ChangeSpec := { name := "stampVersions", fn := fun _ => fun
  | [d1, d2] => { results := [.lit (.bool false)], args := [d1, d2] }
  | _ => none }
def StampVersionsWrongFalsely : Prop := stampVersionsRow.holds Try.pinned (OpenSpec.ofChange stampVersionsWrong)

/- THE SECOND FORM. 'bulk': how many values and letters a reading holds, each counted each time it is reached (what is shared counts as often as it is met; a slice's spare places count too). A statement '..UptoSaid' is the law's where the arguments, and the package variables that the reading takes, are together of bulk at most 1048576: NARROWER than '..Said'. Prove '..Said' where nothing that the law and all that it calls make is longer than what came in: it says more and counts as full. Else prove '..UptoSaid'. A law counts once. -/
mutual
def uptoBulk {H : Type} : DataW H → Nat
  | .lit (.string bytes) => bytes.length + 1
  | .lit _ => 1
  | .nil => 1
  | .ptr d => uptoBulk d + 1
  | .slice elems spare => uptoBulkAll elems + uptoBulkAll spare + 1
  | .agg parts => uptoBulkAll parts + 1
  | .iface _ d => uptoBulk d + 1
  | .map entries => uptoBulkEntries entries + 1
  | .held _ => 1
def uptoBulkAll {H : Type} : List (DataW H) → Nat
  | [] => 0
  | d :: r => uptoBulk d + uptoBulkAll r
def uptoBulkEntries {H : Type} : List (Lit × DataW H) → Nat
  | [] => 0
  | x :: r => uptoBulkEntry x + uptoBulkEntries r
def uptoBulkEntry {H : Type} : Lit × DataW H → Nat
  | (.string bytes, d) => bytes.length + uptoBulk d + 1
  | (_, d) => uptoBulk d + 1
 end
def uptoSmall : (H : Type) → List (DataW H) → Bool := fun _ ds => decide (uptoBulkAll ds ≤ 1048576)
def OpenSpec.upto (s : _root_.Go.ChangeSpec) : _root_.Go.OpenSpec := { _root_.Go.OpenSpec.ofChange s with cond := some uptoSmall }

/-- 'flitlaw03.StampPacks', WHERE WHAT IT READS IS OF BULK AT MOST 1048576: true; the input reads as it did. -/
def stampPacksUptoRow : OpenClaim := { program := "ytodelndbbpgblaa", sum := "652b498afb4c815dd4e6bda5148dbf18984b23925c32b0ae1c15d838ba7bf2a4", func := "flit/flitlaw03.StampPacks", spec := "stampPacks", apart := false, narrowed := true }
def StampPacksUptoSaid : Prop := stampPacksUptoRow.holds Try.pinned (OpenSpec.upto stampPacksSpec)

/-- 'flitlaw03.StampReads', WHERE WHAT IT READS IS OF BULK AT MOST 1048576: true; the input reads as it did. -/
def stampReadsUptoRow : OpenClaim := { program := "ytodelndbbpgblaa", sum := "652b498afb4c815dd4e6bda5148dbf18984b23925c32b0ae1c15d838ba7bf2a4", func := "flit/flitlaw03.StampReads", spec := "stampReads", apart := false, narrowed := true }
def StampReadsUptoSaid : Prop := stampReadsUptoRow.holds Try.pinned (OpenSpec.upto stampReadsSpec)

/-- 'flitlaw03.StampBack', WHERE WHAT IT READS IS OF BULK AT MOST 1048576: true; the input reads as it did. -/
def stampBackUptoRow : OpenClaim := { program := "ytodelndbbpgblaa", sum := "652b498afb4c815dd4e6bda5148dbf18984b23925c32b0ae1c15d838ba7bf2a4", func := "flit/flitlaw03.StampBack", spec := "stampBack", apart := false, narrowed := true }
def StampBackUptoSaid : Prop := stampBackUptoRow.holds Try.pinned (OpenSpec.upto stampBackSpec)

/-- 'flitlaw03.StampNext', WHERE WHAT IT READS IS OF BULK AT MOST 1048576: true; the input reads as it did. -/
def stampNextUptoRow : OpenClaim := { program := "ytodelndbbpgblaa", sum := "652b498afb4c815dd4e6bda5148dbf18984b23925c32b0ae1c15d838ba7bf2a4", func := "flit/flitlaw03.StampNext", spec := "stampNext", apart := false, narrowed := true }
def StampNextUptoSaid : Prop := stampNextUptoRow.holds Try.pinned (OpenSpec.upto stampNextSpec)

/-- 'flitlaw03.StampLow', WHERE WHAT IT READS IS OF BULK AT MOST 1048576: true; the input reads as it did. -/
def stampLowUptoRow : OpenClaim := { program := "ytodelndbbpgblaa", sum := "652b498afb4c815dd4e6bda5148dbf18984b23925c32b0ae1c15d838ba7bf2a4", func := "flit/flitlaw03.StampLow", spec := "stampLow", apart := false, narrowed := true }
def StampLowUptoSaid : Prop := stampLowUptoRow.holds Try.pinned (OpenSpec.upto stampLowSpec)

/-- 'flitlaw03.StampVersions', WHERE WHAT IT READS IS OF BULK AT MOST 1048576: true; the input reads as it did. -/
def stampVersionsUptoRow : OpenClaim := { program := "ytodelndbbpgblaa", sum := "652b498afb4c815dd4e6bda5148dbf18984b23925c32b0ae1c15d838ba7bf2a4", func := "flit/flitlaw03.StampVersions", spec := "stampVersions", apart := false, narrowed := true }
def StampVersionsUptoSaid : Prop := stampVersionsUptoRow.holds Try.pinned (OpenSpec.upto stampVersionsSpec)

end Rows
end Go.Proofs.Ytodelndbbpgblaa
