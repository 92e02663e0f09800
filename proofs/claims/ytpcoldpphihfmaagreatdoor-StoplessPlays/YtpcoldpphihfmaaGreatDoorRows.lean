/-
  NARROWER THAN 'FOR EVERY INPUT', by the rows' own cells (each row's printed sentence says how): StoplessPlays: laid · StoplessKeeps: laid · StoplessReads: laid · StoplessSwaps: laid · StoplessWhere: laid · StoplessWrites: laid.
  DERIVED. THE GIVEN ROWS OF THIS SEAT. 6 by the template 'for every input the law returns true; each argument reads behind the call as it read before'; 0 by the template 'total and deterministic' (their statements: YtpcoldpphihfmaaGreatDoorTotals.lean).
  GIVEN WITH THE SEED: the statements are not yours to turn. If you find one false, say at which input.
  Laid BY PROGRAM, IN A SANDBOX (cutbox-rows.mjs): the forced cells as the released guide's own fill.sh prints them over the translation 06711c1efc0d28cf… (all of the seat's roots in one cut). By AI agents, Wed Nov 11 2026. No macro, syntax, notation, axiom, sorry.
-/
import Derived.Test.YtpcoldpphihfmaaGreatDoorChecked
import GoSem.Claim
import GoSem.ClaimJoined
import GoSem.ClaimMapViews
import Derived.JoinedTies
import Derived.KernelRfl
namespace Go.Proofs.YtpcoldpphihfmaaGreatDoor
/- THE CELL 'sum', in the pinned program and in every row, IS THE sha256 OF THE DUMP (.gsa) THAT YtpcoldpphihfmaaGreatDoorProg.lean LOADS. Nothing in Lean hashes anything: it is a label: what it is worth is what the hold of that sum in a sandbox is worth. -/
noncomputable def Tryz.pinned : Pinned := { name := "ytpcoldpphihfmaagreatdoor", sum := "06711c1efc0d28cf420c5b4ad52c3ca4b5141499102dc396e1b46199f93cc19c", checked := Tryz.checked }
namespace Rows
def none {H : Type} : Left H := { results := [], args := [] }

/- WHAT THE LISTED PACKAGE-LEVEL VARIABLES READ AS WHEN THE CALL BEGINS. Each datum BY PROGRAM (the guide's laid-datum.mjs) off the statement by which the dump's own 'gosem.cut.vars' lays the variable. In a bare row this is a premise. The card (YtpcoldpphihfmaaGreatDoorCards.lean) ties it to the program's text. -/
def laid_flit_head_widths {H : Type} : DataW H := .agg [.lit (.int .i64 2), .lit (.int .i64 2), .lit (.int .i64 3), .lit (.int .i64 1), .lit (.int .i64 1), .lit (.int .i64 3), .lit (.int .i64 12)]
def laid_flit_stopless_behindStatus {H : Type} : DataW H := .agg [.lit (.int .i64 3), .lit (.int .i64 6), .lit (.int .i64 8), .lit (.int .i64 11)]

/-- 'flitlaw15.StoplessPlays': WHATEVER THE INPUT: true; the input reads as it did. -/
def stoplessPlaysSpec : ChangeSpec := { name := "stoplessPlays", fn := fun _ => fun
  | [d1, d2, d3] => { results := [.lit (.bool true)], args := [d1, d2, d3] }
  | _ => none }
def stoplessPlaysRow : OpenClaim := { program := "ytpcoldpphihfmaagreatdoor", sum := "06711c1efc0d28cf420c5b4ad52c3ca4b5141499102dc396e1b46199f93cc19c", func := "flit/flitlaw15.StoplessPlays", spec := "stoplessPlays", unfollowed := true, recurses := true, named := ["flit/head.widths", "flit/stopless.behindStatus"], apart := false, laid := [("flit/head.widths", laid_flit_head_widths), ("flit/stopless.behindStatus", laid_flit_stopless_behindStatus)] }
def StoplessPlaysSaid : Prop := stoplessPlaysRow.holds Tryz.pinned (OpenSpec.ofChange stoplessPlaysSpec)

/-- ITS FALSE NEIGHBOUR: 'it returns false'. Refute it at one input. -/
def stoplessPlaysWrong : ChangeSpec := { name := "stoplessPlays", fn := fun _ => fun
  | [d1, d2, d3] => { results := [.lit (.bool false)], args := [d1, d2, d3] }
  | _ => none }
def StoplessPlaysWrongFalsely : Prop := stoplessPlaysRow.holds Tryz.pinned (OpenSpec.ofChange stoplessPlaysWrong)

/-- 'flitlaw15.StoplessKeeps': WHATEVER THE INPUT: true; the input reads as it did. -/
def stoplessKeepsSpec : ChangeSpec := { name := "stoplessKeeps", fn := fun _ => fun
  | [d1, d2, d3] => { results := [.lit (.bool true)], args := [d1, d2, d3] }
  | _ => none }
def stoplessKeepsRow : OpenClaim := { program := "ytpcoldpphihfmaagreatdoor", sum := "06711c1efc0d28cf420c5b4ad52c3ca4b5141499102dc396e1b46199f93cc19c", func := "flit/flitlaw15.StoplessKeeps", spec := "stoplessKeeps", unfollowed := true, recurses := true, named := ["flit/head.widths", "flit/stopless.behindStatus"], apart := false, laid := [("flit/head.widths", laid_flit_head_widths), ("flit/stopless.behindStatus", laid_flit_stopless_behindStatus)] }
def StoplessKeepsSaid : Prop := stoplessKeepsRow.holds Tryz.pinned (OpenSpec.ofChange stoplessKeepsSpec)

/-- ITS FALSE NEIGHBOUR: 'it returns false'. Refute it at one input. -/
def stoplessKeepsWrong : ChangeSpec := { name := "stoplessKeeps", fn := fun _ => fun
  | [d1, d2, d3] => { results := [.lit (.bool false)], args := [d1, d2, d3] }
  | _ => none }
def StoplessKeepsWrongFalsely : Prop := stoplessKeepsRow.holds Tryz.pinned (OpenSpec.ofChange stoplessKeepsWrong)

/-- 'flitlaw15.StoplessReads': WHATEVER THE INPUT: true; the input reads as it did. -/
def stoplessReadsSpec : ChangeSpec := { name := "stoplessReads", fn := fun _ => fun
  | [d1, d2, d3] => { results := [.lit (.bool true)], args := [d1, d2, d3] }
  | _ => none }
def stoplessReadsRow : OpenClaim := { program := "ytpcoldpphihfmaagreatdoor", sum := "06711c1efc0d28cf420c5b4ad52c3ca4b5141499102dc396e1b46199f93cc19c", func := "flit/flitlaw15.StoplessReads", spec := "stoplessReads", unfollowed := true, recurses := true, named := ["flit/head.widths", "flit/stopless.behindStatus"], apart := false, laid := [("flit/head.widths", laid_flit_head_widths), ("flit/stopless.behindStatus", laid_flit_stopless_behindStatus)] }
def StoplessReadsSaid : Prop := stoplessReadsRow.holds Tryz.pinned (OpenSpec.ofChange stoplessReadsSpec)

/-- ITS FALSE NEIGHBOUR: 'it returns false'. Refute it at one input. -/
def stoplessReadsWrong : ChangeSpec := { name := "stoplessReads", fn := fun _ => fun
  | [d1, d2, d3] => { results := [.lit (.bool false)], args := [d1, d2, d3] }
  | _ => none }
def StoplessReadsWrongFalsely : Prop := stoplessReadsRow.holds Tryz.pinned (OpenSpec.ofChange stoplessReadsWrong)

/-- 'flitlaw15.StoplessSwaps': WHATEVER THE INPUT: true; the input reads as it did. -/
def stoplessSwapsSpec : ChangeSpec := { name := "stoplessSwaps", fn := fun _ => fun
  | [d1, d2, d3] => { results := [.lit (.bool true)], args := [d1, d2, d3] }
  | _ => none }
def stoplessSwapsRow : OpenClaim := { program := "ytpcoldpphihfmaagreatdoor", sum := "06711c1efc0d28cf420c5b4ad52c3ca4b5141499102dc396e1b46199f93cc19c", func := "flit/flitlaw15.StoplessSwaps", spec := "stoplessSwaps", unfollowed := true, recurses := true, named := ["flit/head.widths", "flit/stopless.behindStatus"], apart := false, laid := [("flit/head.widths", laid_flit_head_widths), ("flit/stopless.behindStatus", laid_flit_stopless_behindStatus)] }
def StoplessSwapsSaid : Prop := stoplessSwapsRow.holds Tryz.pinned (OpenSpec.ofChange stoplessSwapsSpec)

/-- ITS FALSE NEIGHBOUR: 'it returns false'. Refute it at one input. -/
def stoplessSwapsWrong : ChangeSpec := { name := "stoplessSwaps", fn := fun _ => fun
  | [d1, d2, d3] => { results := [.lit (.bool false)], args := [d1, d2, d3] }
  | _ => none }
def StoplessSwapsWrongFalsely : Prop := stoplessSwapsRow.holds Tryz.pinned (OpenSpec.ofChange stoplessSwapsWrong)

/-- 'flitlaw15.StoplessWhere': WHATEVER THE INPUT: true; the input reads as it did. -/
def stoplessWhereSpec : ChangeSpec := { name := "stoplessWhere", fn := fun _ => fun
  | [d1, d2, d3] => { results := [.lit (.bool true)], args := [d1, d2, d3] }
  | _ => none }
def stoplessWhereRow : OpenClaim := { program := "ytpcoldpphihfmaagreatdoor", sum := "06711c1efc0d28cf420c5b4ad52c3ca4b5141499102dc396e1b46199f93cc19c", func := "flit/flitlaw15.StoplessWhere", spec := "stoplessWhere", unfollowed := true, recurses := true, named := ["flit/head.widths", "flit/stopless.behindStatus"], apart := false, laid := [("flit/head.widths", laid_flit_head_widths), ("flit/stopless.behindStatus", laid_flit_stopless_behindStatus)] }
def StoplessWhereSaid : Prop := stoplessWhereRow.holds Tryz.pinned (OpenSpec.ofChange stoplessWhereSpec)

/-- ITS FALSE NEIGHBOUR: 'it returns false'. Refute it at one input. -/
def stoplessWhereWrong : ChangeSpec := { name := "stoplessWhere", fn := fun _ => fun
  | [d1, d2, d3] => { results := [.lit (.bool false)], args := [d1, d2, d3] }
  | _ => none }
def StoplessWhereWrongFalsely : Prop := stoplessWhereRow.holds Tryz.pinned (OpenSpec.ofChange stoplessWhereWrong)

/-- 'flitlaw15.StoplessWrites': WHATEVER THE INPUT: true; the input reads as it did. -/
def stoplessWritesSpec : ChangeSpec := { name := "stoplessWrites", fn := fun _ => fun
  | [d1, d2] => { results := [.lit (.bool true)], args := [d1, d2] }
  | _ => none }
def stoplessWritesRow : OpenClaim := { program := "ytpcoldpphihfmaagreatdoor", sum := "06711c1efc0d28cf420c5b4ad52c3ca4b5141499102dc396e1b46199f93cc19c", func := "flit/flitlaw15.StoplessWrites", spec := "stoplessWrites", unfollowed := true, recurses := true, named := ["flit/head.widths", "flit/stopless.behindStatus"], apart := false, laid := [("flit/head.widths", laid_flit_head_widths), ("flit/stopless.behindStatus", laid_flit_stopless_behindStatus)] }
def StoplessWritesSaid : Prop := stoplessWritesRow.holds Tryz.pinned (OpenSpec.ofChange stoplessWritesSpec)

/-- ITS FALSE NEIGHBOUR: 'it returns false'. Refute it at one input. -/
def stoplessWritesWrong : ChangeSpec := { name := "stoplessWrites", fn := fun _ => fun
  | [d1, d2] => { results := [.lit (.bool false)], args := [d1, d2] }
  | _ => none }
def StoplessWritesWrongFalsely : Prop := stoplessWritesRow.holds Tryz.pinned (OpenSpec.ofChange stoplessWritesWrong)

/- THE SECOND FORM. 'bulk': how many values and letters a reading holds, each counted each time it is reached (what is shared counts as often as it is met; a slice's spare places count too). A statement '..UptoSaid' is the law's where the arguments, and the package variables that the reading takes, are together of bulk at most 1048576: NARROWER than '..Said'. Prove '..Said' where nothing that the law and all that it calls make is longer than what came in: it says more and counts as full. Else prove '..UptoSaid'. A law counts once. -/
mutual
def uptoBulk {H : Type} : DataW H → Nat
  | .lit (.string bytes) => bytes.length + 1
  | .lit _ => 1
  | .nil => 1
  | .ptr d => uptoBulk d + 1
  | .slice elems spare => uptoBulkAll elems + uptoBulkAll spare + 1
  | .agg parts => uptoBulkAll parts + 1
  | .iface _ d => uptoBulk d + 1
  | .map entries => uptoBulkEntries entries + 1
  | .held _ => 1
def uptoBulkAll {H : Type} : List (DataW H) → Nat
  | [] => 0
  | d :: r => uptoBulk d + uptoBulkAll r
def uptoBulkEntries {H : Type} : List (Lit × DataW H) → Nat
  | [] => 0
  | x :: r => uptoBulkEntry x + uptoBulkEntries r
def uptoBulkEntry {H : Type} : Lit × DataW H → Nat
  | (.string bytes, d) => bytes.length + uptoBulk d + 1
  | (_, d) => uptoBulk d + 1
 end
def uptoSmall : (H : Type) → List (DataW H) → Bool := fun _ ds => decide (uptoBulkAll ds ≤ 1048576)
def OpenSpec.upto (s : _root_.Go.ChangeSpec) : _root_.Go.OpenSpec := { _root_.Go.OpenSpec.ofChange s with cond := some uptoSmall }

/-- 'flitlaw15.StoplessPlays', WHERE WHAT IT READS IS OF BULK AT MOST 1048576: true; the input reads as it did. -/
def stoplessPlaysUptoRow : OpenClaim := { program := "ytpcoldpphihfmaagreatdoor", sum := "06711c1efc0d28cf420c5b4ad52c3ca4b5141499102dc396e1b46199f93cc19c", func := "flit/flitlaw15.StoplessPlays", spec := "stoplessPlays", unfollowed := true, recurses := true, named := ["flit/head.widths", "flit/stopless.behindStatus"], apart := false, laid := [("flit/head.widths", laid_flit_head_widths), ("flit/stopless.behindStatus", laid_flit_stopless_behindStatus)], narrowed := true }
def StoplessPlaysUptoSaid : Prop := stoplessPlaysUptoRow.holds Tryz.pinned (OpenSpec.upto stoplessPlaysSpec)

/-- 'flitlaw15.StoplessKeeps', WHERE WHAT IT READS IS OF BULK AT MOST 1048576: true; the input reads as it did. -/
def stoplessKeepsUptoRow : OpenClaim := { program := "ytpcoldpphihfmaagreatdoor", sum := "06711c1efc0d28cf420c5b4ad52c3ca4b5141499102dc396e1b46199f93cc19c", func := "flit/flitlaw15.StoplessKeeps", spec := "stoplessKeeps", unfollowed := true, recurses := true, named := ["flit/head.widths", "flit/stopless.behindStatus"], apart := false, laid := [("flit/head.widths", laid_flit_head_widths), ("flit/stopless.behindStatus", laid_flit_stopless_behindStatus)], narrowed := true }
def StoplessKeepsUptoSaid : Prop := stoplessKeepsUptoRow.holds Tryz.pinned (OpenSpec.upto stoplessKeepsSpec)

/-- 'flitlaw15.StoplessReads', WHERE WHAT IT READS IS OF BULK AT MOST 1048576: true; the input reads as it did. -/
def stoplessReadsUptoRow : OpenClaim := { program := "ytpcoldpphihfmaagreatdoor", sum := "06711c1efc0d28cf420c5b4ad52c3ca4b5141499102dc396e1b46199f93cc19c", func := "flit/flitlaw15.StoplessReads", spec := "stoplessReads", unfollowed := true, recurses := true, named := ["flit/head.widths", "flit/stopless.behindStatus"], apart := false, laid := [("flit/head.widths", laid_flit_head_widths), ("flit/stopless.behindStatus", laid_flit_stopless_behindStatus)], narrowed := true }
def StoplessReadsUptoSaid : Prop := stoplessReadsUptoRow.holds Tryz.pinned (OpenSpec.upto stoplessReadsSpec)

/-- 'flitlaw15.StoplessSwaps', WHERE WHAT IT READS IS OF BULK AT MOST 1048576: true; the input reads as it did. -/
def stoplessSwapsUptoRow : OpenClaim := { program := "ytpcoldpphihfmaagreatdoor", sum := "06711c1efc0d28cf420c5b4ad52c3ca4b5141499102dc396e1b46199f93cc19c", func := "flit/flitlaw15.StoplessSwaps", spec := "stoplessSwaps", unfollowed := true, recurses := true, named := ["flit/head.widths", "flit/stopless.behindStatus"], apart := false, laid := [("flit/head.widths", laid_flit_head_widths), ("flit/stopless.behindStatus", laid_flit_stopless_behindStatus)], narrowed := true }
def StoplessSwapsUptoSaid : Prop := stoplessSwapsUptoRow.holds Tryz.pinned (OpenSpec.upto stoplessSwapsSpec)

/-- 'flitlaw15.StoplessWhere', WHERE WHAT IT READS IS OF BULK AT MOST 1048576: true; the input reads as it did. -/
def stoplessWhereUptoRow : OpenClaim := { program := "ytpcoldpphihfmaagreatdoor", sum := "06711c1efc0d28cf420c5b4ad52c3ca4b5141499102dc396e1b46199f93cc19c", func := "flit/flitlaw15.StoplessWhere", spec := "stoplessWhere", unfollowed := true, recurses := true, named := ["flit/head.widths", "flit/stopless.behindStatus"], apart := false, laid := [("flit/head.widths", laid_flit_head_widths), ("flit/stopless.behindStatus", laid_flit_stopless_behindStatus)], narrowed := true }
def StoplessWhereUptoSaid : Prop := stoplessWhereUptoRow.holds Tryz.pinned (OpenSpec.upto stoplessWhereSpec)

/-- 'flitlaw15.StoplessWrites', WHERE WHAT IT READS IS OF BULK AT MOST 1048576: true; the input reads as it did. -/
def stoplessWritesUptoRow : OpenClaim := { program := "ytpcoldpphihfmaagreatdoor", sum := "06711c1efc0d28cf420c5b4ad52c3ca4b5141499102dc396e1b46199f93cc19c", func := "flit/flitlaw15.StoplessWrites", spec := "stoplessWrites", unfollowed := true, recurses := true, named := ["flit/head.widths", "flit/stopless.behindStatus"], apart := false, laid := [("flit/head.widths", laid_flit_head_widths), ("flit/stopless.behindStatus", laid_flit_stopless_behindStatus)], narrowed := true }
def StoplessWritesUptoSaid : Prop := stoplessWritesUptoRow.holds Tryz.pinned (OpenSpec.upto stoplessWritesSpec)

end Rows
end Go.Proofs.YtpcoldpphihfmaaGreatDoor
