/-
  NARROWER THAN 'FOR EVERY INPUT', by the rows' own cells (each row's printed sentence says how): AllocOwn: laid · AllocAll: laid · AllocSteps: laid · AllocSets: laid.
  DERIVED. THE GIVEN ROWS OF THIS SEAT. 4 by the template 'for every input the law returns true; each argument reads behind the call as it read before'; 0 by the template 'total and deterministic' (their statements: YtbojljkdpebheaaDoorTotals.lean).
  GIVEN WITH THE SEED: the statements are not yours to turn. If you find one false, say at which input.
  Laid BY PROGRAM, IN A SANDBOX (cutbox-rows.mjs): the forced cells as the released guide's own fill.sh prints them over the translation 923161a7690e5bf9… (all of the seat's roots in one cut). By AI agents, Wed Nov 11 2026. No macro, syntax, notation, axiom, sorry.
-/
import Derived.Test.YtbojljkdpebheaaDoorChecked
import GoSem.Claim
import GoSem.ClaimJoined
import GoSem.ClaimMapViews
import Derived.JoinedTies
import Derived.KernelRfl
namespace Go.Proofs.YtbojljkdpebheaaDoor
/- THE CELL 'sum', in the pinned program and in every row, IS THE sha256 OF THE DUMP (.gsa) THAT YtbojljkdpebheaaDoorProg.lean LOADS. Nothing in Lean hashes anything: it is a label: what it is worth is what the hold of that sum in a sandbox is worth. -/
noncomputable def Tryd.pinned : Pinned := { name := "ytbojljkdpebheaadoor", sum := "923161a7690e5bf978a14ba80d25971fbda2eb0b4afcaad56b168fafaccba96b", checked := Tryd.checked }
namespace Rows
def none {H : Type} : Left H := { results := [], args := [] }

/- WHAT THE LISTED PACKAGE-LEVEL VARIABLES READ AS WHEN THE CALL BEGINS. Each datum BY PROGRAM (the guide's laid-datum.mjs) off the statement by which the dump's own 'gosem.cut.vars' lays the variable. In a bare row this is a premise. The card (YtbojljkdpebheaaDoorCards.lean) ties it to the program's text. -/
def laid_flit_head_widths {H : Type} : DataW H := .agg [.lit (.int .i64 2), .lit (.int .i64 2), .lit (.int .i64 3), .lit (.int .i64 1), .lit (.int .i64 1), .lit (.int .i64 3), .lit (.int .i64 12)]
def laid_flit_plan_cellWords {H : Type} : DataW H := .agg [.lit (.int .i64 4), .lit (.int .i64 8), .lit (.int .i64 16)]

/-- 'flitlaw10.AllocOwn': WHATEVER THE INPUT: true; the input reads as it did. -/
def allocOwnSpec : ChangeSpec := { name := "allocOwn", fn := fun _ => fun
  | [d1, d2] => { results := [.lit (.bool true)], args := [d1, d2] }
  | _ => none }
def allocOwnRow : OpenClaim := { program := "ytbojljkdpebheaadoor", sum := "923161a7690e5bf978a14ba80d25971fbda2eb0b4afcaad56b168fafaccba96b", func := "flit/flitlaw10.AllocOwn", spec := "allocOwn", unfollowed := true, recurses := true, named := ["flit/plan.cellWords", "flit/head.widths"], apart := false, laid := [("flit/head.widths", laid_flit_head_widths), ("flit/plan.cellWords", laid_flit_plan_cellWords)] }
def AllocOwnSaid : Prop := allocOwnRow.holds Tryd.pinned (OpenSpec.ofChange allocOwnSpec)

/-- ITS FALSE NEIGHBOUR: 'it returns false'. Refute it at one input. -/
def allocOwnWrong : ChangeSpec := { name := "allocOwn", fn := fun _ => fun
  | [d1, d2] => { results := [.lit (.bool false)], args := [d1, d2] }
  | _ => none }
def AllocOwnWrongFalsely : Prop := allocOwnRow.holds Tryd.pinned (OpenSpec.ofChange allocOwnWrong)

/-- 'flitlaw10.AllocAll': WHATEVER THE INPUT: true; the input reads as it did. -/
def allocAllSpec : ChangeSpec := { name := "allocAll", fn := fun _ => fun
  | [d1, d2] => { results := [.lit (.bool true)], args := [d1, d2] }
  | _ => none }
def allocAllRow : OpenClaim := { program := "ytbojljkdpebheaadoor", sum := "923161a7690e5bf978a14ba80d25971fbda2eb0b4afcaad56b168fafaccba96b", func := "flit/flitlaw10.AllocAll", spec := "allocAll", unfollowed := true, recurses := true, named := ["flit/plan.cellWords", "flit/head.widths"], apart := false, laid := [("flit/head.widths", laid_flit_head_widths), ("flit/plan.cellWords", laid_flit_plan_cellWords)] }
def AllocAllSaid : Prop := allocAllRow.holds Tryd.pinned (OpenSpec.ofChange allocAllSpec)

/-- ITS FALSE NEIGHBOUR: 'it returns false'. Refute it at one input. -/
def allocAllWrong : ChangeSpec := { name := "allocAll", fn := fun _ => fun
  | [d1, d2] => { results := [.lit (.bool false)], args := [d1, d2] }
  | _ => none }
def AllocAllWrongFalsely : Prop := allocAllRow.holds Tryd.pinned (OpenSpec.ofChange allocAllWrong)

/-- 'flitlaw10.AllocSteps': WHATEVER THE INPUT: true; the input reads as it did. -/
def allocStepsSpec : ChangeSpec := { name := "allocSteps", fn := fun _ => fun
  | [d1, d2] => { results := [.lit (.bool true)], args := [d1, d2] }
  | _ => none }
def allocStepsRow : OpenClaim := { program := "ytbojljkdpebheaadoor", sum := "923161a7690e5bf978a14ba80d25971fbda2eb0b4afcaad56b168fafaccba96b", func := "flit/flitlaw10.AllocSteps", spec := "allocSteps", unfollowed := true, recurses := true, named := ["flit/plan.cellWords", "flit/head.widths"], apart := false, laid := [("flit/head.widths", laid_flit_head_widths), ("flit/plan.cellWords", laid_flit_plan_cellWords)] }
def AllocStepsSaid : Prop := allocStepsRow.holds Tryd.pinned (OpenSpec.ofChange allocStepsSpec)

/-- ITS FALSE NEIGHBOUR: 'it returns false'. Refute it at one input. -/
def allocStepsWrong : ChangeSpec := { name := "allocSteps", fn := fun _ => fun
  | [d1, d2] => { results := [.lit (.bool false)], args := [d1, d2] }
  | _ => none }
def AllocStepsWrongFalsely : Prop := allocStepsRow.holds Tryd.pinned (OpenSpec.ofChange allocStepsWrong)

/-- 'flitlaw10.AllocSets': WHATEVER THE INPUT: true; the input reads as it did. -/
def allocSetsSpec : ChangeSpec := { name := "allocSets", fn := fun _ => fun
  | [d] => { results := [.lit (.bool true)], args := [d] }
  | _ => none }
def allocSetsRow : OpenClaim := { program := "ytbojljkdpebheaadoor", sum := "923161a7690e5bf978a14ba80d25971fbda2eb0b4afcaad56b168fafaccba96b", func := "flit/flitlaw10.AllocSets", spec := "allocSets", unfollowed := true, recurses := true, named := ["flit/plan.cellWords", "flit/head.widths"], apart := false, laid := [("flit/head.widths", laid_flit_head_widths), ("flit/plan.cellWords", laid_flit_plan_cellWords)] }
def AllocSetsSaid : Prop := allocSetsRow.holds Tryd.pinned (OpenSpec.ofChange allocSetsSpec)

/-- ITS FALSE NEIGHBOUR: 'it returns false'. Refute it at one input. -/
def allocSetsWrong : ChangeSpec := { name := "allocSets", fn := fun _ => fun
  | [d] => { results := [.lit (.bool false)], args := [d] }
  | _ => none }
def AllocSetsWrongFalsely : Prop := allocSetsRow.holds Tryd.pinned (OpenSpec.ofChange allocSetsWrong)

/- THE SECOND FORM. 'bulk': how many values and letters a reading holds, each counted each time it is reached (what is shared counts as often as it is met; a slice's spare places count too). A statement '..UptoSaid' is the law's where the arguments, and the package variables that the reading takes, are together of bulk at most 1048576: NARROWER than '..Said'. Prove '..Said' where nothing that the law and all that it calls make is longer than what came in: it says more and counts as full. Else prove '..UptoSaid'. A law counts once. -/
mutual
def uptoBulk {H : Type} : DataW H → Nat
  | .lit (.string bytes) => bytes.length + 1
  | .lit _ => 1
  | .nil => 1
  | .ptr d => uptoBulk d + 1
  | .slice elems spare => uptoBulkAll elems + uptoBulkAll spare + 1
  | .agg parts => uptoBulkAll parts + 1
  | .iface _ d => uptoBulk d + 1
  | .map entries => uptoBulkEntries entries + 1
  | .held _ => 1
def uptoBulkAll {H : Type} : List (DataW H) → Nat
  | [] => 0
  | d :: r => uptoBulk d + uptoBulkAll r
def uptoBulkEntries {H : Type} : List (Lit × DataW H) → Nat
  | [] => 0
  | x :: r => uptoBulkEntry x + uptoBulkEntries r
def uptoBulkEntry {H : Type} : Lit × DataW H → Nat
  | (.string bytes, d) => bytes.length + uptoBulk d + 1
  | (_, d) => uptoBulk d + 1
 end
def uptoSmall : (H : Type) → List (DataW H) → Bool := fun _ ds => decide (uptoBulkAll ds ≤ 1048576)
def OpenSpec.upto (s : _root_.Go.ChangeSpec) : _root_.Go.OpenSpec := { _root_.Go.OpenSpec.ofChange s with cond := some uptoSmall }

/-- 'flitlaw10.AllocOwn', WHERE WHAT IT READS IS OF BULK AT MOST 1048576: true; the input reads as it did. -/
def allocOwnUptoRow : OpenClaim := { program := "ytbojljkdpebheaadoor", sum := "923161a7690e5bf978a14ba80d25971fbda2eb0b4afcaad56b168fafaccba96b", func := "flit/flitlaw10.AllocOwn", spec := "allocOwn", unfollowed := true, recurses := true, named := ["flit/plan.cellWords", "flit/head.widths"], apart := false, laid := [("flit/head.widths", laid_flit_head_widths), ("flit/plan.cellWords", laid_flit_plan_cellWords)], narrowed := true }
def AllocOwnUptoSaid : Prop := allocOwnUptoRow.holds Tryd.pinned (OpenSpec.upto allocOwnSpec)

/-- 'flitlaw10.AllocAll', WHERE WHAT IT READS IS OF BULK AT MOST 1048576: true; the input reads as it did. -/
def allocAllUptoRow : OpenClaim := { program := "ytbojljkdpebheaadoor", sum := "923161a7690e5bf978a14ba80d25971fbda2eb0b4afcaad56b168fafaccba96b", func := "flit/flitlaw10.AllocAll", spec := "allocAll", unfollowed := true, recurses := true, named := ["flit/plan.cellWords", "flit/head.widths"], apart := false, laid := [("flit/head.widths", laid_flit_head_widths), ("flit/plan.cellWords", laid_flit_plan_cellWords)], narrowed := true }
def AllocAllUptoSaid : Prop := allocAllUptoRow.holds Tryd.pinned (OpenSpec.upto allocAllSpec)

/-- 'flitlaw10.AllocSteps', WHERE WHAT IT READS IS OF BULK AT MOST 1048576: true; the input reads as it did. -/
def allocStepsUptoRow : OpenClaim := { program := "ytbojljkdpebheaadoor", sum := "923161a7690e5bf978a14ba80d25971fbda2eb0b4afcaad56b168fafaccba96b", func := "flit/flitlaw10.AllocSteps", spec := "allocSteps", unfollowed := true, recurses := true, named := ["flit/plan.cellWords", "flit/head.widths"], apart := false, laid := [("flit/head.widths", laid_flit_head_widths), ("flit/plan.cellWords", laid_flit_plan_cellWords)], narrowed := true }
def AllocStepsUptoSaid : Prop := allocStepsUptoRow.holds Tryd.pinned (OpenSpec.upto allocStepsSpec)

/-- 'flitlaw10.AllocSets', WHERE WHAT IT READS IS OF BULK AT MOST 1048576: true; the input reads as it did. -/
def allocSetsUptoRow : OpenClaim := { program := "ytbojljkdpebheaadoor", sum := "923161a7690e5bf978a14ba80d25971fbda2eb0b4afcaad56b168fafaccba96b", func := "flit/flitlaw10.AllocSets", spec := "allocSets", unfollowed := true, recurses := true, named := ["flit/plan.cellWords", "flit/head.widths"], apart := false, laid := [("flit/head.widths", laid_flit_head_widths), ("flit/plan.cellWords", laid_flit_plan_cellWords)], narrowed := true }
def AllocSetsUptoSaid : Prop := allocSetsUptoRow.holds Tryd.pinned (OpenSpec.upto allocSetsSpec)

end Rows
end Go.Proofs.YtbojljkdpebheaaDoor
