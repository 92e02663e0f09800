/-
  NARROWER THAN 'FOR EVERY INPUT', by the rows' own cells (each row's printed sentence says how): HeadTags: laid · HeadRanges: laid.
  DERIVED. THE GIVEN ROWS OF THIS SEAT. 2 by the template 'for every input the law returns true; each argument reads behind the call as it read before'; 0 by the template 'total and deterministic' (their statements: YtikedddeafjnnabDoorTotals.lean).
  GIVEN WITH THE SEED: the statements are not yours to turn. If you find one false, say at which input.
  Laid BY PROGRAM, IN A SANDBOX (cutbox-rows.mjs): the forced cells as the released guide's own fill.sh prints them over the translation 1268fc3e7e8967fc… (all of the seat's roots in one cut). By AI agents, Wed Nov 11 2026. No macro, syntax, notation, axiom, sorry.
-/
import Derived.Test.YtikedddeafjnnabDoorChecked
import GoSem.Claim
import GoSem.ClaimJoined
import GoSem.ClaimMapViews
import Derived.JoinedTies
import Derived.KernelRfl
namespace Go.Proofs.YtikedddeafjnnabDoor
/- THE CELL 'sum', in the pinned program and in every row, IS THE sha256 OF THE DUMP (.gsa) THAT YtikedddeafjnnabDoorProg.lean LOADS. Nothing in Lean hashes anything: it is a label: what it is worth is what the hold of that sum in a sandbox is worth. -/
noncomputable def Tryd.pinned : Pinned := { name := "ytikedddeafjnnabdoor", sum := "1268fc3e7e8967fc89171580caef2e36d7c68567a096dad64909ef350cf34908", checked := Tryd.checked }
namespace Rows
def none {H : Type} : Left H := { results := [], args := [] }

/- WHAT THE LISTED PACKAGE-LEVEL VARIABLES READ AS WHEN THE CALL BEGINS. Each datum BY PROGRAM (the guide's laid-datum.mjs) off the statement by which the dump's own 'gosem.cut.vars' lays the variable. In a bare row this is a premise. The card (YtikedddeafjnnabDoorCards.lean) ties it to the program's text. -/
def laid_flit_head_widths {H : Type} : DataW H := .agg [.lit (.int .i64 2), .lit (.int .i64 2), .lit (.int .i64 3), .lit (.int .i64 1), .lit (.int .i64 1), .lit (.int .i64 3), .lit (.int .i64 12)]

/-- 'flitlaw02.HeadTags': WHATEVER THE INPUT: true; the input reads as it did. -/
def headTagsSpec : ChangeSpec := { name := "headTags", fn := fun _ => fun
  | [d1, d2] => { results := [.lit (.bool true)], args := [d1, d2] }
  | _ => none }
def headTagsRow : OpenClaim := { program := "ytikedddeafjnnabdoor", sum := "1268fc3e7e8967fc89171580caef2e36d7c68567a096dad64909ef350cf34908", func := "flit/flitlaw02.HeadTags", spec := "headTags", named := ["flit/head.widths"], apart := false, laid := [("flit/head.widths", laid_flit_head_widths)] }
def HeadTagsSaid : Prop := headTagsRow.holds Tryd.pinned (OpenSpec.ofChange headTagsSpec)

/-- ITS FALSE NEIGHBOUR: 'it returns false'. Refute it at one input. -/
def headTagsWrong : ChangeSpec := { name := "headTags", fn := fun _ => fun
  | [d1, d2] => { results := [.lit (.bool false)], args := [d1, d2] }
  | _ => none }
def HeadTagsWrongFalsely : Prop := headTagsRow.holds Tryd.pinned (OpenSpec.ofChange headTagsWrong)

/-- 'flitlaw02.HeadRanges': WHATEVER THE INPUT: true; the input reads as it did. -/
def headRangesSpec : ChangeSpec := { name := "headRanges", fn := fun _ => fun
  | [d] => { results := [.lit (.bool true)], args := [d] }
  | _ => none }
def headRangesRow : OpenClaim := { program := "ytikedddeafjnnabdoor", sum := "1268fc3e7e8967fc89171580caef2e36d7c68567a096dad64909ef350cf34908", func := "flit/flitlaw02.HeadRanges", spec := "headRanges", named := ["flit/head.widths"], apart := false, laid := [("flit/head.widths", laid_flit_head_widths)] }
def HeadRangesSaid : Prop := headRangesRow.holds Tryd.pinned (OpenSpec.ofChange headRangesSpec)

/-- ITS FALSE NEIGHBOUR: 'it returns false'. Refute it at one input. -/
def headRangesWrong : ChangeSpec := { name := "headRanges", fn := fun _ => fun
  | [d] => { results := [.lit (.bool false)], args := [d] }
  | _ => none }
def HeadRangesWrongFalsely : Prop := headRangesRow.holds Tryd.pinned (OpenSpec.ofChange headRangesWrong)

/- THE SECOND FORM. 'bulk': how many values and letters a reading holds, each counted each time it is reached (what is shared counts as often as it is met; a slice's spare places count too). A statement '..UptoSaid' is the law's where the arguments, and the package variables that the reading takes, are together of bulk at most 1048576: NARROWER than '..Said'. Prove '..Said' where nothing that the law and all that it calls make is longer than what came in: it says more and counts as full. Else prove '..UptoSaid'. A law counts once. -/
mutual
def uptoBulk {H : Type} : DataW H → Nat
  | .lit (.string bytes) => bytes.length + 1
  | .lit _ => 1
  | .nil => 1
  | .ptr d => uptoBulk d + 1
  | .slice elems spare => uptoBulkAll elems + uptoBulkAll spare + 1
  | .agg parts => uptoBulkAll parts + 1
  | .iface _ d => uptoBulk d + 1
  | .map entries => uptoBulkEntries entries + 1
  | .held _ => 1
def uptoBulkAll {H : Type} : List (DataW H) → Nat
  | [] => 0
  | d :: r => uptoBulk d + uptoBulkAll r
def uptoBulkEntries {H : Type} : List (Lit × DataW H) → Nat
  | [] => 0
  | x :: r => uptoBulkEntry x + uptoBulkEntries r
def uptoBulkEntry {H : Type} : Lit × DataW H → Nat
  | (.string bytes, d) => bytes.length + uptoBulk d + 1
  | (_, d) => uptoBulk d + 1
 end
def uptoSmall : (H : Type) → List (DataW H) → Bool := fun _ ds => decide (uptoBulkAll ds ≤ 1048576)
def OpenSpec.upto (s : _root_.Go.ChangeSpec) : _root_.Go.OpenSpec := { _root_.Go.OpenSpec.ofChange s with cond := some uptoSmall }

/-- 'flitlaw02.HeadTags', WHERE WHAT IT READS IS OF BULK AT MOST 1048576: true; the input reads as it did. -/
def headTagsUptoRow : OpenClaim := { program := "ytikedddeafjnnabdoor", sum := "1268fc3e7e8967fc89171580caef2e36d7c68567a096dad64909ef350cf34908", func := "flit/flitlaw02.HeadTags", spec := "headTags", named := ["flit/head.widths"], apart := false, laid := [("flit/head.widths", laid_flit_head_widths)], narrowed := true }
def HeadTagsUptoSaid : Prop := headTagsUptoRow.holds Tryd.pinned (OpenSpec.upto headTagsSpec)

/-- 'flitlaw02.HeadRanges', WHERE WHAT IT READS IS OF BULK AT MOST 1048576: true; the input reads as it did. -/
def headRangesUptoRow : OpenClaim := { program := "ytikedddeafjnnabdoor", sum := "1268fc3e7e8967fc89171580caef2e36d7c68567a096dad64909ef350cf34908", func := "flit/flitlaw02.HeadRanges", spec := "headRanges", named := ["flit/head.widths"], apart := false, laid := [("flit/head.widths", laid_flit_head_widths)], narrowed := true }
def HeadRangesUptoSaid : Prop := headRangesUptoRow.holds Tryd.pinned (OpenSpec.upto headRangesSpec)

end Rows
end Go.Proofs.YtikedddeafjnnabDoor
