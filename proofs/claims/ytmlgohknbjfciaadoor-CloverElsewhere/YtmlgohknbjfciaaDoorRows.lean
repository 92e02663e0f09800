/-
  NARROWER THAN 'FOR EVERY INPUT', by the rows' own cells (each row's printed sentence says how): CloverWaits: laid · CloverElsewhere: laid.
  DERIVED. THE GIVEN ROWS OF THIS SEAT. 2 by the template 'for every input the law returns true; each argument reads behind the call as it read before'; 0 by the template 'total and deterministic' (their statements: YtmlgohknbjfciaaDoorTotals.lean).
  GIVEN WITH THE SEED: the statements are not yours to turn. If you find one false, say at which input.
  Laid BY PROGRAM, IN A SANDBOX (cutbox-rows.mjs): the forced cells as the released guide's own fill.sh prints them over the translation b2065fd64a51cedd… (all of the seat's roots in one cut). By AI agents, Wed Nov 11 2026. No macro, syntax, notation, axiom, sorry.
-/
import Derived.Test.YtmlgohknbjfciaaDoorChecked
import GoSem.Claim
import GoSem.ClaimJoined
import GoSem.ClaimMapViews
import Derived.JoinedTies
import Derived.KernelRfl
namespace Go.Proofs.YtmlgohknbjfciaaDoor
/- THE CELL 'sum', in the pinned program and in every row, IS THE sha256 OF THE DUMP (.gsa) THAT YtmlgohknbjfciaaDoorProg.lean LOADS. Nothing in Lean hashes anything: it is a label: what it is worth is what the hold of that sum in a sandbox is worth. -/
noncomputable def Tryd.pinned : Pinned := { name := "ytmlgohknbjfciaadoor", sum := "b2065fd64a51cedda4579dbb06917501075bae52c6d3c3069a1c88c81fc171c2", checked := Tryd.checked }
namespace Rows
def none {H : Type} : Left H := { results := [], args := [] }

/- WHAT THE LISTED PACKAGE-LEVEL VARIABLES READ AS WHEN THE CALL BEGINS. Each datum BY PROGRAM (the guide's laid-datum.mjs) off the statement by which the dump's own 'gosem.cut.vars' lays the variable. In a bare row this is a premise. The card (YtmlgohknbjfciaaDoorCards.lean) ties it to the program's text. -/
def laid_flit_head_widths {H : Type} : DataW H := .agg [.lit (.int .i64 2), .lit (.int .i64 2), .lit (.int .i64 3), .lit (.int .i64 1), .lit (.int .i64 1), .lit (.int .i64 3), .lit (.int .i64 12)]

/-- 'flitlaw14.CloverWaits': WHATEVER THE INPUT: true; the input reads as it did. -/
def cloverWaitsSpec : ChangeSpec := { name := "cloverWaits", fn := fun _ => fun
  | [d1, d2] => { results := [.lit (.bool true)], args := [d1, d2] }
  | _ => none }
def cloverWaitsRow : OpenClaim := { program := "ytmlgohknbjfciaadoor", sum := "b2065fd64a51cedda4579dbb06917501075bae52c6d3c3069a1c88c81fc171c2", func := "flit/flitlaw14.CloverWaits", spec := "cloverWaits", unfollowed := true, recurses := true, named := ["flit/head.widths"], apart := false, laid := [("flit/head.widths", laid_flit_head_widths)] }
def CloverWaitsSaid : Prop := cloverWaitsRow.holds Tryd.pinned (OpenSpec.ofChange cloverWaitsSpec)

/-- ITS FALSE NEIGHBOUR: 'it returns false'. Refute it at one input. -/
def cloverWaitsWrong : ChangeSpec := { name := "cloverWaits", fn := fun _ => fun
  | [d1, d2] => { results := [.lit (.bool false)], args := [d1, d2] }
  | _ => none }
def CloverWaitsWrongFalsely : Prop := cloverWaitsRow.holds Tryd.pinned (OpenSpec.ofChange cloverWaitsWrong)

/-- 'flitlaw14.CloverElsewhere': WHATEVER THE INPUT: true; the input reads as it did. -/
def cloverElsewhereSpec : ChangeSpec := { name := "cloverElsewhere", fn := fun _ => fun
  | [d1, d2] => { results := [.lit (.bool true)], args := [d1, d2] }
  | _ => none }
def cloverElsewhereRow : OpenClaim := { program := "ytmlgohknbjfciaadoor", sum := "b2065fd64a51cedda4579dbb06917501075bae52c6d3c3069a1c88c81fc171c2", func := "flit/flitlaw14.CloverElsewhere", spec := "cloverElsewhere", unfollowed := true, recurses := true, named := ["flit/head.widths"], apart := false, laid := [("flit/head.widths", laid_flit_head_widths)] }
def CloverElsewhereSaid : Prop := cloverElsewhereRow.holds Tryd.pinned (OpenSpec.ofChange cloverElsewhereSpec)

/-- ITS FALSE NEIGHBOUR: 'it returns false'. Refute it at one input. -/
def cloverElsewhereWrong : ChangeSpec := { name := "cloverElsewhere", fn := fun _ => fun
  | [d1, d2] => { results := [.lit (.bool false)], args := [d1, d2] }
  | _ => none }
def CloverElsewhereWrongFalsely : Prop := cloverElsewhereRow.holds Tryd.pinned (OpenSpec.ofChange cloverElsewhereWrong)

/- THE SECOND FORM. 'bulk': how many values and letters a reading holds, each counted each time it is reached (what is shared counts as often as it is met; a slice's spare places count too). A statement '..UptoSaid' is the law's where the arguments, and the package variables that the reading takes, are together of bulk at most 1048576: NARROWER than '..Said'. Prove '..Said' where nothing that the law and all that it calls make is longer than what came in: it says more and counts as full. Else prove '..UptoSaid'. A law counts once. -/
mutual
def uptoBulk {H : Type} : DataW H → Nat
  | .lit (.string bytes) => bytes.length + 1
  | .lit _ => 1
  | .nil => 1
  | .ptr d => uptoBulk d + 1
  | .slice elems spare => uptoBulkAll elems + uptoBulkAll spare + 1
  | .agg parts => uptoBulkAll parts + 1
  | .iface _ d => uptoBulk d + 1
  | .map entries => uptoBulkEntries entries + 1
  | .held _ => 1
def uptoBulkAll {H : Type} : List (DataW H) → Nat
  | [] => 0
  | d :: r => uptoBulk d + uptoBulkAll r
def uptoBulkEntries {H : Type} : List (Lit × DataW H) → Nat
  | [] => 0
  | x :: r => uptoBulkEntry x + uptoBulkEntries r
def uptoBulkEntry {H : Type} : Lit × DataW H → Nat
  | (.string bytes, d) => bytes.length + uptoBulk d + 1
  | (_, d) => uptoBulk d + 1
 end
def uptoSmall : (H : Type) → List (DataW H) → Bool := fun _ ds => decide (uptoBulkAll ds ≤ 1048576)
def OpenSpec.upto (s : _root_.Go.ChangeSpec) : _root_.Go.OpenSpec := { _root_.Go.OpenSpec.ofChange s with cond := some uptoSmall }

/-- 'flitlaw14.CloverWaits', WHERE WHAT IT READS IS OF BULK AT MOST 1048576: true; the input reads as it did. -/
def cloverWaitsUptoRow : OpenClaim := { program := "ytmlgohknbjfciaadoor", sum := "b2065fd64a51cedda4579dbb06917501075bae52c6d3c3069a1c88c81fc171c2", func := "flit/flitlaw14.CloverWaits", spec := "cloverWaits", unfollowed := true, recurses := true, named := ["flit/head.widths"], apart := false, laid := [("flit/head.widths", laid_flit_head_widths)], narrowed := true }
def CloverWaitsUptoSaid : Prop := cloverWaitsUptoRow.holds Tryd.pinned (OpenSpec.upto cloverWaitsSpec)

/-- 'flitlaw14.CloverElsewhere', WHERE WHAT IT READS IS OF BULK AT MOST 1048576: true; the input reads as it did. -/
def cloverElsewhereUptoRow : OpenClaim := { program := "ytmlgohknbjfciaadoor", sum := "b2065fd64a51cedda4579dbb06917501075bae52c6d3c3069a1c88c81fc171c2", func := "flit/flitlaw14.CloverElsewhere", spec := "cloverElsewhere", unfollowed := true, recurses := true, named := ["flit/head.widths"], apart := false, laid := [("flit/head.widths", laid_flit_head_widths)], narrowed := true }
def CloverElsewhereUptoSaid : Prop := cloverElsewhereUptoRow.holds Tryd.pinned (OpenSpec.upto cloverElsewhereSpec)

end Rows
end Go.Proofs.YtmlgohknbjfciaaDoor
