/-
  NARROWER THAN 'FOR EVERY INPUT', by the rows' own cells (each row's printed sentence says how): GreyPlays: laid · GreyOnce: laid · GreyMarks: laid · GreyOrder: laid · GreyFields: laid.
  DERIVED. THE GIVEN ROWS OF THIS SEAT. 5 by the template 'for every input the law returns true; each argument reads behind the call as it read before'; 0 by the template 'total and deterministic' (their statements: YtkgmfnllhjedpaaDoorTotals.lean).
  GIVEN WITH THE SEED: the statements are not yours to turn. If you find one false, say at which input.
  Laid BY PROGRAM, IN A SANDBOX (cutbox-rows.mjs): the forced cells as the released guide's own fill.sh prints them over the translation ae95ada53bf80eab… (all of the seat's roots in one cut). By AI agents, Wed Nov 11 2026. No macro, syntax, notation, axiom, sorry.
-/
import Derived.Test.YtkgmfnllhjedpaaDoorChecked
import GoSem.Claim
import GoSem.ClaimJoined
import GoSem.ClaimMapViews
import Derived.JoinedTies
import Derived.KernelRfl
namespace Go.Proofs.YtkgmfnllhjedpaaDoor
/- THE CELL 'sum', in the pinned program and in every row, IS THE sha256 OF THE DUMP (.gsa) THAT YtkgmfnllhjedpaaDoorProg.lean LOADS. Nothing in Lean hashes anything: it is a label: what it is worth is what the hold of that sum in a sandbox is worth. -/
noncomputable def Tryd.pinned : Pinned := { name := "ytkgmfnllhjedpaadoor", sum := "ae95ada53bf80eab4b7f99de680c976c2d7b508e94c47ae52f913956b7762c19", checked := Tryd.checked }
namespace Rows
def none {H : Type} : Left H := { results := [], args := [] }

/- WHAT THE LISTED PACKAGE-LEVEL VARIABLES READ AS WHEN THE CALL BEGINS. Each datum BY PROGRAM (the guide's laid-datum.mjs) off the statement by which the dump's own 'gosem.cut.vars' lays the variable. In a bare row this is a premise. The card (YtkgmfnllhjedpaaDoorCards.lean) ties it to the program's text. -/
def laid_flit_head_widths {H : Type} : DataW H := .agg [.lit (.int .i64 2), .lit (.int .i64 2), .lit (.int .i64 3), .lit (.int .i64 1), .lit (.int .i64 1), .lit (.int .i64 3), .lit (.int .i64 12)]

/-- 'flitlaw11.GreyPlays': WHATEVER THE INPUT: true; the input reads as it did. -/
def greyPlaysSpec : ChangeSpec := { name := "greyPlays", fn := fun _ => fun
  | [d] => { results := [.lit (.bool true)], args := [d] }
  | _ => none }
def greyPlaysRow : OpenClaim := { program := "ytkgmfnllhjedpaadoor", sum := "ae95ada53bf80eab4b7f99de680c976c2d7b508e94c47ae52f913956b7762c19", func := "flit/flitlaw11.GreyPlays", spec := "greyPlays", unfollowed := true, recurses := true, named := ["flit/head.widths"], apart := false, laid := [("flit/head.widths", laid_flit_head_widths)] }
def GreyPlaysSaid : Prop := greyPlaysRow.holds Tryd.pinned (OpenSpec.ofChange greyPlaysSpec)

/-- ITS FALSE NEIGHBOUR: 'it returns false'. Refute it at one input. -/
def greyPlaysWrong : ChangeSpec := { name := "greyPlays", fn := fun _ => fun
  | [d] => { results := [.lit (.bool false)], args := [d] }
  | _ => none }
def GreyPlaysWrongFalsely : Prop := greyPlaysRow.holds Tryd.pinned (OpenSpec.ofChange greyPlaysWrong)

/-- 'flitlaw11.GreyOnce': WHATEVER THE INPUT: true; the input reads as it did. -/
def greyOnceSpec : ChangeSpec := { name := "greyOnce", fn := fun _ => fun
  | [d] => { results := [.lit (.bool true)], args := [d] }
  | _ => none }
def greyOnceRow : OpenClaim := { program := "ytkgmfnllhjedpaadoor", sum := "ae95ada53bf80eab4b7f99de680c976c2d7b508e94c47ae52f913956b7762c19", func := "flit/flitlaw11.GreyOnce", spec := "greyOnce", unfollowed := true, recurses := true, named := ["flit/head.widths"], apart := false, laid := [("flit/head.widths", laid_flit_head_widths)] }
def GreyOnceSaid : Prop := greyOnceRow.holds Tryd.pinned (OpenSpec.ofChange greyOnceSpec)

/-- ITS FALSE NEIGHBOUR: 'it returns false'. Refute it at one input. -/
def greyOnceWrong : ChangeSpec := { name := "greyOnce", fn := fun _ => fun
  | [d] => { results := [.lit (.bool false)], args := [d] }
  | _ => none }
def GreyOnceWrongFalsely : Prop := greyOnceRow.holds Tryd.pinned (OpenSpec.ofChange greyOnceWrong)

/-- 'flitlaw11.GreyMarks': WHATEVER THE INPUT: true; the input reads as it did. -/
def greyMarksSpec : ChangeSpec := { name := "greyMarks", fn := fun _ => fun
  | [d1, d2] => { results := [.lit (.bool true)], args := [d1, d2] }
  | _ => none }
def greyMarksRow : OpenClaim := { program := "ytkgmfnllhjedpaadoor", sum := "ae95ada53bf80eab4b7f99de680c976c2d7b508e94c47ae52f913956b7762c19", func := "flit/flitlaw11.GreyMarks", spec := "greyMarks", unfollowed := true, recurses := true, named := ["flit/head.widths"], apart := false, laid := [("flit/head.widths", laid_flit_head_widths)] }
def GreyMarksSaid : Prop := greyMarksRow.holds Tryd.pinned (OpenSpec.ofChange greyMarksSpec)

/-- ITS FALSE NEIGHBOUR: 'it returns false'. Refute it at one input. -/
def greyMarksWrong : ChangeSpec := { name := "greyMarks", fn := fun _ => fun
  | [d1, d2] => { results := [.lit (.bool false)], args := [d1, d2] }
  | _ => none }
def GreyMarksWrongFalsely : Prop := greyMarksRow.holds Tryd.pinned (OpenSpec.ofChange greyMarksWrong)

/-- 'flitlaw11.GreyOrder': WHATEVER THE INPUT: true; the input reads as it did. -/
def greyOrderSpec : ChangeSpec := { name := "greyOrder", fn := fun _ => fun
  | [d] => { results := [.lit (.bool true)], args := [d] }
  | _ => none }
def greyOrderRow : OpenClaim := { program := "ytkgmfnllhjedpaadoor", sum := "ae95ada53bf80eab4b7f99de680c976c2d7b508e94c47ae52f913956b7762c19", func := "flit/flitlaw11.GreyOrder", spec := "greyOrder", unfollowed := true, recurses := true, named := ["flit/head.widths"], apart := false, laid := [("flit/head.widths", laid_flit_head_widths)] }
def GreyOrderSaid : Prop := greyOrderRow.holds Tryd.pinned (OpenSpec.ofChange greyOrderSpec)

/-- ITS FALSE NEIGHBOUR: 'it returns false'. Refute it at one input. -/
def greyOrderWrong : ChangeSpec := { name := "greyOrder", fn := fun _ => fun
  | [d] => { results := [.lit (.bool false)], args := [d] }
  | _ => none }
def GreyOrderWrongFalsely : Prop := greyOrderRow.holds Tryd.pinned (OpenSpec.ofChange greyOrderWrong)

/-- 'flitlaw11.GreyFields': WHATEVER THE INPUT: true; the input reads as it did. -/
def greyFieldsSpec : ChangeSpec := { name := "greyFields", fn := fun _ => fun
  | [d1, d2] => { results := [.lit (.bool true)], args := [d1, d2] }
  | _ => none }
def greyFieldsRow : OpenClaim := { program := "ytkgmfnllhjedpaadoor", sum := "ae95ada53bf80eab4b7f99de680c976c2d7b508e94c47ae52f913956b7762c19", func := "flit/flitlaw11.GreyFields", spec := "greyFields", unfollowed := true, recurses := true, named := ["flit/head.widths"], apart := false, laid := [("flit/head.widths", laid_flit_head_widths)] }
def GreyFieldsSaid : Prop := greyFieldsRow.holds Tryd.pinned (OpenSpec.ofChange greyFieldsSpec)

/-- ITS FALSE NEIGHBOUR: 'it returns false'. Refute it at one input. -/
def greyFieldsWrong : ChangeSpec := { name := "greyFields", fn := fun _ => fun
  | [d1, d2] => { results := [.lit (.bool false)], args := [d1, d2] }
  | _ => none }
def GreyFieldsWrongFalsely : Prop := greyFieldsRow.holds Tryd.pinned (OpenSpec.ofChange greyFieldsWrong)

/- THE SECOND FORM. 'bulk': how many values and letters a reading holds, each counted each time it is reached (what is shared counts as often as it is met; a slice's spare places count too). A statement '..UptoSaid' is the law's where the arguments, and the package variables that the reading takes, are together of bulk at most 1048576: NARROWER than '..Said'. Prove '..Said' where nothing that the law and all that it calls make is longer than what came in: it says more and counts as full. Else prove '..UptoSaid'. A law counts once. -/
mutual
def uptoBulk {H : Type} : DataW H → Nat
  | .lit (.string bytes) => bytes.length + 1
  | .lit _ => 1
  | .nil => 1
  | .ptr d => uptoBulk d + 1
  | .slice elems spare => uptoBulkAll elems + uptoBulkAll spare + 1
  | .agg parts => uptoBulkAll parts + 1
  | .iface _ d => uptoBulk d + 1
  | .map entries => uptoBulkEntries entries + 1
  | .held _ => 1
def uptoBulkAll {H : Type} : List (DataW H) → Nat
  | [] => 0
  | d :: r => uptoBulk d + uptoBulkAll r
def uptoBulkEntries {H : Type} : List (Lit × DataW H) → Nat
  | [] => 0
  | x :: r => uptoBulkEntry x + uptoBulkEntries r
def uptoBulkEntry {H : Type} : Lit × DataW H → Nat
  | (.string bytes, d) => bytes.length + uptoBulk d + 1
  | (_, d) => uptoBulk d + 1
 end
def uptoSmall : (H : Type) → List (DataW H) → Bool := fun _ ds => decide (uptoBulkAll ds ≤ 1048576)
def OpenSpec.upto (s : _root_.Go.ChangeSpec) : _root_.Go.OpenSpec := { _root_.Go.OpenSpec.ofChange s with cond := some uptoSmall }

/-- 'flitlaw11.GreyPlays', WHERE WHAT IT READS IS OF BULK AT MOST 1048576: true; the input reads as it did. -/
def greyPlaysUptoRow : OpenClaim := { program := "ytkgmfnllhjedpaadoor", sum := "ae95ada53bf80eab4b7f99de680c976c2d7b508e94c47ae52f913956b7762c19", func := "flit/flitlaw11.GreyPlays", spec := "greyPlays", unfollowed := true, recurses := true, named := ["flit/head.widths"], apart := false, laid := [("flit/head.widths", laid_flit_head_widths)], narrowed := true }
def GreyPlaysUptoSaid : Prop := greyPlaysUptoRow.holds Tryd.pinned (OpenSpec.upto greyPlaysSpec)

/-- 'flitlaw11.GreyOnce', WHERE WHAT IT READS IS OF BULK AT MOST 1048576: true; the input reads as it did. -/
def greyOnceUptoRow : OpenClaim := { program := "ytkgmfnllhjedpaadoor", sum := "ae95ada53bf80eab4b7f99de680c976c2d7b508e94c47ae52f913956b7762c19", func := "flit/flitlaw11.GreyOnce", spec := "greyOnce", unfollowed := true, recurses := true, named := ["flit/head.widths"], apart := false, laid := [("flit/head.widths", laid_flit_head_widths)], narrowed := true }
def GreyOnceUptoSaid : Prop := greyOnceUptoRow.holds Tryd.pinned (OpenSpec.upto greyOnceSpec)

/-- 'flitlaw11.GreyMarks', WHERE WHAT IT READS IS OF BULK AT MOST 1048576: true; the input reads as it did. -/
def greyMarksUptoRow : OpenClaim := { program := "ytkgmfnllhjedpaadoor", sum := "ae95ada53bf80eab4b7f99de680c976c2d7b508e94c47ae52f913956b7762c19", func := "flit/flitlaw11.GreyMarks", spec := "greyMarks", unfollowed := true, recurses := true, named := ["flit/head.widths"], apart := false, laid := [("flit/head.widths", laid_flit_head_widths)], narrowed := true }
def GreyMarksUptoSaid : Prop := greyMarksUptoRow.holds Tryd.pinned (OpenSpec.upto greyMarksSpec)

/-- 'flitlaw11.GreyOrder', WHERE WHAT IT READS IS OF BULK AT MOST 1048576: true; the input reads as it did. -/
def greyOrderUptoRow : OpenClaim := { program := "ytkgmfnllhjedpaadoor", sum := "ae95ada53bf80eab4b7f99de680c976c2d7b508e94c47ae52f913956b7762c19", func := "flit/flitlaw11.GreyOrder", spec := "greyOrder", unfollowed := true, recurses := true, named := ["flit/head.widths"], apart := false, laid := [("flit/head.widths", laid_flit_head_widths)], narrowed := true }
def GreyOrderUptoSaid : Prop := greyOrderUptoRow.holds Tryd.pinned (OpenSpec.upto greyOrderSpec)

/-- 'flitlaw11.GreyFields', WHERE WHAT IT READS IS OF BULK AT MOST 1048576: true; the input reads as it did. -/
def greyFieldsUptoRow : OpenClaim := { program := "ytkgmfnllhjedpaadoor", sum := "ae95ada53bf80eab4b7f99de680c976c2d7b508e94c47ae52f913956b7762c19", func := "flit/flitlaw11.GreyFields", spec := "greyFields", unfollowed := true, recurses := true, named := ["flit/head.widths"], apart := false, laid := [("flit/head.widths", laid_flit_head_widths)], narrowed := true }
def GreyFieldsUptoSaid : Prop := greyFieldsUptoRow.holds Tryd.pinned (OpenSpec.upto greyFieldsSpec)

end Rows
end Go.Proofs.YtkgmfnllhjedpaaDoor
