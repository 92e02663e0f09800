/-
  NARROWER THAN 'FOR EVERY INPUT', by the rows' own cells (each row's printed sentence says how): HeadPacks: laid · HeadReads: laid · HeadBack: laid · HeadApart: laid · HeadLow: laid · HeadMoves: laid.
  DERIVED. THE GIVEN ROWS OF THIS SEAT. 6 by the template 'for every input the law returns true; each argument reads behind the call as it read before'; 0 by the template 'total and deterministic' (their statements: YtikedddeafjnnaaDoorTotals.lean).
  GIVEN WITH THE SEED: the statements are not yours to turn. If you find one false, say at which input.
  Laid BY PROGRAM, IN A SANDBOX (cutbox-rows.mjs): the forced cells as the released guide's own fill.sh prints them over the translation c3b070439660a737… (all of the seat's roots in one cut). By AI agents, Wed Nov 11 2026. No macro, syntax, notation, axiom, sorry.
-/
import Derived.Test.YtikedddeafjnnaaDoorChecked
import GoSem.Claim
import GoSem.ClaimJoined
import GoSem.ClaimMapViews
import Derived.JoinedTies
import Derived.KernelRfl
namespace Go.Proofs.YtikedddeafjnnaaDoor
/- THE CELL 'sum', in the pinned program and in every row, IS THE sha256 OF THE DUMP (.gsa) THAT YtikedddeafjnnaaDoorProg.lean LOADS. Nothing in Lean hashes anything: it is a label: what it is worth is what the hold of that sum in a sandbox is worth. -/
noncomputable def Tryd.pinned : Pinned := { name := "ytikedddeafjnnaadoor", sum := "c3b070439660a737c44212a95b4568031cca64238e797a991c6d4513532d6b85", checked := Tryd.checked }
namespace Rows
def none {H : Type} : Left H := { results := [], args := [] }

/- WHAT THE LISTED PACKAGE-LEVEL VARIABLES READ AS WHEN THE CALL BEGINS. Each datum BY PROGRAM (the guide's laid-datum.mjs) off the statement by which the dump's own 'gosem.cut.vars' lays the variable. In a bare row this is a premise. The card (YtikedddeafjnnaaDoorCards.lean) ties it to the program's text. -/
def laid_flit_head_widths {H : Type} : DataW H := .agg [.lit (.int .i64 2), .lit (.int .i64 2), .lit (.int .i64 3), .lit (.int .i64 1), .lit (.int .i64 1), .lit (.int .i64 3), .lit (.int .i64 12)]

/-- 'flitlaw02.HeadPacks': WHATEVER THE INPUT: true; the input reads as it did. -/
def headPacksSpec : ChangeSpec := { name := "headPacks", fn := fun _ => fun
  | [d] => { results := [.lit (.bool true)], args := [d] }
  | _ => none }
def headPacksRow : OpenClaim := { program := "ytikedddeafjnnaadoor", sum := "c3b070439660a737c44212a95b4568031cca64238e797a991c6d4513532d6b85", func := "flit/flitlaw02.HeadPacks", spec := "headPacks", named := ["flit/head.widths"], apart := false, laid := [("flit/head.widths", laid_flit_head_widths)] }
def HeadPacksSaid : Prop := headPacksRow.holds Tryd.pinned (OpenSpec.ofChange headPacksSpec)

/-- ITS FALSE NEIGHBOUR: 'it returns false'. Refute it at one input. -/
def headPacksWrong : ChangeSpec := { name := "headPacks", fn := fun _ => fun
  | [d] => { results := [.lit (.bool false)], args := [d] }
  | _ => none }
def HeadPacksWrongFalsely : Prop := headPacksRow.holds Tryd.pinned (OpenSpec.ofChange headPacksWrong)

/-- 'flitlaw02.HeadReads': WHATEVER THE INPUT: true; the input reads as it did. -/
def headReadsSpec : ChangeSpec := { name := "headReads", fn := fun _ => fun
  | [d1, d2] => { results := [.lit (.bool true)], args := [d1, d2] }
  | _ => none }
def headReadsRow : OpenClaim := { program := "ytikedddeafjnnaadoor", sum := "c3b070439660a737c44212a95b4568031cca64238e797a991c6d4513532d6b85", func := "flit/flitlaw02.HeadReads", spec := "headReads", named := ["flit/head.widths"], apart := false, laid := [("flit/head.widths", laid_flit_head_widths)] }
def HeadReadsSaid : Prop := headReadsRow.holds Tryd.pinned (OpenSpec.ofChange headReadsSpec)

/-- ITS FALSE NEIGHBOUR: 'it returns false'. Refute it at one input. -/
def headReadsWrong : ChangeSpec := { name := "headReads", fn := fun _ => fun
  | [d1, d2] => { results := [.lit (.bool false)], args := [d1, d2] }
  | _ => none }
def HeadReadsWrongFalsely : Prop := headReadsRow.holds Tryd.pinned (OpenSpec.ofChange headReadsWrong)

/-- 'flitlaw02.HeadBack': WHATEVER THE INPUT: true; the input reads as it did. -/
def headBackSpec : ChangeSpec := { name := "headBack", fn := fun _ => fun
  | [d] => { results := [.lit (.bool true)], args := [d] }
  | _ => none }
def headBackRow : OpenClaim := { program := "ytikedddeafjnnaadoor", sum := "c3b070439660a737c44212a95b4568031cca64238e797a991c6d4513532d6b85", func := "flit/flitlaw02.HeadBack", spec := "headBack", named := ["flit/head.widths"], apart := false, laid := [("flit/head.widths", laid_flit_head_widths)] }
def HeadBackSaid : Prop := headBackRow.holds Tryd.pinned (OpenSpec.ofChange headBackSpec)

/-- ITS FALSE NEIGHBOUR: 'it returns false'. Refute it at one input. -/
def headBackWrong : ChangeSpec := { name := "headBack", fn := fun _ => fun
  | [d] => { results := [.lit (.bool false)], args := [d] }
  | _ => none }
def HeadBackWrongFalsely : Prop := headBackRow.holds Tryd.pinned (OpenSpec.ofChange headBackWrong)

/-- 'flitlaw02.HeadApart': WHATEVER THE INPUT: true; the input reads as it did. -/
def headApartSpec : ChangeSpec := { name := "headApart", fn := fun _ => fun
  | [d1, d2] => { results := [.lit (.bool true)], args := [d1, d2] }
  | _ => none }
def headApartRow : OpenClaim := { program := "ytikedddeafjnnaadoor", sum := "c3b070439660a737c44212a95b4568031cca64238e797a991c6d4513532d6b85", func := "flit/flitlaw02.HeadApart", spec := "headApart", named := ["flit/head.widths"], apart := false, laid := [("flit/head.widths", laid_flit_head_widths)] }
def HeadApartSaid : Prop := headApartRow.holds Tryd.pinned (OpenSpec.ofChange headApartSpec)

/-- ITS FALSE NEIGHBOUR: 'it returns false'. Refute it at one input. -/
def headApartWrong : ChangeSpec := { name := "headApart", fn := fun _ => fun
  | [d1, d2] => { results := [.lit (.bool false)], args := [d1, d2] }
  | _ => none }
def HeadApartWrongFalsely : Prop := headApartRow.holds Tryd.pinned (OpenSpec.ofChange headApartWrong)

/-- 'flitlaw02.HeadLow': WHATEVER THE INPUT: true; the input reads as it did. -/
def headLowSpec : ChangeSpec := { name := "headLow", fn := fun _ => fun
  | [d] => { results := [.lit (.bool true)], args := [d] }
  | _ => none }
def headLowRow : OpenClaim := { program := "ytikedddeafjnnaadoor", sum := "c3b070439660a737c44212a95b4568031cca64238e797a991c6d4513532d6b85", func := "flit/flitlaw02.HeadLow", spec := "headLow", named := ["flit/head.widths"], apart := false, laid := [("flit/head.widths", laid_flit_head_widths)] }
def HeadLowSaid : Prop := headLowRow.holds Tryd.pinned (OpenSpec.ofChange headLowSpec)

/-- ITS FALSE NEIGHBOUR: 'it returns false'. Refute it at one input. -/
def headLowWrong : ChangeSpec := { name := "headLow", fn := fun _ => fun
  | [d] => { results := [.lit (.bool false)], args := [d] }
  | _ => none }
def HeadLowWrongFalsely : Prop := headLowRow.holds Tryd.pinned (OpenSpec.ofChange headLowWrong)

/-- 'flitlaw02.HeadMoves': WHATEVER THE INPUT: true; the input reads as it did. -/
def headMovesSpec : ChangeSpec := { name := "headMoves", fn := fun _ => fun
  | [d1, d2] => { results := [.lit (.bool true)], args := [d1, d2] }
  | _ => none }
def headMovesRow : OpenClaim := { program := "ytikedddeafjnnaadoor", sum := "c3b070439660a737c44212a95b4568031cca64238e797a991c6d4513532d6b85", func := "flit/flitlaw02.HeadMoves", spec := "headMoves", named := ["flit/head.widths"], apart := false, laid := [("flit/head.widths", laid_flit_head_widths)] }
def HeadMovesSaid : Prop := headMovesRow.holds Tryd.pinned (OpenSpec.ofChange headMovesSpec)

/-- ITS FALSE NEIGHBOUR: 'it returns false'. Refute it at one input. -/
def headMovesWrong : ChangeSpec := { name := "headMoves", fn := fun _ => fun
  | [d1, d2] => { results := [.lit (.bool false)], args := [d1, d2] }
  | _ => none }
def HeadMovesWrongFalsely : Prop := headMovesRow.holds Tryd.pinned (OpenSpec.ofChange headMovesWrong)

/- THE SECOND FORM. 'bulk': how many values and letters a reading holds, each counted each time it is reached (what is shared counts as often as it is met; a slice's spare places count too). A statement '..UptoSaid' is the law's where the arguments, and the package variables that the reading takes, are together of bulk at most 1048576: NARROWER than '..Said'. Prove '..Said' where nothing that the law and all that it calls make is longer than what came in: it says more and counts as full. Else prove '..UptoSaid'. A law counts once. -/
mutual
def uptoBulk {H : Type} : DataW H → Nat
  | .lit (.string bytes) => bytes.length + 1
  | .lit _ => 1
  | .nil => 1
  | .ptr d => uptoBulk d + 1
  | .slice elems spare => uptoBulkAll elems + uptoBulkAll spare + 1
  | .agg parts => uptoBulkAll parts + 1
  | .iface _ d => uptoBulk d + 1
  | .map entries => uptoBulkEntries entries + 1
  | .held _ => 1
def uptoBulkAll {H : Type} : List (DataW H) → Nat
  | [] => 0
  | d :: r => uptoBulk d + uptoBulkAll r
def uptoBulkEntries {H : Type} : List (Lit × DataW H) → Nat
  | [] => 0
  | x :: r => uptoBulkEntry x + uptoBulkEntries r
def uptoBulkEntry {H : Type} : Lit × DataW H → Nat
  | (.string bytes, d) => bytes.length + uptoBulk d + 1
  | (_, d) => uptoBulk d + 1
 end
def uptoSmall : (H : Type) → List (DataW H) → Bool := fun _ ds => decide (uptoBulkAll ds ≤ 1048576)
def OpenSpec.upto (s : _root_.Go.ChangeSpec) : _root_.Go.OpenSpec := { _root_.Go.OpenSpec.ofChange s with cond := some uptoSmall }

/-- 'flitlaw02.HeadPacks', WHERE WHAT IT READS IS OF BULK AT MOST 1048576: true; the input reads as it did. -/
def headPacksUptoRow : OpenClaim := { program := "ytikedddeafjnnaadoor", sum := "c3b070439660a737c44212a95b4568031cca64238e797a991c6d4513532d6b85", func := "flit/flitlaw02.HeadPacks", spec := "headPacks", named := ["flit/head.widths"], apart := false, laid := [("flit/head.widths", laid_flit_head_widths)], narrowed := true }
def HeadPacksUptoSaid : Prop := headPacksUptoRow.holds Tryd.pinned (OpenSpec.upto headPacksSpec)

/-- 'flitlaw02.HeadReads', WHERE WHAT IT READS IS OF BULK AT MOST 1048576: true; the input reads as it did. -/
def headReadsUptoRow : OpenClaim := { program := "ytikedddeafjnnaadoor", sum := "c3b070439660a737c44212a95b4568031cca64238e797a991c6d4513532d6b85", func := "flit/flitlaw02.HeadReads", spec := "headReads", named := ["flit/head.widths"], apart := false, laid := [("flit/head.widths", laid_flit_head_widths)], narrowed := true }
def HeadReadsUptoSaid : Prop := headReadsUptoRow.holds Tryd.pinned (OpenSpec.upto headReadsSpec)

/-- 'flitlaw02.HeadBack', WHERE WHAT IT READS IS OF BULK AT MOST 1048576: true; the input reads as it did. -/
def headBackUptoRow : OpenClaim := { program := "ytikedddeafjnnaadoor", sum := "c3b070439660a737c44212a95b4568031cca64238e797a991c6d4513532d6b85", func := "flit/flitlaw02.HeadBack", spec := "headBack", named := ["flit/head.widths"], apart := false, laid := [("flit/head.widths", laid_flit_head_widths)], narrowed := true }
def HeadBackUptoSaid : Prop := headBackUptoRow.holds Tryd.pinned (OpenSpec.upto headBackSpec)

/-- 'flitlaw02.HeadApart', WHERE WHAT IT READS IS OF BULK AT MOST 1048576: true; the input reads as it did. -/
def headApartUptoRow : OpenClaim := { program := "ytikedddeafjnnaadoor", sum := "c3b070439660a737c44212a95b4568031cca64238e797a991c6d4513532d6b85", func := "flit/flitlaw02.HeadApart", spec := "headApart", named := ["flit/head.widths"], apart := false, laid := [("flit/head.widths", laid_flit_head_widths)], narrowed := true }
def HeadApartUptoSaid : Prop := headApartUptoRow.holds Tryd.pinned (OpenSpec.upto headApartSpec)

/-- 'flitlaw02.HeadLow', WHERE WHAT IT READS IS OF BULK AT MOST 1048576: true; the input reads as it did. -/
def headLowUptoRow : OpenClaim := { program := "ytikedddeafjnnaadoor", sum := "c3b070439660a737c44212a95b4568031cca64238e797a991c6d4513532d6b85", func := "flit/flitlaw02.HeadLow", spec := "headLow", named := ["flit/head.widths"], apart := false, laid := [("flit/head.widths", laid_flit_head_widths)], narrowed := true }
def HeadLowUptoSaid : Prop := headLowUptoRow.holds Tryd.pinned (OpenSpec.upto headLowSpec)

/-- 'flitlaw02.HeadMoves', WHERE WHAT IT READS IS OF BULK AT MOST 1048576: true; the input reads as it did. -/
def headMovesUptoRow : OpenClaim := { program := "ytikedddeafjnnaadoor", sum := "c3b070439660a737c44212a95b4568031cca64238e797a991c6d4513532d6b85", func := "flit/flitlaw02.HeadMoves", spec := "headMoves", named := ["flit/head.widths"], apart := false, laid := [("flit/head.widths", laid_flit_head_widths)], narrowed := true }
def HeadMovesUptoSaid : Prop := headMovesUptoRow.holds Tryd.pinned (OpenSpec.upto headMovesSpec)

end Rows
end Go.Proofs.YtikedddeafjnnaaDoor
