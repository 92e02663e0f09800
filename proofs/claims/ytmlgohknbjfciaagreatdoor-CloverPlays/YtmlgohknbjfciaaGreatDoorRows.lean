/-
  NARROWER THAN 'FOR EVERY INPUT', by the rows' own cells (each row's printed sentence says how): CloverPlays: laid · CloverKeeps: laid · CloverReads: laid · CloverSwaps: laid.
  DERIVED. THE GIVEN ROWS OF THIS SEAT. 4 by the template 'for every input the law returns true; each argument reads behind the call as it read before'; 0 by the template 'total and deterministic' (their statements: YtmlgohknbjfciaaGreatDoorTotals.lean).
  GIVEN WITH THE SEED: the statements are not yours to turn. If you find one false, say at which input.
  Laid BY PROGRAM, IN A SANDBOX (cutbox-rows.mjs): the forced cells as the released guide's own fill.sh prints them over the translation b110fc5eb572f89c… (all of the seat's roots in one cut). By AI agents, Wed Nov 11 2026. No macro, syntax, notation, axiom, sorry.
-/
import Derived.Test.YtmlgohknbjfciaaGreatDoorChecked
import GoSem.Claim
import GoSem.ClaimJoined
import GoSem.ClaimMapViews
import Derived.JoinedTies
import Derived.KernelRfl
namespace Go.Proofs.YtmlgohknbjfciaaGreatDoor
/- THE CELL 'sum', in the pinned program and in every row, IS THE sha256 OF THE DUMP (.gsa) THAT YtmlgohknbjfciaaGreatDoorProg.lean LOADS. Nothing in Lean hashes anything: it is a label: what it is worth is what the hold of that sum in a sandbox is worth. -/
noncomputable def Tryz.pinned : Pinned := { name := "ytmlgohknbjfciaagreatdoor", sum := "b110fc5eb572f89c97d30a91cd6e8ede9f2a9138d7211fc1a0d6efd2a6cc719b", checked := Tryz.checked }
namespace Rows
def none {H : Type} : Left H := { results := [], args := [] }

/- WHAT THE LISTED PACKAGE-LEVEL VARIABLES READ AS WHEN THE CALL BEGINS. Each datum BY PROGRAM (the guide's laid-datum.mjs) off the statement by which the dump's own 'gosem.cut.vars' lays the variable. In a bare row this is a premise. The card (YtmlgohknbjfciaaGreatDoorCards.lean) ties it to the program's text. -/
def laid_flit_head_widths {H : Type} : DataW H := .agg [.lit (.int .i64 2), .lit (.int .i64 2), .lit (.int .i64 3), .lit (.int .i64 1), .lit (.int .i64 1), .lit (.int .i64 3), .lit (.int .i64 12)]

/-- 'flitlaw14.CloverPlays': WHATEVER THE INPUT: true; the input reads as it did. -/
def cloverPlaysSpec : ChangeSpec := { name := "cloverPlays", fn := fun _ => fun
  | [d1, d2, d3] => { results := [.lit (.bool true)], args := [d1, d2, d3] }
  | _ => none }
def cloverPlaysRow : OpenClaim := { program := "ytmlgohknbjfciaagreatdoor", sum := "b110fc5eb572f89c97d30a91cd6e8ede9f2a9138d7211fc1a0d6efd2a6cc719b", func := "flit/flitlaw14.CloverPlays", spec := "cloverPlays", unfollowed := true, recurses := true, named := ["flit/head.widths"], apart := false, laid := [("flit/head.widths", laid_flit_head_widths)] }
def CloverPlaysSaid : Prop := cloverPlaysRow.holds Tryz.pinned (OpenSpec.ofChange cloverPlaysSpec)

/-- ITS FALSE NEIGHBOUR: 'it returns false'. Refute it at one input. -/
def cloverPlaysWrong : ChangeSpec := { name := "cloverPlays", fn := fun _ => fun
  | [d1, d2, d3] => { results := [.lit (.bool false)], args := [d1, d2, d3] }
  | _ => none }
def CloverPlaysWrongFalsely : Prop := cloverPlaysRow.holds Tryz.pinned (OpenSpec.ofChange cloverPlaysWrong)

/-- 'flitlaw14.CloverKeeps': WHATEVER THE INPUT: true; the input reads as it did. -/
def cloverKeepsSpec : ChangeSpec := { name := "cloverKeeps", fn := fun _ => fun
  | [d1, d2, d3] => { results := [.lit (.bool true)], args := [d1, d2, d3] }
  | _ => none }
def cloverKeepsRow : OpenClaim := { program := "ytmlgohknbjfciaagreatdoor", sum := "b110fc5eb572f89c97d30a91cd6e8ede9f2a9138d7211fc1a0d6efd2a6cc719b", func := "flit/flitlaw14.CloverKeeps", spec := "cloverKeeps", unfollowed := true, recurses := true, named := ["flit/head.widths"], apart := false, laid := [("flit/head.widths", laid_flit_head_widths)] }
def CloverKeepsSaid : Prop := cloverKeepsRow.holds Tryz.pinned (OpenSpec.ofChange cloverKeepsSpec)

/-- ITS FALSE NEIGHBOUR: 'it returns false'. Refute it at one input. -/
def cloverKeepsWrong : ChangeSpec := { name := "cloverKeeps", fn := fun _ => fun
  | [d1, d2, d3] => { results := [.lit (.bool false)], args := [d1, d2, d3] }
  | _ => none }
def CloverKeepsWrongFalsely : Prop := cloverKeepsRow.holds Tryz.pinned (OpenSpec.ofChange cloverKeepsWrong)

/-- 'flitlaw14.CloverReads': WHATEVER THE INPUT: true; the input reads as it did. -/
def cloverReadsSpec : ChangeSpec := { name := "cloverReads", fn := fun _ => fun
  | [d1, d2, d3] => { results := [.lit (.bool true)], args := [d1, d2, d3] }
  | _ => none }
def cloverReadsRow : OpenClaim := { program := "ytmlgohknbjfciaagreatdoor", sum := "b110fc5eb572f89c97d30a91cd6e8ede9f2a9138d7211fc1a0d6efd2a6cc719b", func := "flit/flitlaw14.CloverReads", spec := "cloverReads", unfollowed := true, recurses := true, named := ["flit/head.widths"], apart := false, laid := [("flit/head.widths", laid_flit_head_widths)] }
def CloverReadsSaid : Prop := cloverReadsRow.holds Tryz.pinned (OpenSpec.ofChange cloverReadsSpec)

/-- ITS FALSE NEIGHBOUR: 'it returns false'. Refute it at one input. -/
def cloverReadsWrong : ChangeSpec := { name := "cloverReads", fn := fun _ => fun
  | [d1, d2, d3] => { results := [.lit (.bool false)], args := [d1, d2, d3] }
  | _ => none }
def CloverReadsWrongFalsely : Prop := cloverReadsRow.holds Tryz.pinned (OpenSpec.ofChange cloverReadsWrong)

/-- 'flitlaw14.CloverSwaps': WHATEVER THE INPUT: true; the input reads as it did. -/
def cloverSwapsSpec : ChangeSpec := { name := "cloverSwaps", fn := fun _ => fun
  | [d1, d2, d3] => { results := [.lit (.bool true)], args := [d1, d2, d3] }
  | _ => none }
def cloverSwapsRow : OpenClaim := { program := "ytmlgohknbjfciaagreatdoor", sum := "b110fc5eb572f89c97d30a91cd6e8ede9f2a9138d7211fc1a0d6efd2a6cc719b", func := "flit/flitlaw14.CloverSwaps", spec := "cloverSwaps", unfollowed := true, recurses := true, named := ["flit/head.widths"], apart := false, laid := [("flit/head.widths", laid_flit_head_widths)] }
def CloverSwapsSaid : Prop := cloverSwapsRow.holds Tryz.pinned (OpenSpec.ofChange cloverSwapsSpec)

/-- ITS FALSE NEIGHBOUR: 'it returns false'. Refute it at one input. -/
def cloverSwapsWrong : ChangeSpec := { name := "cloverSwaps", fn := fun _ => fun
  | [d1, d2, d3] => { results := [.lit (.bool false)], args := [d1, d2, d3] }
  | _ => none }
def CloverSwapsWrongFalsely : Prop := cloverSwapsRow.holds Tryz.pinned (OpenSpec.ofChange cloverSwapsWrong)

/- THE SECOND FORM. 'bulk': how many values and letters a reading holds, each counted each time it is reached (what is shared counts as often as it is met; a slice's spare places count too). A statement '..UptoSaid' is the law's where the arguments, and the package variables that the reading takes, are together of bulk at most 1048576: NARROWER than '..Said'. Prove '..Said' where nothing that the law and all that it calls make is longer than what came in: it says more and counts as full. Else prove '..UptoSaid'. A law counts once. -/
mutual
def uptoBulk {H : Type} : DataW H → Nat
  | .lit (.string bytes) => bytes.length + 1
  | .lit _ => 1
  | .nil => 1
  | .ptr d => uptoBulk d + 1
  | .slice elems spare => uptoBulkAll elems + uptoBulkAll spare + 1
  | .agg parts => uptoBulkAll parts + 1
  | .iface _ d => uptoBulk d + 1
  | .map entries => uptoBulkEntries entries + 1
  | .held _ => 1
def uptoBulkAll {H : Type} : List (DataW H) → Nat
  | [] => 0
  | d :: r => uptoBulk d + uptoBulkAll r
def uptoBulkEntries {H : Type} : List (Lit × DataW H) → Nat
  | [] => 0
  | x :: r => uptoBulkEntry x + uptoBulkEntries r
def uptoBulkEntry {H : Type} : Lit × DataW H → Nat
  | (.string bytes, d) => bytes.length + uptoBulk d + 1
  | (_, d) => uptoBulk d + 1
 end
def uptoSmall : (H : Type) → List (DataW H) → Bool := fun _ ds => decide (uptoBulkAll ds ≤ 1048576)
def OpenSpec.upto (s : _root_.Go.ChangeSpec) : _root_.Go.OpenSpec := { _root_.Go.OpenSpec.ofChange s with cond := some uptoSmall }

/-- 'flitlaw14.CloverPlays', WHERE WHAT IT READS IS OF BULK AT MOST 1048576: true; the input reads as it did. -/
def cloverPlaysUptoRow : OpenClaim := { program := "ytmlgohknbjfciaagreatdoor", sum := "b110fc5eb572f89c97d30a91cd6e8ede9f2a9138d7211fc1a0d6efd2a6cc719b", func := "flit/flitlaw14.CloverPlays", spec := "cloverPlays", unfollowed := true, recurses := true, named := ["flit/head.widths"], apart := false, laid := [("flit/head.widths", laid_flit_head_widths)], narrowed := true }
def CloverPlaysUptoSaid : Prop := cloverPlaysUptoRow.holds Tryz.pinned (OpenSpec.upto cloverPlaysSpec)

/-- 'flitlaw14.CloverKeeps', WHERE WHAT IT READS IS OF BULK AT MOST 1048576: true; the input reads as it did. -/
def cloverKeepsUptoRow : OpenClaim := { program := "ytmlgohknbjfciaagreatdoor", sum := "b110fc5eb572f89c97d30a91cd6e8ede9f2a9138d7211fc1a0d6efd2a6cc719b", func := "flit/flitlaw14.CloverKeeps", spec := "cloverKeeps", unfollowed := true, recurses := true, named := ["flit/head.widths"], apart := false, laid := [("flit/head.widths", laid_flit_head_widths)], narrowed := true }
def CloverKeepsUptoSaid : Prop := cloverKeepsUptoRow.holds Tryz.pinned (OpenSpec.upto cloverKeepsSpec)

/-- 'flitlaw14.CloverReads', WHERE WHAT IT READS IS OF BULK AT MOST 1048576: true; the input reads as it did. -/
def cloverReadsUptoRow : OpenClaim := { program := "ytmlgohknbjfciaagreatdoor", sum := "b110fc5eb572f89c97d30a91cd6e8ede9f2a9138d7211fc1a0d6efd2a6cc719b", func := "flit/flitlaw14.CloverReads", spec := "cloverReads", unfollowed := true, recurses := true, named := ["flit/head.widths"], apart := false, laid := [("flit/head.widths", laid_flit_head_widths)], narrowed := true }
def CloverReadsUptoSaid : Prop := cloverReadsUptoRow.holds Tryz.pinned (OpenSpec.upto cloverReadsSpec)

/-- 'flitlaw14.CloverSwaps', WHERE WHAT IT READS IS OF BULK AT MOST 1048576: true; the input reads as it did. -/
def cloverSwapsUptoRow : OpenClaim := { program := "ytmlgohknbjfciaagreatdoor", sum := "b110fc5eb572f89c97d30a91cd6e8ede9f2a9138d7211fc1a0d6efd2a6cc719b", func := "flit/flitlaw14.CloverSwaps", spec := "cloverSwaps", unfollowed := true, recurses := true, named := ["flit/head.widths"], apart := false, laid := [("flit/head.widths", laid_flit_head_widths)], narrowed := true }
def CloverSwapsUptoSaid : Prop := cloverSwapsUptoRow.holds Tryz.pinned (OpenSpec.upto cloverSwapsSpec)

end Rows
end Go.Proofs.YtmlgohknbjfciaaGreatDoor
