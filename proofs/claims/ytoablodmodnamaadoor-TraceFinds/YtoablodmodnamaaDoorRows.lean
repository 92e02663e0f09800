/-
  NARROWER THAN 'FOR EVERY INPUT', by the rows' own cells (each row's printed sentence says how): ShakePlays: laid · TraceFinds: laid · TraceKeeps: laid.
  DERIVED. THE GIVEN ROWS OF THIS SEAT. 3 by the template 'for every input the law returns true; each argument reads behind the call as it read before'; 0 by the template 'total and deterministic' (their statements: YtoablodmodnamaaDoorTotals.lean).
  GIVEN WITH THE SEED: the statements are not yours to turn. If you find one false, say at which input.
  Laid BY PROGRAM, IN A SANDBOX (cutbox-rows.mjs): the forced cells as the released guide's own fill.sh prints them over the translation 923144b8311ad777… (all of the seat's roots in one cut). By AI agents, Wed Nov 11 2026. No macro, syntax, notation, axiom, sorry.
-/
import Derived.Test.YtoablodmodnamaaDoorChecked
import GoSem.Claim
import GoSem.ClaimJoined
import GoSem.ClaimMapViews
import Derived.JoinedTies
import Derived.KernelRfl
namespace Go.Proofs.YtoablodmodnamaaDoor
/- THE CELL 'sum', in the pinned program and in every row, IS THE sha256 OF THE DUMP (.gsa) THAT YtoablodmodnamaaDoorProg.lean LOADS. Nothing in Lean hashes anything: it is a label: what it is worth is what the hold of that sum in a sandbox is worth. -/
noncomputable def Tryd.pinned : Pinned := { name := "ytoablodmodnamaadoor", sum := "923144b8311ad777dbb71b32751b04aa8d5919e46cef2a887e3895455bb22da6", checked := Tryd.checked }
namespace Rows
def none {H : Type} : Left H := { results := [], args := [] }

/- WHAT THE LISTED PACKAGE-LEVEL VARIABLES READ AS WHEN THE CALL BEGINS. Each datum BY PROGRAM (the guide's laid-datum.mjs) off the statement by which the dump's own 'gosem.cut.vars' lays the variable. In a bare row this is a premise. The card (YtoablodmodnamaaDoorCards.lean) ties it to the program's text. -/
def laid_flit_head_widths {H : Type} : DataW H := .agg [.lit (.int .i64 2), .lit (.int .i64 2), .lit (.int .i64 3), .lit (.int .i64 1), .lit (.int .i64 1), .lit (.int .i64 3), .lit (.int .i64 12)]

/-- 'flitlaw16.ShakePlays': WHATEVER THE INPUT: true; the input reads as it did. -/
def shakePlaysSpec : ChangeSpec := { name := "shakePlays", fn := fun _ => fun
  | [d1, d2, d3] => { results := [.lit (.bool true)], args := [d1, d2, d3] }
  | _ => none }
def shakePlaysRow : OpenClaim := { program := "ytoablodmodnamaadoor", sum := "923144b8311ad777dbb71b32751b04aa8d5919e46cef2a887e3895455bb22da6", func := "flit/flitlaw16.ShakePlays", spec := "shakePlays", unfollowed := true, recurses := true, named := ["flit/head.widths"], apart := false, laid := [("flit/head.widths", laid_flit_head_widths)] }
def ShakePlaysSaid : Prop := shakePlaysRow.holds Tryd.pinned (OpenSpec.ofChange shakePlaysSpec)

/-- ITS FALSE NEIGHBOUR: 'it returns false'. Refute it at one input. -/
def shakePlaysWrong : ChangeSpec := { name := "shakePlays", fn := fun _ => fun
  | [d1, d2, d3] => { results := [.lit (.bool false)], args := [d1, d2, d3] }
  | _ => none }
def ShakePlaysWrongFalsely : Prop := shakePlaysRow.holds Tryd.pinned (OpenSpec.ofChange shakePlaysWrong)

/-- 'flitlaw17.TraceFinds': WHATEVER THE INPUT: true; the input reads as it did. -/
def traceFindsSpec : ChangeSpec := { name := "traceFinds", fn := fun _ => fun
  | [d1, d2] => { results := [.lit (.bool true)], args := [d1, d2] }
  | _ => none }
def traceFindsRow : OpenClaim := { program := "ytoablodmodnamaadoor", sum := "923144b8311ad777dbb71b32751b04aa8d5919e46cef2a887e3895455bb22da6", func := "flit/flitlaw17.TraceFinds", spec := "traceFinds", unfollowed := true, recurses := true, named := ["flit/head.widths"], apart := false, laid := [("flit/head.widths", laid_flit_head_widths)] }
def TraceFindsSaid : Prop := traceFindsRow.holds Tryd.pinned (OpenSpec.ofChange traceFindsSpec)

/-- ITS FALSE NEIGHBOUR: 'it returns false'. Refute it at one input. -/
def traceFindsWrong : ChangeSpec := { name := "traceFinds", fn := fun _ => fun
  | [d1, d2] => { results := [.lit (.bool false)], args := [d1, d2] }
  | _ => none }
def TraceFindsWrongFalsely : Prop := traceFindsRow.holds Tryd.pinned (OpenSpec.ofChange traceFindsWrong)

/-- 'flitlaw17.TraceKeeps': WHATEVER THE INPUT: true; the input reads as it did. -/
def traceKeepsSpec : ChangeSpec := { name := "traceKeeps", fn := fun _ => fun
  | [d1, d2] => { results := [.lit (.bool true)], args := [d1, d2] }
  | _ => none }
def traceKeepsRow : OpenClaim := { program := "ytoablodmodnamaadoor", sum := "923144b8311ad777dbb71b32751b04aa8d5919e46cef2a887e3895455bb22da6", func := "flit/flitlaw17.TraceKeeps", spec := "traceKeeps", unfollowed := true, recurses := true, named := ["flit/head.widths"], apart := false, laid := [("flit/head.widths", laid_flit_head_widths)] }
def TraceKeepsSaid : Prop := traceKeepsRow.holds Tryd.pinned (OpenSpec.ofChange traceKeepsSpec)

/-- ITS FALSE NEIGHBOUR: 'it returns false'. Refute it at one input. -/
def traceKeepsWrong : ChangeSpec := { name := "traceKeeps", fn := fun _ => fun
  | [d1, d2] => { results := [.lit (.bool false)], args := [d1, d2] }
  | _ => none }
def TraceKeepsWrongFalsely : Prop := traceKeepsRow.holds Tryd.pinned (OpenSpec.ofChange traceKeepsWrong)

/- THE SECOND FORM. 'bulk': how many values and letters a reading holds, each counted each time it is reached (what is shared counts as often as it is met; a slice's spare places count too). A statement '..UptoSaid' is the law's where the arguments, and the package variables that the reading takes, are together of bulk at most 1048576: NARROWER than '..Said'. Prove '..Said' where nothing that the law and all that it calls make is longer than what came in: it says more and counts as full. Else prove '..UptoSaid'. A law counts once. -/
mutual
def uptoBulk {H : Type} : DataW H → Nat
  | .lit (.string bytes) => bytes.length + 1
  | .lit _ => 1
  | .nil => 1
  | .ptr d => uptoBulk d + 1
  | .slice elems spare => uptoBulkAll elems + uptoBulkAll spare + 1
  | .agg parts => uptoBulkAll parts + 1
  | .iface _ d => uptoBulk d + 1
  | .map entries => uptoBulkEntries entries + 1
  | .held _ => 1
def uptoBulkAll {H : Type} : List (DataW H) → Nat
  | [] => 0
  | d :: r => uptoBulk d + uptoBulkAll r
def uptoBulkEntries {H : Type} : List (Lit × DataW H) → Nat
  | [] => 0
  | x :: r => uptoBulkEntry x + uptoBulkEntries r
def uptoBulkEntry {H : Type} : Lit × DataW H → Nat
  | (.string bytes, d) => bytes.length + uptoBulk d + 1
  | (_, d) => uptoBulk d + 1
 end
def uptoSmall : (H : Type) → List (DataW H) → Bool := fun _ ds => decide (uptoBulkAll ds ≤ 1048576)
def OpenSpec.upto (s : _root_.Go.ChangeSpec) : _root_.Go.OpenSpec := { _root_.Go.OpenSpec.ofChange s with cond := some uptoSmall }

/-- 'flitlaw16.ShakePlays', WHERE WHAT IT READS IS OF BULK AT MOST 1048576: true; the input reads as it did. -/
def shakePlaysUptoRow : OpenClaim := { program := "ytoablodmodnamaadoor", sum := "923144b8311ad777dbb71b32751b04aa8d5919e46cef2a887e3895455bb22da6", func := "flit/flitlaw16.ShakePlays", spec := "shakePlays", unfollowed := true, recurses := true, named := ["flit/head.widths"], apart := false, laid := [("flit/head.widths", laid_flit_head_widths)], narrowed := true }
def ShakePlaysUptoSaid : Prop := shakePlaysUptoRow.holds Tryd.pinned (OpenSpec.upto shakePlaysSpec)

/-- 'flitlaw17.TraceFinds', WHERE WHAT IT READS IS OF BULK AT MOST 1048576: true; the input reads as it did. -/
def traceFindsUptoRow : OpenClaim := { program := "ytoablodmodnamaadoor", sum := "923144b8311ad777dbb71b32751b04aa8d5919e46cef2a887e3895455bb22da6", func := "flit/flitlaw17.TraceFinds", spec := "traceFinds", unfollowed := true, recurses := true, named := ["flit/head.widths"], apart := false, laid := [("flit/head.widths", laid_flit_head_widths)], narrowed := true }
def TraceFindsUptoSaid : Prop := traceFindsUptoRow.holds Tryd.pinned (OpenSpec.upto traceFindsSpec)

/-- 'flitlaw17.TraceKeeps', WHERE WHAT IT READS IS OF BULK AT MOST 1048576: true; the input reads as it did. -/
def traceKeepsUptoRow : OpenClaim := { program := "ytoablodmodnamaadoor", sum := "923144b8311ad777dbb71b32751b04aa8d5919e46cef2a887e3895455bb22da6", func := "flit/flitlaw17.TraceKeeps", spec := "traceKeeps", unfollowed := true, recurses := true, named := ["flit/head.widths"], apart := false, laid := [("flit/head.widths", laid_flit_head_widths)], narrowed := true }
def TraceKeepsUptoSaid : Prop := traceKeepsUptoRow.holds Tryd.pinned (OpenSpec.upto traceKeepsSpec)

end Rows
end Go.Proofs.YtoablodmodnamaaDoor
