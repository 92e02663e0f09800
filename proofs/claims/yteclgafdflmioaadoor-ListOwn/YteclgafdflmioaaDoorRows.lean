/-
  NARROWER THAN 'FOR EVERY INPUT', by the rows' own cells (each row's printed sentence says how): ListPlays: laid · ListOwn: laid · ListOrder: laid · ListChains: laid.
  DERIVED. THE GIVEN ROWS OF THIS SEAT. 4 by the template 'for every input the law returns true; each argument reads behind the call as it read before'; 0 by the template 'total and deterministic' (their statements: YteclgafdflmioaaDoorTotals.lean).
  GIVEN WITH THE SEED: the statements are not yours to turn. If you find one false, say at which input.
  Laid BY PROGRAM, IN A SANDBOX (cutbox-rows.mjs): the forced cells as the released guide's own fill.sh prints them over the translation e26418893f1f754c… (all of the seat's roots in one cut). By AI agents, Wed Nov 11 2026. No macro, syntax, notation, axiom, sorry.
-/
import Derived.Test.YteclgafdflmioaaDoorChecked
import GoSem.Claim
import GoSem.ClaimJoined
import GoSem.ClaimMapViews
import Derived.JoinedTies
import Derived.KernelRfl
namespace Go.Proofs.YteclgafdflmioaaDoor
/- THE CELL 'sum', in the pinned program and in every row, IS THE sha256 OF THE DUMP (.gsa) THAT YteclgafdflmioaaDoorProg.lean LOADS. Nothing in Lean hashes anything: it is a label: what it is worth is what the hold of that sum in a sandbox is worth. -/
noncomputable def Tryd.pinned : Pinned := { name := "yteclgafdflmioaadoor", sum := "e26418893f1f754c036a0b02c73824c0ab3dbb57232153b42b40227918f585a0", checked := Tryd.checked }
namespace Rows
def none {H : Type} : Left H := { results := [], args := [] }

/- WHAT THE LISTED PACKAGE-LEVEL VARIABLES READ AS WHEN THE CALL BEGINS. Each datum BY PROGRAM (the guide's laid-datum.mjs) off the statement by which the dump's own 'gosem.cut.vars' lays the variable. In a bare row this is a premise. The card (YteclgafdflmioaaDoorCards.lean) ties it to the program's text. -/
def laid_flit_head_widths {H : Type} : DataW H := .agg [.lit (.int .i64 2), .lit (.int .i64 2), .lit (.int .i64 3), .lit (.int .i64 1), .lit (.int .i64 1), .lit (.int .i64 3), .lit (.int .i64 12)]

/-- 'flitlaw08.ListPlays': WHATEVER THE INPUT: true; the input reads as it did. -/
def listPlaysSpec : ChangeSpec := { name := "listPlays", fn := fun _ => fun
  | [d1, d2] => { results := [.lit (.bool true)], args := [d1, d2] }
  | _ => none }
def listPlaysRow : OpenClaim := { program := "yteclgafdflmioaadoor", sum := "e26418893f1f754c036a0b02c73824c0ab3dbb57232153b42b40227918f585a0", func := "flit/flitlaw08.ListPlays", spec := "listPlays", unfollowed := true, recurses := true, named := ["flit/head.widths"], apart := false, laid := [("flit/head.widths", laid_flit_head_widths)] }
def ListPlaysSaid : Prop := listPlaysRow.holds Tryd.pinned (OpenSpec.ofChange listPlaysSpec)

/-- ITS FALSE NEIGHBOUR: 'it returns false'. Refute it at one input. -/
def listPlaysWrong : ChangeSpec := { name := "listPlays", fn := fun _ => fun
  | [d1, d2] => { results := [.lit (.bool false)], args := [d1, d2] }
  | _ => none }
def ListPlaysWrongFalsely : Prop := listPlaysRow.holds Tryd.pinned (OpenSpec.ofChange listPlaysWrong)

/-- 'flitlaw08.ListOwn': WHATEVER THE INPUT: true; the input reads as it did. -/
def listOwnSpec : ChangeSpec := { name := "listOwn", fn := fun _ => fun
  | [d1, d2] => { results := [.lit (.bool true)], args := [d1, d2] }
  | _ => none }
def listOwnRow : OpenClaim := { program := "yteclgafdflmioaadoor", sum := "e26418893f1f754c036a0b02c73824c0ab3dbb57232153b42b40227918f585a0", func := "flit/flitlaw08.ListOwn", spec := "listOwn", unfollowed := true, recurses := true, named := ["flit/head.widths"], apart := false, laid := [("flit/head.widths", laid_flit_head_widths)] }
def ListOwnSaid : Prop := listOwnRow.holds Tryd.pinned (OpenSpec.ofChange listOwnSpec)

/-- ITS FALSE NEIGHBOUR: 'it returns false'. Refute it at one input. -/
def listOwnWrong : ChangeSpec := { name := "listOwn", fn := fun _ => fun
  | [d1, d2] => { results := [.lit (.bool false)], args := [d1, d2] }
  | _ => none }
def ListOwnWrongFalsely : Prop := listOwnRow.holds Tryd.pinned (OpenSpec.ofChange listOwnWrong)

/-- 'flitlaw08.ListOrder': WHATEVER THE INPUT: true; the input reads as it did. -/
def listOrderSpec : ChangeSpec := { name := "listOrder", fn := fun _ => fun
  | [d] => { results := [.lit (.bool true)], args := [d] }
  | _ => none }
def listOrderRow : OpenClaim := { program := "yteclgafdflmioaadoor", sum := "e26418893f1f754c036a0b02c73824c0ab3dbb57232153b42b40227918f585a0", func := "flit/flitlaw08.ListOrder", spec := "listOrder", unfollowed := true, recurses := true, named := ["flit/head.widths"], apart := false, laid := [("flit/head.widths", laid_flit_head_widths)] }
def ListOrderSaid : Prop := listOrderRow.holds Tryd.pinned (OpenSpec.ofChange listOrderSpec)

/-- ITS FALSE NEIGHBOUR: 'it returns false'. Refute it at one input. -/
def listOrderWrong : ChangeSpec := { name := "listOrder", fn := fun _ => fun
  | [d] => { results := [.lit (.bool false)], args := [d] }
  | _ => none }
def ListOrderWrongFalsely : Prop := listOrderRow.holds Tryd.pinned (OpenSpec.ofChange listOrderWrong)

/-- 'flitlaw08.ListChains': WHATEVER THE INPUT: true; the input reads as it did. -/
def listChainsSpec : ChangeSpec := { name := "listChains", fn := fun _ => fun
  | [d1, d2] => { results := [.lit (.bool true)], args := [d1, d2] }
  | _ => none }
def listChainsRow : OpenClaim := { program := "yteclgafdflmioaadoor", sum := "e26418893f1f754c036a0b02c73824c0ab3dbb57232153b42b40227918f585a0", func := "flit/flitlaw08.ListChains", spec := "listChains", unfollowed := true, recurses := true, named := ["flit/head.widths"], apart := false, laid := [("flit/head.widths", laid_flit_head_widths)] }
def ListChainsSaid : Prop := listChainsRow.holds Tryd.pinned (OpenSpec.ofChange listChainsSpec)

/-- ITS FALSE NEIGHBOUR: 'it returns false'. Refute it at one input. -/
def listChainsWrong : ChangeSpec := { name := "listChains", fn := fun _ => fun
  | [d1, d2] => { results := [.lit (.bool false)], args := [d1, d2] }
  | _ => none }
def ListChainsWrongFalsely : Prop := listChainsRow.holds Tryd.pinned (OpenSpec.ofChange listChainsWrong)

/- THE SECOND FORM. 'bulk': how many values and letters a reading holds, each counted each time it is reached (what is shared counts as often as it is met; a slice's spare places count too). A statement '..UptoSaid' is the law's where the arguments, and the package variables that the reading takes, are together of bulk at most 1048576: NARROWER than '..Said'. Prove '..Said' where nothing that the law and all that it calls make is longer than what came in: it says more and counts as full. Else prove '..UptoSaid'. A law counts once. -/
mutual
def uptoBulk {H : Type} : DataW H → Nat
  | .lit (.string bytes) => bytes.length + 1
  | .lit _ => 1
  | .nil => 1
  | .ptr d => uptoBulk d + 1
  | .slice elems spare => uptoBulkAll elems + uptoBulkAll spare + 1
  | .agg parts => uptoBulkAll parts + 1
  | .iface _ d => uptoBulk d + 1
  | .map entries => uptoBulkEntries entries + 1
  | .held _ => 1
def uptoBulkAll {H : Type} : List (DataW H) → Nat
  | [] => 0
  | d :: r => uptoBulk d + uptoBulkAll r
def uptoBulkEntries {H : Type} : List (Lit × DataW H) → Nat
  | [] => 0
  | x :: r => uptoBulkEntry x + uptoBulkEntries r
def uptoBulkEntry {H : Type} : Lit × DataW H → Nat
  | (.string bytes, d) => bytes.length + uptoBulk d + 1
  | (_, d) => uptoBulk d + 1
 end
def uptoSmall : (H : Type) → List (DataW H) → Bool := fun _ ds => decide (uptoBulkAll ds ≤ 1048576)
def OpenSpec.upto (s : _root_.Go.ChangeSpec) : _root_.Go.OpenSpec := { _root_.Go.OpenSpec.ofChange s with cond := some uptoSmall }

/-- 'flitlaw08.ListPlays', WHERE WHAT IT READS IS OF BULK AT MOST 1048576: true; the input reads as it did. -/
def listPlaysUptoRow : OpenClaim := { program := "yteclgafdflmioaadoor", sum := "e26418893f1f754c036a0b02c73824c0ab3dbb57232153b42b40227918f585a0", func := "flit/flitlaw08.ListPlays", spec := "listPlays", unfollowed := true, recurses := true, named := ["flit/head.widths"], apart := false, laid := [("flit/head.widths", laid_flit_head_widths)], narrowed := true }
def ListPlaysUptoSaid : Prop := listPlaysUptoRow.holds Tryd.pinned (OpenSpec.upto listPlaysSpec)

/-- 'flitlaw08.ListOwn', WHERE WHAT IT READS IS OF BULK AT MOST 1048576: true; the input reads as it did. -/
def listOwnUptoRow : OpenClaim := { program := "yteclgafdflmioaadoor", sum := "e26418893f1f754c036a0b02c73824c0ab3dbb57232153b42b40227918f585a0", func := "flit/flitlaw08.ListOwn", spec := "listOwn", unfollowed := true, recurses := true, named := ["flit/head.widths"], apart := false, laid := [("flit/head.widths", laid_flit_head_widths)], narrowed := true }
def ListOwnUptoSaid : Prop := listOwnUptoRow.holds Tryd.pinned (OpenSpec.upto listOwnSpec)

/-- 'flitlaw08.ListOrder', WHERE WHAT IT READS IS OF BULK AT MOST 1048576: true; the input reads as it did. -/
def listOrderUptoRow : OpenClaim := { program := "yteclgafdflmioaadoor", sum := "e26418893f1f754c036a0b02c73824c0ab3dbb57232153b42b40227918f585a0", func := "flit/flitlaw08.ListOrder", spec := "listOrder", unfollowed := true, recurses := true, named := ["flit/head.widths"], apart := false, laid := [("flit/head.widths", laid_flit_head_widths)], narrowed := true }
def ListOrderUptoSaid : Prop := listOrderUptoRow.holds Tryd.pinned (OpenSpec.upto listOrderSpec)

/-- 'flitlaw08.ListChains', WHERE WHAT IT READS IS OF BULK AT MOST 1048576: true; the input reads as it did. -/
def listChainsUptoRow : OpenClaim := { program := "yteclgafdflmioaadoor", sum := "e26418893f1f754c036a0b02c73824c0ab3dbb57232153b42b40227918f585a0", func := "flit/flitlaw08.ListChains", spec := "listChains", unfollowed := true, recurses := true, named := ["flit/head.widths"], apart := false, laid := [("flit/head.widths", laid_flit_head_widths)], narrowed := true }
def ListChainsUptoSaid : Prop := listChainsUptoRow.holds Tryd.pinned (OpenSpec.upto listChainsSpec)

end Rows
end Go.Proofs.YteclgafdflmioaaDoor
