/-
  NARROWER THAN 'FOR EVERY INPUT', by the rows' own cells (each row's printed sentence says how): PlanMakes: laid · PlanClasses: laid · PlanPlaces: laid · PlanApart: laid · PlanSizes: laid · PlanBlocks: laid.
  DERIVED. THE GIVEN ROWS OF THIS SEAT. 6 by the template 'for every input the law returns true; each argument reads behind the call as it read before'; 0 by the template 'total and deterministic' (their statements: YtfohcacngmiklaaDoorTotals.lean).
  GIVEN WITH THE SEED: the statements are not yours to turn. If you find one false, say at which input.
  Laid BY PROGRAM, IN A SANDBOX (cutbox-rows.mjs): the forced cells as the released guide's own fill.sh prints them over the translation 17e49616683728cd… (all of the seat's roots in one cut). By AI agents, Wed Nov 11 2026. No macro, syntax, notation, axiom, sorry.
-/
import Derived.Test.YtfohcacngmiklaaDoorChecked
import GoSem.Claim
import GoSem.ClaimJoined
import GoSem.ClaimMapViews
import Derived.JoinedTies
import Derived.KernelRfl
namespace Go.Proofs.YtfohcacngmiklaaDoor
/- THE CELL 'sum', in the pinned program and in every row, IS THE sha256 OF THE DUMP (.gsa) THAT YtfohcacngmiklaaDoorProg.lean LOADS. Nothing in Lean hashes anything: it is a label: what it is worth is what the hold of that sum in a sandbox is worth. -/
noncomputable def Tryd.pinned : Pinned := { name := "ytfohcacngmiklaadoor", sum := "17e49616683728cd2aa44e5894fbf9f2d4330c76c3fa899f590fa6d447ea4bef", checked := Tryd.checked }
namespace Rows
def none {H : Type} : Left H := { results := [], args := [] }

/- WHAT THE LISTED PACKAGE-LEVEL VARIABLES READ AS WHEN THE CALL BEGINS. Each datum BY PROGRAM (the guide's laid-datum.mjs) off the statement by which the dump's own 'gosem.cut.vars' lays the variable. In a bare row this is a premise. The card (YtfohcacngmiklaaDoorCards.lean) ties it to the program's text. -/
def laid_flit_plan_cellWords {H : Type} : DataW H := .agg [.lit (.int .i64 4), .lit (.int .i64 8), .lit (.int .i64 16)]

/-- 'flitlaw05.PlanMakes': WHATEVER THE INPUT: true; the input reads as it did. -/
def planMakesSpec : ChangeSpec := { name := "planMakes", fn := fun _ => fun
  | [d1, d2] => { results := [.lit (.bool true)], args := [d1, d2] }
  | _ => none }
def planMakesRow : OpenClaim := { program := "ytfohcacngmiklaadoor", sum := "17e49616683728cd2aa44e5894fbf9f2d4330c76c3fa899f590fa6d447ea4bef", func := "flit/flitlaw05.PlanMakes", spec := "planMakes", named := ["flit/plan.cellWords"], apart := false, laid := [("flit/plan.cellWords", laid_flit_plan_cellWords)] }
def PlanMakesSaid : Prop := planMakesRow.holds Tryd.pinned (OpenSpec.ofChange planMakesSpec)

/-- ITS FALSE NEIGHBOUR: 'it returns false'. Refute it at one input. -/
def planMakesWrong : ChangeSpec := { name := "planMakes", fn := fun _ => fun
  | [d1, d2] => { results := [.lit (.bool false)], args := [d1, d2] }
  | _ => none }
def PlanMakesWrongFalsely : Prop := planMakesRow.holds Tryd.pinned (OpenSpec.ofChange planMakesWrong)

/-- 'flitlaw05.PlanClasses': WHATEVER THE INPUT: true; the input reads as it did. -/
def planClassesSpec : ChangeSpec := { name := "planClasses", fn := fun _ => fun
  | [d] => { results := [.lit (.bool true)], args := [d] }
  | _ => none }
def planClassesRow : OpenClaim := { program := "ytfohcacngmiklaadoor", sum := "17e49616683728cd2aa44e5894fbf9f2d4330c76c3fa899f590fa6d447ea4bef", func := "flit/flitlaw05.PlanClasses", spec := "planClasses", named := ["flit/plan.cellWords"], apart := false, laid := [("flit/plan.cellWords", laid_flit_plan_cellWords)] }
def PlanClassesSaid : Prop := planClassesRow.holds Tryd.pinned (OpenSpec.ofChange planClassesSpec)

/-- ITS FALSE NEIGHBOUR: 'it returns false'. Refute it at one input. -/
def planClassesWrong : ChangeSpec := { name := "planClasses", fn := fun _ => fun
  | [d] => { results := [.lit (.bool false)], args := [d] }
  | _ => none }
def PlanClassesWrongFalsely : Prop := planClassesRow.holds Tryd.pinned (OpenSpec.ofChange planClassesWrong)

/-- 'flitlaw05.PlanPlaces': WHATEVER THE INPUT: true; the input reads as it did. -/
def planPlacesSpec : ChangeSpec := { name := "planPlaces", fn := fun _ => fun
  | [d1, d2, d3] => { results := [.lit (.bool true)], args := [d1, d2, d3] }
  | _ => none }
def planPlacesRow : OpenClaim := { program := "ytfohcacngmiklaadoor", sum := "17e49616683728cd2aa44e5894fbf9f2d4330c76c3fa899f590fa6d447ea4bef", func := "flit/flitlaw05.PlanPlaces", spec := "planPlaces", named := ["flit/plan.cellWords"], apart := false, laid := [("flit/plan.cellWords", laid_flit_plan_cellWords)] }
def PlanPlacesSaid : Prop := planPlacesRow.holds Tryd.pinned (OpenSpec.ofChange planPlacesSpec)

/-- ITS FALSE NEIGHBOUR: 'it returns false'. Refute it at one input. -/
def planPlacesWrong : ChangeSpec := { name := "planPlaces", fn := fun _ => fun
  | [d1, d2, d3] => { results := [.lit (.bool false)], args := [d1, d2, d3] }
  | _ => none }
def PlanPlacesWrongFalsely : Prop := planPlacesRow.holds Tryd.pinned (OpenSpec.ofChange planPlacesWrong)

/-- 'flitlaw05.PlanApart': WHATEVER THE INPUT: true; the input reads as it did. -/
def planApartSpec : ChangeSpec := { name := "planApart", fn := fun _ => fun
  | [d1, d2, d3] => { results := [.lit (.bool true)], args := [d1, d2, d3] }
  | _ => none }
def planApartRow : OpenClaim := { program := "ytfohcacngmiklaadoor", sum := "17e49616683728cd2aa44e5894fbf9f2d4330c76c3fa899f590fa6d447ea4bef", func := "flit/flitlaw05.PlanApart", spec := "planApart", named := ["flit/plan.cellWords"], apart := false, laid := [("flit/plan.cellWords", laid_flit_plan_cellWords)] }
def PlanApartSaid : Prop := planApartRow.holds Tryd.pinned (OpenSpec.ofChange planApartSpec)

/-- ITS FALSE NEIGHBOUR: 'it returns false'. Refute it at one input. -/
def planApartWrong : ChangeSpec := { name := "planApart", fn := fun _ => fun
  | [d1, d2, d3] => { results := [.lit (.bool false)], args := [d1, d2, d3] }
  | _ => none }
def PlanApartWrongFalsely : Prop := planApartRow.holds Tryd.pinned (OpenSpec.ofChange planApartWrong)

/-- 'flitlaw05.PlanSizes': WHATEVER THE INPUT: true; the input reads as it did. -/
def planSizesSpec : ChangeSpec := { name := "planSizes", fn := fun _ => fun
  | [d] => { results := [.lit (.bool true)], args := [d] }
  | _ => none }
def planSizesRow : OpenClaim := { program := "ytfohcacngmiklaadoor", sum := "17e49616683728cd2aa44e5894fbf9f2d4330c76c3fa899f590fa6d447ea4bef", func := "flit/flitlaw05.PlanSizes", spec := "planSizes", named := ["flit/plan.cellWords"], apart := false, laid := [("flit/plan.cellWords", laid_flit_plan_cellWords)] }
def PlanSizesSaid : Prop := planSizesRow.holds Tryd.pinned (OpenSpec.ofChange planSizesSpec)

/-- ITS FALSE NEIGHBOUR: 'it returns false'. Refute it at one input. -/
def planSizesWrong : ChangeSpec := { name := "planSizes", fn := fun _ => fun
  | [d] => { results := [.lit (.bool false)], args := [d] }
  | _ => none }
def PlanSizesWrongFalsely : Prop := planSizesRow.holds Tryd.pinned (OpenSpec.ofChange planSizesWrong)

/-- 'flitlaw05.PlanBlocks': WHATEVER THE INPUT: true; the input reads as it did. -/
def planBlocksSpec : ChangeSpec := { name := "planBlocks", fn := fun _ => fun
  | [d1, d2, d3] => { results := [.lit (.bool true)], args := [d1, d2, d3] }
  | _ => none }
def planBlocksRow : OpenClaim := { program := "ytfohcacngmiklaadoor", sum := "17e49616683728cd2aa44e5894fbf9f2d4330c76c3fa899f590fa6d447ea4bef", func := "flit/flitlaw05.PlanBlocks", spec := "planBlocks", named := ["flit/plan.cellWords"], apart := false, laid := [("flit/plan.cellWords", laid_flit_plan_cellWords)] }
def PlanBlocksSaid : Prop := planBlocksRow.holds Tryd.pinned (OpenSpec.ofChange planBlocksSpec)

/-- ITS FALSE NEIGHBOUR: 'it returns false'. Refute it at one input. -/
def planBlocksWrong : ChangeSpec := { name := "planBlocks", fn := fun _ => fun
  | [d1, d2, d3] => { results := [.lit (.bool false)], args := [d1, d2, d3] }
  | _ => none }
def PlanBlocksWrongFalsely : Prop := planBlocksRow.holds Tryd.pinned (OpenSpec.ofChange planBlocksWrong)

/- THE SECOND FORM. 'bulk': how many values and letters a reading holds, each counted each time it is reached (what is shared counts as often as it is met; a slice's spare places count too). A statement '..UptoSaid' is the law's where the arguments, and the package variables that the reading takes, are together of bulk at most 1048576: NARROWER than '..Said'. Prove '..Said' where nothing that the law and all that it calls make is longer than what came in: it says more and counts as full. Else prove '..UptoSaid'. A law counts once. -/
mutual
def uptoBulk {H : Type} : DataW H → Nat
  | .lit (.string bytes) => bytes.length + 1
  | .lit _ => 1
  | .nil => 1
  | .ptr d => uptoBulk d + 1
  | .slice elems spare => uptoBulkAll elems + uptoBulkAll spare + 1
  | .agg parts => uptoBulkAll parts + 1
  | .iface _ d => uptoBulk d + 1
  | .map entries => uptoBulkEntries entries + 1
  | .held _ => 1
def uptoBulkAll {H : Type} : List (DataW H) → Nat
  | [] => 0
  | d :: r => uptoBulk d + uptoBulkAll r
def uptoBulkEntries {H : Type} : List (Lit × DataW H) → Nat
  | [] => 0
  | x :: r => uptoBulkEntry x + uptoBulkEntries r
def uptoBulkEntry {H : Type} : Lit × DataW H → Nat
  | (.string bytes, d) => bytes.length + uptoBulk d + 1
  | (_, d) => uptoBulk d + 1
 end
def uptoSmall : (H : Type) → List (DataW H) → Bool := fun _ ds => decide (uptoBulkAll ds ≤ 1048576)
def OpenSpec.upto (s : _root_.Go.ChangeSpec) : _root_.Go.OpenSpec := { _root_.Go.OpenSpec.ofChange s with cond := some uptoSmall }

/-- 'flitlaw05.PlanMakes', WHERE WHAT IT READS IS OF BULK AT MOST 1048576: true; the input reads as it did. -/
def planMakesUptoRow : OpenClaim := { program := "ytfohcacngmiklaadoor", sum := "17e49616683728cd2aa44e5894fbf9f2d4330c76c3fa899f590fa6d447ea4bef", func := "flit/flitlaw05.PlanMakes", spec := "planMakes", named := ["flit/plan.cellWords"], apart := false, laid := [("flit/plan.cellWords", laid_flit_plan_cellWords)], narrowed := true }
def PlanMakesUptoSaid : Prop := planMakesUptoRow.holds Tryd.pinned (OpenSpec.upto planMakesSpec)

/-- 'flitlaw05.PlanClasses', WHERE WHAT IT READS IS OF BULK AT MOST 1048576: true; the input reads as it did. -/
def planClassesUptoRow : OpenClaim := { program := "ytfohcacngmiklaadoor", sum := "17e49616683728cd2aa44e5894fbf9f2d4330c76c3fa899f590fa6d447ea4bef", func := "flit/flitlaw05.PlanClasses", spec := "planClasses", named := ["flit/plan.cellWords"], apart := false, laid := [("flit/plan.cellWords", laid_flit_plan_cellWords)], narrowed := true }
def PlanClassesUptoSaid : Prop := planClassesUptoRow.holds Tryd.pinned (OpenSpec.upto planClassesSpec)

/-- 'flitlaw05.PlanPlaces', WHERE WHAT IT READS IS OF BULK AT MOST 1048576: true; the input reads as it did. -/
def planPlacesUptoRow : OpenClaim := { program := "ytfohcacngmiklaadoor", sum := "17e49616683728cd2aa44e5894fbf9f2d4330c76c3fa899f590fa6d447ea4bef", func := "flit/flitlaw05.PlanPlaces", spec := "planPlaces", named := ["flit/plan.cellWords"], apart := false, laid := [("flit/plan.cellWords", laid_flit_plan_cellWords)], narrowed := true }
def PlanPlacesUptoSaid : Prop := planPlacesUptoRow.holds Tryd.pinned (OpenSpec.upto planPlacesSpec)

/-- 'flitlaw05.PlanApart', WHERE WHAT IT READS IS OF BULK AT MOST 1048576: true; the input reads as it did. -/
def planApartUptoRow : OpenClaim := { program := "ytfohcacngmiklaadoor", sum := "17e49616683728cd2aa44e5894fbf9f2d4330c76c3fa899f590fa6d447ea4bef", func := "flit/flitlaw05.PlanApart", spec := "planApart", named := ["flit/plan.cellWords"], apart := false, laid := [("flit/plan.cellWords", laid_flit_plan_cellWords)], narrowed := true }
def PlanApartUptoSaid : Prop := planApartUptoRow.holds Tryd.pinned (OpenSpec.upto planApartSpec)

/-- 'flitlaw05.PlanSizes', WHERE WHAT IT READS IS OF BULK AT MOST 1048576: true; the input reads as it did. -/
def planSizesUptoRow : OpenClaim := { program := "ytfohcacngmiklaadoor", sum := "17e49616683728cd2aa44e5894fbf9f2d4330c76c3fa899f590fa6d447ea4bef", func := "flit/flitlaw05.PlanSizes", spec := "planSizes", named := ["flit/plan.cellWords"], apart := false, laid := [("flit/plan.cellWords", laid_flit_plan_cellWords)], narrowed := true }
def PlanSizesUptoSaid : Prop := planSizesUptoRow.holds Tryd.pinned (OpenSpec.upto planSizesSpec)

/-- 'flitlaw05.PlanBlocks', WHERE WHAT IT READS IS OF BULK AT MOST 1048576: true; the input reads as it did. -/
def planBlocksUptoRow : OpenClaim := { program := "ytfohcacngmiklaadoor", sum := "17e49616683728cd2aa44e5894fbf9f2d4330c76c3fa899f590fa6d447ea4bef", func := "flit/flitlaw05.PlanBlocks", spec := "planBlocks", named := ["flit/plan.cellWords"], apart := false, laid := [("flit/plan.cellWords", laid_flit_plan_cellWords)], narrowed := true }
def PlanBlocksUptoSaid : Prop := planBlocksUptoRow.holds Tryd.pinned (OpenSpec.upto planBlocksSpec)

end Rows
end Go.Proofs.YtfohcacngmiklaaDoor
