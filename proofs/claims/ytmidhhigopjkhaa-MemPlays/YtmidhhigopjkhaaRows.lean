/-
  No cell of these rows narrows 'for every input' (looked for: loops, veiled, ifaces, maps, wideKeys, modest, calm, conditions, laid).
  DERIVED. THE GIVEN ROWS OF THIS SEAT. 5 by the template 'for every input the law returns true; each argument reads behind the call as it read before'; 0 by the template 'total and deterministic' (their statements: YtmidhhigopjkhaaTotals.lean).
  GIVEN WITH THE SEED: the statements are not yours to turn. If you find one false, say at which input.
  Laid BY PROGRAM, IN A SANDBOX (cutbox-rows.mjs): the forced cells as the released guide's own fill.sh prints them over the translation 0070d1b70392d038… (all of the seat's roots in one cut). By AI agents, Wed Nov 11 2026. No macro, syntax, notation, axiom, sorry.
-/
import Derived.Test.YtmidhhigopjkhaaChecked
import GoSem.Claim
import GoSem.ClaimJoined
import GoSem.ClaimMapViews
import Derived.JoinedTies
import Derived.KernelRfl
namespace Go.Proofs.Ytmidhhigopjkhaa
/- THE CELL 'sum', in the pinned program and in every row, IS THE sha256 OF THE DUMP (.gsa) THAT YtmidhhigopjkhaaProg.lean LOADS. Nothing in Lean hashes anything: it is a label: what it is worth is what the hold of that sum in a sandbox is worth. -/
noncomputable def Try.pinned : Pinned := { name := "ytmidhhigopjkhaa", sum := "0070d1b70392d038beebed5848396283f1e43b32f353f1495b865caf6822d11a", checked := Try.checked }
namespace Rows
def none {H : Type} : Left H := { results := [], args := [] }

/-- 'flitlaw04.MemPlays': WHATEVER THE INPUT: true; the input reads as it did. -/
def memPlaysSpec : ChangeSpec := { name := "memPlays", fn := fun _ => fun
  | [d1, d2] => { results := [.lit (.bool true)], args := [d1, d2] }
  | _ => none }
def memPlaysRow : OpenClaim := { program := "ytmidhhigopjkhaa", sum := "0070d1b70392d038beebed5848396283f1e43b32f353f1495b865caf6822d11a", func := "flit/flitlaw04.MemPlays", spec := "memPlays", unfollowed := true, recurses := true, apart := false }
def MemPlaysSaid : Prop := memPlaysRow.holds Try.pinned (OpenSpec.ofChange memPlaysSpec)

/-- ITS FALSE NEIGHBOUR: 'it returns false'. Refute it at one input. -/
def memPlaysWrong : ChangeSpec := { name := "memPlays", fn := fun _ => fun
  | [d1, d2] => { results := [.lit (.bool false)], args := [d1, d2] }
  | _ => none }
def MemPlaysWrongFalsely : Prop := memPlaysRow.holds Try.pinned (OpenSpec.ofChange memPlaysWrong)

/-- 'flitlaw04.MemChanges': WHATEVER THE INPUT: true; the input reads as it did. -/
def memChangesSpec : ChangeSpec := { name := "memChanges", fn := fun _ => fun
  | [d] => { results := [.lit (.bool true)], args := [d] }
  | _ => none }
def memChangesRow : OpenClaim := { program := "ytmidhhigopjkhaa", sum := "0070d1b70392d038beebed5848396283f1e43b32f353f1495b865caf6822d11a", func := "flit/flitlaw04.MemChanges", spec := "memChanges", unfollowed := true, recurses := true, apart := false }
def MemChangesSaid : Prop := memChangesRow.holds Try.pinned (OpenSpec.ofChange memChangesSpec)

/-- ITS FALSE NEIGHBOUR: 'it returns false'. Refute it at one input. -/
def memChangesWrong : ChangeSpec := { name := "memChanges", fn := fun _ => fun
  | [d] => { results := [.lit (.bool false)], args := [d] }
  | _ => none }
def MemChangesWrongFalsely : Prop := memChangesRow.holds Try.pinned (OpenSpec.ofChange memChangesWrong)

/-- 'flitlaw04.MemCounts': WHATEVER THE INPUT: true; the input reads as it did. -/
def memCountsSpec : ChangeSpec := { name := "memCounts", fn := fun _ => fun
  | [d1, d2] => { results := [.lit (.bool true)], args := [d1, d2] }
  | _ => none }
def memCountsRow : OpenClaim := { program := "ytmidhhigopjkhaa", sum := "0070d1b70392d038beebed5848396283f1e43b32f353f1495b865caf6822d11a", func := "flit/flitlaw04.MemCounts", spec := "memCounts", unfollowed := true, recurses := true, apart := false }
def MemCountsSaid : Prop := memCountsRow.holds Try.pinned (OpenSpec.ofChange memCountsSpec)

/-- ITS FALSE NEIGHBOUR: 'it returns false'. Refute it at one input. -/
def memCountsWrong : ChangeSpec := { name := "memCounts", fn := fun _ => fun
  | [d1, d2] => { results := [.lit (.bool false)], args := [d1, d2] }
  | _ => none }
def MemCountsWrongFalsely : Prop := memCountsRow.holds Try.pinned (OpenSpec.ofChange memCountsWrong)

/-- 'flitlaw04.MemClones': WHATEVER THE INPUT: true; the input reads as it did. -/
def memClonesSpec : ChangeSpec := { name := "memClones", fn := fun _ => fun
  | [d1, d2] => { results := [.lit (.bool true)], args := [d1, d2] }
  | _ => none }
def memClonesRow : OpenClaim := { program := "ytmidhhigopjkhaa", sum := "0070d1b70392d038beebed5848396283f1e43b32f353f1495b865caf6822d11a", func := "flit/flitlaw04.MemClones", spec := "memClones", unfollowed := true, recurses := true, apart := false }
def MemClonesSaid : Prop := memClonesRow.holds Try.pinned (OpenSpec.ofChange memClonesSpec)

/-- ITS FALSE NEIGHBOUR: 'it returns false'. Refute it at one input. -/
def memClonesWrong : ChangeSpec := { name := "memClones", fn := fun _ => fun
  | [d1, d2] => { results := [.lit (.bool false)], args := [d1, d2] }
  | _ => none }
def MemClonesWrongFalsely : Prop := memClonesRow.holds Try.pinned (OpenSpec.ofChange memClonesWrong)

/-- 'flitlaw04.MemTraps': WHATEVER THE INPUT: true; the input reads as it did. -/
def memTrapsSpec : ChangeSpec := { name := "memTraps", fn := fun _ => fun
  | [d1, d2, d3] => { results := [.lit (.bool true)], args := [d1, d2, d3] }
  | _ => none }
def memTrapsRow : OpenClaim := { program := "ytmidhhigopjkhaa", sum := "0070d1b70392d038beebed5848396283f1e43b32f353f1495b865caf6822d11a", func := "flit/flitlaw04.MemTraps", spec := "memTraps", unfollowed := true, recurses := true, apart := false }
def MemTrapsSaid : Prop := memTrapsRow.holds Try.pinned (OpenSpec.ofChange memTrapsSpec)

/-- ITS FALSE NEIGHBOUR: 'it returns false'. Refute it at one input. -/
def memTrapsWrong : ChangeSpec := { name := "memTraps", fn := fun _ => fun
  | [d1, d2, d3] => { results := [.lit (.bool false)], args := [d1, d2, d3] }
  | _ => none }
def MemTrapsWrongFalsely : Prop := memTrapsRow.holds Try.pinned (OpenSpec.ofChange memTrapsWrong)

/- THE SECOND FORM. 'bulk': how many values and letters a reading holds, each counted each time it is reached (what is shared counts as often as it is met; a slice's spare places count too). A statement '..UptoSaid' is the law's where the arguments, and the package variables that the reading takes, are together of bulk at most 1048576: NARROWER than '..Said'. Prove '..Said' where nothing that the law and all that it calls make is longer than what came in: it says more and counts as full. Else prove '..UptoSaid'. A law counts once. -/
mutual
def uptoBulk {H : Type} : DataW H → Nat
  | .lit (.string bytes) => bytes.length + 1
  | .lit _ => 1
  | .nil => 1
  | .ptr d => uptoBulk d + 1
  | .slice elems spare => uptoBulkAll elems + uptoBulkAll spare + 1
  | .agg parts => uptoBulkAll parts + 1
  | .iface _ d => uptoBulk d + 1
  | .map entries => uptoBulkEntries entries + 1
  | .held _ => 1
def uptoBulkAll {H : Type} : List (DataW H) → Nat
  | [] => 0
  | d :: r => uptoBulk d + uptoBulkAll r
def uptoBulkEntries {H : Type} : List (Lit × DataW H) → Nat
  | [] => 0
  | x :: r => uptoBulkEntry x + uptoBulkEntries r
def uptoBulkEntry {H : Type} : Lit × DataW H → Nat
  | (.string bytes, d) => bytes.length + uptoBulk d + 1
  | (_, d) => uptoBulk d + 1
 end
def uptoSmall : (H : Type) → List (DataW H) → Bool := fun _ ds => decide (uptoBulkAll ds ≤ 1048576)
def OpenSpec.upto (s : _root_.Go.ChangeSpec) : _root_.Go.OpenSpec := { _root_.Go.OpenSpec.ofChange s with cond := some uptoSmall }

/-- 'flitlaw04.MemPlays', WHERE WHAT IT READS IS OF BULK AT MOST 1048576: true; the input reads as it did. -/
def memPlaysUptoRow : OpenClaim := { program := "ytmidhhigopjkhaa", sum := "0070d1b70392d038beebed5848396283f1e43b32f353f1495b865caf6822d11a", func := "flit/flitlaw04.MemPlays", spec := "memPlays", unfollowed := true, recurses := true, apart := false, narrowed := true }
def MemPlaysUptoSaid : Prop := memPlaysUptoRow.holds Try.pinned (OpenSpec.upto memPlaysSpec)

/-- 'flitlaw04.MemChanges', WHERE WHAT IT READS IS OF BULK AT MOST 1048576: true; the input reads as it did. -/
def memChangesUptoRow : OpenClaim := { program := "ytmidhhigopjkhaa", sum := "0070d1b70392d038beebed5848396283f1e43b32f353f1495b865caf6822d11a", func := "flit/flitlaw04.MemChanges", spec := "memChanges", unfollowed := true, recurses := true, apart := false, narrowed := true }
def MemChangesUptoSaid : Prop := memChangesUptoRow.holds Try.pinned (OpenSpec.upto memChangesSpec)

/-- 'flitlaw04.MemCounts', WHERE WHAT IT READS IS OF BULK AT MOST 1048576: true; the input reads as it did. -/
def memCountsUptoRow : OpenClaim := { program := "ytmidhhigopjkhaa", sum := "0070d1b70392d038beebed5848396283f1e43b32f353f1495b865caf6822d11a", func := "flit/flitlaw04.MemCounts", spec := "memCounts", unfollowed := true, recurses := true, apart := false, narrowed := true }
def MemCountsUptoSaid : Prop := memCountsUptoRow.holds Try.pinned (OpenSpec.upto memCountsSpec)

/-- 'flitlaw04.MemClones', WHERE WHAT IT READS IS OF BULK AT MOST 1048576: true; the input reads as it did. -/
def memClonesUptoRow : OpenClaim := { program := "ytmidhhigopjkhaa", sum := "0070d1b70392d038beebed5848396283f1e43b32f353f1495b865caf6822d11a", func := "flit/flitlaw04.MemClones", spec := "memClones", unfollowed := true, recurses := true, apart := false, narrowed := true }
def MemClonesUptoSaid : Prop := memClonesUptoRow.holds Try.pinned (OpenSpec.upto memClonesSpec)

/-- 'flitlaw04.MemTraps', WHERE WHAT IT READS IS OF BULK AT MOST 1048576: true; the input reads as it did. -/
def memTrapsUptoRow : OpenClaim := { program := "ytmidhhigopjkhaa", sum := "0070d1b70392d038beebed5848396283f1e43b32f353f1495b865caf6822d11a", func := "flit/flitlaw04.MemTraps", spec := "memTraps", unfollowed := true, recurses := true, apart := false, narrowed := true }
def MemTrapsUptoSaid : Prop := memTrapsUptoRow.holds Try.pinned (OpenSpec.upto memTrapsSpec)

end Rows
end Go.Proofs.Ytmidhhigopjkhaa
