/-
  A memory and machines that run alone, over its words: what comes of them is evaluated.
-/
import Derived.Test.YtbojljkdpebheaaDoorAp
import Derived.Test.YtbojljkdpebheaaDoorKf
import Derived.WalkKit
namespace Go.Proofs.YtbojljkdpebheaaDoor
set_option linter.unusedVariables false
set_option maxRecDepth 100000
open S.Plain (t0 t1 tw nx bw b0 b1 b2 b3)
open H.Plain (hw pL)
def bare (l : List Int) : St := ⟨l, 0, 0, []⟩
theorem bare_ws (s : St) : (bare s.ws).ws = s.ws := rfl
/-- a new object: k steps at most -/
def mkW : Nat → AllS → List Int → Int × List Int
  | 0, _, l => (-1, l)
  | k + 1, x, l => if (x.next (bare l)).pc = 0 then ((x.next (bare l)).cell, (x.mem (bare l)).ws) else mkW k (x.next (bare l)) (x.mem (bare l)).ws
/-- a cell that is reserved -/
def rsW : Nat → ResS → List Int → Int × List Int
  | 0, _, l => (-1, l)
  | k + 1, x, l => if (x.next (bare l)).pc = 0 then ((x.next (bare l)).cell, (x.mem (bare l)).ws) else rsW k (x.next (bare l)) (x.mem (bare l)).ws
theorem mkW_step {k : Nat} {x : AllS} (s : St) : mkW (k + 1) x s.ws = if (x.next s).pc = 0 then ((x.next s).cell, (x.mem s).ws) else mkW k (x.next s) (x.mem s).ws := by
  rw [mkW, AllS.next_ws (bare_ws s), AllS.mem_ws (bare_ws s)]
theorem rsW_step {k : Nat} {x : ResS} (s : St) : rsW (k + 1) x s.ws = if (x.next s).pc = 0 then ((x.next s).cell, (x.mem s).ws) else rsW k (x.next s) (x.mem s).ws := by
  rw [rsW, ResS.next_ws (bare_ws s), ResS.mem_ws (bare_ws s)]
/-- so many steps -/
def rnA : Nat → AllS → List Int → AllS × List Int
  | 0, x, l => (x, l)
  | k + 1, x, l => rnA k (x.next (bare l)) (x.mem (bare l)).ws
def rnR : Nat → ResS → List Int → ResS × List Int
  | 0, x, l => (x, l)
  | k + 1, x, l => rnR k (x.next (bare l)) (x.mem (bare l)).ws
theorem rnA_step {k : Nat} {x : AllS} (s : St) : rnA (k + 1) x s.ws = rnA k (x.next s) (x.mem s).ws := by rw [rnA, AllS.next_ws (bare_ws s), AllS.mem_ws (bare_ws s)]
theorem rnR_step {k : Nat} {x : ResS} (s : St) : rnR (k + 1) x s.ws = rnR k (x.next s) (x.mem s).ws := by rw [rnR, ResS.next_ws (bare_ws s), ResS.mem_ws (bare_ws s)]
/-- the document's examples -/
def shA : AllS × List Int := rnA 60 (AllS.new (mkPl 1 1) 3 1 0) (frSt 1 1).ws
def shR : ResS × List Int := rnR 60 (ResS.new (mkPl 1 1) 1 0) shA.2
theorem sh_facts : shA.1.pc = 0 ∧ shA.1.cell = 32 ∧ shR.1.pc = 0 ∧ shR.1.cell = 0 ∧ (bare shR.2).got 32 = 177 ∧ (bare shR.2).got 33 = 0 ∧ (bare shR.2).got 35 = 0 := ⟨by kernel_rfl, by kernel_rfl, by kernel_rfl, by kernel_rfl, by kernel_rfl, by kernel_rfl, by kernel_rfl⟩
/-- a cell is pushed -/
def psW (q : Pl) (c : Int) (l : List Int) (z : Int) : List Int :=
  ((((PushS.new (3 + 3 * 0 + P.Plain.cl c) z z (P.Plain.cl c)).next (bare l)).next (bare ((PushS.new (3 + 3 * 0 + P.Plain.cl c) z z (P.Plain.cl c)).mem (bare l)).ws)).mem (bare (((PushS.new (3 + 3 * 0 + P.Plain.cl c) z z (P.Plain.cl c)).next (bare l)).mem (bare ((PushS.new (3 + 3 * 0 + P.Plain.cl c) z z (P.Plain.cl c)).mem (bare l)).ws)).ws)).ws
/-- all objects of a size, one behind the other; then a cell is pushed, and one more -/
def allChk (q : Pl) (c : Int) : Nat → List Int → Int → Bool
  | 0, l, z => match mkW 60 (AllS.new q c 0 0) (psW q c l z) with
    | (v, l') => v == z && (mkW 60 (AllS.new q c 0 0) l').1 == 0
  | k + 1, l, z => match mkW 60 (AllS.new q c 0 0) l with
    | (v, l') => decide (0 ≤ v) && ((v == 0) == (k == 0)) && allChk q c k l' (if 0 < v then v else z)
theorem all_chk : ∀ n, n < 4 → ∀ c, c < 8 → allChk (mkPl 1 (n + 1)) (c : Nat) ((n + 1) * (P.Plain.cs (P.Plain.cl (c : Nat))).toNat + 1) (frSt 1 (n + 1)).ws 0 = true := by decide +kernel
end Go.Proofs.YtbojljkdpebheaaDoor
