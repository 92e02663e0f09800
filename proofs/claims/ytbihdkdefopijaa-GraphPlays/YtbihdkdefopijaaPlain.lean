/-
  Roots said plainly: how many there are, and what stands at each of the eight places. No Go in sight.
-/
import Derived.WalkKit
import Derived.ProofKit
namespace Go.Proofs.Ytbihdkdefopijaa.Plain
open Go.RowKit

/-- the number x at the place j -/
def put (l : Nat → Int) (j : Nat) (x : Int) : Nat → Int := fun i => if i = j then x else l i
/-- the first m alone -/
def cut (l : Nat → Int) (m : Int) : Nat → Int := fun i => if (i : Int) < m then l i else 0
/-- the first n that are a become b -/
def mv (l : Nat → Int) (n : Int) (a b : Int) : Nat → Int := fun i => if (i : Int) < n ∧ l i = a then b else l i
/-- nothing stands at the places from n on -/
def clr (l : Nat → Int) (n : Int) : Bool := (List.range 8).all fun j => decide ((j : Int) < n) || l j == 0
/-- roots may be -/
def may (n : Int) (l : Nat → Int) : Bool := decide (0 ≤ n) && (decide (n ≤ 8) && clr l n)
/-- roots of nothing -/
def nil : Nat → Int := fun _ => 0
/-- what the calls answer: how many, what, the error -/
def pushN (n : Int) (l : Nat → Int) : Int := if may n l && decide (n ≠ 8) then n + 1 else 0
def pushL (n : Int) (l : Nat → Int) (a : Int) : Nat → Int := if may n l && decide (n ≠ 8) then put l n.toNat a else nil
def pushE (n : Int) (l : Nat → Int) : Int := if may n l then (if n = 8 then 13 else 0) else 1
def dropN (n : Int) (l : Nat → Int) : Int := if may n l && decide (n ≠ 0) then n - 1 else 0
def dropL (n : Int) (l : Nat → Int) : Nat → Int := if may n l && decide (n ≠ 0) then cut l (n - 1) else nil
def dropE (n : Int) (l : Nat → Int) : Int := if may n l then (if n = 0 then 12 else 0) else 1
def isAt (n i : Int) : Bool := decide (0 ≤ i) && decide (i < n)
def getV (n : Int) (l : Nat → Int) (i : Int) : Int := if may n l && isAt n i then l i.toNat else 0
def getE (n : Int) (l : Nat → Int) (i : Int) : Int := if may n l then (if isAt n i then 0 else 12) else 1
def dupN (n : Int) (l : Nat → Int) (i : Int) : Int := if may n l && isAt n i then pushN n l else 0
def dupL (n : Int) (l : Nat → Int) (i : Int) : Nat → Int := if may n l && isAt n i then pushL n l (l i.toNat) else nil
def dupE (n : Int) (l : Nat → Int) (i : Int) : Int := if may n l && isAt n i then pushE n l else getE n l i

theorem clr_iff (l : Nat → Int) (n : Int) : clr l n = true ↔ ∀ j : Nat, j < 8 → n ≤ j → l j = 0 := by
  simp only [clr, List.all_eq_true, List.mem_range, Bool.or_eq_true, decide_eq_true_eq, beq_iff_eq]
  exact ⟨fun h j hj hn => (h j hj).elim (fun h' => by omega) id, fun h j hj => by
    by_cases e : (j : Int) < n
    · exact .inl e
    · exact .inr (h j hj (by omega))⟩
theorem may_iff (n : Int) (l : Nat → Int) : may n l = true ↔ 0 ≤ n ∧ n ≤ 8 ∧ ∀ j : Nat, j < 8 → n ≤ j → l j = 0 := by
  simp only [may, Bool.and_eq_true, decide_eq_true_eq, clr_iff]
end Go.Proofs.Ytbihdkdefopijaa.Plain
