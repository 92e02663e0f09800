import Derived.Test.YtpcoldpphihfmaaGreatDoorVg
namespace Go.Proofs.YtpcoldpphihfmaaGreatDoor
set_option linter.unusedVariables false
set_option linter.unusedSimpArgs false
set_option maxRecDepth 100000
open H.Plain (hw pS pC pN pM pG pT pL mv)
structure Mo where
 f : Nat
 pc : Nat
 wd : Bool
 w : Int
namespace Mo
def S (m : Mo) : Int := 106 + 2 * (m.f : Int)
def O (m : Mo) : Int := 97 + (m.f : Int)
def next (m : Mo) (s : St) : Mo :=
 if m.f = 3 then m else
 match m.pc with
 | 0 => if (m.wd = true ∧ s.got m.S ≠ 0) ∨ s.got m.S = 3 then ⟨m.f + 1, 0, m.wd, m.w⟩ else if m.wd = false ∧ s.got m.S = 2 then ⟨m.f, 5, m.wd, m.w⟩ else if m.wd = false then ⟨m.f, 3, m.wd, m.w⟩ else ⟨m.f, 1, m.wd, m.w⟩
 | 1 => ⟨m.f, if F.Plain.froz (s.got m.O) then 7 else 2, m.wd, s.got m.O⟩
 | 2 => ⟨m.f, 1, m.wd, m.w⟩
 | 3 => ⟨m.f, 4, m.wd, s.got (m.S + 1)⟩
 | 5 => ⟨m.f, 6, m.wd, s.got (m.S + 1)⟩
 | 6 => ⟨m.f, 8, m.wd, m.w⟩
 | _ => ⟨m.f, 0, m.wd, m.w⟩
def mem (m : Mo) (s : St) : St :=
 if m.f = 3 then s else
 match m.pc with
 | 0 => s.load m.S
 | 1 => s.load m.O
 | 2 => s.cas m.O m.w (F.Plain.fz m.w)
 | 3 => s.load (m.S + 1)
 | 4 => s.cas2 m.S 1 m.w 2 m.w
 | 5 => s.load (m.S + 1)
 | 6 => s.cas (113 + (m.f : Int)) 2 m.w
 | 7 => s.cas2 m.S 0 0 1 (F.Plain.th m.w)
 | _ => s.cas2 m.S 2 m.w 3 m.w
end Mo
structure Mo.Ok (m : Mo) : Prop where
 f : m.f ≤ 3
 pc : m.pc ≤ 8
 w : U64 m.w
section
variable {P P' : Int → Prop} {q : Wq} {k : Nat} {g g' : Nat → Int} {v v' : Nat → Vl} {s s' : St} {x : Cw} {m : Mo}
end
end Go.Proofs.YtpcoldpphihfmaaGreatDoor
