import Derived.Test.YtpcoldpphihfmaaGreatDoorDd2
import Derived.Test.YtpcoldpphihfmaaGreatDoorDs2
import Derived.Test.YtpcoldpphihfmaaGreatDoorDd3
import Derived.Test.YtpcoldpphihfmaaGreatDoorDd5
import Derived.Test.YtpcoldpphihfmaaGreatDoorDd7
namespace Go.Proofs.YtpcoldpphihfmaaGreatDoor
set_option linter.unusedVariables false
set_option maxRecDepth 100000
open Go.ChangeShapes Go.WideShapes Go.RowKit
open H.Plain (hw pS pC pN pM pG pT pL mv)
section
variable {w : World} {L : Loc} {s : St} {p : Nat}
theorem cK {k : K} {v : Value} (hm : Mm w L s) (ft : s.Fit) (hc : s.c < 1000000) (rr : s.Rng) (W : H.Wid w) (z : 1 ∉ L.fp) (R : Rep w k v) (ok : k.Ok) :
  ∃ n cs, v = .func (.func n) #[] cs ∧ Enters Tryz.prog n ∧ Calls Tryz.prog n (#[pt L.b] ++ cs) w fun e w' => Ran w L (k.next s) (k.mem s) e w' := by
 cases k with
 | read f fx =>
  obtain ⟨p, q, rfl, a, b⟩ := R
  refine ⟨_, _, rfl, enters_of Tryz.func112 (by kernel_rfl) rfl, ?_⟩
  simp only [K.next, K.mem]
  cases fx with
  | false => exact kRead0 hm ft hc rr W z a b
  | true =>
   rcases hf : (Vl.of (s.got f)).far with _ | _
   ·exact kRead1 hm ft hc rr W z a b hf
   ·exact kRead2 hm ft hc rr W z a b hf
 | follow a' => obtain ⟨p, rfl, a⟩ := R; exact ⟨_, _, rfl, enters_of Tryz.func123 (by kernel_rfl) rfl, kFollow hm ft hc rr W z a⟩
 | store f x => obtain ⟨p, q, rfl, a, b⟩ := R; exact ⟨_, _, rfl, enters_of Tryz.func115 (by kernel_rfl) rfl, kStore hm ft hc rr W z a b⟩
 | load f x h => obtain ⟨p, q, r, u, rfl, a, b, c, d⟩ := R; exact ⟨_, _, rfl, enters_of Tryz.func116 (by kernel_rfl) rfl, kLoad hm ft hc rr W z a b c d⟩
 | swap f r h =>
  obtain ⟨p, q, u, rfl, a, b, c⟩ := R
  refine ⟨_, _, rfl, enters_of Tryz.func118 (by kernel_rfl) rfl, ?_⟩
  simp only [K.next, K.mem]
  by_cases he : Vl.of (s.got f) = r.x
  ·rw [if_pos he]; exact kSwapE hm ft hc rr W z a b c he
  ·rw [if_neg he]
   rcases hca : h.ca with _ | _
   ·exact kSwapN0 hm ft hc rr W z a b c he hca
   ·rcases hf1 : (Vl.of (s.got f)).far with _ | _
    ·exact kSwapN1 hm ft hc rr W z a b c he hca hf1
    ·rcases hf2 : r.x.far with _ | _
     ·exact kSwapN2 hm ft hc rr W z a b c he hca hf1 hf2
     ·exact kSwapC hm ft hc rr W z a b c he hca hf1 hf2
 | exch f y r h =>
  obtain ⟨p, q, u, t, rfl, a, b, c, d⟩ := R
  refine ⟨_, _, rfl, enters_of Tryz.func127 (by kernel_rfl) rfl, ?_⟩
  simp only [K.next, K.mem]
  rcases hok : s.ok1 f y with _ | _
  ·exact kExchF hm ft hc rr W z a b c d hok
  ·exact kExchT hm ft hc rr W z a b c d hok
 | shade x t =>
  obtain ⟨p, q, u, rfl, a, b, c⟩ := R
  refine ⟨_, _, rfl, enters_of Tryz.func131 (by kernel_rfl) rfl, ?_⟩
  simp only [K.next, K.mem]
  by_cases hp : (x.next s).pc = 0
  ·rw [if_pos hp]; exact kShade0 hm ft hc rr W z a b c ok.1 (by simp [hp])
  ·rw [if_neg hp]; exact kShade1 hm ft hc rr W z a b c ok.1 (by simpa using hp)
 | compS a' b' t => obtain ⟨p, q, r, y, u, rfl, a, b, c, d, e⟩ := R; exact ⟨_, _, rfl, enters_of Tryz.func128 (by kernel_rfl) rfl, kCompS hm ft hc rr W z a b c d e⟩
 | compT a' b' => exact (show False from R).elim
 | comp2S c' b' t =>
  obtain ⟨p, q, r, y, u, rfl, a, b, c, d, e⟩ := R
  refine ⟨_, _, rfl, enters_of Tryz.func129 (by kernel_rfl) rfl, ?_⟩
  simp only [K.next, K.mem]
  by_cases hq : c' = mv (s.got b') b'
  ·rw [if_pos hq]; exact kComp2ST hm ft hc rr W z b a c d e (by simpa using hq)
  ·rw [if_neg hq]; exact kComp2SF hm ft hc rr W z b a c (by simpa using hq)
 | comp2T c' b' => exact (show False from R).elim
 | plain r e =>
  obtain ⟨p, q, rfl, a, b⟩ := R
  refine ⟨_, _, rfl, enters_of Tryz.func68 (by kernel_rfl) rfl, ?_⟩
  simp only [K.next, K.mem]
  by_cases h1 : r.fd < 0
  ·rw [if_pos (.inl h1)]; exact kPlainE1 hm ft hc rr W z a b (by simpa using h1) rfl
  ·by_cases h2 : pN (s.got r.at_) ≤ r.fd
   ·rw [if_pos (.inr h2)]; exact kPlainE2 hm ft hc rr W z a b (by simpa using h1) h2
   ·rw [if_neg (fun h => h.elim h1 h2)]
    cases hk : firstK (r.at_ + 1 + r.fd) r ⟨shadesM e.md, false, false, e.mr⟩ with
    | none => exact kPlain0 hm ft hc rr W z a b (by simpa using h1) (by omega) ok.1 ok.2 hk
    | some k => exact kPlain1 hm ft hc rr W z a b (by simpa using h1) (by omega) ok.1 ok.2 hk
end
end Go.Proofs.YtpcoldpphihfmaaGreatDoor
namespace Go.Proofs.YtpcoldpphihfmaaGreatDoor
set_option linter.unusedVariables false
set_option maxRecDepth 100000
open Go.ChangeShapes Go.WideShapes Go.RowKit
section
variable {w : World} {L : Loc} {s : St} {p : Nat}
end
structure Mx (w0 w : World) (p : Nat) (T : TypeId) (x : Sx) : Prop where
 at_ : ∃ v, Blk w0 w p T (x.cells v) ∧ RepO w x.k v
 kind : T ∉ BTs
 ok : x.Ok
section
variable {w0 w w' : World} {b p q : Nat} {s : St} {N : Nat} {T T' : TypeId} {cs : Array Value} {F : List Nat} {x : Sx}
def Ou.val (o : Ou) : Value := .agg #[.int .i64 o.c, .int .i64 o.v.k, .int .i64 o.v.n, .bool o.y]
end
end Go.Proofs.YtpcoldpphihfmaaGreatDoor
