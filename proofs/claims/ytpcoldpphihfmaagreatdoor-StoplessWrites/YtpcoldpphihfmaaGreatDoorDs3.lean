/-
  The machines of layer 12 in a law's hand.
-/
import Derived.Test.YtpcoldpphihfmaaGreatDoorDd2
import Derived.Test.YtpcoldpphihfmaaGreatDoorDs2
import Derived.Test.YtpcoldpphihfmaaGreatDoorDd3
import Derived.Test.YtpcoldpphihfmaaGreatDoorDd4
import Derived.Test.YtpcoldpphihfmaaGreatDoorDd5
import Derived.Test.YtpcoldpphihfmaaGreatDoorDd6
import Derived.Test.YtpcoldpphihfmaaGreatDoorDd7
namespace Go.Proofs.YtpcoldpphihfmaaGreatDoor
set_option linter.unusedVariables false
set_option maxRecDepth 100000
open Go.ChangeShapes Go.WideShapes Go.RowKit
open H.Plain (hw pS pC pN pM pG pT pL mv)

section
variable {w : World} {L : Loc} {s : St} {p : Nat}
theorem cK {k : K} {v : Value} (hm : Mm w L s) (ft : s.Fit) (hc : s.c < 1000000) (rr : s.Rng) (W : H.Wid w) (z : 1 ∉ L.fp) (R : Rep w k v) (ok : k.Ok) :
    ∃ n cs, v = .func (.func n) #[] cs ∧ Enters Tryz.prog n ∧ Calls Tryz.prog n (#[pt L.b] ++ cs) w fun e w' => Ran w L (k.next s) (k.mem s) e w' := by
  cases k with
  | read f fx =>
    obtain ⟨p, q, rfl, a, b⟩ := R
    refine ⟨_, _, rfl, enters_of Tryz.func112 (by kernel_rfl) rfl, ?_⟩
    simp only [K.next, K.mem]
    cases fx with
    | false => exact kRead0 hm ft hc rr W z a b
    | true =>
      rcases hf : (Vl.of (s.got f)).far with _ | _
      · exact kRead1 hm ft hc rr W z a b hf
      · exact kRead2 hm ft hc rr W z a b hf
  | follow a' => obtain ⟨p, rfl, a⟩ := R; exact ⟨_, _, rfl, enters_of Tryz.func123 (by kernel_rfl) rfl, kFollow hm ft hc rr W z a⟩
  | store f x => obtain ⟨p, q, rfl, a, b⟩ := R; exact ⟨_, _, rfl, enters_of Tryz.func115 (by kernel_rfl) rfl, kStore hm ft hc rr W z a b⟩
  | load f x h => obtain ⟨p, q, r, u, rfl, a, b, c, d⟩ := R; exact ⟨_, _, rfl, enters_of Tryz.func116 (by kernel_rfl) rfl, kLoad hm ft hc rr W z a b c d⟩
  | swap f r h =>
    obtain ⟨p, q, u, rfl, a, b, c⟩ := R
    refine ⟨_, _, rfl, enters_of Tryz.func118 (by kernel_rfl) rfl, ?_⟩
    simp only [K.next, K.mem]
    by_cases he : Vl.of (s.got f) = r.x
    · rw [if_pos he]; exact kSwapE hm ft hc rr W z a b c he
    · rw [if_neg he]
      rcases hca : h.ca with _ | _
      · exact kSwapN0 hm ft hc rr W z a b c he hca
      · rcases hf1 : (Vl.of (s.got f)).far with _ | _
        · exact kSwapN1 hm ft hc rr W z a b c he hca hf1
        · rcases hf2 : r.x.far with _ | _
          · exact kSwapN2 hm ft hc rr W z a b c he hca hf1 hf2
          · exact kSwapC hm ft hc rr W z a b c he hca hf1 hf2
  | exch f y r h =>
    obtain ⟨p, q, u, t, rfl, a, b, c, d⟩ := R
    refine ⟨_, _, rfl, enters_of Tryz.func127 (by kernel_rfl) rfl, ?_⟩
    simp only [K.next, K.mem]
    rcases hok : s.ok1 f y with _ | _
    · exact kExchF hm ft hc rr W z a b c d hok
    · exact kExchT hm ft hc rr W z a b c d hok
  | shade x t =>
    obtain ⟨p, q, u, rfl, a, b, c⟩ := R
    refine ⟨_, _, rfl, enters_of Tryz.func131 (by kernel_rfl) rfl, ?_⟩
    simp only [K.next, K.mem]
    by_cases hp : (x.next s).pc = 0
    · rw [if_pos hp]; exact kShade0 hm ft hc rr W z a b c ok.1 (by simp [hp])
    · rw [if_neg hp]; exact kShade1 hm ft hc rr W z a b c ok.1 (by simpa using hp)
  | compS a' b' t => obtain ⟨p, q, r, y, u, rfl, a, b, c, d, e⟩ := R; exact ⟨_, _, rfl, enters_of Tryz.func128 (by kernel_rfl) rfl, kCompS hm ft hc rr W z a b c d e⟩
  | compT a' b' => exact (show False from R).elim
  | comp2S c' b' t =>
    obtain ⟨p, q, r, y, u, rfl, a, b, c, d, e⟩ := R
    refine ⟨_, _, rfl, enters_of Tryz.func129 (by kernel_rfl) rfl, ?_⟩
    simp only [K.next, K.mem]
    by_cases hq : c' = mv (s.got b') b'
    · rw [if_pos hq]; exact kComp2ST hm ft hc rr W z b a c d e (by simpa using hq)
    · rw [if_neg hq]; exact kComp2SF hm ft hc rr W z b a c (by simpa using hq)
  | comp2T c' b' => exact (show False from R).elim
  | plain r e =>
    obtain ⟨p, q, rfl, a, b⟩ := R
    refine ⟨_, _, rfl, enters_of Tryz.func68 (by kernel_rfl) rfl, ?_⟩
    simp only [K.next, K.mem]
    by_cases h1 : r.fd < 0
    · rw [if_pos (.inl h1)]; exact kPlainE1 hm ft hc rr W z a b (by simpa using h1) rfl
    · by_cases h2 : pN (s.got r.at_) ≤ r.fd
      · rw [if_pos (.inr h2)]; exact kPlainE2 hm ft hc rr W z a b (by simpa using h1) h2
      · rw [if_neg (fun h => h.elim h1 h2)]
        cases hk : firstK (r.at_ + 1 + r.fd) r ⟨shadesM e.md, false, false, e.mr⟩ with
        | none => exact kPlain0 hm ft hc rr W z a b (by simpa using h1) (by omega) ok.1 ok.2 hk
        | some k => exact kPlain1 hm ft hc rr W z a b (by simpa using h1) (by omega) ok.1 ok.2 hk
/-- a step of a machine, whichever it is -/
theorem cState {x : Sx} {v : Value} {T : TypeId} (A : At 132 w L s p T (x.cells v)) (hB : T ∉ BTs) (R : RepO w x.k v) (ok : x.Ok) (ft : s.Fit) (hc : s.c < 1000000) (rr : s.Rng) :
    Calls Tryz.prog 160 #[pt p, pt L.b] w fun e w' => e = .returned (.bool (x.next s).done) ∧ ∃ v' L', At 132 w' L' (x.mem s) p T ((x.next s).cells v') ∧ Went w L p w' L' ∧ RepO w' (x.next s).k v' := by
  obtain ⟨k, hit, o⟩ := x
  cases k with
  | none =>
    obtain rfl : v = .nilFunc := R
    refine (cState0 A).mono ?_
    rintro e w' ⟨rfl, rfl⟩
    exact ⟨rfl, .nilFunc, L, A, Went.refl _ _ _, rfl⟩
  | some k =>
    obtain ⟨n, cs, rfl, hen, hcall⟩ := cK A.mem ft hc rr A.wid A.zero.1 (show Rep w k v from R) (ok k rfl)
    cases hk : (k.next s).k with
    | none => exact cState1 A hB hk hen hcall
    | some k' => exact cState2 A hB hk hen hcall
end
end Go.Proofs.YtpcoldpphihfmaaGreatDoor

namespace Go.Proofs.YtpcoldpphihfmaaGreatDoor
set_option linter.unusedVariables false
set_option maxRecDepth 100000
open Go.ChangeShapes Go.WideShapes Go.RowKit
section
variable {w : World} {L : Loc} {s : St} {p : Nat}
theorem cDStep {x : Sx} {v : Value} (A : At 132 w L s p 112 (x.cells v)) (R : RepO w x.k v) (ok : x.Ok) (ft : s.Fit) (hc : s.c < 1000000) (rr : s.Rng) :
    Calls Tryz.prog 163 #[pt p, pt L.b] w fun e w' => e = .returned (.bool (x.next s).done) ∧ ∃ v' L', At 132 w' L' (x.mem s) p 112 ((x.next s).cells v') ∧ Went w L p w' L' ∧ RepO w' (x.next s).k v' := by
  obtain ⟨d, hd⟩ : ∃ d, (x.next s).done = d := ⟨_, rfl⟩
  rw [hd]
  go_enter Tryz.func163, Tryz.ntmps163
  go_wp2_with (go_at_call 160; refine (cState A (by decide) R ok ft hc rr).mono ?_; rintro e w1 ⟨rfl, H1⟩; rw [hd])
  go_ret
  exact ⟨rfl, H1⟩
theorem cPStep {x : Sx} {v : Value} (A : At 132 w L s p 111 (x.cells v)) (R : RepO w x.k v) (ok : x.Ok) (ft : s.Fit) (hc : s.c < 1000000) (rr : s.Rng) :
    Calls Tryz.prog 159 #[pt p, pt L.b] w fun e w' => e = .returned (.bool (x.next s).done) ∧ ∃ v' L', At 132 w' L' (x.mem s) p 111 ((x.next s).cells v') ∧ Went w L p w' L' ∧ RepO w' (x.next s).k v' := by
  obtain ⟨d, hd⟩ : ∃ d, (x.next s).done = d := ⟨_, rfl⟩
  rw [hd]
  go_enter Tryz.func159, Tryz.ntmps159
  go_wp2_with (go_at_call 160; refine (cState A (by decide) R ok ft hc rr).mono ?_; rintro e w1 ⟨rfl, H1⟩; rw [hd])
  go_ret
  exact ⟨rfl, H1⟩
end
/-- a machine of the law's own -/
structure Mx (w0 w : World) (p : Nat) (T : TypeId) (x : Sx) : Prop where
  at_ : ∃ v, Blk w0 w p T (x.cells v) ∧ RepO w x.k v
  kind : T ∉ BTs
  ok : x.Ok
section
variable {w0 w w' : World} {b p q : Nat} {s : St} {N : Nat} {T T' : TypeId} {cs : Array Value} {F : List Nat} {x : Sx}
theorem Mx.oth (h : Mx w0 w p T x) (o : Oth F w w') (hp : p ∉ F) (hF : ∀ q ∈ F, ∃ cs T fz, w.heap[q]? = some (.cells cs T fz) ∧ T ∉ BTs) : Mx w0 w' p T x := by
  obtain ⟨⟨v, B, R⟩, k, ok⟩ := h
  exact ⟨⟨v, B.oth o hp, R.oth o hF⟩, k, ok⟩
theorem Mx.oth1 (h : Mx w0 w p T x) (o : Oth [q] w w') (hq : Blk w0 w q T' cs) (hT : T' ∉ BTs) (hp : p ≠ q) : Mx w0 w' p T x := h.oth o (by simpa using hp) fun k hk => by simp at hk; subst hk; exact ⟨_, _, _, hq.at_, hT⟩
theorem Mx.oth0 (h : Mx w0 w p T x) (o : Oth [] w w') : Mx w0 w' p T x := h.oth o (by simp) (by simp)
theorem Mx.below (h : Mx w0 w p T x) (hb : Below w.heap.size w w') : Mx w0 w' p T x := h.oth0 (Oth.below hb)
theorem Mx.blk (h : Mx w0 w p T x) : ∃ v, Blk w0 w p T (x.cells v) := by obtain ⟨⟨v, B, R⟩, k, ok⟩ := h; exact ⟨v, B⟩
theorem Mx.lt (h : Mx w0 w p T x) : p < w.heap.size := by obtain ⟨v, B⟩ := h.blk; exact B.lt
theorem Mx.ne {x' : Sx} (h : Mx w0 w p T x) (h' : Mx w0 w q T' x') (hT : T ≠ T') : p ≠ q := by
  obtain ⟨v, B⟩ := h.blk
  obtain ⟨v', B'⟩ := h'.blk
  exact B.ne B' hT
theorem MadeX.mx {p : Nat} (M : MadeX w w' p T x) (hs : w0.heap.size ≤ w.heap.size) (hM : T ∉ MTs) (hB : T ∉ BTs) (ok : x.Ok) : Mx w0 w' p T x := by
  obtain ⟨v, e, R⟩ := M.blk
  exact ⟨⟨v, ⟨e, Nat.le_trans hs M.new, hM⟩, R⟩, hB, ok⟩
/-- one of them steps -/
theorem hStep {f : Nat} (h : Hand w0 w b s N) (m : Mx w0 w p T x) (hN : N < 1000000)
    (hc : ∀ {L : Loc} {v : Value}, At 132 w L s p T (x.cells v) → RepO w x.k v → x.Ok → s.Fit → s.c < 1000000 → s.Rng → Calls Tryz.prog f #[pt p, pt L.b] w fun e w' => e = .returned (.bool (x.next s).done) ∧ ∃ v' L', At 132 w' L' (x.mem s) p T ((x.next s).cells v') ∧ Went w L p w' L' ∧ RepO w' (x.next s).k v') :
    Calls Tryz.prog f #[pt p, pt b] w fun e w' => e = .returned (.bool (x.next s).done) ∧ Hand w0 w' b (x.mem s) (N + 1) ∧ Mx w0 w' p T (x.next s) ∧ Oth [p] w w' := by
  have hc' : s.c < 1000000 := by have := h.top; omega
  have ht := h.top
  have f := h.fit
  have r := h.rng
  obtain ⟨⟨v, B, R⟩, kd, ok⟩ := m
  obtain ⟨L, rfl, A, k⟩ := h.went B
  refine (hc A R ok f hc' r).mono ?_
  rintro e w' ⟨rfl, v', L', A', g, R'⟩
  have := Sx.cnt (s := s) ok
  obtain ⟨H1, B1, O1⟩ := k A' g (Sx.fit ok f hc') (Sx.rng ok r) (show _ ≤ ((N + 1 : Nat) : Int) by omega)
  exact ⟨rfl, H1, ⟨⟨v', B1, R'⟩, kd, ok.next r⟩, O1⟩
theorem hDStep (h : Hand w0 w b s N) (m : Mx w0 w p 112 x) (hN : N < 1000000) :
    Calls Tryz.prog 163 #[pt p, pt b] w fun e w' => e = .returned (.bool (x.next s).done) ∧ Hand w0 w' b (x.mem s) (N + 1) ∧ Mx w0 w' p 112 (x.next s) ∧ Oth [p] w w' := hStep h m hN fun A R ok ft hc rr => cDStep A R ok ft hc rr
theorem hPStep (h : Hand w0 w b s N) (m : Mx w0 w p 111 x) (hN : N < 1000000) :
    Calls Tryz.prog 159 #[pt p, pt b] w fun e w' => e = .returned (.bool (x.next s).done) ∧ Hand w0 w' b (x.mem s) (N + 1) ∧ Mx w0 w' p 111 (x.next s) ∧ Oth [p] w w' := hStep h m hN fun A R ok ft hc rr => cPStep A R ok ft hc rr
def Ou.val (o : Ou) : Value := .agg #[.int .i64 o.c, .int .i64 o.v.k, .int .i64 o.v.n, .bool o.y]
theorem cDHit {v : Value} (B : Blk w0 w p 112 (x.cells v)) : Calls Tryz.prog 161 #[pt p] w fun e w' => e = .returned (.bool x.hit) ∧ w' = w := by
  have c1 : w.cell? ⟨p, 1, none⟩ = some (.bool x.hit) := B.cell 1
  go_enter Tryz.func161, Tryz.ntmps161
  go_wp2
  go_ret
  exact ⟨rfl, rfl⟩
theorem cPHit {v : Value} (B : Blk w0 w p 111 (x.cells v)) : Calls Tryz.prog 157 #[pt p] w fun e w' => e = .returned (.bool x.hit) ∧ w' = w := by
  have c1 : w.cell? ⟨p, 1, none⟩ = some (.bool x.hit) := B.cell 1
  go_enter Tryz.func157, Tryz.ntmps157
  go_wp2
  go_ret
  exact ⟨rfl, rfl⟩
theorem cDResult {v : Value} (B : Blk w0 w p 112 (x.cells v)) : Calls Tryz.prog 162 #[pt p] w fun e w' => e = .returned x.o.val ∧ Below w.heap.size w w' := by
  have c2 : w.cell? ⟨p, 2, none⟩ = some (.int .i64 x.o.c) := B.cell 2
  have c3 : w.cell? ⟨p, 3, none⟩ = some (.int .i64 x.o.v.k) := B.cell 3
  have c4 : w.cell? ⟨p, 4, none⟩ = some (.int .i64 x.o.v.n) := B.cell 4
  have c5 : w.cell? ⟨p, 5, none⟩ = some (.bool x.o.y) := B.cell 5
  have l := B.lt
  go_enter Tryz.func162, Tryz.ntmps162
  go_wp2
  exact bodyPost_ret (v := x.o.val) (by simp [results, Tryz.results162, go_sem, Ou.val]) rfl ⟨rfl, by go_grown⟩
theorem cPResult {v : Value} (B : Blk w0 w p 111 (x.cells v)) : Calls Tryz.prog 158 #[pt p] w fun e w' => e = .returned x.o.val ∧ Below w.heap.size w w' := by
  have c2 : w.cell? ⟨p, 2, none⟩ = some (.int .i64 x.o.c) := B.cell 2
  have c3 : w.cell? ⟨p, 3, none⟩ = some (.int .i64 x.o.v.k) := B.cell 3
  have c4 : w.cell? ⟨p, 4, none⟩ = some (.int .i64 x.o.v.n) := B.cell 4
  have c5 : w.cell? ⟨p, 5, none⟩ = some (.bool x.o.y) := B.cell 5
  have l := B.lt
  go_enter Tryz.func158, Tryz.ntmps158
  go_wp2
  exact bodyPost_ret (v := x.o.val) (by simp [results, Tryz.results158, go_sem, Ou.val]) rfl ⟨rfl, by go_grown⟩
end
end Go.Proofs.YtpcoldpphihfmaaGreatDoor
