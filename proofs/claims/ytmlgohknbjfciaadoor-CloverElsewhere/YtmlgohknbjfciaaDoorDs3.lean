/-
  The machines of layer 12 in a law's hand.
-/
import Derived.Test.YtmlgohknbjfciaaDoorDs
namespace Go.Proofs.YtmlgohknbjfciaaDoor
set_option linter.unusedVariables false
set_option maxRecDepth 100000
open Go.ChangeShapes Go.WideShapes Go.RowKit
section
variable {w : World} {L : Loc} {s : St} {p : Nat}
theorem cDStep {x : Sx} {v : Value} (A : At 98 w L s p 86 (x.cells v)) (R : RepO w x.k v) (ok : x.Ok) (ft : s.Fit) (hc : s.c < 1000000) (rr : s.Rng) :
    Calls Tryd.prog 68 #[pt p, pt L.b] w fun e w' => e = .returned (.bool (x.next s).done) ∧ ∃ v' L', At 98 w' L' (x.mem s) p 86 ((x.next s).cells v') ∧ Went w L p w' L' ∧ RepO w' (x.next s).k v' := by
  obtain ⟨d, hd⟩ : ∃ d, (x.next s).done = d := ⟨_, rfl⟩
  rw [hd]
  go_enter Tryd.func68, Tryd.ntmps68
  go_wp2_with (go_at_call 52; refine (cState A (by decide) R ok ft hc rr).mono ?_; rintro e w1 ⟨rfl, H1⟩; rw [hd])
  go_ret
  exact ⟨rfl, H1⟩
theorem cPStep {x : Sx} {v : Value} (A : At 98 w L s p 85 (x.cells v)) (R : RepO w x.k v) (ok : x.Ok) (ft : s.Fit) (hc : s.c < 1000000) (rr : s.Rng) :
    Calls Tryd.prog 38 #[pt p, pt L.b] w fun e w' => e = .returned (.bool (x.next s).done) ∧ ∃ v' L', At 98 w' L' (x.mem s) p 85 ((x.next s).cells v') ∧ Went w L p w' L' ∧ RepO w' (x.next s).k v' := by
  obtain ⟨d, hd⟩ : ∃ d, (x.next s).done = d := ⟨_, rfl⟩
  rw [hd]
  go_enter Tryd.func38, Tryd.ntmps38
  go_wp2_with (go_at_call 52; refine (cState A (by decide) R ok ft hc rr).mono ?_; rintro e w1 ⟨rfl, H1⟩; rw [hd])
  go_ret
  exact ⟨rfl, H1⟩
end
/-- a machine of the law's own -/
structure Mx (w0 w : World) (p : Nat) (T : TypeId) (x : Sx) : Prop where
  at_ : ∃ v, Blk w0 w p T (x.cells v) ∧ RepO w x.k v
  kind : T ∉ BTs
  ok : x.Ok
section
variable {w0 w w' : World} {b p q : Nat} {s : St} {N : Nat} {T T' : TypeId} {cs : Array Value} {F : List Nat} {x : Sx}
theorem Mx.oth (h : Mx w0 w p T x) (o : Oth F w w') (hp : p ∉ F) (hF : ∀ q ∈ F, ∃ cs T fz, w.heap[q]? = some (.cells cs T fz) ∧ T ∉ BTs) : Mx w0 w' p T x := by
  obtain ⟨⟨v, B, R⟩, k, ok⟩ := h
  exact ⟨⟨v, B.oth o hp, R.oth o hF⟩, k, ok⟩
theorem Mx.oth1 (h : Mx w0 w p T x) (o : Oth [q] w w') (hq : Blk w0 w q T' cs) (hT : T' ∉ BTs) (hp : p ≠ q) : Mx w0 w' p T x := h.oth o (by simpa using hp) fun k hk => by simp at hk; subst hk; exact ⟨_, _, _, hq.at_, hT⟩
theorem Mx.oth0 (h : Mx w0 w p T x) (o : Oth [] w w') : Mx w0 w' p T x := h.oth o (by simp) (by simp)
theorem Mx.below (h : Mx w0 w p T x) (hb : Below w.heap.size w w') : Mx w0 w' p T x := h.oth0 (Oth.below hb)
theorem Mx.blk (h : Mx w0 w p T x) : ∃ v, Blk w0 w p T (x.cells v) := by obtain ⟨⟨v, B, R⟩, k, ok⟩ := h; exact ⟨v, B⟩
theorem Mx.lt (h : Mx w0 w p T x) : p < w.heap.size := by obtain ⟨v, B⟩ := h.blk; exact B.lt
theorem Mx.ne {x' : Sx} (h : Mx w0 w p T x) (h' : Mx w0 w q T' x') (hT : T ≠ T') : p ≠ q := by
  obtain ⟨v, B⟩ := h.blk
  obtain ⟨v', B'⟩ := h'.blk
  exact B.ne B' hT
theorem MadeX.mx {p : Nat} (M : MadeX w w' p T x) (hs : w0.heap.size ≤ w.heap.size) (hM : T ∉ MTs) (hB : T ∉ BTs) (ok : x.Ok) : Mx w0 w' p T x := by
  obtain ⟨v, e, R⟩ := M.blk
  exact ⟨⟨v, ⟨e, Nat.le_trans hs M.new, hM⟩, R⟩, hB, ok⟩
/-- one of them steps -/
theorem hStep {f : Nat} (h : Hand w0 w b s N) (m : Mx w0 w p T x) (hN : N < 1000000)
    (hc : ∀ {L : Loc} {v : Value}, At 98 w L s p T (x.cells v) → RepO w x.k v → x.Ok → s.Fit → s.c < 1000000 → s.Rng → Calls Tryd.prog f #[pt p, pt L.b] w fun e w' => e = .returned (.bool (x.next s).done) ∧ ∃ v' L', At 98 w' L' (x.mem s) p T ((x.next s).cells v') ∧ Went w L p w' L' ∧ RepO w' (x.next s).k v') :
    Calls Tryd.prog f #[pt p, pt b] w fun e w' => e = .returned (.bool (x.next s).done) ∧ Hand w0 w' b (x.mem s) (N + 1) ∧ Mx w0 w' p T (x.next s) ∧ Oth [p] w w' := by
  have hc' : s.c < 1000000 := by have := h.top; omega
  have ht := h.top
  have f := h.fit
  have r := h.rng
  obtain ⟨⟨v, B, R⟩, kd, ok⟩ := m
  obtain ⟨L, rfl, A, k⟩ := h.went B
  refine (hc A R ok f hc' r).mono ?_
  rintro e w' ⟨rfl, v', L', A', g, R'⟩
  have := Sx.cnt (s := s) ok
  obtain ⟨H1, B1, O1⟩ := k A' g (Sx.fit ok f hc') (Sx.rng ok r) (show _ ≤ ((N + 1 : Nat) : Int) by omega)
  exact ⟨rfl, H1, ⟨⟨v', B1, R'⟩, kd, ok.next r⟩, O1⟩
theorem hDStep (h : Hand w0 w b s N) (m : Mx w0 w p 86 x) (hN : N < 1000000) :
    Calls Tryd.prog 68 #[pt p, pt b] w fun e w' => e = .returned (.bool (x.next s).done) ∧ Hand w0 w' b (x.mem s) (N + 1) ∧ Mx w0 w' p 86 (x.next s) ∧ Oth [p] w w' := hStep h m hN fun A R ok ft hc rr => cDStep A R ok ft hc rr
theorem hPStep (h : Hand w0 w b s N) (m : Mx w0 w p 85 x) (hN : N < 1000000) :
    Calls Tryd.prog 38 #[pt p, pt b] w fun e w' => e = .returned (.bool (x.next s).done) ∧ Hand w0 w' b (x.mem s) (N + 1) ∧ Mx w0 w' p 85 (x.next s) ∧ Oth [p] w w' := hStep h m hN fun A R ok ft hc rr => cPStep A R ok ft hc rr
def Ou.val (o : Ou) : Value := .agg #[.int .i64 o.c, .int .i64 o.v.k, .int .i64 o.v.n, .bool o.y]
theorem cDHit {v : Value} (B : Blk w0 w p 86 (x.cells v)) : Calls Tryd.prog 70 #[pt p] w fun e w' => e = .returned (.bool x.hit) ∧ w' = w := by
  have c1 : w.cell? ⟨p, 1, none⟩ = some (.bool x.hit) := B.cell 1
  go_enter Tryd.func70, Tryd.ntmps70
  go_wp2
  go_ret
  exact ⟨rfl, rfl⟩
theorem cPHit {v : Value} (B : Blk w0 w p 85 (x.cells v)) : Calls Tryd.prog 41 #[pt p] w fun e w' => e = .returned (.bool x.hit) ∧ w' = w := by
  have c1 : w.cell? ⟨p, 1, none⟩ = some (.bool x.hit) := B.cell 1
  go_enter Tryd.func41, Tryd.ntmps41
  go_wp2
  go_ret
  exact ⟨rfl, rfl⟩
theorem cDResult {v : Value} (B : Blk w0 w p 86 (x.cells v)) : Calls Tryd.prog 69 #[pt p] w fun e w' => e = .returned x.o.val ∧ Below w.heap.size w w' := by
  have c2 : w.cell? ⟨p, 2, none⟩ = some (.int .i64 x.o.c) := B.cell 2
  have c3 : w.cell? ⟨p, 3, none⟩ = some (.int .i64 x.o.v.k) := B.cell 3
  have c4 : w.cell? ⟨p, 4, none⟩ = some (.int .i64 x.o.v.n) := B.cell 4
  have c5 : w.cell? ⟨p, 5, none⟩ = some (.bool x.o.y) := B.cell 5
  have l := B.lt
  go_enter Tryd.func69, Tryd.ntmps69
  go_wp2
  exact bodyPost_ret (v := x.o.val) (by simp [results, Tryd.results69, go_sem, Ou.val]) rfl ⟨rfl, by go_grown⟩
theorem cPResult {v : Value} (B : Blk w0 w p 85 (x.cells v)) : Calls Tryd.prog 40 #[pt p] w fun e w' => e = .returned x.o.val ∧ Below w.heap.size w w' := by
  have c2 : w.cell? ⟨p, 2, none⟩ = some (.int .i64 x.o.c) := B.cell 2
  have c3 : w.cell? ⟨p, 3, none⟩ = some (.int .i64 x.o.v.k) := B.cell 3
  have c4 : w.cell? ⟨p, 4, none⟩ = some (.int .i64 x.o.v.n) := B.cell 4
  have c5 : w.cell? ⟨p, 5, none⟩ = some (.bool x.o.y) := B.cell 5
  have l := B.lt
  go_enter Tryd.func40, Tryd.ntmps40
  go_wp2
  exact bodyPost_ret (v := x.o.val) (by simp [results, Tryd.results40, go_sem, Ou.val]) rfl ⟨rfl, by go_grown⟩
end
end Go.Proofs.YtmlgohknbjfciaaDoor
