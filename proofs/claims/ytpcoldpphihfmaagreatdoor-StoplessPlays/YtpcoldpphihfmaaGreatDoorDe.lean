import Derived.Test.YtpcoldpphihfmaaGreatDoorDc
import Derived.Deep.Cut
namespace Go.Proofs.YtpcoldpphihfmaaGreatDoor
set_option linter.unusedVariables false
set_option maxRecDepth 100000
open Go.ChangeShapes Go.WideShapes Go.RowKit
open H.Plain (hw pS pC pN pM pG pT pL mv)
theorem cCompareS (a b : Int) (z : Nat) (u : Value) (k : K) (w : World) (bz : Bx w z 107 #[u]) (R : Rep w k u) :
  Calls Tryz.prog 120 #[.int .i64 a, .int .i64 b, .func (.func 121) #[] #[pt z]] w fun e w' => ∃ v, e = .returned v ∧ Rep w' (.compS a b k) v ∧ Below w.heap.size w w' := by
 go_enter Tryz.func120, Tryz.ntmps120
 go_wp2
 go_ret
 exact ⟨_, rfl, ⟨_, _, _, _, _, rfl, ⟨by (first | exact newAt (by simp) | exact oldAt (newAt (by simp)) | exact oldAt (oldAt (newAt (by simp))) | exact oldAt (oldAt (oldAt (newAt (by simp)))) | exact oldAt (oldAt (oldAt (oldAt (newAt (by simp)))))), by decide, fun h => absurd h (by decide)⟩, ⟨by (first | exact newAt (by simp) | exact oldAt (newAt (by simp)) | exact oldAt (oldAt (newAt (by simp))) | exact oldAt (oldAt (oldAt (newAt (by simp)))) | exact oldAt (oldAt (oldAt (oldAt (newAt (by simp)))))), by decide, fun h => absurd h (by decide)⟩, ⟨by (first | exact newAt (by simp) | exact oldAt (newAt (by simp)) | exact oldAt (oldAt (newAt (by simp))) | exact oldAt (oldAt (oldAt (newAt (by simp)))) | exact oldAt (oldAt (oldAt (oldAt (newAt (by simp)))))), by decide, fun h => absurd h (by decide)⟩, bz.below (by go_grown), R.below (by go_grown)⟩, by go_grown⟩
theorem cThenT (z n : Nat) (cs : Array Value) (w : World) (bz : Bx w z 107 #[.func (.func n) #[] cs]) :
  Calls Tryz.prog 121 #[.bool true, pt z] w fun e w' => e = .returned (.agg #[.func (.func n) #[] cs, .bool false, .int .i64 0, .int .i64 0, .int .i64 0, .bool false]) ∧ Below w.heap.size w w' := by
 have cz : w.cell? ⟨z, 0, none⟩ = some (.func (.func n) #[] cs) := bz.cell 0
 have lz := bz.lt
 go_enter Tryz.func121, Tryz.ntmps121
 go_wp2
 exact bodyPost_ret (v := .agg #[.func (.func n) #[] cs, .bool false, .int .i64 0, .int .i64 0, .int .i64 0, .bool false]) (by simp [results, Tryz.results121, go_sem]) rfl ⟨rfl, by go_grown⟩
theorem cThenF (z : Nat) (w : World) :
  Calls Tryz.prog 121 #[.bool false, pt z] w fun e w' => e = .returned (.agg #[.nilFunc, .bool false, .int .i64 0, .int .i64 0, .int .i64 0, .bool false]) ∧ Below w.heap.size w w' := by
 go_enter Tryz.func121, Tryz.ntmps121
 go_wp2
 exact bodyPost_ret (v := .agg #[.nilFunc, .bool false, .int .i64 0, .int .i64 0, .int .i64 0, .bool false]) (by simp [results, Tryz.results121, go_sem]) rfl ⟨rfl, by go_grown⟩
theorem cShades (m : Int) (w : World) :
  Calls Tryz.prog 71 #[.int .i64 m] w fun e w' => e = .returned (.bool (shadesM m)) ∧ w' = w := by
 unfold shadesM
 rcases h1 : (m == 1) with _ | _
 ·rcases h2 : (m == 2) with _ | _
  ·rcases h3 : (m == 3) with _ | _
   ·go_enter Tryz.func71, Tryz.ntmps71
    go_wp2
    go_ret
    exact ⟨rfl, rfl⟩
   ·go_enter Tryz.func71, Tryz.ntmps71
    go_wp2
    go_ret
    exact ⟨rfl, rfl⟩
  ·go_enter Tryz.func71, Tryz.ntmps71
   go_wp2
   go_ret
   exact ⟨rfl, rfl⟩
 ·go_enter Tryz.func71, Tryz.ntmps71
  go_wp2
  go_ret
  exact ⟨rfl, rfl⟩
theorem cFirstStep (f : Int) (r : Rq) (h : Hw) (w : World) :
  Calls Tryz.prog 94 #[.int .i64 f, .agg #[.int .i64 r.op, .int .i64 r.at_, .int .i64 r.fd, .int .i64 r.x.k, .int .i64 r.x.n, .int .i64 r.y.k, .int .i64 r.y.n], .agg #[.bool h.sh, .bool h.ca, .bool h.fx, .int .i64 h.mr]] w fun e w' => ∃ v, e = .returned v ∧ RepO w' (firstK f r h) v ∧ Below w.heap.size w w' := by
 unfold firstK
 by_cases h1 : r.op = 1
 ·rw [if_pos h1]
  have q1 : (r.op == 1) = true := by simp [h1]
  clear h1
  go_enter Tryz.func94, Tryz.ntmps94
  go_wp2_with (go_at_call 108; refine (cRead f h.fx _).mono ?_; rintro e w1 ⟨v, rfl, R, hb⟩)
  go_ret
  exact ⟨v, rfl, R, bel_trans (by go_grown) hb⟩
 ·rw [if_neg h1]
  have q1 : (r.op == 1) = false := by simpa using h1
  clear h1
  by_cases h2 : r.op = 2
  ·rw [if_pos h2]
   have q2 : (r.op == 2) = true := by simp [h2]
   clear h2
   obtain ⟨kk, hkk⟩ : ∃ kk : K, (if h.sh then K.load f r.y h else K.store f r.y) = kk := ⟨_, rfl⟩
   rw [hkk]
   go_enter Tryz.func94, Tryz.ntmps94
   go_wp2_with (go_at_call 109; refine (cWrite f r.y h _).mono ?_; rintro e w1 ⟨v, rfl, R, hb⟩; rw [hkk] at R; clear hkk)
   go_ret
   exact ⟨v, rfl, R, bel_trans (by go_grown) hb⟩
  ·rw [if_neg h2]
   have q2 : (r.op == 2) = false := by simpa using h2
   clear h2
   by_cases h3 : r.op = 3
   ·rw [if_pos h3]
    have q3 : (r.op == 3) = true := by simp [h3]
    clear h3
    go_enter Tryz.func94, Tryz.ntmps94
    go_wp2_with (go_at_call 110; refine (cSwapK f r h _).mono ?_; rintro e w1 ⟨v, rfl, R, hb⟩)
    go_ret
    exact ⟨v, rfl, R, bel_trans (by go_grown) hb⟩
   ·rw [if_neg h3]
    have q3 : (r.op == 3) = false := by simpa using h3
    clear h3
    go_enter Tryz.func94, Tryz.ntmps94
    go_wp2
    go_ret
    exact ⟨_, rfl, rfl, by go_grown⟩
structure MadeX (w w' : World) (p : Nat) (T : TypeId) (x : Sx) : Prop where
 blk : ∃ v, w'.heap[p]? = some (.cells (x.cells v) T (0, 0)) ∧ RepO w' x.k v
 bel : Below w.heap.size w w'
 new : w.heap.size ≤ p
theorem RepO.fn {w : World} {o : Option K} {v : Value} (h : RepO w o v) : v = .nilFunc ∨ ∃ n cs, v = .func (.func n) #[] cs := by
 cases o with
 | none => exact .inl h
 | some k => exact .inr (Rep.fn h)
theorem cNewDirect (base : Int) (r : Rq) (h : Hw) (w : World) (h0 : 0 ≤ base) (h1 : base < 4096) (h2 : 0 ≤ r.fd) (h3 : r.fd < 4096) :
  Calls Tryz.prog 70 #[.int .i64 base, .agg #[.int .i64 r.op, .int .i64 r.at_, .int .i64 r.fd, .int .i64 r.x.k, .int .i64 r.x.n, .int .i64 r.y.k, .int .i64 r.y.n], .agg #[.bool h.sh, .bool h.ca, .bool h.fx, .int .i64 h.mr]] w fun e w' => ∃ p, e = .returned (pt p) ∧ MadeX w w' p 112 (Sx.new (base + 1 + r.fd) r h) := by
 obtain ⟨a, ha⟩ : ∃ a, base + 1 + r.fd = a := ⟨_, rfl⟩
 have e1 : IntKind.i64.wrap (base + 1) = base + 1 := by rw [IntKind.wrap_i64]; omega
 have e2 : IntKind.i64.wrap (base + 1 + r.fd) = a := by rw [IntKind.wrap_i64]; omega
 unfold Sx.new
 rw [ha]
 cases hk : firstK a r h with
 | none =>
  go_enter Tryz.func70, Tryz.ntmps70
  go_wp2_with (go_at_call 94; refine (cFirstStep a r h _).mono ?_; rintro e w1 ⟨v, rfl, R, hb⟩; rw [hk] at R; have hv : v = .nilFunc := R; clear R; subst hv)
  go_ret
  exact ⟨_, rfl, ⟨_, heap_alloc_new _ _, rfl⟩, (bel_trans (by go_grown) hb).alloc (by have := hb.size; simp at this; omega) _, by have := hb.size; simp at this; omega⟩
 | some k =>
  go_enter Tryz.func70, Tryz.ntmps70
  go_wp2_with (go_at_call 94; refine (cFirstStep a r h _).mono ?_; rintro e w1 ⟨v, rfl, R, hb⟩; rw [hk] at R; obtain ⟨n, cs, hv⟩ := Rep.fn R; rw [hv] at R ⊢; clear hv)
  go_ret
  exact ⟨_, rfl, ⟨_, heap_alloc_new _ _, Rep.below R ((Below.refl _ _).alloc (Nat.le_refl _) _)⟩, (bel_trans (by go_grown) hb).alloc (by have := hb.size; simp at this; omega) _, by have := hb.size; simp at this; omega⟩
theorem cNewPlain (r : Rq) (e : En) (w : World) :
  Calls Tryz.prog 46 #[.agg #[.int .i64 r.op, .int .i64 r.at_, .int .i64 r.fd, .int .i64 r.x.k, .int .i64 r.x.n, .int .i64 r.y.k, .int .i64 r.y.n], .agg #[.int .i64 e.md, .int .i64 e.mr, .int .i64 e.al]] w fun e' w' => ∃ p, e' = .returned (pt p) ∧ MadeX w w' p 111 (Sx.plain r e) := by
 unfold Sx.plain
 by_cases h : r.at_ = 0
 ·rw [if_pos h]
  have q : (r.at_ == 0) = true := by simp [h]
  go_enter Tryz.func46, Tryz.ntmps46
  go_wp2
  go_ret
  exact ⟨_, rfl, ⟨_, by first | exact newAt (by simp) | exact newAt rfl, rfl⟩, by go_grown, by first | omega | (simp; omega) | simp⟩
 ·rw [if_neg h]
  have q : (r.at_ == 0) = false := by simpa using h
  go_enter Tryz.func46, Tryz.ntmps46
  go_wp2
  go_ret
  exact ⟨_, rfl, ⟨_, by first | exact newAt (by simp) | exact newAt rfl, ⟨_, _, rfl, ⟨by (first | exact newAt (by simp) | exact oldAt (newAt (by simp)) | exact oldAt (oldAt (newAt (by simp))) | exact oldAt (oldAt (oldAt (newAt (by simp)))) | exact oldAt (oldAt (oldAt (oldAt (newAt (by simp)))))), by decide, fun h => absurd h (by decide)⟩, ⟨by (first | exact newAt (by simp) | exact oldAt (newAt (by simp)) | exact oldAt (oldAt (newAt (by simp))) | exact oldAt (oldAt (oldAt (newAt (by simp)))) | exact oldAt (oldAt (oldAt (oldAt (newAt (by simp)))))), by decide, fun h => absurd h (by decide)⟩⟩⟩, by go_grown, by first | omega | (simp; omega) | simp⟩
end Go.Proofs.YtpcoldpphihfmaaGreatDoor
