/-
  The reference's machines of layer 12, plainly; what making them comes to.
-/
import Derived.Test.YtgakmpfmckikgaaDoorDe
namespace Go.Proofs.YtgakmpfmckikgaaDoor
set_option linter.unusedVariables false
set_option maxRecDepth 100000
open Go.ChangeShapes Go.WideShapes Go.RowKit

/-- the reference's Direct: x is what its pointer to a Shade is -/
structure RD where
  f : Int
  r : Rq
  h : Hw
  pc : Int
  w : Int
  a : Int
  x : Value
  sh : Bool
  o : Ou
def RD.cells (d : RD) : Array Value := #[.int .i64 d.f, .int .i64 d.r.op, .int .i64 d.r.at_, .int .i64 d.r.fd, .int .i64 d.r.x.k, .int .i64 d.r.x.n, .int .i64 d.r.y.k, .int .i64 d.r.y.n, .bool d.h.sh, .bool d.h.ca, .bool d.h.fx, .int .i64 d.h.mr, .int .i64 d.pc, .int .u64 d.w, .int .i64 d.a, d.x, .bool d.sh, .int .i64 d.o.c, .int .i64 d.o.v.k, .int .i64 d.o.v.n, .bool d.o.y]
structure RP where
  r : Rq
  e : En
  pc : Int
  x : Value
  sh : Bool
  o : Ou
def RP.cells (d : RP) : Array Value := #[.int .i64 d.r.op, .int .i64 d.r.at_, .int .i64 d.r.fd, .int .i64 d.r.x.k, .int .i64 d.r.x.n, .int .i64 d.r.y.k, .int .i64 d.r.y.n, .int .i64 d.e.md, .int .i64 d.e.mr, .int .i64 d.e.al, .int .i64 d.pc, d.x, .bool d.sh, .int .i64 d.o.c, .int .i64 d.o.v.k, .int .i64 d.o.v.n, .bool d.o.y]
structure RS where
  a : Int
  b : Int
  c : Int
  pc : Int
  y : Bool
def RS.cells (d : RS) : Array Value := #[.int .i64 d.a, .int .i64 d.b, .int .i64 d.c, .int .i64 d.pc, .bool d.y]
def pcD (r : Rq) (h : Hw) : Int := if r.op = 2 ∧ h.sh = false then 23 else 10 * r.op
def RD.new (f : Int) (r : Rq) (h : Hw) : RD := ⟨f, r, h, pcD r h, 0, 0, .pointer none, false, Ou.zero⟩
def RP.new (r : Rq) (e : En) : RP := if r.at_ = 0 then ⟨r, e, 0, .pointer none, false, ⟨14, Vl.zero, false⟩⟩ else ⟨r, e, 1, .pointer none, false, Ou.zero⟩
def RS.new (a b : Int) : RS := if a = b ∨ a = 0 ∨ b = 0 then ⟨0, 0, 0, 0, a == b⟩ else ⟨a, b, 0, 1, false⟩
/-- a block that was made just now -/
structure MadeB (w w' : World) (p : Nat) (T : TypeId) (cs : Array Value) : Prop where
  blk : w'.heap[p]? = some (.cells cs T (0, 0))
  bel : Below w.heap.size w w'
  new : w.heap.size ≤ p
theorem MadeB.blk' {w0 w w' : World} {p : Nat} {T : TypeId} {cs : Array Value} (M : MadeB w w' p T cs) (hs : w0.heap.size ≤ w.heap.size) (hM : T ∉ MTs) : Blk w0 w' p T cs := ⟨M.blk, Nat.le_trans hs M.new, hM⟩
set_option maxHeartbeats 1000000 in
theorem rNewDirect (base : Int) (r : Rq) (h : Hw) (w : World) (h0 : 0 ≤ base) (h1 : base < 4096) (h2 : 0 ≤ r.fd) (h3 : r.fd < 4096) (hop : r.op = 1 ∨ r.op = 2 ∨ r.op = 3) :
    Calls Tryd.prog 32 #[.int .i64 base, .agg #[.int .i64 r.op, .int .i64 r.at_, .int .i64 r.fd, .int .i64 r.x.k, .int .i64 r.x.n, .int .i64 r.y.k, .int .i64 r.y.n], .agg #[.bool h.sh, .bool h.ca, .bool h.fx, .int .i64 h.mr]] w fun e w' => ∃ p, e = .returned (pt p) ∧ MadeB w w' p 111 (RD.new (base + 1 + r.fd) r h).cells := by
  obtain ⟨a, ha⟩ : ∃ a, base + 1 + r.fd = a := ⟨_, rfl⟩
  have e1 : IntKind.i64.wrap (base + 1) = base + 1 := by rw [IntKind.wrap_i64]; omega
  have e2 : IntKind.i64.wrap (base + 1 + r.fd) = a := by rw [IntKind.wrap_i64]; omega
  have e3 : wrap64 a = a := by unfold wrap64; omega
  rw [ha]
  obtain ⟨op, at_, fd, x, y⟩ := r
  obtain ⟨sh, ca, fx, mr⟩ := h
  simp only at hop e2 h2 h3 ⊢
  rcases hop with rfl | rfl | rfl
  · go_enter Tryd.func32, Tryd.ntmps32
    go_wp2
    go_ret
    exact ⟨_, rfl, by first | exact newAt (by simp) | exact newAt rfl, by go_grown, by first | omega | simp⟩
  · cases sh with
    | false =>
      go_enter Tryd.func32, Tryd.ntmps32
      go_wp2
      go_ret
      exact ⟨_, rfl, by first | exact newAt (by simp) | exact newAt rfl, by go_grown, by first | omega | simp⟩
    | true =>
      go_enter Tryd.func32, Tryd.ntmps32
      go_wp2
      go_ret
      exact ⟨_, rfl, by first | exact newAt (by simp) | exact newAt rfl, by go_grown, by first | omega | simp⟩
  · go_enter Tryd.func32, Tryd.ntmps32
    go_wp2
    go_ret
    exact ⟨_, rfl, by first | exact newAt (by simp) | exact newAt rfl, by go_grown, by first | omega | simp⟩
set_option maxHeartbeats 1000000 in
theorem rNewPlain (r : Rq) (e : En) (w : World) :
    Calls Tryd.prog 33 #[.agg #[.int .i64 r.op, .int .i64 r.at_, .int .i64 r.fd, .int .i64 r.x.k, .int .i64 r.x.n, .int .i64 r.y.k, .int .i64 r.y.n], .agg #[.int .i64 e.md, .int .i64 e.mr, .int .i64 e.al]] w fun e' w' => ∃ p, e' = .returned (pt p) ∧ MadeB w w' p 113 (RP.new r e).cells := by
  unfold RP.new
  by_cases h : r.at_ = 0
  · rw [if_pos h]
    have q : (r.at_ == 0) = true := by simp [h]
    clear h
    go_enter Tryd.func33, Tryd.ntmps33
    go_wp2
    go_ret
    exact ⟨_, rfl, by first | exact newAt (by simp) | exact newAt rfl, by go_grown, by first | omega | simp⟩
  · rw [if_neg h]
    have q : (r.at_ == 0) = false := by simpa using h
    clear h
    go_enter Tryd.func33, Tryd.ntmps33
    go_wp2
    go_ret
    exact ⟨_, rfl, by first | exact newAt (by simp) | exact newAt rfl, by go_grown, by first | omega | simp⟩
theorem rNewSame (a b : Int) (w : World) :
    Calls Tryd.prog 34 #[.int .i64 a, .int .i64 b] w fun e w' => ∃ p, e = .returned (pt p) ∧ MadeB w w' p 115 (RS.new a b).cells := by
  unfold RS.new
  by_cases h : a = b ∨ a = 0 ∨ b = 0
  · rw [if_pos h]
    rcases q1 : (a == b) with _ | _
    · rcases q2 : (a == 0) with _ | _
      · have q3 : (b == 0) = true := by
          rcases h with h | h | h
          · simp [h] at q1
          · simp [h] at q2
          · simp [h]
        clear h
        go_enter Tryd.func34, Tryd.ntmps34
        go_wp2
        go_ret
        exact ⟨_, rfl, newAt rfl, by go_grown, Nat.le_refl _⟩
      · clear h
        go_enter Tryd.func34, Tryd.ntmps34
        go_wp2
        go_ret
        exact ⟨_, rfl, newAt rfl, by go_grown, Nat.le_refl _⟩
    · clear h
      go_enter Tryd.func34, Tryd.ntmps34
      go_wp2
      go_ret
      exact ⟨_, rfl, newAt rfl, by go_grown, Nat.le_refl _⟩
  · rw [if_neg h]
    have q1 : (a == b) = false := by simp only [beq_eq_false_iff_ne]; exact fun e => h (.inl e)
    have q2 : (a == 0) = false := by simp only [beq_eq_false_iff_ne]; exact fun e => h (.inr (.inl e))
    have q3 : (b == 0) = false := by simp only [beq_eq_false_iff_ne]; exact fun e => h (.inr (.inr e))
    clear h
    go_enter Tryd.func34, Tryd.ntmps34
    go_wp2
    go_ret
    exact ⟨_, rfl, newAt rfl, by go_grown, Nat.le_refl _⟩
end Go.Proofs.YtgakmpfmckikgaaDoor
