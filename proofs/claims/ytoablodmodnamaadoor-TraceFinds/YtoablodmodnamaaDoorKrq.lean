/-
  The reference's Poll goes on to the next root.
-/
import Derived.Test.YtoablodmodnamaaDoorKeq
import Derived.Test.YtoablodmodnamaaDoorD2q
import Derived.Deep.LoopGhost
import Derived.Deep.RegionHeld3
namespace Go.Proofs.YtoablodmodnamaaDoor
set_option linter.unusedVariables false
set_option linter.unusedSimpArgs false
set_option maxRecDepth 100000
open Go.ChangeShapes Go.WideShapes Go.RowKit
open S.Plain (t0 t1 tw nx p0 p1 p2 p3 pw)
open H.Plain (hw pS pC pN pM pG pT pL)

abbrev pt (p : Nat) : Value := .pointer (some ⟨p, 0, none⟩)
/-- the block of the reference's Poll -/
structure RB where
  U : Pl5
  th : Int
  pc : Nat
  K : Nat
  own : Ph
  q : Ph
  al : Int
  n : Nat
  l : Nat → Int
  X : Value
def RB.cells (b : RB) : Array Value := #[.int .i64 b.U.th, .int .i64 b.U.bl, .int .i64 b.U.ta, .int .i64 b.U.he, .int .i64 b.U.si, .int .i64 b.th, .int .i64 b.pc, .int .i64 b.K, .int .i64 b.own.no, .int .i64 b.own.md, .int .i64 b.own.mr, .int .i64 b.own.ls, .int .i64 b.q.no, .int .i64 b.q.md, .int .i64 b.q.mr, .int .i64 b.q.ls, .int .i64 b.al, .int .i64 b.n, .int .i64 (b.l 0), .int .i64 (b.l 1), .int .i64 (b.l 2), .int .i64 (b.l 3), .int .i64 (b.l 4), .int .i64 (b.l 5), .int .i64 (b.l 6), .int .i64 (b.l 7), b.X]
def RB.goto (b : RB) (k : Nat) : RB := ⟨b.U, b.th, k, b.K, b.own, b.q, b.al, b.n, b.l, b.X⟩
def RB.at (b : RB) (k : Nat) : RB := ⟨b.U, b.th, b.pc, k, b.own, b.q, b.al, b.n, b.l, b.X⟩
def RB.asks (b : RB) (q : Ph) : RB := ⟨b.U, b.th, b.pc, b.K, b.own, q, b.al, b.n, b.l, b.X⟩
def RB.owns (b : RB) (q : Ph) : RB := ⟨b.U, b.th, b.pc, b.K, q, b.q, b.al, b.n, b.l, b.X⟩
def RB.knows (b : RB) (a : Int) : RB := ⟨b.U, b.th, b.pc, b.K, b.own, b.q, a, b.n, b.l, b.X⟩
def RB.puts (b : RB) (i : Nat) (v : Int) : RB := ⟨b.U, b.th, b.pc, b.K, b.own, b.q, b.al, b.n, lput b.l i v, b.X⟩
def RB.has (b : RB) (X : Value) : RB := ⟨b.U, b.th, b.pc, b.K, b.own, b.q, b.al, b.n, b.l, X⟩
theorem RB.root_at (b : RB) (i : Nat) (h : i < 8) : b.cells[18 + i]? = some (.int .i64 (b.l i)) := by
  match i, h with
  | 0, _ => rfl
  | 1, _ => rfl
  | 2, _ => rfl
  | 3, _ => rfl
  | 4, _ => rfl
  | 5, _ => rfl
  | 6, _ => rfl
  | 7, _ => rfl
theorem RB.root_set (b : RB) (i : Nat) (h : i < 8) (v : Int) : b.cells.setIfInBounds (18 + i) (.int .i64 v) = (b.puts i v).cells := by
  match i, h with
  | 0, _ => rfl
  | 1, _ => rfl
  | 2, _ => rfl
  | 3, _ => rfl
  | 4, _ => rfl
  | 5, _ => rfl
  | 6, _ => rfl
  | 7, _ => rfl
/-- where its next root is -/
def Wh.At : Wh → Nat → Nat → Prop
  | .look, k, n => k = 0
  | .shade i y, k, n => k = i ∧ i < n
  | .fix i, k, n => k = i ∧ i < n
  | _, _, _ => True
structure RB.Is (b : RB) (x : PollS) : Prop where
  ack : 10 + b.th = x.ack
  th : 0 ≤ b.th ∧ b.th ≤ 1000
  own : b.own = x.own
  q : b.q = x.q
  al : b.al = x.al
  n : b.n = x.n
  l : b.l = x.l
  pc : b.pc = x.wh.pc
  K : x.wh.At b.K b.n
/-- and its Shade -/
def Foots (w0 w : World) (F : List Nat) (X : Value) : Wh → Prop
  | .shade i y => ∃ v, X = pt v ∧ F = [v] ∧ ∃ h z, Blk w0 w v 150 (y.rcells h z) ∧ y.Rf h z
  | _ => F = []
def RPm (w0 w : World) (p : Nat) (F : List Nat) (x : PollS) : Prop := ∃ b : RB, Blk w0 w p 62 b.cells ∧ b.Is x ∧ Foots w0 w F b.X x.wh
section
variable {w0 w w' : World} {p q : Nat} {F G : List Nat} {x : PollS} {T : TypeId} {c : Array Value} {X : Value} {wh : Wh}
theorem Foots.foot (h : Foots w0 w F X wh) : ∀ q ∈ F, ∃ cs, Blk w0 w q 150 cs := by
  cases wh with
  | shade i y =>
    obtain ⟨v, _, rfl, h, z, B, _⟩ := h
    intro q hq
    simp at hq
    subst hq
    exact ⟨_, B⟩
  | _ => intro q hq; rw [show F = [] from h] at hq; simp at hq
theorem Foots.oth (h : Foots w0 w F X wh) (ot : Oth G w w') (hd : ∀ q ∈ F, q ∉ G) : Foots w0 w' F X wh := by
  cases wh with
  | shade i y =>
    obtain ⟨v, e, rfl, h, z, B, r⟩ := h
    exact ⟨v, e, rfl, h, z, B.oth ot (hd v (by simp)), r⟩
  | _ => exact h
theorem RPm.oth (h : RPm w0 w p F x) (ot : Oth G w w') (hp : p ∉ G) (hd : ∀ q ∈ F, q ∉ G) : RPm w0 w' p F x := by
  obtain ⟨b, B, I, f⟩ := h
  exact ⟨b, B.oth ot hp, I, f.oth ot hd⟩
theorem Blk.ne' {p q : Nat} {T T' : TypeId} {c c' : Array Value} (h : Blk w0 w p T c) (h' : Blk w0 w q T' c') (hT : T ≠ T') : p ≠ q := h.ne h' hT
end
end Go.Proofs.YtoablodmodnamaaDoor

namespace Go.Proofs.YtoablodmodnamaaDoor
set_option linter.unusedVariables false
set_option linter.unusedSimpArgs false
set_option maxRecDepth 100000
open Go.ChangeShapes Go.WideShapes Go.RowKit
open S.Plain (t0 t1 tw nx p0 p1 p2 p3 pw)
open H.Plain (hw pS pC pN pM pG pT pL)

section
variable {w0 w w' : World} {p : Nat} {b : RB} {x : PollS}
theorem rf_new (a m : Int) : (ShadeS.new a m).Rf Hd.zero 0 := by
  have h : (ShadeS.new a m).pc ≤ 1 := by simp only [ShadeS.new]; split <;> omega
  exact ⟨U64.zero, fun h' => by omega, fun h' => by omega, fun h' => by omega⟩
theorem Kept.more {F : List Nat} {w1 : World} {i : Nat} {u : Value} (h : Kept F w w1) (hp : p ∈ F) : Kept F w (w1.setCell ⟨p, i, none⟩ u) := h.trans (Kept.setCell F w1 ⟨p, i, none⟩ u hp) fun _ h => .inl h
set_option maxHeartbeats 1000000 in
theorem rg5 (B : Blk w0 w p 62 b.cells) (hn : b.n ≤ 8) (hKm : b.K ≤ b.n) (t : Int) (hz : ∀ u, b.K ≤ u → u < b.n → b.l u = 0) :
    Calls Tryd.prog 52 #[pt p, .int .i64 t] w fun e w' => e = .returned (.tuple #[]) ∧ Kept [p] w w' ∧ Blk w0 w' p 62 ((b.at b.n).goto 5).cells := by
  have hl0 := B.lt
  go_enter Tryd.func52, Tryd.ntmps52
  go_wp2_with (fail)
  go_loopg [] (b.n - b.K) (fun g wr => ∃ j : Nat, b.K ≤ j ∧ j ≤ b.n ∧ g = b.n - j ∧ Blk w0 wr p 62 (b.at j).cells ∧ Kept [p] w wr)
  case atStart => exact ⟨b.K, Nat.le_refl _, hKm, rfl, B, Kept.refl _ _⟩
  case round =>
    obtain ⟨j, hj0, hjm, rfl, Bj, kj⟩ := hrel
    have hl := Bj.lt
    have c7 : wr.cell? ⟨p, 7, none⟩ = some (.int .i64 j) := Bj.cell 7
    have c17 : wr.cell? ⟨p, 17, none⟩ = some (.int .i64 b.n) := Bj.cell 17
    by_cases hjn : j < b.n
    case pos =>
      have hjN : j < b.n := by omega
      have cj : wr.cell? ⟨p, 18 + j, none⟩ = some (.int .i64 0) := (Bj.cell _).trans (((b.at j).root_at j (by omega)).trans (by show some (Value.int .i64 (b.l j)) = _; rw [hz j hj0 hjn]))
      have cf7 := Bj.free 7
      have hji : (0 : Int) ≤ (j : Int) ∧ (j : Int) < 8 ∧ (j : Int) < (b.n : Int) := by omega
      have hd1 : decide ((j : Int) < (b.n : Int)) = true := by simp; omega
      go_wp2
      go_quiet (fail)
      go_wp2
      go_roundg (b.n - (j + 1))
      case measure => omega
      case rel => exact ⟨j + 1, by omega, by omega, rfl, by have := Bj.below (S.bdr (Below.refl wr.heap.size wr) nq); exact this.set 7 (.int .i64 ((j : Int) + 1)), ((kj.trans (Kept.of_below (F := [p]) (S.bdr (Below.refl wr.heap.size wr) _)) fun _ h => .inl h)).more (by simp)⟩
    case neg =>
      obtain rfl : b.n = j := by omega
      clear hjn hj0 hjm
      have hdd : decide ((b.n : Int) < (b.n : Int)) = false := by simp
      go_wp2
      go_quiet (fail)
      have hbq : Below wr.heap.size wr (wr.drewN nq) := S.bdr (Below.refl wr.heap.size wr) nq
      have Bd := Bj.below hbq
      have kd := kj.trans (Kept.of_below (F := [p]) hbq) fun _ h => .inl h
      clear c7 c17 hbq
      generalize wr.drewN nq = wd at Bd kd ⊢
      have d6 : wd.cell? ⟨p, 6, none⟩ = some (.int .i64 b.pc) := Bd.cell 6
      have df6 := Bd.free 6
      have dl := Bd.lt
      go_upto_region 3 with (fail)
      have B2 := Bd.set 6 (.int .i64 t)
      have k2 : Kept [p] w (wd.setCell ⟨p, 6, none⟩ (.int .i64 t)) := kd.more (by simp)
      clear d6 df6 dl
      generalize wd.setCell ⟨p, 6, none⟩ (.int .i64 t) = w2 at B2 k2 ⊢
      have e7 : w2.cell? ⟨p, 7, none⟩ = some (.int .i64 (b.n : Nat)) := B2.cell 7
      have e17 : w2.cell? ⟨p, 17, none⟩ = some (.int .i64 b.n) := B2.cell 17
      have el := B2.lt
      have hd2 : decide ((b.n : Int) ≥ (b.n : Int)) = true := by simp
      go_quiet (fail)
      have hbq : Below w2.heap.size w2 (w2.drewN nq) := S.bdr (Below.refl w2.heap.size w2) nq
      have B3 := B2.below hbq
      have k3 := k2.trans (Kept.of_below (F := [p]) hbq) fun _ h => .inl h
      clear e7 e17 el hbq
      generalize w2.drewN nq = w3 at B3 k3 ⊢
      have g6 : w3.cell? ⟨p, 6, none⟩ = some (.int .i64 t) := B3.cell 6
      have gf6 := B3.free 6
      have gl := B3.lt
      go_wp2
      go_end0
      exact ⟨rfl, k3.more (by simp), B3.set 6 (.int .i64 5)⟩
set_option maxHeartbeats 1000000 in
theorem rg4 (B : Blk w0 w p 62 b.cells) (hn : b.n ≤ 8) {k : Nat} {v : Int} (hKm : b.K ≤ k) (hk : k < b.n) (hz : ∀ u, b.K ≤ u → u < k → b.l u = 0) (hv : b.l k = v) (hv0 : v ≠ 0) :
    Calls Tryd.prog 52 #[pt p, .int .i64 4] w fun e w' => e = .returned (.tuple #[]) ∧ Kept [p] w w' ∧ Blk w0 w' p 62 ((b.at k).goto 4).cells := by
  have hl0 := B.lt
  go_enter Tryd.func52, Tryd.ntmps52
  go_wp2_with (fail)
  go_loopg [] (k - b.K) (fun g wr => ∃ j : Nat, b.K ≤ j ∧ j ≤ k ∧ g = k - j ∧ Blk w0 wr p 62 (b.at j).cells ∧ Kept [p] w wr)
  case atStart => exact ⟨b.K, Nat.le_refl _, hKm, rfl, B, Kept.refl _ _⟩
  case round =>
    obtain ⟨j, hj0, hjm, rfl, Bj, kj⟩ := hrel
    have hl := Bj.lt
    have c7 : wr.cell? ⟨p, 7, none⟩ = some (.int .i64 j) := Bj.cell 7
    have c17 : wr.cell? ⟨p, 17, none⟩ = some (.int .i64 b.n) := Bj.cell 17
    by_cases hjn : j < k
    case pos =>
      have hjN : j < b.n := by omega
      have cj : wr.cell? ⟨p, 18 + j, none⟩ = some (.int .i64 0) := (Bj.cell _).trans (((b.at j).root_at j (by omega)).trans (by show some (Value.int .i64 (b.l j)) = _; rw [hz j hj0 hjn]))
      have cf7 := Bj.free 7
      have hji : (0 : Int) ≤ (j : Int) ∧ (j : Int) < 8 ∧ (j : Int) < (b.n : Int) := by omega
      have hd1 : decide ((j : Int) < (b.n : Int)) = true := by simp; omega
      go_wp2
      go_quiet (fail)
      go_wp2
      go_roundg (k - (j + 1))
      case measure => omega
      case rel => exact ⟨j + 1, by omega, by omega, rfl, by have := Bj.below (S.bdr (Below.refl wr.heap.size wr) nq); exact this.set 7 (.int .i64 ((j : Int) + 1)), ((kj.trans (Kept.of_below (F := [p]) (S.bdr (Below.refl wr.heap.size wr) _)) fun _ h => .inl h)).more (by simp)⟩
    case neg =>
      obtain rfl : k = j := by omega
      clear hjn hj0 hjm
      have hdd : decide ((k : Int) < (b.n : Int)) = true := by simp; omega
      have cj : wr.cell? ⟨p, 18 + k, none⟩ = some (.int .i64 v) := (Bj.cell _).trans (((b.at k).root_at k (by omega)).trans (by show some (Value.int .i64 (b.l k)) = _; rw [hv]))
      have hv1 : (v == 0) = false := by simpa using hv0
      have hji : (0 : Int) ≤ (k : Int) ∧ (k : Int) < 8 ∧ (k : Int) < (b.n : Int) := by omega
      go_wp2
      go_quiet (fail)
      have hbq : Below wr.heap.size wr (wr.drewN nq) := S.bdr (Below.refl wr.heap.size wr) nq
      have Bd := Bj.below hbq
      have kd := kj.trans (Kept.of_below (F := [p]) hbq) fun _ h => .inl h
      clear c7 c17 hbq cj
      generalize wr.drewN nq = wd at Bd kd ⊢
      have d6 : wd.cell? ⟨p, 6, none⟩ = some (.int .i64 b.pc) := Bd.cell 6
      have df6 := Bd.free 6
      have dl := Bd.lt
      go_upto_region 3 with (fail)
      have B2 := Bd.set 6 (.int .i64 4)
      have k2 : Kept [p] w (wd.setCell ⟨p, 6, none⟩ (.int .i64 4)) := kd.more (by simp)
      clear d6 df6 dl
      generalize wd.setCell ⟨p, 6, none⟩ (.int .i64 4) = w2 at B2 k2 ⊢
      have e7 : w2.cell? ⟨p, 7, none⟩ = some (.int .i64 (k : Nat)) := B2.cell 7
      have e17 : w2.cell? ⟨p, 17, none⟩ = some (.int .i64 b.n) := B2.cell 17
      have el := B2.lt
      have hd2 : decide ((k : Int) ≥ (b.n : Int)) = false := by simp; omega
      go_quiet (fail)
      have hbq : Below w2.heap.size w2 (w2.drewN nq) := S.bdr (Below.refl w2.heap.size w2) nq
      have B3 := B2.below hbq
      have k3 := k2.trans (Kept.of_below (F := [p]) hbq) fun _ h => .inl h
      clear e7 e17 el hbq
      generalize w2.drewN nq = w3 at B3 k3 ⊢
      have g6 : w3.cell? ⟨p, 6, none⟩ = some (.int .i64 4) := B3.cell 6
      have gf6 := B3.free 6
      have gl := B3.lt
      go_wp2
      go_end0
      exact ⟨rfl, k3, B3⟩
set_option maxHeartbeats 1000000 in
theorem rg2 (B : Blk w0 w p 62 b.cells) (hn : b.n ≤ 8) {k : Nat} {v : Int} (hKm : b.K ≤ k) (hk : k < b.n) (hz : ∀ u, b.K ≤ u → u < k → b.l u = 0) (hv : b.l k = v) (hv0 : v ≠ 0) :
    Calls Tryd.prog 52 #[pt p, .int .i64 2] w fun e w' => e = .returned (.tuple #[]) ∧ Kept [p] w w' ∧ ∃ z, w.heap.size ≤ z ∧ Blk w0 w' p 62 (((b.at k).goto 2).has (pt z)).cells ∧ ∃ h u, w'.heap[z]? = some (.cells ((ShadeS.new v b.q.mr).rcells h u) 150 (0, 0)) ∧ (ShadeS.new v b.q.mr).Rf h u := by
  have hl0 := B.lt
  go_enter Tryd.func52, Tryd.ntmps52
  go_wp2_with (fail)
  go_loopg [] (k - b.K) (fun g wr => ∃ j : Nat, b.K ≤ j ∧ j ≤ k ∧ g = k - j ∧ Blk w0 wr p 62 (b.at j).cells ∧ Kept [p] w wr)
  case atStart => exact ⟨b.K, Nat.le_refl _, hKm, rfl, B, Kept.refl _ _⟩
  case round =>
    obtain ⟨j, hj0, hjm, rfl, Bj, kj⟩ := hrel
    have hl := Bj.lt
    have c7 : wr.cell? ⟨p, 7, none⟩ = some (.int .i64 j) := Bj.cell 7
    have c17 : wr.cell? ⟨p, 17, none⟩ = some (.int .i64 b.n) := Bj.cell 17
    by_cases hjn : j < k
    case pos =>
      have hjN : j < b.n := by omega
      have cj : wr.cell? ⟨p, 18 + j, none⟩ = some (.int .i64 0) := (Bj.cell _).trans (((b.at j).root_at j (by omega)).trans (by show some (Value.int .i64 (b.l j)) = _; rw [hz j hj0 hjn]))
      have cf7 := Bj.free 7
      have hji : (0 : Int) ≤ (j : Int) ∧ (j : Int) < 8 ∧ (j : Int) < (b.n : Int) := by omega
      have hd1 : decide ((j : Int) < (b.n : Int)) = true := by simp; omega
      go_wp2
      go_quiet (fail)
      go_wp2
      go_roundg (k - (j + 1))
      case measure => omega
      case rel => exact ⟨j + 1, by omega, by omega, rfl, by have := Bj.below (S.bdr (Below.refl wr.heap.size wr) nq); exact this.set 7 (.int .i64 ((j : Int) + 1)), ((kj.trans (Kept.of_below (F := [p]) (S.bdr (Below.refl wr.heap.size wr) _)) fun _ h => .inl h)).more (by simp)⟩
    case neg =>
      obtain rfl : k = j := by omega
      clear hjn hj0 hjm
      have hdd : decide ((k : Int) < (b.n : Int)) = true := by simp; omega
      have cj : wr.cell? ⟨p, 18 + k, none⟩ = some (.int .i64 v) := (Bj.cell _).trans (((b.at k).root_at k (by omega)).trans (by show some (Value.int .i64 (b.l k)) = _; rw [hv]))
      have hv1 : (v == 0) = false := by simpa using hv0
      have hji : (0 : Int) ≤ (k : Int) ∧ (k : Int) < 8 ∧ (k : Int) < (b.n : Int) := by omega
      go_wp2
      go_quiet (fail)
      have hbq : Below wr.heap.size wr (wr.drewN nq) := S.bdr (Below.refl wr.heap.size wr) nq
      have Bd := Bj.below hbq
      have kd := kj.trans (Kept.of_below (F := [p]) hbq) fun _ h => .inl h
      clear c7 c17 hbq cj
      generalize wr.drewN nq = wd at Bd kd ⊢
      have d6 : wd.cell? ⟨p, 6, none⟩ = some (.int .i64 b.pc) := Bd.cell 6
      have df6 := Bd.free 6
      have dl := Bd.lt
      go_upto_region 3 with (fail)
      have B2 := Bd.set 6 (.int .i64 2)
      have k2 : Kept [p] w (wd.setCell ⟨p, 6, none⟩ (.int .i64 2)) := kd.more (by simp)
      clear d6 df6 dl
      generalize wd.setCell ⟨p, 6, none⟩ (.int .i64 2) = w2 at B2 k2 ⊢
      have e7 : w2.cell? ⟨p, 7, none⟩ = some (.int .i64 (k : Nat)) := B2.cell 7
      have e17 : w2.cell? ⟨p, 17, none⟩ = some (.int .i64 b.n) := B2.cell 17
      have el := B2.lt
      have hd2 : decide ((k : Int) ≥ (b.n : Int)) = false := by simp; omega
      go_quiet (fail)
      have hbq : Below w2.heap.size w2 (w2.drewN nq) := S.bdr (Below.refl w2.heap.size w2) nq
      have B3 := B2.below hbq
      have k3 := k2.trans (Kept.of_below (F := [p]) hbq) fun _ h => .inl h
      clear e7 e17 el hbq
      generalize w2.drewN nq = w3 at B3 k3 ⊢
      have g6 : w3.cell? ⟨p, 6, none⟩ = some (.int .i64 2) := B3.cell 6
      have gf6 := B3.free 6
      have gl := B3.lt
      clear g6 gf6
      go_upto_region 6 with (fail)
      have keep : ∀ w', Below w3.heap.size w3 w' → w'.cell? ⟨p, 7, none⟩ = some (.int .i64 k) ∧ w'.cell? ⟨p, 18 + k, none⟩ = some (.int .i64 v) ∧ w'.cell? ⟨p, 14, none⟩ = some (.int .i64 b.q.mr) := fun w' hb => ⟨(B3.below hb).cell 7, ((B3.below hb).cell _).trans ((((b.at k).goto 2).root_at k (by omega)).trans (by show some (Value.int .i64 (b.l k)) = _; rw [hv])), (B3.below hb).cell 14⟩
      have hbd : Below w3.heap.size w3 w3.drew := (Below.refl w3.heap.size w3).drew
      have RD := keep _ hbd
      go_region_held3 (fun w' => w'.cell? ⟨p, 7, none⟩ = some (.int .i64 k) ∧ w'.cell? ⟨p, 18 + k, none⟩ = some (.int .i64 v) ∧ w'.cell? ⟨p, 14, none⟩ = some (.int .i64 b.q.mr)) (first | assumption | exact RD | exact S5 | exact keep _ (by assumption))
        ((go_at_call 85; refine (rNewShade v b.q.mr _).mono ?_; rintro e w4 ⟨rfl, M4⟩; have hb4 : Below w3.heap.size w3 w4 := bel_trans hbd M4.bel; have B4 := B3.below hb4; have y26 : w4.cell? ⟨p, 26, none⟩ = some b.X := B4.cell 26; have yf26 := B4.free 26; have yl := B4.lt; have B5 := B4.set 26 (pt w3.heap.size); have S5 : (w4.setCell ⟨p, 26, none⟩ (pt w3.heap.size)).cell? ⟨p, 7, none⟩ = some (.int .i64 k) ∧ (w4.setCell ⟨p, 26, none⟩ (pt w3.heap.size)).cell? ⟨p, 18 + k, none⟩ = some (.int .i64 v) ∧ (w4.setCell ⟨p, 26, none⟩ (pt w3.heap.size)).cell? ⟨p, 14, none⟩ = some (.int .i64 b.q.mr) := ⟨B5.cell 7, (B5.cell _).trans (((((b.at k).goto 2).has (pt w3.heap.size)).root_at k (by omega)).trans (by show some (Value.int .i64 (b.l k)) = _; rw [hv])), B5.cell 14⟩))
      go_wp2
      go_end0
      have hne : w3.heap.size ≠ p := fun e => by have := B3.lt; omega
      have hb4' : Kept [p] w w4 := k3.trans (Kept.of_below hb4) fun _ h => .inl h
      refine ⟨rfl, hb4'.more (by simp), w3.heap.size, k3.size, B4.set 26 (pt w3.heap.size), Hd.zero, 0, ?_, rf_new v b.q.mr⟩
      exact (heap_setCell_other w4 ⟨p, 26, none⟩ w3.heap.size _ hne).trans M4.blk
/-- on to the next root: where the machine is then -/
theorem rGo2 (B : Blk w0 w p 62 b.cells) (hn : b.n ≤ 8) (hK : b.K ≤ b.n) (I : ∀ d : RB, d.U = b.U → d.th = b.th → d.own = b.own → d.q = b.q → d.al = b.al → d.n = b.n → d.l = b.l → d.pc = x.wh.pc → x.wh.At d.K d.n → d.Is x) (hx : x.wh = toShade b.l b.n b.q.mr b.K) (hs : w0.heap.size ≤ w.heap.size) :
    Calls Tryd.prog 52 #[pt p, .int .i64 2] w fun e w' => e = .returned (.tuple #[]) ∧ Kept [p] w w' ∧ ∃ F, RPm w0 w' p F x ∧ ∀ j ∈ F, w.heap.size ≤ j := by
  obtain ⟨a1, a2, a3, a4⟩ := seek_le b.l b.n (b.n - b.K) b.K (Nat.le_refl _) hK
  by_cases hk : seek b.l b.n (b.n - b.K) b.K < b.n
  · refine (rg2 B hn a1 hk a3 rfl (a4 hk)).mono ?_
    rintro e w' ⟨rfl, kp, z, hz, B', h, u, hb, rf⟩
    have hw : x.wh = .shade (seek b.l b.n (b.n - b.K) b.K) (ShadeS.new (b.l (seek b.l b.n (b.n - b.K) b.K)) b.q.mr) := hx.trans (if_neg (by omega))
    refine ⟨rfl, kp, [z], ⟨_, B', I _ rfl rfl rfl rfl rfl rfl rfl (by rw [hw]; rfl) (by rw [hw]; exact ⟨rfl, hk⟩), ?_⟩, by simpa using hz⟩
    rw [hw]
    exact ⟨z, rfl, rfl, h, u, ⟨hb, Nat.le_trans hs hz, by decide⟩, rf⟩
  · refine (rg5 B hn hK 2 (fun j h1 h2 => a3 j h1 (by omega))).mono ?_
    rintro e w' ⟨rfl, kp, B'⟩
    have hw : x.wh = .tell := hx.trans (if_pos (by omega))
    exact ⟨rfl, kp, [], ⟨_, B', I _ rfl rfl rfl rfl rfl rfl rfl (by rw [hw]; rfl) (by rw [hw]; trivial), by rw [hw]; rfl⟩, by simp⟩
theorem rGo4 (B : Blk w0 w p 62 b.cells) (hn : b.n ≤ 8) (hK : b.K ≤ b.n) (I : ∀ d : RB, d.U = b.U → d.th = b.th → d.own = b.own → d.q = b.q → d.al = b.al → d.n = b.n → d.l = b.l → d.pc = x.wh.pc → x.wh.At d.K d.n → d.Is x) (hx : x.wh = toFix b.l b.n b.K) :
    Calls Tryd.prog 52 #[pt p, .int .i64 4] w fun e w' => e = .returned (.tuple #[]) ∧ Kept [p] w w' ∧ RPm w0 w' p [] x := by
  obtain ⟨a1, a2, a3, a4⟩ := seek_le b.l b.n (b.n - b.K) b.K (Nat.le_refl _) hK
  by_cases hk : seek b.l b.n (b.n - b.K) b.K < b.n
  · refine (rg4 B hn a1 hk a3 rfl (a4 hk)).mono ?_
    rintro e w' ⟨rfl, kp, B'⟩
    have hw : x.wh = .fix (seek b.l b.n (b.n - b.K) b.K) := hx.trans (if_neg (by omega))
    exact ⟨rfl, kp, _, B', I _ rfl rfl rfl rfl rfl rfl rfl (by rw [hw]; rfl) (by rw [hw]; exact ⟨rfl, hk⟩), by rw [hw]; rfl⟩
  · refine (rg5 B hn hK 4 (fun j h1 h2 => a3 j h1 (by omega))).mono ?_
    rintro e w' ⟨rfl, kp, B'⟩
    have hw : x.wh = .tell := hx.trans (if_pos (by omega))
    exact ⟨rfl, kp, _, B', I _ rfl rfl rfl rfl rfl rfl rfl (by rw [hw]; rfl) (by rw [hw]; trivial), by rw [hw]; rfl⟩
end
end Go.Proofs.YtoablodmodnamaaDoor
