import Derived.Test.YtpcoldpphihfmaaGreatDoorDe
import Derived.Test.YtpcoldpphihfmaaGreatDoorD2
import Derived.Test.YtpcoldpphihfmaaGreatDoorHand
import Derived.Test.YtpcoldpphihfmaaGreatDoorVd
import Derived.Deep.Cut
import Derived.Deep.RegionHeld3
namespace Go.Proofs.YtpcoldpphihfmaaGreatDoor
set_option linter.unusedVariables false
set_option maxRecDepth 100000
open Go.ChangeShapes Go.WideShapes Go.RowKit
structure RD where
 f : Int
 r : Rq
 h : Hw
 pc : Int
 w : Int
 a : Int
 x : Value
 sh : Bool
 o : Ou
def RD.cells (d : RD) : Array Value := #[.int .i64 d.f, .int .i64 d.r.op, .int .i64 d.r.at_, .int .i64 d.r.fd, .int .i64 d.r.x.k, .int .i64 d.r.x.n, .int .i64 d.r.y.k, .int .i64 d.r.y.n, .bool d.h.sh, .bool d.h.ca, .bool d.h.fx, .int .i64 d.h.mr, .int .i64 d.pc, .int .u64 d.w, .int .i64 d.a, d.x, .bool d.sh, .int .i64 d.o.c, .int .i64 d.o.v.k, .int .i64 d.o.v.n, .bool d.o.y]
structure RP where
 r : Rq
 e : En
 pc : Int
 x : Value
 sh : Bool
 o : Ou
def RP.cells (d : RP) : Array Value := #[.int .i64 d.r.op, .int .i64 d.r.at_, .int .i64 d.r.fd, .int .i64 d.r.x.k, .int .i64 d.r.x.n, .int .i64 d.r.y.k, .int .i64 d.r.y.n, .int .i64 d.e.md, .int .i64 d.e.mr, .int .i64 d.e.al, .int .i64 d.pc, d.x, .bool d.sh, .int .i64 d.o.c, .int .i64 d.o.v.k, .int .i64 d.o.v.n, .bool d.o.y]
structure RS where
 a : Int
 b : Int
 c : Int
 pc : Int
 y : Bool
def RS.cells (d : RS) : Array Value := #[.int .i64 d.a, .int .i64 d.b, .int .i64 d.c, .int .i64 d.pc, .bool d.y]
def pcD (r : Rq) (h : Hw) : Int := if r.op = 2 ∧ h.sh = false then 23 else 10 * r.op
def RD.new (f : Int) (r : Rq) (h : Hw) : RD := ⟨f, r, h, pcD r h, 0, 0, .pointer none, false, Ou.zero⟩
def RP.new (r : Rq) (e : En) : RP := if r.at_ = 0 then ⟨r, e, 0, .pointer none, false, ⟨14, Vl.zero, false⟩⟩ else ⟨r, e, 1, .pointer none, false, Ou.zero⟩
def RS.new (a b : Int) : RS := if a = b ∨ a = 0 ∨ b = 0 then ⟨0, 0, 0, 0, a == b⟩ else ⟨a, b, 0, 1, false⟩
structure MadeB (w w' : World) (p : Nat) (T : TypeId) (cs : Array Value) : Prop where
 blk : w'.heap[p]? = some (.cells cs T (0, 0))
 bel : Below w.heap.size w w'
 new : w.heap.size ≤ p
theorem MadeB.blk' {w0 w w' : World} {p : Nat} {T : TypeId} {cs : Array Value} (M : MadeB w w' p T cs) (hs : w0.heap.size ≤ w.heap.size) (hM : T ∉ MTs) : Blk w0 w' p T cs := ⟨M.blk, Nat.le_trans hs M.new, hM⟩
set_option maxHeartbeats 1000000 in
theorem rNewDirect (base : Int) (r : Rq) (h : Hw) (w : World) (h0 : 0 ≤ base) (h1 : base < 4096) (h2 : 0 ≤ r.fd) (h3 : r.fd < 4096) (hop : r.op = 1 ∨ r.op = 2 ∨ r.op = 3) :
  Calls Tryz.prog 87 #[.int .i64 base, .agg #[.int .i64 r.op, .int .i64 r.at_, .int .i64 r.fd, .int .i64 r.x.k, .int .i64 r.x.n, .int .i64 r.y.k, .int .i64 r.y.n], .agg #[.bool h.sh, .bool h.ca, .bool h.fx, .int .i64 h.mr]] w fun e w' => ∃ p, e = .returned (pt p) ∧ MadeB w w' p 129 (RD.new (base + 1 + r.fd) r h).cells := by
 obtain ⟨a, ha⟩ : ∃ a, base + 1 + r.fd = a := ⟨_, rfl⟩
 have e1 : IntKind.i64.wrap (base + 1) = base + 1 := by rw [IntKind.wrap_i64]; omega
 have e2 : IntKind.i64.wrap (base + 1 + r.fd) = a := by rw [IntKind.wrap_i64]; omega
 have e3 : wrap64 a = a := by unfold wrap64; omega
 rw [ha]
 obtain ⟨op, at_, fd, x, y⟩ := r
 obtain ⟨sh, ca, fx, mr⟩ := h
 simp only at hop e2 h2 h3 ⊢
 rcases hop with rfl | rfl | rfl
 ·go_enter Tryz.func87, Tryz.ntmps87
  go_wp2
  go_ret
  exact ⟨_, rfl, by first | exact newAt (by simp) | exact newAt rfl, by go_grown, by first | omega | simp⟩
 ·cases sh with
  | false =>
   go_enter Tryz.func87, Tryz.ntmps87
   go_wp2
   go_ret
   exact ⟨_, rfl, by first | exact newAt (by simp) | exact newAt rfl, by go_grown, by first | omega | simp⟩
  | true =>
   go_enter Tryz.func87, Tryz.ntmps87
   go_wp2
   go_ret
   exact ⟨_, rfl, by first | exact newAt (by simp) | exact newAt rfl, by go_grown, by first | omega | simp⟩
 ·go_enter Tryz.func87, Tryz.ntmps87
  go_wp2
  go_ret
  exact ⟨_, rfl, by first | exact newAt (by simp) | exact newAt rfl, by go_grown, by first | omega | simp⟩
set_option maxHeartbeats 1000000 in
theorem rNewPlain (r : Rq) (e : En) (w : World) :
  Calls Tryz.prog 47 #[.agg #[.int .i64 r.op, .int .i64 r.at_, .int .i64 r.fd, .int .i64 r.x.k, .int .i64 r.x.n, .int .i64 r.y.k, .int .i64 r.y.n], .agg #[.int .i64 e.md, .int .i64 e.mr, .int .i64 e.al]] w fun e' w' => ∃ p, e' = .returned (pt p) ∧ MadeB w w' p 119 (RP.new r e).cells := by
 unfold RP.new
 by_cases h : r.at_ = 0
 ·rw [if_pos h]
  have q : (r.at_ == 0) = true := by simp [h]
  clear h
  go_enter Tryz.func47, Tryz.ntmps47
  go_wp2
  go_ret
  exact ⟨_, rfl, by first | exact newAt (by simp) | exact newAt rfl, by go_grown, by first | omega | simp⟩
 ·rw [if_neg h]
  have q : (r.at_ == 0) = false := by simpa using h
  clear h
  go_enter Tryz.func47, Tryz.ntmps47
  go_wp2
  go_ret
  exact ⟨_, rfl, by first | exact newAt (by simp) | exact newAt rfl, by go_grown, by first | omega | simp⟩
end Go.Proofs.YtpcoldpphihfmaaGreatDoor
namespace Go.Proofs.YtpcoldpphihfmaaGreatDoor
set_option linter.unusedVariables false
set_option linter.unusedSimpArgs false
set_option maxRecDepth 100000
open Go.ChangeShapes Go.WideShapes Go.RowKit
open H.Plain (hw pS pC pN pM pG pT pL mv)
section
variable {w0 w w' : World} {b y p : Nat} {s1 s2 : St} {N : Nat}
theorem yLoad (h : Two w0 w b y s1 s2 N) (hN : N < 1000000) (a : Int) :
  Calls Tryz.prog 51 #[.pointer (some ⟨y, 0, none⟩), .int .i64 a] w fun e w' => e = .returned (.int .u64 (s2.got a)) ∧ Two w0 w' b y s1 (s2.load a) (N + 1) ∧ Oth [] w w' := by
 have ht := h.top2
 have hc : s2.c < 1000000 := by omega
 have f := h.fit2
 have r := h.rng2
 obtain ⟨M, rfl, A, k⟩ := h.step2
 refine (rLoad A f hc a).mono ?_
 rintro e w' ⟨rfl, L', A', g⟩
 exact ⟨rfl, k A' g (f.load hc a) (r.load a) (by rw [St.c_load]; omega) (by omega)⟩
theorem yCAS (h : Two w0 w b y s1 s2 N) (hN : N < 1000000) (a o : Int) {x : Int} (hx : U64 x) :
  Calls Tryz.prog 55 #[.pointer (some ⟨y, 0, none⟩), .int .i64 a, .int .u64 o, .int .u64 x] w fun e w' => e = .returned (.bool (s2.ok1 a o)) ∧ Two w0 w' b y s1 (s2.cas a o x) (N + 1) ∧ Oth [] w w' := by
 have ht := h.top2
 have hc : s2.c < 1000000 := by omega
 have f := h.fit2
 have r := h.rng2
 obtain ⟨M, rfl, A, k⟩ := h.step2
 refine (rCAS A f hc a o x).mono ?_
 rintro e w' ⟨rfl, L', A', g⟩
 exact ⟨rfl, k A' g (f.cas hc a o x) (r.cas a o hx) (by rw [St.c_cas]; omega) (by omega)⟩
end
theorem rFar (v : Vl) (w : World) : Calls Tryz.prog 88 #[.agg #[.int .i64 v.k, .int .i64 v.n]] w fun e w' => e = .returned (.bool v.far) ∧ Below w.heap.size w w' := by
 unfold Vl.far
 rcases h1 : (v.k == 1) with _ | _
 ·go_enter Tryz.func88, Tryz.ntmps88
  go_wp2
  go_ret
  exact ⟨rfl, by go_grown⟩
 ·rcases h2 : (v.n != 0) with _ | _
  ·go_enter Tryz.func88, Tryz.ntmps88
   go_wp2
   go_ret
   exact ⟨rfl, by go_grown⟩
  ·go_enter Tryz.func88, Tryz.ntmps88
   go_wp2
   go_ret
   exact ⟨rfl, by go_grown⟩
structure RdTo (w0 w w' : World) (b y p : Nat) (s1 s' : St) (N : Nat) (d : RD) (F : List Nat) : Prop where
 two : Two w0 w' b y s1 s' (N + 1)
 blk : Blk w0 w' p 129 d.cells
 oth : Oth F w w'
def pcA (d : RD) (old : Bool) (be : Int) : Int := if (d.h.sh && old && (Vl.of d.w).far) = true then be - 2 else if (d.h.sh && d.r.y.far) = true then be - 1 else be
def shA (d : RD) (old : Bool) : ShadeS := if (d.h.sh && old && (Vl.of d.w).far) = true then ShadeS.new (Vl.of d.w).n d.h.mr else ShadeS.new d.r.y.n d.h.mr
def RD.withX (d : RD) (v : Value) : RD := ⟨d.f, d.r, d.h, d.pc, d.w, d.a, v, d.sh, d.o⟩
theorem kept_set {F : List Nat} {w1 w2 : World} (k : Kept F w1 w2) (p i : Nat) (v : Value) (h : p ∈ F) : Kept F w1 (w2.setCell ⟨p, i, none⟩ v) := k.trans (Kept.setCell F _ _ _ h) (fun _ h => .inl h)
section
set_option maxHeartbeats 4000000
theorem rShades {w0 w : World} {p : Nat} {d : RD} (B : Blk w0 w p 129 d.cells) (hw : U64 d.w) (old : Bool) (be : Int) (h0 : 2 ≤ be) (h1 : be < 100) :
  Calls Tryz.prog 90 #[pt p, .bool old, .int .i64 be] w fun e w' => e = .returned (.int .i64 (pcA d old be)) ∧ Kept [p] w w' ∧ ∃ v, Blk w0 w' p 129 (d.withX v).cells ∧
   (pcA d old be ≠ be → ∃ ps, v = pt ps ∧ Blk w0 w' ps 162 ((shA d old).rcells Hd.zero 0) ∧ w.heap.size ≤ ps) := by
 obtain ⟨f, r, ⟨hsh, hca, hfx, hmr⟩, pc, ww, a, xx, sh, ⟨oc, ov, oy⟩⟩ := d
 simp only [pcA, shA, RD.withX, RD.cells] at B hw ⊢
 have hs0 : w0.heap.size ≤ w.heap.size := Nat.le_trans B.old (Nat.le_of_lt B.lt)
 obtain ⟨u, hu⟩ : ∃ u, Vl.of ww = u := ⟨_, rfl⟩
 have hk : F.Plain.kind ww = u.k := congrArg Vl.k hu
 have hn : F.Plain.num ww = u.n := congrArg Vl.n hu
 rw [hu]
 obtain ⟨f1, hf1⟩ : ∃ v, u.far = v := ⟨_, rfl⟩
 obtain ⟨f2, hf2⟩ : ∃ v, r.y.far = v := ⟨_, rfl⟩
 rw [hf1, hf2]
 have fv := fVal1
 have c0 : w.cell? ⟨p, 0, none⟩ = some (.int .i64 f) := B.cell 0
 have c1 : w.cell? ⟨p, 1, none⟩ = some (.int .i64 r.op) := B.cell 1
 have c2 : w.cell? ⟨p, 2, none⟩ = some (.int .i64 r.at_) := B.cell 2
 have c3 : w.cell? ⟨p, 3, none⟩ = some (.int .i64 r.fd) := B.cell 3
 have c4 : w.cell? ⟨p, 4, none⟩ = some (.int .i64 r.x.k) := B.cell 4
 have c5 : w.cell? ⟨p, 5, none⟩ = some (.int .i64 r.x.n) := B.cell 5
 have c6 : w.cell? ⟨p, 6, none⟩ = some (.int .i64 r.y.k) := B.cell 6
 have c7 : w.cell? ⟨p, 7, none⟩ = some (.int .i64 r.y.n) := B.cell 7
 have c8 : w.cell? ⟨p, 8, none⟩ = some (.bool hsh) := B.cell 8
 have c9 : w.cell? ⟨p, 9, none⟩ = some (.bool hca) := B.cell 9
 have c10 : w.cell? ⟨p, 10, none⟩ = some (.bool hfx) := B.cell 10
 have c11 : w.cell? ⟨p, 11, none⟩ = some (.int .i64 hmr) := B.cell 11
 have c12 : w.cell? ⟨p, 12, none⟩ = some (.int .i64 pc) := B.cell 12
 have c13 : w.cell? ⟨p, 13, none⟩ = some (.int .u64 ww) := B.cell 13
 have c14 : w.cell? ⟨p, 14, none⟩ = some (.int .i64 a) := B.cell 14
 have c15 : w.cell? ⟨p, 15, none⟩ = some (xx) := B.cell 15
 have c16 : w.cell? ⟨p, 16, none⟩ = some (.bool sh) := B.cell 16
 have c17 : w.cell? ⟨p, 17, none⟩ = some (.int .i64 oc) := B.cell 17
 have c18 : w.cell? ⟨p, 18, none⟩ = some (.int .i64 ov.k) := B.cell 18
 have c19 : w.cell? ⟨p, 19, none⟩ = some (.int .i64 ov.n) := B.cell 19
 have c20 : w.cell? ⟨p, 20, none⟩ = some (.bool oy) := B.cell 20
 have cl := B.lt
 have cz : ∀ i, w.frozen? ⟨p, i, none⟩ = false := fun i => B.free i
 go_enter Tryz.func90, Tryz.ntmps90
 go_upto_region 2 with (first
  | (go_at_call 30; refine (F.rOf ww hw.1 hw.2 _).mono ?_; rintro e w3 ⟨rfl, hw3⟩; rw [hk, hn] at hw3 ⊢; have hb3 : Below w.heap.size w w3 := (by rw [hw3]; go_grown); clear hw3)
  | (go_at_call 88; refine (rFar u _).mono ?_; rintro e w4 ⟨rfl, hb4⟩; rw [hf1]; have K4 := bel_trans hb3 hb4; have B4 := B.below K4; clear hb4 hb3))
 clear c0 c1 c2 c3 c4 c5 c6 c7 c8 c9 c10 c11 c12 c13 c14 c15 c16 c17 c18 c19 c20 cl cz
 have c0 : w4.cell? ⟨p, 0, none⟩ = some (.int .i64 f) := B4.cell 0
 have c1 : w4.cell? ⟨p, 1, none⟩ = some (.int .i64 r.op) := B4.cell 1
 have c2 : w4.cell? ⟨p, 2, none⟩ = some (.int .i64 r.at_) := B4.cell 2
 have c3 : w4.cell? ⟨p, 3, none⟩ = some (.int .i64 r.fd) := B4.cell 3
 have c4 : w4.cell? ⟨p, 4, none⟩ = some (.int .i64 r.x.k) := B4.cell 4
 have c5 : w4.cell? ⟨p, 5, none⟩ = some (.int .i64 r.x.n) := B4.cell 5
 have c6 : w4.cell? ⟨p, 6, none⟩ = some (.int .i64 r.y.k) := B4.cell 6
 have c7 : w4.cell? ⟨p, 7, none⟩ = some (.int .i64 r.y.n) := B4.cell 7
 have c8 : w4.cell? ⟨p, 8, none⟩ = some (.bool hsh) := B4.cell 8
 have c9 : w4.cell? ⟨p, 9, none⟩ = some (.bool hca) := B4.cell 9
 have c10 : w4.cell? ⟨p, 10, none⟩ = some (.bool hfx) := B4.cell 10
 have c11 : w4.cell? ⟨p, 11, none⟩ = some (.int .i64 hmr) := B4.cell 11
 have c12 : w4.cell? ⟨p, 12, none⟩ = some (.int .i64 pc) := B4.cell 12
 have c13 : w4.cell? ⟨p, 13, none⟩ = some (.int .u64 ww) := B4.cell 13
 have c14 : w4.cell? ⟨p, 14, none⟩ = some (.int .i64 a) := B4.cell 14
 have c15 : w4.cell? ⟨p, 15, none⟩ = some (xx) := B4.cell 15
 have c16 : w4.cell? ⟨p, 16, none⟩ = some (.bool sh) := B4.cell 16
 have c17 : w4.cell? ⟨p, 17, none⟩ = some (.int .i64 oc) := B4.cell 17
 have c18 : w4.cell? ⟨p, 18, none⟩ = some (.int .i64 ov.k) := B4.cell 18
 have c19 : w4.cell? ⟨p, 19, none⟩ = some (.int .i64 ov.n) := B4.cell 19
 have c20 : w4.cell? ⟨p, 20, none⟩ = some (.bool oy) := B4.cell 20
 have cl := B4.lt
 have cz : ∀ i, w4.frozen? ⟨p, i, none⟩ = false := fun i => B4.free i
 go_upto_region 3 with (go_at_call 88; refine (rFar r.y _).mono ?_; rintro e w5 ⟨rfl, hb5⟩; rw [hf2]; have K5 := bel_trans K4 hb5; have B5 := B4.below hb5; clear hb5)
 clear c0 c1 c2 c3 c4 c5 c6 c7 c8 c9 c10 c11 c12 c13 c14 c15 c16 c17 c18 c19 c20 cl cz
 have c0 : w5.cell? ⟨p, 0, none⟩ = some (.int .i64 f) := B5.cell 0
 have c1 : w5.cell? ⟨p, 1, none⟩ = some (.int .i64 r.op) := B5.cell 1
 have c2 : w5.cell? ⟨p, 2, none⟩ = some (.int .i64 r.at_) := B5.cell 2
 have c3 : w5.cell? ⟨p, 3, none⟩ = some (.int .i64 r.fd) := B5.cell 3
 have c4 : w5.cell? ⟨p, 4, none⟩ = some (.int .i64 r.x.k) := B5.cell 4
 have c5 : w5.cell? ⟨p, 5, none⟩ = some (.int .i64 r.x.n) := B5.cell 5
 have c6 : w5.cell? ⟨p, 6, none⟩ = some (.int .i64 r.y.k) := B5.cell 6
 have c7 : w5.cell? ⟨p, 7, none⟩ = some (.int .i64 r.y.n) := B5.cell 7
 have c8 : w5.cell? ⟨p, 8, none⟩ = some (.bool hsh) := B5.cell 8
 have c9 : w5.cell? ⟨p, 9, none⟩ = some (.bool hca) := B5.cell 9
 have c10 : w5.cell? ⟨p, 10, none⟩ = some (.bool hfx) := B5.cell 10
 have c11 : w5.cell? ⟨p, 11, none⟩ = some (.int .i64 hmr) := B5.cell 11
 have c12 : w5.cell? ⟨p, 12, none⟩ = some (.int .i64 pc) := B5.cell 12
 have c13 : w5.cell? ⟨p, 13, none⟩ = some (.int .u64 ww) := B5.cell 13
 have c14 : w5.cell? ⟨p, 14, none⟩ = some (.int .i64 a) := B5.cell 14
 have c15 : w5.cell? ⟨p, 15, none⟩ = some (xx) := B5.cell 15
 have c16 : w5.cell? ⟨p, 16, none⟩ = some (.bool sh) := B5.cell 16
 have c17 : w5.cell? ⟨p, 17, none⟩ = some (.int .i64 oc) := B5.cell 17
 have c18 : w5.cell? ⟨p, 18, none⟩ = some (.int .i64 ov.k) := B5.cell 18
 have c19 : w5.cell? ⟨p, 19, none⟩ = some (.int .i64 ov.n) := B5.cell 19
 have c20 : w5.cell? ⟨p, 20, none⟩ = some (.bool oy) := B5.cell 20
 have cl := B5.lt
 have cz : ∀ i, w5.frozen? ⟨p, i, none⟩ = false := fun i => B5.free i
 cases hsh with
 | false =>
  go_wp2
  go_ret
  first
   | exact ⟨by first | rfl | simp, Kept.of_below K5, xx, B5⟩
   | exact ⟨by first | rfl | simp, Kept.of_below K5, xx, B5, fun h => absurd h (by simp)⟩
 | true =>
  cases old with
  | false =>
   cases f2 with
   | false =>
    go_wp2
    go_ret
    first
     | exact ⟨by first | rfl | simp, Kept.of_below K5, xx, B5⟩
     | exact ⟨by first | rfl | simp, Kept.of_below K5, xx, B5, fun h => absurd h (by simp)⟩
   | true =>
    go_upto_region 7 with (fail)
    refine wp_region_noPanic ?_
    have keep : ∀ w', Below w5.heap.size w5 w' → w'.cell? ⟨p, 13, none⟩ = some (.int .u64 ww) ∧ w'.cell? ⟨p, 11, none⟩ = some (.int .i64 hmr) ∧ w'.cell? ⟨p, 7, none⟩ = some (.int .i64 r.y.n) := fun w' hb => ⟨bcell hb cl c13, bcell hb cl c11, bcell hb cl c7⟩
    have RD := keep _ ((Below.refl w5.heap.size w5).drew)
    refine wp_region_held_drew (S := fun w' => w'.cell? ⟨p, 13, none⟩ = some (.int .u64 ww) ∧ w'.cell? ⟨p, 11, none⟩ = some (.int .i64 hmr) ∧ w'.cell? ⟨p, 7, none⟩ = some (.int .i64 r.y.n)) (by kernel_rfl) RD (fun hHeld => ?_)
    refine tkH (i := 0) 57 (pt p) rfl rfl ?_
    simp only [sA1, sA2, sA3]
    refine tkH (i := 1) 58 (pt p) rfl rfl ?_
    simp only [sA1, sA2, sA3]
    refine tkH (i := 2) 59 (pt p) rfl rfl ?_
    simp only [sA1, sA2, sA3]
    refine tkH (i := 3) 60 (.pointer (some ⟨p, 1, none⟩)) rfl rfl ?_
    simp only [sA1, sA2, sA3]
    refine tkH (i := 4) 61 (.pointer (some ⟨p, 6, none⟩)) rfl rfl ?_
    simp only [sA1, sA2, sA3]
    refine tkH (i := 5) 62 (.pointer (some ⟨p, 7, none⟩)) rfl rfl ?_
    simp only [sA1, sA2, sA3]
    refine tkH (i := 6) 63 (.int .i64 r.y.n) rfl rfl ?_
    simp only [sA1, sA2, sA3]
    refine tkH (i := 7) 64 (pt p) rfl rfl ?_
    simp only [sA1, sA2, sA3]
    refine tkH (i := 8) 65 (pt p) rfl rfl ?_
    simp only [sA1, sA2, sA3]
    refine tkH (i := 9) 66 (.pointer (some ⟨p, 8, none⟩)) rfl rfl ?_
    simp only [sA1, sA2, sA3]
    refine tkH (i := 10) 67 (.pointer (some ⟨p, 11, none⟩)) rfl rfl ?_
    simp only [sA1, sA2, sA3]
    refine tkH (i := 11) 68 (.int .i64 hmr) rfl rfl ?_
    simp only [sA1, sA2, sA3]
    have hb6 : Below w5.heap.size w5 w5.drew := (Below.refl _ _).drew
    refine rd1 12 rfl fun K hK => ?_
    go_simp
    refine (rNewShade r.y.n hmr _).mono ?_
    rintro e w7 ⟨rfl, M7⟩
    have hb7 := bel_trans hb6 M7.bel
    have B7 := B5.below hb7
    have sx : w7.cell? ⟨p, 15, none⟩ = some xx := B7.cell 15
    have sz := B7.free 15
    refine hK.out _ _ (keep _ hb7) (fun hHeld => ?_)
    clear hK K
    try simp only [Act.put, sA1, sA2, sA3]
    refine tkH (i := 13) 70 (pt p) rfl rfl ?_
    simp only [sA1, sA2, sA3]
    refine tkH (i := 14) 71 (.pointer (some ⟨p, 15, none⟩)) rfl rfl ?_
    simp only [sA1, sA2, sA3]
    refine rd1 15 rfl fun K hK => ?_
    go_simp
    refine hK.out _ _ (⟨(B7.set 15 (pt w5.drew.heap.size)).cell 13, (B7.set 15 (pt w5.drew.heap.size)).cell 11, (B7.set 15 (pt w5.drew.heap.size)).cell 7⟩) (fun hHeld => ?_)
    clear hK K
    try simp only [Act.put, sA1, sA2, sA3]
    refine wpAnyH_done (by kernel_rfl) ?_ _
    refine NoPanic.normal ?_
    go_wp2
    go_ret
    have hs6 : w.heap.size ≤ w5.drew.heap.size := Nat.le_trans K5.size hb6.size
    exact ⟨by first | rfl | (simp; done) | (simp; omega), kept_set (Kept.of_below (bel_trans K5 hb7)) _ _ _ (by simp), pt w5.drew.heap.size, B7.set 15 _, fun _ => ⟨_, rfl, (M7.blk' (Nat.le_trans hs0 hs6) (by decide)).oth (Oth.set (F := [p]) _ _ _ _ (by simp)) (by simp only [List.mem_singleton]; have := B5.lt; have := hb6.size; omega), hs6⟩⟩
  | true =>
   cases f1 with
   | false =>
    cases f2 with
    | false =>
     go_wp2
     go_ret
     first
      | exact ⟨by first | rfl | simp, Kept.of_below K5, xx, B5⟩
      | exact ⟨by first | rfl | simp, Kept.of_below K5, xx, B5, fun h => absurd h (by simp)⟩
    | true =>
     go_upto_region 7 with (fail)
     refine wp_region_noPanic ?_
     have keep : ∀ w', Below w5.heap.size w5 w' → w'.cell? ⟨p, 13, none⟩ = some (.int .u64 ww) ∧ w'.cell? ⟨p, 11, none⟩ = some (.int .i64 hmr) ∧ w'.cell? ⟨p, 7, none⟩ = some (.int .i64 r.y.n) := fun w' hb => ⟨bcell hb cl c13, bcell hb cl c11, bcell hb cl c7⟩
     have RD := keep _ ((Below.refl w5.heap.size w5).drew)
     refine wp_region_held_drew (S := fun w' => w'.cell? ⟨p, 13, none⟩ = some (.int .u64 ww) ∧ w'.cell? ⟨p, 11, none⟩ = some (.int .i64 hmr) ∧ w'.cell? ⟨p, 7, none⟩ = some (.int .i64 r.y.n)) (by kernel_rfl) RD (fun hHeld => ?_)
     refine tkH (i := 0) 57 (pt p) rfl rfl ?_
     simp only [sA1, sA2, sA3]
     refine tkH (i := 1) 58 (pt p) rfl rfl ?_
     simp only [sA1, sA2, sA3]
     refine tkH (i := 2) 59 (pt p) rfl rfl ?_
     simp only [sA1, sA2, sA3]
     refine tkH (i := 3) 60 (.pointer (some ⟨p, 1, none⟩)) rfl rfl ?_
     simp only [sA1, sA2, sA3]
     refine tkH (i := 4) 61 (.pointer (some ⟨p, 6, none⟩)) rfl rfl ?_
     simp only [sA1, sA2, sA3]
     refine tkH (i := 5) 62 (.pointer (some ⟨p, 7, none⟩)) rfl rfl ?_
     simp only [sA1, sA2, sA3]
     refine tkH (i := 6) 63 (.int .i64 r.y.n) rfl rfl ?_
     simp only [sA1, sA2, sA3]
     refine tkH (i := 7) 64 (pt p) rfl rfl ?_
     simp only [sA1, sA2, sA3]
     refine tkH (i := 8) 65 (pt p) rfl rfl ?_
     simp only [sA1, sA2, sA3]
     refine tkH (i := 9) 66 (.pointer (some ⟨p, 8, none⟩)) rfl rfl ?_
     simp only [sA1, sA2, sA3]
     refine tkH (i := 10) 67 (.pointer (some ⟨p, 11, none⟩)) rfl rfl ?_
     simp only [sA1, sA2, sA3]
     refine tkH (i := 11) 68 (.int .i64 hmr) rfl rfl ?_
     simp only [sA1, sA2, sA3]
     have hb6 : Below w5.heap.size w5 w5.drew := (Below.refl _ _).drew
     refine rd1 12 rfl fun K hK => ?_
     go_simp
     refine (rNewShade r.y.n hmr _).mono ?_
     rintro e w7 ⟨rfl, M7⟩
     have hb7 := bel_trans hb6 M7.bel
     have B7 := B5.below hb7
     have sx : w7.cell? ⟨p, 15, none⟩ = some xx := B7.cell 15
     have sz := B7.free 15
     refine hK.out _ _ (keep _ hb7) (fun hHeld => ?_)
     clear hK K
     try simp only [Act.put, sA1, sA2, sA3]
     refine tkH (i := 13) 70 (pt p) rfl rfl ?_
     simp only [sA1, sA2, sA3]
     refine tkH (i := 14) 71 (.pointer (some ⟨p, 15, none⟩)) rfl rfl ?_
     simp only [sA1, sA2, sA3]
     refine rd1 15 rfl fun K hK => ?_
     go_simp
     refine hK.out _ _ (⟨(B7.set 15 (pt w5.drew.heap.size)).cell 13, (B7.set 15 (pt w5.drew.heap.size)).cell 11, (B7.set 15 (pt w5.drew.heap.size)).cell 7⟩) (fun hHeld => ?_)
     clear hK K
     try simp only [Act.put, sA1, sA2, sA3]
     refine wpAnyH_done (by kernel_rfl) ?_ _
     refine NoPanic.normal ?_
     go_wp2
     go_ret
     have hs6 : w.heap.size ≤ w5.drew.heap.size := Nat.le_trans K5.size hb6.size
     exact ⟨by first | rfl | (simp; done) | (simp; omega), kept_set (Kept.of_below (bel_trans K5 hb7)) _ _ _ (by simp), pt w5.drew.heap.size, B7.set 15 _, fun _ => ⟨_, rfl, (M7.blk' (Nat.le_trans hs0 hs6) (by decide)).oth (Oth.set (F := [p]) _ _ _ _ (by simp)) (by simp only [List.mem_singleton]; have := B5.lt; have := hb6.size; omega), hs6⟩⟩
   | true =>
    go_upto_region 4 with (fail)
    refine wp_region_noPanic ?_
    have keep : ∀ w', Below w5.heap.size w5 w' → w'.cell? ⟨p, 13, none⟩ = some (.int .u64 ww) ∧ w'.cell? ⟨p, 11, none⟩ = some (.int .i64 hmr) ∧ w'.cell? ⟨p, 7, none⟩ = some (.int .i64 r.y.n) := fun w' hb => ⟨bcell hb cl c13, bcell hb cl c11, bcell hb cl c7⟩
    have RD := keep _ ((Below.refl w5.heap.size w5).drew)
    refine wp_region_held_drew (S := fun w' => w'.cell? ⟨p, 13, none⟩ = some (.int .u64 ww) ∧ w'.cell? ⟨p, 11, none⟩ = some (.int .i64 hmr) ∧ w'.cell? ⟨p, 7, none⟩ = some (.int .i64 r.y.n)) (by kernel_rfl) RD (fun hHeld => ?_)
    refine tkH (i := 0) 32 (pt p) rfl rfl ?_
    simp only [sA1, sA2, sA3]
    refine tkH (i := 1) 33 (pt p) rfl rfl ?_
    simp only [sA1, sA2, sA3]
    refine tkH (i := 2) 34 (pt p) rfl rfl ?_
    simp only [sA1, sA2, sA3]
    refine tkH (i := 3) 35 (.pointer (some ⟨p, 13, none⟩)) rfl rfl ?_
    simp only [sA1, sA2, sA3]
    refine tkH (i := 4) 36 (.int .u64 ww) rfl rfl ?_
    simp only [sA1, sA2, sA3]
    refine tkH (i := 7) 39 (pt p) rfl rfl ?_
    simp only [sA1, sA2, sA3]
    refine tkH (i := 8) 40 (pt p) rfl rfl ?_
    simp only [sA1, sA2, sA3]
    refine tkH (i := 9) 41 (.pointer (some ⟨p, 8, none⟩)) rfl rfl ?_
    simp only [sA1, sA2, sA3]
    refine tkH (i := 10) 42 (.pointer (some ⟨p, 11, none⟩)) rfl rfl ?_
    simp only [sA1, sA2, sA3]
    refine tkH (i := 11) 43 (.int .i64 hmr) rfl rfl ?_
    simp only [sA1, sA2, sA3]
    refine rd1 5 rfl fun K hK => ?_
    go_simp
    refine (F.rOf ww hw.1 hw.2 _).mono ?_
    rintro e w6 ⟨rfl, hw6⟩
    rw [hk, hn] at hw6 ⊢
    have hb6 : Below w5.heap.size w5 w6 := (by rw [hw6]; go_grown)
    clear hw6
    refine hK.out _ _ (keep _ hb6) (fun hHeld => ?_)
    clear hK K
    try simp only [Act.put, sA1, sA2, sA3]
    refine tkH (i := 6) 38 (.int .i64 u.n) rfl rfl ?_
    simp only [sA1, sA2, sA3]
    refine rd1 12 rfl fun K hK => ?_
    go_simp
    refine (rNewShade u.n hmr _).mono ?_
    rintro e w7 ⟨rfl, M7⟩
    have hb7 := bel_trans hb6 M7.bel
    have B7 := B5.below hb7
    have sx : w7.cell? ⟨p, 15, none⟩ = some xx := B7.cell 15
    have sz := B7.free 15
    refine hK.out _ _ (keep _ hb7) (fun hHeld => ?_)
    clear hK K
    try simp only [Act.put, sA1, sA2, sA3]
    refine tkH (i := 13) 45 (pt p) rfl rfl ?_
    simp only [sA1, sA2, sA3]
    refine tkH (i := 14) 46 (.pointer (some ⟨p, 15, none⟩)) rfl rfl ?_
    simp only [sA1, sA2, sA3]
    refine rd1 15 rfl fun K hK => ?_
    go_simp
    refine hK.out _ _ (⟨(B7.set 15 (pt w6.heap.size)).cell 13, (B7.set 15 (pt w6.heap.size)).cell 11, (B7.set 15 (pt w6.heap.size)).cell 7⟩) (fun hHeld => ?_)
    clear hK K
    try simp only [Act.put, sA1, sA2, sA3]
    refine wpAnyH_done (by kernel_rfl) ?_ _
    refine NoPanic.normal ?_
    go_wp2
    go_ret
    have hs6 : w.heap.size ≤ w6.heap.size := Nat.le_trans K5.size hb6.size
    exact ⟨by first | rfl | (simp; done) | (simp; omega), kept_set (Kept.of_below (bel_trans K5 hb7)) _ _ _ (by simp), pt w6.heap.size, B7.set 15 _, fun _ => ⟨_, rfl, (M7.blk' (Nat.le_trans hs0 hs6) (by decide)).oth (Oth.set (F := [p]) _ _ _ _ (by simp)) (by simp only [List.mem_singleton]; have := B5.lt; have := hb6.size; omega), hs6⟩⟩
end
end Go.Proofs.YtpcoldpphihfmaaGreatDoor
