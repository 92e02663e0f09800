/-
  The walk of RootsDo: each call of the program beside the reference's.
-/
import Derived.Test.YtmpmpdipbffcdaaShown
namespace Go.Proofs.Ytmpmpdipbffcdaa
set_option linter.unusedVariables false
open Go.ChangeShapes Go.WideShapes Go.ChangeAt Go.RowKit
open Plain

/-- roots and two numbers in the first two new blocks, further roots behind; nothing that was there turned -/
structure Do (w : World) (n : Int) (l : Nat → Int) (x0 x1 : Int) (bs : List (Nat × Int × (Nat → Int))) (u : World) : Prop where
  bel : Below w.heap.size w u
  r : RAt u w.heap.size n l
  x : u.heap[w.heap.size + 1]? = some (.cells #[.int .i64 x0, .int .i64 x1] 25 (0, 0))
  bs : ∀ b ∈ bs, RAt u b.1 b.2.1 b.2.2
section
variable {w u v : World} {n : Int} {l : Nat → Int} {x0 x1 : Int} {bs : List (Nat × Int × (Nat → Int))}
theorem Do.on (h : Do w n l x0 x1 bs u) (hb : Below u.heap.size u v) : Do w n l x0 x1 bs v := ⟨bt h.bel hb, h.r.on hb, (hb.block _ (lt_of_block h.x)).trans h.x, fun b hm => (h.bs b hm).on hb⟩
theorem Do.push (h : Do w n l x0 x1 bs u) (m : Int) (k : Nat → Int) : Do w n l x0 x1 ((u.heap.size, m, k) :: bs) (u.alloc (.cells #[.int .i64 m, .int .i64 (k 0), .int .i64 (k 1), .int .i64 (k 2), .int .i64 (k 3), .int .i64 (k 4), .int .i64 (k 5), .int .i64 (k 6), .int .i64 (k 7)] 24)) := by
  have h' := h.on ((Below.refl u.heap.size u).alloc (Nat.le_refl _) (.cells #[.int .i64 m, .int .i64 (k 0), .int .i64 (k 1), .int .i64 (k 2), .int .i64 (k 3), .int .i64 (k 4), .int .i64 (k 5), .int .i64 (k 6), .int .i64 (k 7)] 24))
  refine ⟨h'.bel, h'.r, h'.x, fun b hm => ?_⟩
  rcases List.mem_cons.1 hm with rfl | hm
  · exact RAt.new u m k
  · exact h'.bs b hm
theorem Do.start (w : World) (n : Int) (l : Nat → Int) (x0 x1 : Int) : Do w n l x0 x1 [] ((w.alloc (.cells #[.int .i64 n, .int .i64 (l 0), .int .i64 (l 1), .int .i64 (l 2), .int .i64 (l 3), .int .i64 (l 4), .int .i64 (l 5), .int .i64 (l 6), .int .i64 (l 7)] 24)).alloc (.cells #[.int .i64 x0, .int .i64 x1] 25)) :=
  ⟨bal (bal (Below.refl _ _) _) _, (RAt.new w n l).alloc _, by
    have := heap_alloc_new (w.alloc (.cells #[.int .i64 n, .int .i64 (l 0), .int .i64 (l 1), .int .i64 (l 2), .int .i64 (l 3), .int .i64 (l 4), .int .i64 (l 5), .int .i64 (l 6), .int .i64 (l 7)] 24)) (.cells #[.int .i64 x0, .int .i64 x1] 25)
    simp only [World.size_alloc] at this
    exact this, fun _ h => by cases h⟩
theorem Do.drew (h : Do w n l x0 x1 bs u) : Do w n l x0 x1 bs u.drew := ⟨h.bel.drew, h.r, h.x, h.bs⟩
theorem Do.xlt (h : Do w n l x0 x1 bs u) : w.heap.size + 1 < u.heap.size := lt_of_block h.x
theorem Do.xs (h : Do w n l x0 x1 bs u) : u.cell? ⟨w.heap.size + 1, 0, none⟩ = some (.int .i64 x0) ∧ u.cell? ⟨w.heap.size + 1, 1, none⟩ = some (.int .i64 x1) := by
  refine ⟨?_, ?_⟩ <;> (rw [cell_of_row u _ _ _ _ _ h.x]; rfl)
theorem hold_on {p q : Nat} {un : Int} {ul : Nat → Int} (h : Below w.heap.size w u ∧ w.heap.size < u.heap.size ∧ w.heap.size + 1 < u.heap.size ∧ p < u.heap.size ∧ q < u.heap.size ∧ (u.cell? ⟨w.heap.size + 1, 0, none⟩ = some (.int .i64 x0) ∧ u.cell? ⟨w.heap.size + 1, 1, none⟩ = some (.int .i64 x1)) ∧ (u.cell? ⟨w.heap.size, 0, none⟩ = some (.int .i64 n) ∧ u.cell? ⟨w.heap.size, 1, none⟩ = some (.int .i64 (l 0)) ∧ u.cell? ⟨w.heap.size, 2, none⟩ = some (.int .i64 (l 1)) ∧ u.cell? ⟨w.heap.size, 3, none⟩ = some (.int .i64 (l 2)) ∧ u.cell? ⟨w.heap.size, 4, none⟩ = some (.int .i64 (l 3)) ∧ u.cell? ⟨w.heap.size, 5, none⟩ = some (.int .i64 (l 4)) ∧ u.cell? ⟨w.heap.size, 6, none⟩ = some (.int .i64 (l 5)) ∧ u.cell? ⟨w.heap.size, 7, none⟩ = some (.int .i64 (l 6)) ∧ u.cell? ⟨w.heap.size, 8, none⟩ = some (.int .i64 (l 7))) ∧ (u.cell? ⟨p, 0, none⟩ = some (.int .i64 un) ∧ u.cell? ⟨p, 1, none⟩ = some (.int .i64 (ul 0)) ∧ u.cell? ⟨p, 2, none⟩ = some (.int .i64 (ul 1)) ∧ u.cell? ⟨p, 3, none⟩ = some (.int .i64 (ul 2)) ∧ u.cell? ⟨p, 4, none⟩ = some (.int .i64 (ul 3)) ∧ u.cell? ⟨p, 5, none⟩ = some (.int .i64 (ul 4)) ∧ u.cell? ⟨p, 6, none⟩ = some (.int .i64 (ul 5)) ∧ u.cell? ⟨p, 7, none⟩ = some (.int .i64 (ul 6)) ∧ u.cell? ⟨p, 8, none⟩ = some (.int .i64 (ul 7))) ∧ u.cell? ⟨q, 0, none⟩ = some (.int .i64 un) ∧ u.cell? ⟨q, 1, none⟩ = some (.int .i64 (ul 0)) ∧ u.cell? ⟨q, 2, none⟩ = some (.int .i64 (ul 1)) ∧ u.cell? ⟨q, 3, none⟩ = some (.int .i64 (ul 2)) ∧ u.cell? ⟨q, 4, none⟩ = some (.int .i64 (ul 3)) ∧ u.cell? ⟨q, 5, none⟩ = some (.int .i64 (ul 4)) ∧ u.cell? ⟨q, 6, none⟩ = some (.int .i64 (ul 5)) ∧ u.cell? ⟨q, 7, none⟩ = some (.int .i64 (ul 6)) ∧ u.cell? ⟨q, 8, none⟩ = some (.int .i64 (ul 7))) (hb : Below u.heap.size u v) : Below w.heap.size w v ∧ w.heap.size < v.heap.size ∧ w.heap.size + 1 < v.heap.size ∧ p < v.heap.size ∧ q < v.heap.size ∧ (v.cell? ⟨w.heap.size + 1, 0, none⟩ = some (.int .i64 x0) ∧ v.cell? ⟨w.heap.size + 1, 1, none⟩ = some (.int .i64 x1)) ∧ (v.cell? ⟨w.heap.size, 0, none⟩ = some (.int .i64 n) ∧ v.cell? ⟨w.heap.size, 1, none⟩ = some (.int .i64 (l 0)) ∧ v.cell? ⟨w.heap.size, 2, none⟩ = some (.int .i64 (l 1)) ∧ v.cell? ⟨w.heap.size, 3, none⟩ = some (.int .i64 (l 2)) ∧ v.cell? ⟨w.heap.size, 4, none⟩ = some (.int .i64 (l 3)) ∧ v.cell? ⟨w.heap.size, 5, none⟩ = some (.int .i64 (l 4)) ∧ v.cell? ⟨w.heap.size, 6, none⟩ = some (.int .i64 (l 5)) ∧ v.cell? ⟨w.heap.size, 7, none⟩ = some (.int .i64 (l 6)) ∧ v.cell? ⟨w.heap.size, 8, none⟩ = some (.int .i64 (l 7))) ∧ (v.cell? ⟨p, 0, none⟩ = some (.int .i64 un) ∧ v.cell? ⟨p, 1, none⟩ = some (.int .i64 (ul 0)) ∧ v.cell? ⟨p, 2, none⟩ = some (.int .i64 (ul 1)) ∧ v.cell? ⟨p, 3, none⟩ = some (.int .i64 (ul 2)) ∧ v.cell? ⟨p, 4, none⟩ = some (.int .i64 (ul 3)) ∧ v.cell? ⟨p, 5, none⟩ = some (.int .i64 (ul 4)) ∧ v.cell? ⟨p, 6, none⟩ = some (.int .i64 (ul 5)) ∧ v.cell? ⟨p, 7, none⟩ = some (.int .i64 (ul 6)) ∧ v.cell? ⟨p, 8, none⟩ = some (.int .i64 (ul 7))) ∧ v.cell? ⟨q, 0, none⟩ = some (.int .i64 un) ∧ v.cell? ⟨q, 1, none⟩ = some (.int .i64 (ul 0)) ∧ v.cell? ⟨q, 2, none⟩ = some (.int .i64 (ul 1)) ∧ v.cell? ⟨q, 3, none⟩ = some (.int .i64 (ul 2)) ∧ v.cell? ⟨q, 4, none⟩ = some (.int .i64 (ul 3)) ∧ v.cell? ⟨q, 5, none⟩ = some (.int .i64 (ul 4)) ∧ v.cell? ⟨q, 6, none⟩ = some (.int .i64 (ul 5)) ∧ v.cell? ⟨q, 7, none⟩ = some (.int .i64 (ul 6)) ∧ v.cell? ⟨q, 8, none⟩ = some (.int .i64 (ul 7)) := by
  obtain ⟨h1, h2, h3, h4, h5, ⟨a0, a1⟩, ⟨c0, c1, c2, c3, c4, c5, c6, c7, c8⟩, ⟨d0, d1, d2, d3, d4, d5, d6, d7, d8⟩, e0, e1, e2, e3, e4, e5, e6, e7, e8⟩ := h
  exact ⟨bt h1 hb, Nat.lt_of_lt_of_le h2 hb.size, Nat.lt_of_lt_of_le h3 hb.size, Nat.lt_of_lt_of_le h4 hb.size, Nat.lt_of_lt_of_le h5 hb.size, ⟨(hb.cell h3).trans a0, (hb.cell h3).trans a1⟩, ⟨(hb.cell h2).trans c0, (hb.cell h2).trans c1, (hb.cell h2).trans c2, (hb.cell h2).trans c3, (hb.cell h2).trans c4, (hb.cell h2).trans c5, (hb.cell h2).trans c6, (hb.cell h2).trans c7, (hb.cell h2).trans c8⟩, ⟨(hb.cell h4).trans d0, (hb.cell h4).trans d1, (hb.cell h4).trans d2, (hb.cell h4).trans d3, (hb.cell h4).trans d4, (hb.cell h4).trans d5, (hb.cell h4).trans d6, (hb.cell h4).trans d7, (hb.cell h4).trans d8⟩, (hb.cell h5).trans e0, (hb.cell h5).trans e1, (hb.cell h5).trans e2, (hb.cell h5).trans e3, (hb.cell h5).trans e4, (hb.cell h5).trans e5, (hb.cell h5).trans e6, (hb.cell h5).trans e7, (hb.cell h5).trans e8⟩
theorem hold_of {p q : Nat} {un : Int} {ul : Nat → Int} (h : Do w n l x0 x1 bs u) (hp : RAt u p un ul) (hq : RAt u q un ul) : Below w.heap.size w u ∧ w.heap.size < u.heap.size ∧ w.heap.size + 1 < u.heap.size ∧ p < u.heap.size ∧ q < u.heap.size ∧ (u.cell? ⟨w.heap.size + 1, 0, none⟩ = some (.int .i64 x0) ∧ u.cell? ⟨w.heap.size + 1, 1, none⟩ = some (.int .i64 x1)) ∧ (u.cell? ⟨w.heap.size, 0, none⟩ = some (.int .i64 n) ∧ u.cell? ⟨w.heap.size, 1, none⟩ = some (.int .i64 (l 0)) ∧ u.cell? ⟨w.heap.size, 2, none⟩ = some (.int .i64 (l 1)) ∧ u.cell? ⟨w.heap.size, 3, none⟩ = some (.int .i64 (l 2)) ∧ u.cell? ⟨w.heap.size, 4, none⟩ = some (.int .i64 (l 3)) ∧ u.cell? ⟨w.heap.size, 5, none⟩ = some (.int .i64 (l 4)) ∧ u.cell? ⟨w.heap.size, 6, none⟩ = some (.int .i64 (l 5)) ∧ u.cell? ⟨w.heap.size, 7, none⟩ = some (.int .i64 (l 6)) ∧ u.cell? ⟨w.heap.size, 8, none⟩ = some (.int .i64 (l 7))) ∧ (u.cell? ⟨p, 0, none⟩ = some (.int .i64 un) ∧ u.cell? ⟨p, 1, none⟩ = some (.int .i64 (ul 0)) ∧ u.cell? ⟨p, 2, none⟩ = some (.int .i64 (ul 1)) ∧ u.cell? ⟨p, 3, none⟩ = some (.int .i64 (ul 2)) ∧ u.cell? ⟨p, 4, none⟩ = some (.int .i64 (ul 3)) ∧ u.cell? ⟨p, 5, none⟩ = some (.int .i64 (ul 4)) ∧ u.cell? ⟨p, 6, none⟩ = some (.int .i64 (ul 5)) ∧ u.cell? ⟨p, 7, none⟩ = some (.int .i64 (ul 6)) ∧ u.cell? ⟨p, 8, none⟩ = some (.int .i64 (ul 7))) ∧ u.cell? ⟨q, 0, none⟩ = some (.int .i64 un) ∧ u.cell? ⟨q, 1, none⟩ = some (.int .i64 (ul 0)) ∧ u.cell? ⟨q, 2, none⟩ = some (.int .i64 (ul 1)) ∧ u.cell? ⟨q, 3, none⟩ = some (.int .i64 (ul 2)) ∧ u.cell? ⟨q, 4, none⟩ = some (.int .i64 (ul 3)) ∧ u.cell? ⟨q, 5, none⟩ = some (.int .i64 (ul 4)) ∧ u.cell? ⟨q, 6, none⟩ = some (.int .i64 (ul 5)) ∧ u.cell? ⟨q, 7, none⟩ = some (.int .i64 (ul 6)) ∧ u.cell? ⟨q, 8, none⟩ = some (.int .i64 (ul 7)) :=
  ⟨h.bel, h.r.lt, lt_of_block h.x, hp.lt, hq.lt, h.xs, h.r.cells, hp.cells, hq.cells⟩
end
theorem sameR (n : Int) (l : Nat → Int) (w : World) : (binOp .neq 24 (rv n l) (rv n l)).run Try.prog w = .ok (.bool false) w := by
  rw [neqR]; simp [eq8_self]
theorem sameR' (n : Int) (l : Nat → Int) (w : World) : (binOp .eql 24 (rv n l) (rv n l)).run Try.prog w = .ok (.bool true) w := by
  rw [eqR]; simp [eq8_self]

set_option maxHeartbeats 1600000 in
theorem wDo (n : Int) (l : Nat → Int) (x0 x1 i : Int) (w : World) :
    Calls Try.prog 3 #[rv n l, .agg #[.int .i64 x0, .int .i64 x1], .int .i64 i] w fun e w' => e = .returned (.bool true) ∧ Below w.heap.size w w' := by
  have hP := cPush n l x0
  have hP' := rPush n l x0
  have hD := cDrop n l
  have hD' := rDrop n l
  have hG := cGet n l i
  have hG' := rGet n l i
  have hU := cDup n l i
  have hU' := rDup n l i
  have hM := cMove n l x0 x1
  have hM' := rMove n l x0 x1
  generalize pushN n l = pn at hP hP'
  generalize pushL n l x0 = pl at hP hP'
  generalize pushE n l = pe at hP hP'
  generalize dropN n l = dn at hD hD'
  generalize dropL n l = dl at hD hD'
  generalize dropE n l = de at hD hD'
  generalize getV n l i = gv at hG hG'
  generalize getE n l i = ge at hG hG'
  generalize dupN n l i = un at hU hU'
  generalize dupL n l i = ul at hU hU'
  generalize dupE n l i = ue at hU hU'
  generalize mv l n x0 x1 = ml at hM hM'
  have E1 := sameR pn pl
  have E2 := sameR dn dl
  have E3 := sameR' un ul
  have E4 := sameR' n ml
  go_enter Try.func3, Try.ntmps3
  go_wp2_with (first
    | (go_at_call 9; refine (cShown _).mono ?_; rintro e w1 ⟨rfl, hb⟩; have D1 := Do.on (Do.start w n l x0 x1) hb; clear hb; obtain ⟨a0, a1, a2, a3, a4, a5, a6, a7, a8⟩ := D1.r.cells; obtain ⟨y0, y1⟩ := D1.xs)
    | (go_at_call 10; refine (hP _).mono ?_; rintro e w2 ⟨rfl, hb⟩; have D2 := Do.on D1 hb; clear hb a0 a1 a2 a3 a4 a5 a6 a7 a8 y0 y1; obtain ⟨a0, a1, a2, a3, a4, a5, a6, a7, a8⟩ := D2.r.cells; have zr2 := D2.r.lt; have zx2 := D2.xlt; obtain ⟨y0, y1⟩ := D2.xs)
    | (go_at_call 11; refine (hP' _).mono ?_; rintro e w3 ⟨rfl, hb⟩; have D3 := Do.on (Do.push D2 pn pl) hb; clear hb a0 a1 a2 a3 a4 a5 a6 a7 a8 y0 y1; obtain ⟨a0, a1, a2, a3, a4, a5, a6, a7, a8⟩ := D3.r.cells; have zr3 := D3.r.lt; have zx3 := D3.xlt)
    | (go_at_call 12; refine (hD _).mono ?_; rintro e w4 ⟨rfl, hb⟩; have D4 := Do.on (Do.push D3 pn pl) hb; clear hb a0 a1 a2 a3 a4 a5 a6 a7 a8; obtain ⟨a0, a1, a2, a3, a4, a5, a6, a7, a8⟩ := D4.r.cells; have zr4 := D4.r.lt; have zx4 := D4.xlt)
    | (go_at_call 13; refine (hD' _).mono ?_; rintro e w5 ⟨rfl, hb⟩; have D5 := Do.on (Do.push D4 dn dl) hb; clear hb a0 a1 a2 a3 a4 a5 a6 a7 a8; obtain ⟨a0, a1, a2, a3, a4, a5, a6, a7, a8⟩ := D5.r.cells; have zr5 := D5.r.lt; have zx5 := D5.xlt; have p1 := D5.bs (w4.heap.size, dn, dl) (by simp); have p2 := D5.bs (w3.heap.size, pn, pl) (by simp); have p3 := D5.bs (w2.heap.size, pn, pl) (by simp); obtain ⟨b0, b1, b2, b3, b4, b5, b6, b7, b8⟩ := p1.cells; obtain ⟨c0, c1, c2, c3, c4, c5, c6, c7, c8⟩ := p2.cells; obtain ⟨d0, d1, d2, d3, d4, d5, d6, d7, d8⟩ := p3.cells; have z1 := p1.lt; have z2 := p2.lt; have z3 := p3.lt)
    | (go_at_call 14; refine (hG _).mono ?_; rintro e w6 ⟨rfl, hb⟩; have D6 := Do.on (Do.push D5 dn dl) hb; clear hb p1 p2 p3 z1 z2 z3 a0 a1 a2 a3 a4 a5 a6 a7 a8 b0 b1 b2 b3 b4 b5 b6 b7 b8 c0 c1 c2 c3 c4 c5 c6 c7 c8 d0 d1 d2 d3 d4 d5 d6 d7 d8; obtain ⟨a0, a1, a2, a3, a4, a5, a6, a7, a8⟩ := D6.r.cells; have zr6 := D6.r.lt; have zx6 := D6.xlt)
    | (go_at_call 15; refine (hG' _).mono ?_; rintro e w7 ⟨rfl, hb⟩; have D7 := Do.on D6 hb; clear hb a0 a1 a2 a3 a4 a5 a6 a7 a8; obtain ⟨a0, a1, a2, a3, a4, a5, a6, a7, a8⟩ := D7.r.cells; have zr7 := D7.r.lt; have zx7 := D7.xlt)
    | (go_at_call 16; refine (hU _).mono ?_; rintro e w8 ⟨rfl, hb⟩; have D8 := Do.on D7 hb; clear hb a0 a1 a2 a3 a4 a5 a6 a7 a8; obtain ⟨a0, a1, a2, a3, a4, a5, a6, a7, a8⟩ := D8.r.cells; have zr8 := D8.r.lt; have zx8 := D8.xlt)
    | (go_at_call 17; refine (hU' _).mono ?_; rintro e w9 ⟨rfl, hb⟩; have D9 := Do.on (Do.push D8 un ul) hb; clear hb a0 a1 a2 a3 a4 a5 a6 a7 a8; have DA := Do.drew (Do.push D9 un ul); have H := (hold_of DA (DA.bs (w8.heap.size, un, ul) (by simp)) (DA.bs (w9.heap.size, un, ul) (by simp)))))
  clear D1 D2 D3 D4 D5 D6 D7 D8 D9 DA zr2 zx2 zr3 zx3 zr4 zx4 zr5 zx5 zr6 zx6 zr7 zx7 zr8 zx8 hP hP' hD hD' hG hG' hU hU' E1 E2
  have H0 := H.1
  go_region_held3 (fun w' => Below w.heap.size w w' ∧ w.heap.size < w'.heap.size ∧ w.heap.size + 1 < w'.heap.size ∧ w8.heap.size < w'.heap.size ∧ w9.heap.size < w'.heap.size ∧ (w'.cell? ⟨w.heap.size + 1, 0, none⟩ = some (.int .i64 x0) ∧ w'.cell? ⟨w.heap.size + 1, 1, none⟩ = some (.int .i64 x1)) ∧ (w'.cell? ⟨w.heap.size, 0, none⟩ = some (.int .i64 n) ∧ w'.cell? ⟨w.heap.size, 1, none⟩ = some (.int .i64 (l 0)) ∧ w'.cell? ⟨w.heap.size, 2, none⟩ = some (.int .i64 (l 1)) ∧ w'.cell? ⟨w.heap.size, 3, none⟩ = some (.int .i64 (l 2)) ∧ w'.cell? ⟨w.heap.size, 4, none⟩ = some (.int .i64 (l 3)) ∧ w'.cell? ⟨w.heap.size, 5, none⟩ = some (.int .i64 (l 4)) ∧ w'.cell? ⟨w.heap.size, 6, none⟩ = some (.int .i64 (l 5)) ∧ w'.cell? ⟨w.heap.size, 7, none⟩ = some (.int .i64 (l 6)) ∧ w'.cell? ⟨w.heap.size, 8, none⟩ = some (.int .i64 (l 7))) ∧ (w'.cell? ⟨w8.heap.size, 0, none⟩ = some (.int .i64 un) ∧ w'.cell? ⟨w8.heap.size, 1, none⟩ = some (.int .i64 (ul 0)) ∧ w'.cell? ⟨w8.heap.size, 2, none⟩ = some (.int .i64 (ul 1)) ∧ w'.cell? ⟨w8.heap.size, 3, none⟩ = some (.int .i64 (ul 2)) ∧ w'.cell? ⟨w8.heap.size, 4, none⟩ = some (.int .i64 (ul 3)) ∧ w'.cell? ⟨w8.heap.size, 5, none⟩ = some (.int .i64 (ul 4)) ∧ w'.cell? ⟨w8.heap.size, 6, none⟩ = some (.int .i64 (ul 5)) ∧ w'.cell? ⟨w8.heap.size, 7, none⟩ = some (.int .i64 (ul 6)) ∧ w'.cell? ⟨w8.heap.size, 8, none⟩ = some (.int .i64 (ul 7))) ∧ w'.cell? ⟨w9.heap.size, 0, none⟩ = some (.int .i64 un) ∧ w'.cell? ⟨w9.heap.size, 1, none⟩ = some (.int .i64 (ul 0)) ∧ w'.cell? ⟨w9.heap.size, 2, none⟩ = some (.int .i64 (ul 1)) ∧ w'.cell? ⟨w9.heap.size, 3, none⟩ = some (.int .i64 (ul 2)) ∧ w'.cell? ⟨w9.heap.size, 4, none⟩ = some (.int .i64 (ul 3)) ∧ w'.cell? ⟨w9.heap.size, 5, none⟩ = some (.int .i64 (ul 4)) ∧ w'.cell? ⟨w9.heap.size, 6, none⟩ = some (.int .i64 (ul 5)) ∧ w'.cell? ⟨w9.heap.size, 7, none⟩ = some (.int .i64 (ul 6)) ∧ w'.cell? ⟨w9.heap.size, 8, none⟩ = some (.int .i64 (ul 7))) (first | assumption | exact hold_on (by assumption) (by assumption))
    (first | (go_at_call 18; refine (hM _).mono ?_; rintro e wa ⟨rfl, ha⟩) | (go_at_call 19; refine (hM' _).mono ?_; rintro e wb ⟨rfl, hb⟩))
  go_wp2
  go_ret
  exact ⟨rfl, bt (bt H0 ha) hb⟩
end Go.Proofs.Ytmpmpdipbffcdaa
