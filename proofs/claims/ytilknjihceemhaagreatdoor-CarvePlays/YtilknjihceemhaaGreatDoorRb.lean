/-
  A worker begins.
-/
import Derived.Test.YtilknjihceemhaaGreatDoorRl
namespace Go.Proofs.YtilknjihceemhaaGreatDoor
set_option linter.unusedVariables false
set_option maxRecDepth 100000
open Go.ChangeShapes Go.WideShapes Go.RowKit
open S.Plain (t0 t1 tw nx bw b3)
open H.Plain (hw pL)

theorem row_cap {w0 w : World} {g n cp : Nat} {l : List Int} (h : RowI w0 w (.slice (some ⟨g, 0, none⟩) n cp) l) : l.length ≤ cp := by
  rcases h.row.2 with ⟨h', _⟩ | ⟨g', cp', cur, h', _, _, r1, _⟩
  · simp at h'
  · simp only [Value.slice.injEq] at h'
    obtain ⟨_, _, rfl⟩ := h'
    exact r1
theorem row_empty (w : World) (n : Nat) (hn : w.heap.size = n) : (w.alloc (.cells #[] 3)).ownsRow 0 3 1 (.slice (some ⟨n, 0, none⟩) 0 0) 0 [] := by
  subst hn
  exact ⟨rfl, .inr ⟨w.heap.size, 0, #[], rfl, Nat.zero_le _, heap_alloc_new w _, Nat.le_refl _, Nat.zero_le _, rfl, rfl⟩⟩
theorem size_set (w : World) (a : Addr) (u : Value) : (w.setCell a u).heap.size = w.heap.size := by simp [World.setCell]
theorem bal1 {w : World} (x : Obj) : Below w.heap.size w (w.alloc x) := (Below.refl _ _).alloc (Nat.le_refl _) x

/-- machines are made over two memories -/
theorem tNewTake {w0 w : World} {b y N : Nat} {s1 s2 : St} (h : Two w0 w b y s1 s2 N) (q : Pl) (c e : Int) :
    Calls Tryz.prog 11 #[.agg #[.int .i64 q.t, .int .i64 q.b, .int .i64 q.tb, .int .i64 q.hp, .int .i64 q.sz], .int .i64 c, .int .i64 e] w fun v w' => ∃ p, v = .returned (.pointer (some ⟨p, 0, none⟩)) ∧ Two w0 w' b y s1 s2 N ∧ Blk w0 w' p 79 (TakeS.new q c e).cells ∧ Below w.heap.size w w' ∧ w.heap.size ≤ p := by
  refine (cNewTake q c e w).mono ?_
  rintro v w' ⟨w1, rfl, hb, rfl⟩
  have h1 := h.below hb
  exact ⟨_, rfl, h1.alloc _, Blk.new h1.bel.size _ (by decide), S.bal hb _, hb.size⟩
theorem tNewGive {w0 w : World} {b y N : Nat} {s1 s2 : St} (h : Two w0 w b y s1 s2 N) (q : Pl) (i : Int) :
    Calls Tryz.prog 22 #[.agg #[.int .i64 q.t, .int .i64 q.b, .int .i64 q.tb, .int .i64 q.hp, .int .i64 q.sz], .int .i64 i] w fun v w' => ∃ p, v = .returned (.pointer (some ⟨p, 0, none⟩)) ∧ Two w0 w' b y s1 s2 N ∧ Blk w0 w' p 101 (GiveS.new q i).cells ∧ Below w.heap.size w w' ∧ w.heap.size ≤ p := by
  refine (cNewGive q i w).mono ?_
  rintro v w' ⟨w1, rfl, hb, rfl⟩
  have h1 := h.below hb
  exact ⟨_, rfl, h1.alloc _, Blk.new h1.bel.size _ (by decide), S.bal hb _, hb.size⟩
theorem yNewTake {w0 w : World} {b y N : Nat} {s1 s2 : St} (h : Two w0 w b y s1 s2 N) (q : Pl) (c e : Int) :
    Calls Tryz.prog 21 #[.agg #[.int .i64 q.t, .int .i64 q.b, .int .i64 q.tb, .int .i64 q.hp, .int .i64 q.sz], .int .i64 c, .int .i64 e] w fun v w' => ∃ p, v = .returned (.pointer (some ⟨p, 0, none⟩)) ∧ Two w0 w' b y s1 s2 N ∧ Blk w0 w' p 68 ((TakeS.new q c e).rcells (.pointer none)) ∧ Below w.heap.size w w' ∧ w.heap.size ≤ p := by
  refine (rNewTake q c e w).mono ?_
  rintro v w' ⟨w1, rfl, hb, rfl⟩
  have h1 := h.below hb
  exact ⟨_, rfl, h1.alloc _, Blk.new h1.bel.size _ (by decide), S.bal hb _, hb.size⟩
theorem yNewGive {w0 w : World} {b y N : Nat} {s1 s2 : St} (h : Two w0 w b y s1 s2 N) (q : Pl) (i : Int) :
    Calls Tryz.prog 23 #[.agg #[.int .i64 q.t, .int .i64 q.b, .int .i64 q.tb, .int .i64 q.hp, .int .i64 q.sz], .int .i64 i] w fun v w' => ∃ p, v = .returned (.pointer (some ⟨p, 0, none⟩)) ∧ Two w0 w' b y s1 s2 N ∧ Blk w0 w' p 103 (GiveS.new q i).rcells ∧ Below w.heap.size w w' ∧ w.heap.size ≤ p := by
  refine (rNewGive q i w).mono ?_
  rintro v w' ⟨w1, rfl, hb, rfl⟩
  have h1 := h.below hb
  exact ⟨_, rfl, h1.alloc _, Blk.new h1.bel.size _ (by decide), S.bal hb _, hb.size⟩
section
variable {w0 w : World} {b y B k o n N M : Nat} {s1 s2 : St} {wk : Nat → Wk}
theorem bBusy {cs : Array Value} (hB : Blk w0 w B 40 cs) (pops : Bool) (c : Int) {p q : Nat} (h : cs[o]? = some (ptr p) ∨ cs[o]? = some (.pointer none) ∧ cs[o + 1]? = some (ptr q)) :
    Calls Tryz.prog 8 #[.pointer (some ⟨B, o, none⟩), .agg #[.int .i64 (mkPl 4 n).t, .int .i64 (mkPl 4 n).b, .int .i64 (mkPl 4 n).tb, .int .i64 (mkPl 4 n).hp, .int .i64 (mkPl 4 n).sz], .bool pops, .int .i64 c] w fun e w' => e = .returned (.tuple #[]) ∧ Below w.heap.size w w' := by
  have lB := hB.lt
  rcases h with h | ⟨h, h'⟩
  · have c0 : w.cell? ⟨B, o, none⟩ = some (.pointer (some ⟨p, 0, none⟩)) := (hB.cell o).trans h
    go_enter Tryz.func8, Tryz.ntmps8
    go_wp2
    go_returns
    exact ⟨rfl, bal1 _⟩
  · have c0 : w.cell? ⟨B, o, none⟩ = some (.pointer none) := (hB.cell o).trans h
    have c1 : w.cell? ⟨B, o + 1, none⟩ = some (.pointer (some ⟨q, 0, none⟩)) := (hB.cell (o + 1)).trans h'
    go_enter Tryz.func8, Tryz.ntmps8
    go_wp2
    go_returns
    exact ⟨rfl, bal1 _⟩
set_option maxHeartbeats 2000000 in
theorem bTake {cs : Array Value} (h : Two w0 w b y s1 s2 N) (hB : Blk w0 w B 40 cs) (pops : Bool) {c : Int} (c0' : 0 ≤ c) (c2' : c ≤ 2) {v2 vh : Value} {hs : List Int} (h0 : cs[o]? = some (.pointer none)) (h1 : cs[o + 1]? = some (.pointer none)) (h2 : cs[o + 2]? = some v2) (h4 : cs[o + 4]? = some vh)
    (hr : RowI w0 w vh hs) (hc : pops = true ∨ hs = []) :
    Calls Tryz.prog 8 #[.pointer (some ⟨B, o, none⟩), .agg #[.int .i64 (mkPl 4 n).t, .int .i64 (mkPl 4 n).b, .int .i64 (mkPl 4 n).tb, .int .i64 (mkPl 4 n).hp, .int .i64 (mkPl 4 n).sz], .bool pops, .int .i64 c] w fun e w' => e = .returned (.tuple #[]) ∧ Two w0 w' b y s1 s2 N ∧ ∃ p q, Blk w0 w' B 40 ((cs.setIfInBounds o (ptr p)).setIfInBounds (o + 2) (ptr q)) ∧
      Blk w0 w' p 79 (TakeS.new (mkPl 4 n) c (c % 2)).cells ∧ Blk w0 w' q 68 ((TakeS.new (mkPl 4 n) c (c % 2)).rcells (.pointer none)) ∧ Oth [B] w w' ∧ w.heap.size ≤ p ∧ w.heap.size ≤ q := by
  have lB := hB.lt
  have tX := h.alloc (.cells (mkPl 4 n).cells 25)
  have BX := hB.below (bal1 (w := w) (.cells (mkPl 4 n).cells 25))
  have oX : Oth [B] w (w.alloc (.cells (mkPl 4 n).cells 25)) := Oth.alloc _ _ _
  have X0 : PBox (w.alloc (.cells (mkPl 4 n).cells 25)) w.heap.size (mkPl 4 n) := heap_alloc_new _ _
  have nXB : w.heap.size ∉ [B] := by simp; omega
  have c0 : w.cell? ⟨B, o, none⟩ = some (.pointer none) := (hB.cell o).trans h0
  have c1 : w.cell? ⟨B, o + 1, none⟩ = some (.pointer none) := (hB.cell (o + 1)).trans h1
  obtain ⟨ao, cp, rfl, _⟩ := hr.slice
  have c4 : w.cell? ⟨B, o + 4, none⟩ = some (.slice ao hs.length cp) := (hB.cell (o + 4)).trans h4
  have hpc : pops = true ∨ pops = false ∧ hs = [] := by
    cases pops
    · exact .inr ⟨rfl, hc.resolve_left (by decide)⟩
    · exact .inl rfl
  clear hc
  rcases hpc with rfl | ⟨rfl, rfl⟩
  · go_enter Tryz.func8, Tryz.ntmps8
    go_wp2_with (first
      | (go_at_call 11; refine (tNewTake tX (mkPl 4 n) c (c % 2)).mono ?_; rintro e w1 ⟨p, rfl, t1, P1, hb1, lp1⟩; have B1 := BX.below hb1; have o1a : Oth [B] (w.alloc (.cells (mkPl 4 n).cells 25)) w1 := Oth.below hb1; have o1 : Oth [B] w w1 := (oX).trans o1a; have lp : w.heap.size ≤ p := Nat.le_trans (oX).size lp1; have X1 := X0.below hb1; have nB : p ∉ [B] := (by simp; exact P1.ne B1 (by decide)); have d0 : w1.cell? ⟨B, o, none⟩ = some (.pointer none) := (B1.cell _).trans h0; have f0 := B1.free (o); have X2 := X1.oth (Oth.set w1 B (o) (.pointer (some ⟨p, 0, none⟩)) (F := [B]) (by simp)) nXB; have xa0 := X2.c0; have xa1 := X2.c1; have xa2 := X2.c2; have xa3 := X2.c3; have xa4 := X2.c4)
      | (go_at_call 21; refine (yNewTake (t1.set B1 (o) (.pointer (some ⟨p, 0, none⟩))) (mkPl 4 n) c (c % 2)).mono ?_; rintro e w2 ⟨q, rfl, t2, P2, hb2, lq1⟩; have B2 : Blk w0 w2 B 40 (cs.setIfInBounds (o) (ptr p)) := (B1.set (o) _).below hb2; have o2 : Oth [B] w1 w2 := (Oth.set _ _ _ _ (by simp)).trans (Oth.below hb2); have lq : w.heap.size ≤ q := Nat.le_trans o1.size (Nat.le_trans (by simp [World.setCell]) lq1); have mB : q ∉ [B] := (by simp; exact P2.ne B2 (by decide)); have d2 : w2.cell? ⟨B, o + 2, none⟩ = some v2 := (B2.cell _).trans (by rw [Array.getElem?_setIfInBounds_ne (by omega)]; exact h2); have f2 := B2.free (o + 2)))
    go_returns
    exact  ⟨rfl, t2.set B2 _ _, p, q, B2.set _ _, (P1.oth o2 nB).oth (Oth.set _ _ _ _ (by simp)) nB, P2.oth (Oth.set _ _ _ _ (by simp)) mB, (o1.trans o2).trans (Oth.set _ _ _ _ (by simp)), lp, lq⟩
  · simp only [List.length_nil] at c4
    go_enter Tryz.func8, Tryz.ntmps8
    go_wp2_with (first
      | (go_at_call 11; refine (tNewTake tX (mkPl 4 n) c (c % 2)).mono ?_; rintro e w1 ⟨p, rfl, t1, P1, hb1, lp1⟩; have B1 := BX.below hb1; have o1a : Oth [B] (w.alloc (.cells (mkPl 4 n).cells 25)) w1 := Oth.below hb1; have o1 : Oth [B] w w1 := (oX).trans o1a; have lp : w.heap.size ≤ p := Nat.le_trans (oX).size lp1; have X1 := X0.below hb1; have nB : p ∉ [B] := (by simp; exact P1.ne B1 (by decide)); have d0 : w1.cell? ⟨B, o, none⟩ = some (.pointer none) := (B1.cell _).trans h0; have f0 := B1.free (o); have X2 := X1.oth (Oth.set w1 B (o) (.pointer (some ⟨p, 0, none⟩)) (F := [B]) (by simp)) nXB; have xa0 := X2.c0; have xa1 := X2.c1; have xa2 := X2.c2; have xa3 := X2.c3; have xa4 := X2.c4)
      | (go_at_call 21; refine (yNewTake (t1.set B1 (o) (.pointer (some ⟨p, 0, none⟩))) (mkPl 4 n) c (c % 2)).mono ?_; rintro e w2 ⟨q, rfl, t2, P2, hb2, lq1⟩; have B2 : Blk w0 w2 B 40 (cs.setIfInBounds (o) (ptr p)) := (B1.set (o) _).below hb2; have o2 : Oth [B] w1 w2 := (Oth.set _ _ _ _ (by simp)).trans (Oth.below hb2); have lq : w.heap.size ≤ q := Nat.le_trans o1.size (Nat.le_trans (by simp [World.setCell]) lq1); have mB : q ∉ [B] := (by simp; exact P2.ne B2 (by decide)); have d2 : w2.cell? ⟨B, o + 2, none⟩ = some v2 := (B2.cell _).trans (by rw [Array.getElem?_setIfInBounds_ne (by omega)]; exact h2); have f2 := B2.free (o + 2)))
    go_returns
    exact  ⟨rfl, t2.set B2 _ _, p, q, B2.set _ _, (P1.oth o2 nB).oth (Oth.set _ _ _ _ (by simp)) nB, P2.oth (Oth.set _ _ _ _ (by simp)) mB, (o1.trans o2).trans (Oth.set _ _ _ _ (by simp)), lp, lq⟩
set_option maxHeartbeats 2000000 in
theorem bGive2 {cs : Array Value} (h : Two w0 w b y s1 s2 N) (hB : Blk w0 w B 40 cs) {c : Int} {v3 vh : Value} {a d : Int} {r : List Int} (h0 : cs[o]? = some (.pointer none)) (h1 : cs[o + 1]? = some (.pointer none)) (h3 : cs[o + 3]? = some v3) (h4 : cs[o + 4]? = some vh)
    (hr : RowI w0 w vh (a :: d :: r)) (hlen : (a :: d :: r).length ≤ 1000) :
    Calls Tryz.prog 8 #[.pointer (some ⟨B, o, none⟩), .agg #[.int .i64 (mkPl 4 n).t, .int .i64 (mkPl 4 n).b, .int .i64 (mkPl 4 n).tb, .int .i64 (mkPl 4 n).hp, .int .i64 (mkPl 4 n).sz], .bool false, .int .i64 c] w fun e w' => e = .returned (.tuple #[]) ∧ Two w0 w' b y s1 s2 N ∧ ∃ vh' p q, Blk w0 w' B 40 (((cs.setIfInBounds (o + 4) vh').setIfInBounds (o + 1) (ptr p)).setIfInBounds (o + 3) (ptr q)) ∧
      Blk w0 w' p 101 (GiveS.new (mkPl 4 n) a).cells ∧ Blk w0 w' q 103 (GiveS.new (mkPl 4 n) a).rcells ∧ Oth [B] w w' ∧ w.heap.size ≤ p ∧ w.heap.size ≤ q ∧ RowI w0 w' vh' (d :: r) ∧ ∀ k, vh'.ownBlock = some k → w.heap.size ≤ k := by
  obtain ⟨i0, hi, hz0, hz1, hz2⟩ := info_parts infoInt
  have lB := hB.lt
  have tX := h.alloc (.cells (mkPl 4 n).cells 25)
  have BX := hB.below (bal1 (w := w) (.cells (mkPl 4 n).cells 25))
  have oX : Oth [B] w (w.alloc (.cells (mkPl 4 n).cells 25)) := Oth.alloc _ _ _
  have X0 : PBox (w.alloc (.cells (mkPl 4 n).cells 25)) w.heap.size (mkPl 4 n) := heap_alloc_new _ _
  have nXB : w.heap.size ∉ [B] := by simp; omega
  have c0 : w.cell? ⟨B, o, none⟩ = some (.pointer none) := (hB.cell o).trans h0
  have c1 : w.cell? ⟨B, o + 1, none⟩ = some (.pointer none) := (hB.cell (o + 1)).trans h1
  obtain ⟨ao, cp, rfl, hg⟩ := hr.slice
  obtain ⟨g, rfl⟩ := hg (by simp)
  have c4 : w.cell? ⟨B, o + 4, none⟩ = some (.slice (some ⟨g, 0, none⟩) (a :: d :: r).length cp) := (hB.cell (o + 4)).trans h4
  have ca : w.cell? ⟨g, 0, none⟩ = some (.int .i64 a) := hr.cell (j := 0) rfl
  have lg : g < w.heap.size := by obtain ⟨_, hc⟩ := hr.blk (k := g) rfl; exact lt_of_block hc
  have fB4 := hB.free (o + 4)
  have fX4 := BX.free (o + 4)
  have lcp := row_cap hr
  simp only [List.length_cons] at lcp c4 hlen
  go_enter Tryz.func8, Tryz.ntmps8
  have lrow : (d :: r).length = r.length + 1 := rfl
  have hl1 : (nums (d :: r)).length = (r.length + 1) * 1 := by rw [nums_length]; simp
  have HC : ∀ j u, (nums (d :: r))[j]? = some u → ((w.alloc (.cells (mkPl 4 n).cells 25)).alloc (.cells #[] 3)).cell? ((⟨g, 1, none⟩ : Addr).add j) = some u := fun j u hu => by
    rw [Addr.add_lit, (bal1 (w := (w.alloc (.cells (mkPl 4 n).cells 25))) _).cell (by simp; omega), (bal1 (w := w) _).cell lg]
    have hx : (nums (a :: d :: r))[1 + j]? = some u := by rw [Nat.add_comm]; exact hu
    simp only [nums, List.getElem?_map, Option.map_eq_some_iff] at hx
    obtain ⟨x, hx1, rfl⟩ := hx
    exact hr.cell hx1
  go_wp2_with (at_builtin; refine wpList_append_mine _ rfl _ _ 22 rfl 3 i0 _ 1 8 Tryz.underlying22 hi hz0 hz1 hz2 rfl (by decide) (.slice (some ⟨w.heap.size + 1, 0, none⟩) 0 0) 0 [] rfl (row_empty (w.alloc (.cells (mkPl 4 n).cells 25)) _ (by simp)) ⟨g, 1, none⟩ (r.length + 1) (cp - 1) (nums (d :: r)) rfl hl1 HC (nums_one _) (by unfold maxLen; omega) (by omega) (by omega) ?_; intro g1 cp1 w3 hrow hgr hn; rw [Nat.zero_add] at hrow ⊢; rw [List.nil_append] at hrow; have lg1 : w.heap.size + 1 ≤ g1 := (by rcases hn with hn | hn; (simp [Value.ownBlock] at hn; omega); (simp at hn; omega)); have hb3 : Below (w.alloc (.cells (mkPl 4 n).cells 25)).heap.size (w.alloc (.cells (mkPl 4 n).cells 25)) w3 := ((bal1 _).grown hgr (by simp) (fun k hk => by simp [Value.ownBlock] at hk; simp; omega)); have hbw : Below w.heap.size w w3 := (bal1 _).trans (hb3.mono (by simp)); have B3 := hB.below hbw; have R3 : RowI w0 w3 (.slice (some ⟨g1, 0, none⟩) (r.length + 1) cp1) (d :: r) := RowI.of_own hrow rfl rfl (Nat.le_trans h.bel.size (by omega)); have x4 : w3.cell? ⟨B, o + 4, none⟩ = some (.slice (some ⟨g, 0, none⟩) (r.length + 1 + 1) cp) := (B3.cell _).trans h4; have xf4 := B3.free (o + 4); have X3 := X0.below hb3; have X4 : PBox (w3.setCell ⟨B, o + 4, none⟩ (.slice (some ⟨g1, 0, none⟩) (r.length + 1) cp1)) w.heap.size (mkPl 4 n) := X3.oth (Oth.set w3 B (o + 4) _ (F := [B]) (by simp)) nXB; have xz0 := X4.c0; have xz1 := X4.c1; have xz2 := X4.c2; have xz3 := X4.c3; have xz4 := X4.c4; clear hrow hgr hn)
  obtain ⟨vh', hvh⟩ : ∃ v : Value, .slice (some ⟨g1, 0, none⟩) (r.length + 1) cp1 = v := ⟨_, rfl⟩
  have lR : ∀ k, vh'.ownBlock = some k → w.heap.size ≤ k := fun k hk => by rw [← hvh] at hk; simp [Value.ownBlock] at hk; omega
  rw [hvh] at R3 X4 xz0 xz1 xz2 xz3 xz4 ⊢
  have t4 : Two w0 (w3.setCell ⟨B, o + 4, none⟩ vh') b y s1 s2 N := (h.below hbw).set B3 _ _
  have B4 : Blk w0 (w3.setCell ⟨B, o + 4, none⟩ vh') B 40 (cs.setIfInBounds (o + 4) vh') := B3.set (o + 4) _
  have o4 : Oth [B] w (w3.setCell ⟨B, o + 4, none⟩ vh') := (Oth.below hbw).trans (Oth.set _ _ _ _ (by simp))
  have R4 : RowI w0 (w3.setCell ⟨B, o + 4, none⟩ vh') vh' (d :: r) := R3.oth (Oth.set w3 B (o + 4) vh' (F := [B]) (by simp)) fun k hk => by have := lR k hk; simp; omega
  clear hvh
  have h1x : (cs.setIfInBounds (o + 4) vh')[o + 1]? = some (.pointer none) := by rw [Array.getElem?_setIfInBounds_ne (by omega)]; exact h1
  have h3x : (cs.setIfInBounds (o + 4) vh')[o + 3]? = some v3 := by rw [Array.getElem?_setIfInBounds_ne (by omega)]; exact h3
  have nR : ∀ k, vh'.ownBlock = some k → k ∉ [B] := fun k hk => by have := lR k hk; simp; omega
  obtain ⟨X, hX⟩ : ∃ X, w.heap.size = X := ⟨_, rfl⟩
  rw [hX] at X4 nXB xz0 xz1 xz2 xz3 xz4 ⊢
  generalize w3.setCell ⟨B, o + 4, none⟩ vh' = w4 at t4 B4 o4 R4 X4 xz0 xz1 xz2 xz3 xz4 ⊢
  go_wp2_with (first
    | (go_at_call 22; refine (tNewGive t4 (mkPl 4 n) a).mono ?_; rintro e w1 ⟨p, rfl, t1, P1, hb1, lp1⟩; have B1 := B4.below hb1; have o1a : Oth [B] w4 w1 := Oth.below hb1; have o1 : Oth [B] w w1 := (o4).trans o1a; have lp : w.heap.size ≤ p := Nat.le_trans (o4).size lp1; have X1 := X4.below hb1; have nB : p ∉ [B] := (by simp; exact P1.ne B1 (by decide)); have d0 : w1.cell? ⟨B, o + 1, none⟩ = some (.pointer none) := (B1.cell _).trans h1x; have f0 := B1.free (o + 1); have X2 := X1.oth (Oth.set w1 B (o + 1) (.pointer (some ⟨p, 0, none⟩)) (F := [B]) (by simp)) nXB; have xa0 := X2.c0; have xa1 := X2.c1; have xa2 := X2.c2; have xa3 := X2.c3; have xa4 := X2.c4)
    | (go_at_call 23; refine (yNewGive (t1.set B1 (o + 1) (.pointer (some ⟨p, 0, none⟩))) (mkPl 4 n) a).mono ?_; rintro e w2 ⟨q, rfl, t2, P2, hb2, lq1⟩; have B2 : Blk w0 w2 B 40 ((cs.setIfInBounds (o + 4) vh').setIfInBounds (o + 1) (ptr p)) := (B1.set (o + 1) _).below hb2; have o2 : Oth [B] w1 w2 := (Oth.set _ _ _ _ (by simp)).trans (Oth.below hb2); have lq : w.heap.size ≤ q := Nat.le_trans o1.size (Nat.le_trans (by simp [World.setCell]) lq1); have mB : q ∉ [B] := (by simp; exact P2.ne B2 (by decide)); have d2 : w2.cell? ⟨B, o + 3, none⟩ = some v3 := (B2.cell _).trans (by rw [Array.getElem?_setIfInBounds_ne (by omega)]; exact h3x); have f2 := B2.free (o + 3)))
  go_returns
  exact  ⟨rfl, t2.set B2 _ _, vh', p, q, B2.set _ _, (P1.oth o2 nB).oth (Oth.set _ _ _ _ (by simp)) nB, P2.oth (Oth.set _ _ _ _ (by simp)) mB, (o1.trans o2).trans (Oth.set _ _ _ _ (by simp)), lp, lq, ((R4.oth o1a nR).oth o2 nR).oth (Oth.set _ _ _ _ (by simp)) nR, lR⟩
set_option maxHeartbeats 2000000 in
theorem bGive1 {cs : Array Value} (h : Two w0 w b y s1 s2 N) (hB : Blk w0 w B 40 cs) {c : Int} {v3 vh : Value} {a : Int} (h0 : cs[o]? = some (.pointer none)) (h1 : cs[o + 1]? = some (.pointer none)) (h3 : cs[o + 3]? = some v3) (h4 : cs[o + 4]? = some vh)
    (hr : RowI w0 w vh (a :: [])) (hlen : (a :: []).length ≤ 1000) :
    Calls Tryz.prog 8 #[.pointer (some ⟨B, o, none⟩), .agg #[.int .i64 (mkPl 4 n).t, .int .i64 (mkPl 4 n).b, .int .i64 (mkPl 4 n).tb, .int .i64 (mkPl 4 n).hp, .int .i64 (mkPl 4 n).sz], .bool false, .int .i64 c] w fun e w' => e = .returned (.tuple #[]) ∧ Two w0 w' b y s1 s2 N ∧ ∃ vh' p q, Blk w0 w' B 40 (((cs.setIfInBounds (o + 4) vh').setIfInBounds (o + 1) (ptr p)).setIfInBounds (o + 3) (ptr q)) ∧
      Blk w0 w' p 101 (GiveS.new (mkPl 4 n) a).cells ∧ Blk w0 w' q 103 (GiveS.new (mkPl 4 n) a).rcells ∧ Oth [B] w w' ∧ w.heap.size ≤ p ∧ w.heap.size ≤ q ∧ RowI w0 w' vh' ([]) ∧ ∀ k, vh'.ownBlock = some k → w.heap.size ≤ k := by
  obtain ⟨i0, hi, hz0, hz1, hz2⟩ := info_parts infoInt
  have lB := hB.lt
  have tX := h.alloc (.cells (mkPl 4 n).cells 25)
  have BX := hB.below (bal1 (w := w) (.cells (mkPl 4 n).cells 25))
  have oX : Oth [B] w (w.alloc (.cells (mkPl 4 n).cells 25)) := Oth.alloc _ _ _
  have X0 : PBox (w.alloc (.cells (mkPl 4 n).cells 25)) w.heap.size (mkPl 4 n) := heap_alloc_new _ _
  have nXB : w.heap.size ∉ [B] := by simp; omega
  have c0 : w.cell? ⟨B, o, none⟩ = some (.pointer none) := (hB.cell o).trans h0
  have c1 : w.cell? ⟨B, o + 1, none⟩ = some (.pointer none) := (hB.cell (o + 1)).trans h1
  obtain ⟨ao, cp, rfl, hg⟩ := hr.slice
  obtain ⟨g, rfl⟩ := hg (by simp)
  have c4 : w.cell? ⟨B, o + 4, none⟩ = some (.slice (some ⟨g, 0, none⟩) (a :: []).length cp) := (hB.cell (o + 4)).trans h4
  have ca : w.cell? ⟨g, 0, none⟩ = some (.int .i64 a) := hr.cell (j := 0) rfl
  have lg : g < w.heap.size := by obtain ⟨_, hc⟩ := hr.blk (k := g) rfl; exact lt_of_block hc
  have fB4 := hB.free (o + 4)
  have fX4 := BX.free (o + 4)
  have lcp := row_cap hr
  simp only [List.length_cons] at lcp c4 hlen; simp only [List.length_nil, Nat.zero_add] at lcp c4 hlen
  go_enter Tryz.func8, Tryz.ntmps8
  rcases Nat.lt_or_ge 1 cp with hcp | hcp
  · have hcp' : (cp == 1) = false := by simp; omega
    go_wp2_with (at_builtin; refine wpList_append_none _ rfl _ _ 22 rfl 3 i0 Tryz.underlying22 hi (some ⟨w.heap.size + 1, 0, none⟩) 0 0 (Nat.le_refl _) _ _ rfl rfl ?_)
    obtain ⟨vh', hvh⟩ : ∃ v : Value, .slice (some ⟨w.heap.size + 1, 0, none⟩) 0 0 = v := ⟨_, rfl⟩
    have lR : ∀ k, vh'.ownBlock = some k → w.heap.size ≤ k := fun k hk => by rw [← hvh] at hk; simp [Value.ownBlock] at hk; omega
    have R4 : RowI w0 (((w.setCell ⟨B, o + 4, none⟩ (.slice (some ⟨w.heap.size + 1, 0, none⟩) 0 0)).alloc (.cells #[.int .i64 (mkPl 4 n).t, .int .i64 (mkPl 4 n).b, .int .i64 (mkPl 4 n).tb, .int .i64 (mkPl 4 n).hp, .int .i64 (mkPl 4 n).sz] 25)).alloc (.cells #[] 3)) vh' [] := ⟨by rw [← hvh]; exact row_empty _ _ (by simp [World.setCell]), fun k hk => Nat.le_trans h.bel.size (lR k hk)⟩
    have X4 : PBox (((w.setCell ⟨B, o + 4, none⟩ (.slice (some ⟨w.heap.size + 1, 0, none⟩) 0 0)).alloc (.cells #[.int .i64 (mkPl 4 n).t, .int .i64 (mkPl 4 n).b, .int .i64 (mkPl 4 n).tb, .int .i64 (mkPl 4 n).hp, .int .i64 (mkPl 4 n).sz] 25)).alloc (.cells #[] 3)) w.heap.size (mkPl 4 n) := PBox.below (w := (w.setCell ⟨B, o + 4, none⟩ (.slice (some ⟨w.heap.size + 1, 0, none⟩) 0 0)).alloc (.cells #[.int .i64 (mkPl 4 n).t, .int .i64 (mkPl 4 n).b, .int .i64 (mkPl 4 n).tb, .int .i64 (mkPl 4 n).hp, .int .i64 (mkPl 4 n).sz] 25)) (by have := heap_alloc_new (w.setCell ⟨B, o + 4, none⟩ (.slice (some ⟨w.heap.size + 1, 0, none⟩) 0 0)) (.cells #[.int .i64 (mkPl 4 n).t, .int .i64 (mkPl 4 n).b, .int .i64 (mkPl 4 n).tb, .int .i64 (mkPl 4 n).hp, .int .i64 (mkPl 4 n).sz] 25); rw [size_set] at this; exact this) (bal1 _)
    rw [hvh] at R4 X4 ⊢
    have t4 : Two w0 (((w.setCell ⟨B, o + 4, none⟩ vh').alloc (.cells #[.int .i64 (mkPl 4 n).t, .int .i64 (mkPl 4 n).b, .int .i64 (mkPl 4 n).tb, .int .i64 (mkPl 4 n).hp, .int .i64 (mkPl 4 n).sz] 25)).alloc (.cells #[] 3)) b y s1 s2 N := ((h.set hB _ _).alloc _).alloc _
    have B4 : Blk w0 (((w.setCell ⟨B, o + 4, none⟩ vh').alloc (.cells #[.int .i64 (mkPl 4 n).t, .int .i64 (mkPl 4 n).b, .int .i64 (mkPl 4 n).tb, .int .i64 (mkPl 4 n).hp, .int .i64 (mkPl 4 n).sz] 25)).alloc (.cells #[] 3)) B 40 (cs.setIfInBounds (o + 4) vh') := ((hB.set (o + 4) _).below (bal1 _)).below (bal1 _)
    have o4 : Oth [B] w (((w.setCell ⟨B, o + 4, none⟩ vh').alloc (.cells #[.int .i64 (mkPl 4 n).t, .int .i64 (mkPl 4 n).b, .int .i64 (mkPl 4 n).tb, .int .i64 (mkPl 4 n).hp, .int .i64 (mkPl 4 n).sz] 25)).alloc (.cells #[] 3)) := ((Oth.set _ _ _ _ (by simp)).trans (Oth.alloc _ _ _)).trans (Oth.alloc _ _ _)
    clear hvh
    have h1x : (cs.setIfInBounds (o + 4) vh')[o + 1]? = some (.pointer none) := by rw [Array.getElem?_setIfInBounds_ne (by omega)]; exact h1
    have h3x : (cs.setIfInBounds (o + 4) vh')[o + 3]? = some v3 := by rw [Array.getElem?_setIfInBounds_ne (by omega)]; exact h3
    have nR : ∀ k, vh'.ownBlock = some k → k ∉ [B] := fun k hk => by have := lR k hk; simp; omega
    obtain ⟨X, hX⟩ : ∃ X, w.heap.size = X := ⟨_, rfl⟩
    rw [hX] at X4 nXB ⊢
    have xz0 := X4.c0
    have xz1 := X4.c1
    have xz2 := X4.c2
    have xz3 := X4.c3
    have xz4 := X4.c4
    generalize ((w.setCell ⟨B, o + 4, none⟩ vh').alloc (.cells #[.int .i64 (mkPl 4 n).t, .int .i64 (mkPl 4 n).b, .int .i64 (mkPl 4 n).tb, .int .i64 (mkPl 4 n).hp, .int .i64 (mkPl 4 n).sz] 25)).alloc (.cells #[] 3) = w4 at t4 B4 o4 R4 X4 xz0 xz1 xz2 xz3 xz4 ⊢
    go_wp2_with (first
      | (go_at_call 22; refine (tNewGive t4 (mkPl 4 n) a).mono ?_; rintro e w1 ⟨p, rfl, t1, P1, hb1, lp1⟩; have B1 := B4.below hb1; have o1a : Oth [B] w4 w1 := Oth.below hb1; have o1 : Oth [B] w w1 := (o4).trans o1a; have lp : w.heap.size ≤ p := Nat.le_trans (o4).size lp1; have X1 := X4.below hb1; have nB : p ∉ [B] := (by simp; exact P1.ne B1 (by decide)); have d0 : w1.cell? ⟨B, o + 1, none⟩ = some (.pointer none) := (B1.cell _).trans h1x; have f0 := B1.free (o + 1); have X2 := X1.oth (Oth.set w1 B (o + 1) (.pointer (some ⟨p, 0, none⟩)) (F := [B]) (by simp)) nXB; have xa0 := X2.c0; have xa1 := X2.c1; have xa2 := X2.c2; have xa3 := X2.c3; have xa4 := X2.c4)
      | (go_at_call 23; refine (yNewGive (t1.set B1 (o + 1) (.pointer (some ⟨p, 0, none⟩))) (mkPl 4 n) a).mono ?_; rintro e w2 ⟨q, rfl, t2, P2, hb2, lq1⟩; have B2 : Blk w0 w2 B 40 ((cs.setIfInBounds (o + 4) vh').setIfInBounds (o + 1) (ptr p)) := (B1.set (o + 1) _).below hb2; have o2 : Oth [B] w1 w2 := (Oth.set _ _ _ _ (by simp)).trans (Oth.below hb2); have lq : w.heap.size ≤ q := Nat.le_trans o1.size (Nat.le_trans (by simp [World.setCell]) lq1); have mB : q ∉ [B] := (by simp; exact P2.ne B2 (by decide)); have d2 : w2.cell? ⟨B, o + 3, none⟩ = some v3 := (B2.cell _).trans (by rw [Array.getElem?_setIfInBounds_ne (by omega)]; exact h3x); have f2 := B2.free (o + 3)))
    go_returns
    exact  ⟨rfl, t2.set B2 _ _, vh', p, q, B2.set _ _, (P1.oth o2 nB).oth (Oth.set _ _ _ _ (by simp)) nB, P2.oth (Oth.set _ _ _ _ (by simp)) mB, (o1.trans o2).trans (Oth.set _ _ _ _ (by simp)), lp, lq, ((R4.oth o1a nR).oth o2 nR).oth (Oth.set _ _ _ _ (by simp)) nR, lR⟩
  · obtain rfl : cp = 1 := by omega
    go_wp2_with (at_builtin; refine wpList_append_none _ rfl _ _ 22 rfl 3 i0 Tryz.underlying22 hi (some ⟨w.heap.size + 1, 0, none⟩) 0 0 (Nat.le_refl _) _ _ rfl rfl ?_)
    obtain ⟨vh', hvh⟩ : ∃ v : Value, .slice (some ⟨w.heap.size + 1, 0, none⟩) 0 0 = v := ⟨_, rfl⟩
    have lR : ∀ k, vh'.ownBlock = some k → w.heap.size ≤ k := fun k hk => by rw [← hvh] at hk; simp [Value.ownBlock] at hk; omega
    have R4 : RowI w0 (((w.setCell ⟨B, o + 4, none⟩ (.slice (some ⟨w.heap.size + 1, 0, none⟩) 0 0)).alloc (.cells #[.int .i64 (mkPl 4 n).t, .int .i64 (mkPl 4 n).b, .int .i64 (mkPl 4 n).tb, .int .i64 (mkPl 4 n).hp, .int .i64 (mkPl 4 n).sz] 25)).alloc (.cells #[] 3)) vh' [] := ⟨by rw [← hvh]; exact row_empty _ _ (by simp [World.setCell]), fun k hk => Nat.le_trans h.bel.size (lR k hk)⟩
    have X4 : PBox (((w.setCell ⟨B, o + 4, none⟩ (.slice (some ⟨w.heap.size + 1, 0, none⟩) 0 0)).alloc (.cells #[.int .i64 (mkPl 4 n).t, .int .i64 (mkPl 4 n).b, .int .i64 (mkPl 4 n).tb, .int .i64 (mkPl 4 n).hp, .int .i64 (mkPl 4 n).sz] 25)).alloc (.cells #[] 3)) w.heap.size (mkPl 4 n) := PBox.below (w := (w.setCell ⟨B, o + 4, none⟩ (.slice (some ⟨w.heap.size + 1, 0, none⟩) 0 0)).alloc (.cells #[.int .i64 (mkPl 4 n).t, .int .i64 (mkPl 4 n).b, .int .i64 (mkPl 4 n).tb, .int .i64 (mkPl 4 n).hp, .int .i64 (mkPl 4 n).sz] 25)) (by have := heap_alloc_new (w.setCell ⟨B, o + 4, none⟩ (.slice (some ⟨w.heap.size + 1, 0, none⟩) 0 0)) (.cells #[.int .i64 (mkPl 4 n).t, .int .i64 (mkPl 4 n).b, .int .i64 (mkPl 4 n).tb, .int .i64 (mkPl 4 n).hp, .int .i64 (mkPl 4 n).sz] 25); rw [size_set] at this; exact this) (bal1 _)
    rw [hvh] at R4 X4 ⊢
    have t4 : Two w0 (((w.setCell ⟨B, o + 4, none⟩ vh').alloc (.cells #[.int .i64 (mkPl 4 n).t, .int .i64 (mkPl 4 n).b, .int .i64 (mkPl 4 n).tb, .int .i64 (mkPl 4 n).hp, .int .i64 (mkPl 4 n).sz] 25)).alloc (.cells #[] 3)) b y s1 s2 N := ((h.set hB _ _).alloc _).alloc _
    have B4 : Blk w0 (((w.setCell ⟨B, o + 4, none⟩ vh').alloc (.cells #[.int .i64 (mkPl 4 n).t, .int .i64 (mkPl 4 n).b, .int .i64 (mkPl 4 n).tb, .int .i64 (mkPl 4 n).hp, .int .i64 (mkPl 4 n).sz] 25)).alloc (.cells #[] 3)) B 40 (cs.setIfInBounds (o + 4) vh') := ((hB.set (o + 4) _).below (bal1 _)).below (bal1 _)
    have o4 : Oth [B] w (((w.setCell ⟨B, o + 4, none⟩ vh').alloc (.cells #[.int .i64 (mkPl 4 n).t, .int .i64 (mkPl 4 n).b, .int .i64 (mkPl 4 n).tb, .int .i64 (mkPl 4 n).hp, .int .i64 (mkPl 4 n).sz] 25)).alloc (.cells #[] 3)) := ((Oth.set _ _ _ _ (by simp)).trans (Oth.alloc _ _ _)).trans (Oth.alloc _ _ _)
    clear hvh
    have h1x : (cs.setIfInBounds (o + 4) vh')[o + 1]? = some (.pointer none) := by rw [Array.getElem?_setIfInBounds_ne (by omega)]; exact h1
    have h3x : (cs.setIfInBounds (o + 4) vh')[o + 3]? = some v3 := by rw [Array.getElem?_setIfInBounds_ne (by omega)]; exact h3
    have nR : ∀ k, vh'.ownBlock = some k → k ∉ [B] := fun k hk => by have := lR k hk; simp; omega
    obtain ⟨X, hX⟩ : ∃ X, w.heap.size = X := ⟨_, rfl⟩
    rw [hX] at X4 nXB ⊢
    have xz0 := X4.c0
    have xz1 := X4.c1
    have xz2 := X4.c2
    have xz3 := X4.c3
    have xz4 := X4.c4
    generalize ((w.setCell ⟨B, o + 4, none⟩ vh').alloc (.cells #[.int .i64 (mkPl 4 n).t, .int .i64 (mkPl 4 n).b, .int .i64 (mkPl 4 n).tb, .int .i64 (mkPl 4 n).hp, .int .i64 (mkPl 4 n).sz] 25)).alloc (.cells #[] 3) = w4 at t4 B4 o4 R4 X4 xz0 xz1 xz2 xz3 xz4 ⊢
    go_wp2_with (first
      | (go_at_call 22; refine (tNewGive t4 (mkPl 4 n) a).mono ?_; rintro e w1 ⟨p, rfl, t1, P1, hb1, lp1⟩; have B1 := B4.below hb1; have o1a : Oth [B] w4 w1 := Oth.below hb1; have o1 : Oth [B] w w1 := (o4).trans o1a; have lp : w.heap.size ≤ p := Nat.le_trans (o4).size lp1; have X1 := X4.below hb1; have nB : p ∉ [B] := (by simp; exact P1.ne B1 (by decide)); have d0 : w1.cell? ⟨B, o + 1, none⟩ = some (.pointer none) := (B1.cell _).trans h1x; have f0 := B1.free (o + 1); have X2 := X1.oth (Oth.set w1 B (o + 1) (.pointer (some ⟨p, 0, none⟩)) (F := [B]) (by simp)) nXB; have xa0 := X2.c0; have xa1 := X2.c1; have xa2 := X2.c2; have xa3 := X2.c3; have xa4 := X2.c4)
      | (go_at_call 23; refine (yNewGive (t1.set B1 (o + 1) (.pointer (some ⟨p, 0, none⟩))) (mkPl 4 n) a).mono ?_; rintro e w2 ⟨q, rfl, t2, P2, hb2, lq1⟩; have B2 : Blk w0 w2 B 40 ((cs.setIfInBounds (o + 4) vh').setIfInBounds (o + 1) (ptr p)) := (B1.set (o + 1) _).below hb2; have o2 : Oth [B] w1 w2 := (Oth.set _ _ _ _ (by simp)).trans (Oth.below hb2); have lq : w.heap.size ≤ q := Nat.le_trans o1.size (Nat.le_trans (by simp [World.setCell]) lq1); have mB : q ∉ [B] := (by simp; exact P2.ne B2 (by decide)); have d2 : w2.cell? ⟨B, o + 3, none⟩ = some v3 := (B2.cell _).trans (by rw [Array.getElem?_setIfInBounds_ne (by omega)]; exact h3x); have f2 := B2.free (o + 3)))
    go_returns
    exact  ⟨rfl, t2.set B2 _ _, vh', p, q, B2.set _ _, (P1.oth o2 nB).oth (Oth.set _ _ _ _ (by simp)) nB, P2.oth (Oth.set _ _ _ _ (by simp)) mB, (o1.trans o2).trans (Oth.set _ _ _ _ (by simp)), lp, lq, ((R4.oth o1a nR).oth o2 nR).oth (Oth.set _ _ _ _ (by simp)) nR, lR⟩
end
end Go.Proofs.YtilknjihceemhaaGreatDoor
