/-
  A worker begins.
-/
import Derived.Test.YteclgafdflmioaaDoorLt
namespace Go.Proofs.YteclgafdflmioaaDoor
set_option linter.unusedVariables false
set_option maxRecDepth 100000
open Go.ChangeShapes Go.WideShapes Go.RowKit
open S.Plain (t0 t1 tw nx)
open H.Plain (hw pL)

theorem row_cap {w0 w : World} {g n cp : Nat} {l : List Int} (h : RowI w0 w (.slice (some ⟨g, 0, none⟩) n cp) l) : l.length ≤ cp := by
  rcases h.row.2 with ⟨h', _⟩ | ⟨g', cp', cur, h', _, _, r1, _⟩
  · simp at h'
  · simp only [Value.slice.injEq] at h'
    obtain ⟨_, _, rfl⟩ := h'
    exact r1
theorem row_empty (w : World) (n : Nat) (hn : w.heap.size = n) : (w.alloc (.cells #[] 3)).ownsRow 0 3 1 (.slice (some ⟨n, 0, none⟩) 0 0) 0 [] := by
  subst hn
  exact ⟨rfl, .inr ⟨w.heap.size, 0, #[], rfl, Nat.zero_le _, heap_alloc_new w _, Nat.le_refl _, Nat.zero_le _, rfl, rfl⟩⟩
theorem size_set (w : World) (a : Addr) (u : Value) : (w.setCell a u).heap.size = w.heap.size := by simp [World.setCell]
theorem bal1 {w : World} (x : Obj) : Below w.heap.size w (w.alloc x) := (Below.refl _ _).alloc (Nat.le_refl _) x
section
variable {w0 w : World} {b y B k o N M : Nat} {s : St} {wk : Nat → Wk}
theorem bBusy {cs : Array Value} (hB : Blk w0 w B 35 cs) (pops : Bool) {p q : Nat} (h : cs[o]? = some (ptr p) ∨ cs[o]? = some (.pointer none) ∧ cs[o + 1]? = some (ptr q)) :
    Calls Tryd.prog 11 #[.pointer (some ⟨B, o, none⟩), .bool pops] w fun e w' => e = .returned (.tuple #[]) ∧ w' = w := by
  rcases h with h | ⟨h, h'⟩
  · have c0 : w.cell? ⟨B, o, none⟩ = some (.pointer (some ⟨p, 0, none⟩)) := (hB.cell o).trans h
    go_enter Tryd.func11, Tryd.ntmps11
    go_wp2
    go_returns
    exact ⟨rfl, rfl⟩
  · have c0 : w.cell? ⟨B, o, none⟩ = some (.pointer none) := (hB.cell o).trans h
    have c1 : w.cell? ⟨B, o + 1, none⟩ = some (.pointer (some ⟨q, 0, none⟩)) := (hB.cell (o + 1)).trans h'
    go_enter Tryd.func11, Tryd.ntmps11
    go_wp2
    go_returns
    exact ⟨rfl, rfl⟩
set_option maxHeartbeats 1000000 in
theorem bPop {cs : Array Value} (h : Two w0 w b y s s N) (hB : Blk w0 w B 35 cs) (pops : Bool) {v2 vh : Value} {hs : List Int} (h0 : cs[o]? = some (.pointer none)) (h1 : cs[o + 1]? = some (.pointer none)) (h2 : cs[o + 2]? = some v2) (h4 : cs[o + 4]? = some vh)
    (hr : RowI w0 w vh hs) (hc : pops = true ∨ hs = []) :
    Calls Tryd.prog 11 #[.pointer (some ⟨B, o, none⟩), .bool pops] w fun e w' => e = .returned (.tuple #[]) ∧ Two w0 w' b y s s N ∧ ∃ p q, Blk w0 w' B 35 ((cs.setIfInBounds o (ptr p)).setIfInBounds (o + 2) (ptr q)) ∧
      Blk w0 w' p 79 (PopS.new 3).cells ∧ Blk w0 w' q 70 ((PopS.new 3).rcells 0) ∧ Oth [B] w w' ∧ w.heap.size ≤ p ∧ w.heap.size ≤ q := by
  have c0 : w.cell? ⟨B, o, none⟩ = some (.pointer none) := (hB.cell o).trans h0
  have c1 : w.cell? ⟨B, o + 1, none⟩ = some (.pointer none) := (hB.cell (o + 1)).trans h1
  obtain ⟨ao, cp, rfl, _⟩ := hr.slice
  have c4 : w.cell? ⟨B, o + 4, none⟩ = some (.slice ao hs.length cp) := (hB.cell (o + 4)).trans h4
  have hpc : pops = true ∨ pops = false ∧ hs = [] := by
    cases pops
    · exact .inr ⟨rfl, hc.resolve_left (by decide)⟩
    · exact .inl rfl
  clear hc
  rcases hpc with rfl | ⟨rfl, rfl⟩
  · go_enter Tryd.func11, Tryd.ntmps11
    go_wp2_with (first
      | (go_at_call 14; refine (cNewPop 3 _).mono ?_; rintro e w1 ⟨rfl, hw1⟩; have t1 : Two w0 w1 b y s s N := (hw1 ▸ h.alloc _); have P1 : Blk w0 w1 w.heap.size 79 (PopS.new 3).cells := (by rw [hw1]; exact Blk.new h.bel.size _ (by decide)); have o1a : Oth [B] w w1 := (hw1 ▸ Oth.alloc _ _ _); have o1 : Oth [B] w w1 := (Oth.refl _ _).trans o1a; have B1 : Blk w0 w1 B 35 cs := (by rw [hw1]; exact hB.below (bal1 _)); obtain ⟨p, hp⟩ : ∃ p, w.heap.size = p := ⟨_, rfl⟩; have lp : w.heap.size ≤ p := (Nat.le_of_eq hp); rw [hp] at P1 ⊢; clear hp hw1; have d0 : w1.cell? ⟨B, o, none⟩ = some (.pointer none) := (B1.cell _).trans h0; have f0 := B1.free (o); have nB : p ∉ [B] := (by simp; exact P1.ne B1 (by decide)))
      | (go_at_call 29; refine (rNewPop 3 _).mono ?_; rintro e w2 ⟨rfl, hw2⟩; have t2 : Two w0 w2 b y s s N := (hw2 ▸ (t1.set B1 _ _).alloc _); have P2 : Blk w0 w2 (w1.setCell ⟨B, o, none⟩ (.pointer (some ⟨p, 0, none⟩))).heap.size 70 ((PopS.new 3).rcells 0) := (by rw [hw2]; exact Blk.new (t1.set B1 _ _).bel.size _ (by decide)); have o2 : Oth [B] w1 w2 := (hw2 ▸ (Oth.set _ _ _ _ (by simp)).trans (Oth.alloc _ _ _)); have B2 : Blk w0 w2 B 35 (cs.setIfInBounds (o) (ptr p)) := (by rw [hw2]; exact (B1.set (o) _).below (bal1 _)); obtain ⟨q, hq⟩ : ∃ q, (w1.setCell ⟨B, o, none⟩ (.pointer (some ⟨p, 0, none⟩))).heap.size = q := ⟨_, rfl⟩; have lq : w.heap.size ≤ q := (by rw [← hq]; simp [World.setCell]; exact o1.size); rw [hq] at P2 ⊢; clear hq hw2; have d2 : w2.cell? ⟨B, o + 2, none⟩ = some v2 := (B2.cell _).trans (by rw [Array.getElem?_setIfInBounds_ne (by omega)]; exact h2); have f2 := B2.free (o + 2); have mB : q ∉ [B] := (by simp; exact P2.ne B2 (by decide))))
    go_returns
    exact  ⟨rfl, t2.set B2 _ _, p, q, B2.set _ _, (P1.oth o2 nB).oth (Oth.set _ _ _ _ (by simp)) nB, P2.oth (Oth.set _ _ _ _ (by simp)) mB, (o1.trans o2).trans (Oth.set _ _ _ _ (by simp)), lp, lq⟩
  · simp only [List.length_nil] at c4
    go_enter Tryd.func11, Tryd.ntmps11
    go_wp2_with (first
      | (go_at_call 14; refine (cNewPop 3 _).mono ?_; rintro e w1 ⟨rfl, hw1⟩; have t1 : Two w0 w1 b y s s N := (hw1 ▸ h.alloc _); have P1 : Blk w0 w1 w.heap.size 79 (PopS.new 3).cells := (by rw [hw1]; exact Blk.new h.bel.size _ (by decide)); have o1a : Oth [B] w w1 := (hw1 ▸ Oth.alloc _ _ _); have o1 : Oth [B] w w1 := (Oth.refl _ _).trans o1a; have B1 : Blk w0 w1 B 35 cs := (by rw [hw1]; exact hB.below (bal1 _)); obtain ⟨p, hp⟩ : ∃ p, w.heap.size = p := ⟨_, rfl⟩; have lp : w.heap.size ≤ p := (Nat.le_of_eq hp); rw [hp] at P1 ⊢; clear hp hw1; have d0 : w1.cell? ⟨B, o, none⟩ = some (.pointer none) := (B1.cell _).trans h0; have f0 := B1.free (o); have nB : p ∉ [B] := (by simp; exact P1.ne B1 (by decide)))
      | (go_at_call 29; refine (rNewPop 3 _).mono ?_; rintro e w2 ⟨rfl, hw2⟩; have t2 : Two w0 w2 b y s s N := (hw2 ▸ (t1.set B1 _ _).alloc _); have P2 : Blk w0 w2 (w1.setCell ⟨B, o, none⟩ (.pointer (some ⟨p, 0, none⟩))).heap.size 70 ((PopS.new 3).rcells 0) := (by rw [hw2]; exact Blk.new (t1.set B1 _ _).bel.size _ (by decide)); have o2 : Oth [B] w1 w2 := (hw2 ▸ (Oth.set _ _ _ _ (by simp)).trans (Oth.alloc _ _ _)); have B2 : Blk w0 w2 B 35 (cs.setIfInBounds (o) (ptr p)) := (by rw [hw2]; exact (B1.set (o) _).below (bal1 _)); obtain ⟨q, hq⟩ : ∃ q, (w1.setCell ⟨B, o, none⟩ (.pointer (some ⟨p, 0, none⟩))).heap.size = q := ⟨_, rfl⟩; have lq : w.heap.size ≤ q := (by rw [← hq]; simp [World.setCell]; exact o1.size); rw [hq] at P2 ⊢; clear hq hw2; have d2 : w2.cell? ⟨B, o + 2, none⟩ = some v2 := (B2.cell _).trans (by rw [Array.getElem?_setIfInBounds_ne (by omega)]; exact h2); have f2 := B2.free (o + 2); have mB : q ∉ [B] := (by simp; exact P2.ne B2 (by decide))))
    go_returns
    exact  ⟨rfl, t2.set B2 _ _, p, q, B2.set _ _, (P1.oth o2 nB).oth (Oth.set _ _ _ _ (by simp)) nB, P2.oth (Oth.set _ _ _ _ (by simp)) mB, (o1.trans o2).trans (Oth.set _ _ _ _ (by simp)), lp, lq⟩
set_option maxHeartbeats 1000000 in
theorem bPush1 {cs : Array Value} (h : Two w0 w b y s s N) (hB : Blk w0 w B 35 cs) {v3 vh : Value} {a : Int} (h0 : cs[o]? = some (.pointer none)) (h1 : cs[o + 1]? = some (.pointer none)) (h3 : cs[o + 3]? = some v3) (h4 : cs[o + 4]? = some vh)
    (hr : RowI w0 w vh (a :: [])) (hlen : (a :: []).length ≤ 1000) :
    Calls Tryd.prog 11 #[.pointer (some ⟨B, o, none⟩), .bool false] w fun e w' => e = .returned (.tuple #[]) ∧ Two w0 w' b y s s N ∧ ∃ vh' p q, Blk w0 w' B 35 (((cs.setIfInBounds (o + 4) vh').setIfInBounds (o + 1) (ptr p)).setIfInBounds (o + 3) (ptr q)) ∧
      Blk w0 w' p 82 (PushS.new 3 a a 0).cells ∧ Blk w0 w' q 92 (PushS.new 3 a a 0).rcells ∧ Oth [B] w w' ∧ w.heap.size ≤ p ∧ w.heap.size ≤ q ∧ RowI w0 w' vh' ([]) ∧ ∀ k, vh'.ownBlock = some k → w.heap.size ≤ k := by
  obtain ⟨i0, hi, hz0, hz1, hz2⟩ := info_parts infoInt
  have c0 : w.cell? ⟨B, o, none⟩ = some (.pointer none) := (hB.cell o).trans h0
  have c1 : w.cell? ⟨B, o + 1, none⟩ = some (.pointer none) := (hB.cell (o + 1)).trans h1
  obtain ⟨ao, cp, rfl, hg⟩ := hr.slice
  obtain ⟨g, rfl⟩ := hg (by simp)
  have c4 : w.cell? ⟨B, o + 4, none⟩ = some (.slice (some ⟨g, 0, none⟩) (a :: []).length cp) := (hB.cell (o + 4)).trans h4
  have ca : w.cell? ⟨g, 0, none⟩ = some (.int .i64 a) := hr.cell (j := 0) rfl
  have lg : g < w.heap.size := by obtain ⟨_, hc⟩ := hr.blk (k := g) rfl; exact lt_of_block hc
  have lB := hB.lt
  have fB4 := hB.free (o + 4)
  have lcp := row_cap hr
  simp only [List.length_cons] at lcp c4 hlen; simp only [List.length_nil, Nat.zero_add] at lcp c4 hlen
  go_enter Tryd.func11, Tryd.ntmps11
  rcases Nat.lt_or_ge 1 cp with hcp | hcp
  · have hcp' : (cp == 1) = false := by simp; omega
    go_wp2_with (at_builtin; refine wpList_append_none _ rfl _ _ 22 rfl 3 i0 Tryd.underlying22 hi (some ⟨w.heap.size, 0, none⟩) 0 0 (Nat.le_refl _) _ _ rfl rfl ?_)
    obtain ⟨vh', hvh⟩ : ∃ v : Value, .slice (some ⟨w.heap.size, 0, none⟩) 0 0 = v := ⟨_, rfl⟩
    have lR : ∀ k, vh'.ownBlock = some k → w.heap.size ≤ k := fun k hk => by rw [← hvh] at hk; simp [Value.ownBlock] at hk; omega
    have R4 : RowI w0 ((w.setCell ⟨B, o + 4, none⟩ (.slice (some ⟨w.heap.size, 0, none⟩) 0 0)).alloc (.cells #[] 3)) vh' [] := ⟨by rw [← hvh]; exact row_empty _ _ (size_set _ _ _), fun k hk => Nat.le_trans h.bel.size (lR k hk)⟩
    rw [hvh] at R4 ⊢
    have t4 : Two w0 ((w.setCell ⟨B, o + 4, none⟩ vh').alloc (.cells #[] 3)) b y s s N := (h.set hB _ _).alloc _
    have B4 : Blk w0 ((w.setCell ⟨B, o + 4, none⟩ vh').alloc (.cells #[] 3)) B 35 (cs.setIfInBounds (o + 4) vh') := (hB.set (o + 4) _).below (bal1 _)
    have o4 : Oth [B] w ((w.setCell ⟨B, o + 4, none⟩ vh').alloc (.cells #[] 3)) := (Oth.set _ _ _ _ (by simp)).trans (Oth.alloc _ _ _)
    clear hvh
    have h1x : (cs.setIfInBounds (o + 4) vh')[o + 1]? = some (.pointer none) := by rw [Array.getElem?_setIfInBounds_ne (by omega)]; exact h1
    have h3x : (cs.setIfInBounds (o + 4) vh')[o + 3]? = some v3 := by rw [Array.getElem?_setIfInBounds_ne (by omega)]; exact h3
    have nR : ∀ k, vh'.ownBlock = some k → k ∉ [B] := fun k hk => by have := lR k hk; simp; omega
    generalize (w.setCell ⟨B, o + 4, none⟩ vh').alloc (.cells #[] 3) = w4 at t4 B4 o4 R4 ⊢
    go_wp2_with (first
      | (go_at_call 15; refine (cNewPush 3 a a 0 _).mono ?_; rintro e w1 ⟨rfl, hw1⟩; have t1 : Two w0 w1 b y s s N := (hw1 ▸ t4.alloc _); have P1 : Blk w0 w1 w4.heap.size 82 (PushS.new 3 a a 0).cells := (by rw [hw1]; exact Blk.new t4.bel.size _ (by decide)); have o1a : Oth [B] w4 w1 := (hw1 ▸ Oth.alloc _ _ _); have o1 : Oth [B] w w1 := (o4).trans o1a; have B1 : Blk w0 w1 B 35 (cs.setIfInBounds (o + 4) vh') := (by rw [hw1]; exact B4.below (bal1 _)); obtain ⟨p, hp⟩ : ∃ p, w4.heap.size = p := ⟨_, rfl⟩; have lp : w.heap.size ≤ p := (hp ▸ o4.size); rw [hp] at P1 ⊢; clear hp hw1; have d0 : w1.cell? ⟨B, o + 1, none⟩ = some (.pointer none) := (B1.cell _).trans h1x; have f0 := B1.free (o + 1); have nB : p ∉ [B] := (by simp; exact P1.ne B1 (by decide)))
      | (go_at_call 27; refine (rNewPush 3 a a 0 _).mono ?_; rintro e w2 ⟨rfl, hw2⟩; have t2 : Two w0 w2 b y s s N := (hw2 ▸ (t1.set B1 _ _).alloc _); have P2 : Blk w0 w2 (w1.setCell ⟨B, o + 1, none⟩ (.pointer (some ⟨p, 0, none⟩))).heap.size 92 (PushS.new 3 a a 0).rcells := (by rw [hw2]; exact Blk.new (t1.set B1 _ _).bel.size _ (by decide)); have o2 : Oth [B] w1 w2 := (hw2 ▸ (Oth.set _ _ _ _ (by simp)).trans (Oth.alloc _ _ _)); have B2 : Blk w0 w2 B 35 ((cs.setIfInBounds (o + 4) vh').setIfInBounds (o + 1) (ptr p)) := (by rw [hw2]; exact (B1.set (o + 1) _).below (bal1 _)); obtain ⟨q, hq⟩ : ∃ q, (w1.setCell ⟨B, o + 1, none⟩ (.pointer (some ⟨p, 0, none⟩))).heap.size = q := ⟨_, rfl⟩; have lq : w.heap.size ≤ q := (by rw [← hq]; simp [World.setCell]; exact o1.size); rw [hq] at P2 ⊢; clear hq hw2; have d2 : w2.cell? ⟨B, o + 3, none⟩ = some v3 := (B2.cell _).trans (by rw [Array.getElem?_setIfInBounds_ne (by omega)]; exact h3x); have f2 := B2.free (o + 3); have mB : q ∉ [B] := (by simp; exact P2.ne B2 (by decide))))
    go_returns
    exact  ⟨rfl, t2.set B2 _ _, vh', p, q, B2.set _ _, (P1.oth o2 nB).oth (Oth.set _ _ _ _ (by simp)) nB, P2.oth (Oth.set _ _ _ _ (by simp)) mB, (o1.trans o2).trans (Oth.set _ _ _ _ (by simp)), lp, lq, ((R4.oth o1a nR).oth o2 nR).oth (Oth.set _ _ _ _ (by simp)) nR, lR⟩
  · obtain rfl : cp = 1 := by omega
    go_wp2_with (at_builtin; refine wpList_append_none _ rfl _ _ 22 rfl 3 i0 Tryd.underlying22 hi (some ⟨w.heap.size, 0, none⟩) 0 0 (Nat.le_refl _) _ _ rfl rfl ?_)
    obtain ⟨vh', hvh⟩ : ∃ v : Value, .slice (some ⟨w.heap.size, 0, none⟩) 0 0 = v := ⟨_, rfl⟩
    have lR : ∀ k, vh'.ownBlock = some k → w.heap.size ≤ k := fun k hk => by rw [← hvh] at hk; simp [Value.ownBlock] at hk; omega
    have R4 : RowI w0 ((w.setCell ⟨B, o + 4, none⟩ (.slice (some ⟨w.heap.size, 0, none⟩) 0 0)).alloc (.cells #[] 3)) vh' [] := ⟨by rw [← hvh]; exact row_empty _ _ (size_set _ _ _), fun k hk => Nat.le_trans h.bel.size (lR k hk)⟩
    rw [hvh] at R4 ⊢
    have t4 : Two w0 ((w.setCell ⟨B, o + 4, none⟩ vh').alloc (.cells #[] 3)) b y s s N := (h.set hB _ _).alloc _
    have B4 : Blk w0 ((w.setCell ⟨B, o + 4, none⟩ vh').alloc (.cells #[] 3)) B 35 (cs.setIfInBounds (o + 4) vh') := (hB.set (o + 4) _).below (bal1 _)
    have o4 : Oth [B] w ((w.setCell ⟨B, o + 4, none⟩ vh').alloc (.cells #[] 3)) := (Oth.set _ _ _ _ (by simp)).trans (Oth.alloc _ _ _)
    clear hvh
    have h1x : (cs.setIfInBounds (o + 4) vh')[o + 1]? = some (.pointer none) := by rw [Array.getElem?_setIfInBounds_ne (by omega)]; exact h1
    have h3x : (cs.setIfInBounds (o + 4) vh')[o + 3]? = some v3 := by rw [Array.getElem?_setIfInBounds_ne (by omega)]; exact h3
    have nR : ∀ k, vh'.ownBlock = some k → k ∉ [B] := fun k hk => by have := lR k hk; simp; omega
    generalize (w.setCell ⟨B, o + 4, none⟩ vh').alloc (.cells #[] 3) = w4 at t4 B4 o4 R4 ⊢
    go_wp2_with (first
      | (go_at_call 15; refine (cNewPush 3 a a 0 _).mono ?_; rintro e w1 ⟨rfl, hw1⟩; have t1 : Two w0 w1 b y s s N := (hw1 ▸ t4.alloc _); have P1 : Blk w0 w1 w4.heap.size 82 (PushS.new 3 a a 0).cells := (by rw [hw1]; exact Blk.new t4.bel.size _ (by decide)); have o1a : Oth [B] w4 w1 := (hw1 ▸ Oth.alloc _ _ _); have o1 : Oth [B] w w1 := (o4).trans o1a; have B1 : Blk w0 w1 B 35 (cs.setIfInBounds (o + 4) vh') := (by rw [hw1]; exact B4.below (bal1 _)); obtain ⟨p, hp⟩ : ∃ p, w4.heap.size = p := ⟨_, rfl⟩; have lp : w.heap.size ≤ p := (hp ▸ o4.size); rw [hp] at P1 ⊢; clear hp hw1; have d0 : w1.cell? ⟨B, o + 1, none⟩ = some (.pointer none) := (B1.cell _).trans h1x; have f0 := B1.free (o + 1); have nB : p ∉ [B] := (by simp; exact P1.ne B1 (by decide)))
      | (go_at_call 27; refine (rNewPush 3 a a 0 _).mono ?_; rintro e w2 ⟨rfl, hw2⟩; have t2 : Two w0 w2 b y s s N := (hw2 ▸ (t1.set B1 _ _).alloc _); have P2 : Blk w0 w2 (w1.setCell ⟨B, o + 1, none⟩ (.pointer (some ⟨p, 0, none⟩))).heap.size 92 (PushS.new 3 a a 0).rcells := (by rw [hw2]; exact Blk.new (t1.set B1 _ _).bel.size _ (by decide)); have o2 : Oth [B] w1 w2 := (hw2 ▸ (Oth.set _ _ _ _ (by simp)).trans (Oth.alloc _ _ _)); have B2 : Blk w0 w2 B 35 ((cs.setIfInBounds (o + 4) vh').setIfInBounds (o + 1) (ptr p)) := (by rw [hw2]; exact (B1.set (o + 1) _).below (bal1 _)); obtain ⟨q, hq⟩ : ∃ q, (w1.setCell ⟨B, o + 1, none⟩ (.pointer (some ⟨p, 0, none⟩))).heap.size = q := ⟨_, rfl⟩; have lq : w.heap.size ≤ q := (by rw [← hq]; simp [World.setCell]; exact o1.size); rw [hq] at P2 ⊢; clear hq hw2; have d2 : w2.cell? ⟨B, o + 3, none⟩ = some v3 := (B2.cell _).trans (by rw [Array.getElem?_setIfInBounds_ne (by omega)]; exact h3x); have f2 := B2.free (o + 3); have mB : q ∉ [B] := (by simp; exact P2.ne B2 (by decide))))
    go_returns
    exact  ⟨rfl, t2.set B2 _ _, vh', p, q, B2.set _ _, (P1.oth o2 nB).oth (Oth.set _ _ _ _ (by simp)) nB, P2.oth (Oth.set _ _ _ _ (by simp)) mB, (o1.trans o2).trans (Oth.set _ _ _ _ (by simp)), lp, lq, ((R4.oth o1a nR).oth o2 nR).oth (Oth.set _ _ _ _ (by simp)) nR, lR⟩
set_option maxHeartbeats 1000000 in
theorem bPush2 {cs : Array Value} (h : Two w0 w b y s s N) (hB : Blk w0 w B 35 cs) {v3 vh : Value} {a c : Int} {r : List Int} (h0 : cs[o]? = some (.pointer none)) (h1 : cs[o + 1]? = some (.pointer none)) (h3 : cs[o + 3]? = some v3) (h4 : cs[o + 4]? = some vh)
    (hr : RowI w0 w vh (a :: c :: r)) (hlen : (a :: c :: r).length ≤ 1000) :
    Calls Tryd.prog 11 #[.pointer (some ⟨B, o, none⟩), .bool false] w fun e w' => e = .returned (.tuple #[]) ∧ Two w0 w' b y s s N ∧ ∃ vh' p q, Blk w0 w' B 35 (((cs.setIfInBounds (o + 4) vh').setIfInBounds (o + 1) (ptr p)).setIfInBounds (o + 3) (ptr q)) ∧
      Blk w0 w' p 82 (PushS.new 3 a a 0).cells ∧ Blk w0 w' q 92 (PushS.new 3 a a 0).rcells ∧ Oth [B] w w' ∧ w.heap.size ≤ p ∧ w.heap.size ≤ q ∧ RowI w0 w' vh' (c :: r) ∧ ∀ k, vh'.ownBlock = some k → w.heap.size ≤ k := by
  obtain ⟨i0, hi, hz0, hz1, hz2⟩ := info_parts infoInt
  have c0 : w.cell? ⟨B, o, none⟩ = some (.pointer none) := (hB.cell o).trans h0
  have c1 : w.cell? ⟨B, o + 1, none⟩ = some (.pointer none) := (hB.cell (o + 1)).trans h1
  obtain ⟨ao, cp, rfl, hg⟩ := hr.slice
  obtain ⟨g, rfl⟩ := hg (by simp)
  have c4 : w.cell? ⟨B, o + 4, none⟩ = some (.slice (some ⟨g, 0, none⟩) (a :: c :: r).length cp) := (hB.cell (o + 4)).trans h4
  have ca : w.cell? ⟨g, 0, none⟩ = some (.int .i64 a) := hr.cell (j := 0) rfl
  have lg : g < w.heap.size := by obtain ⟨_, hc⟩ := hr.blk (k := g) rfl; exact lt_of_block hc
  have lB := hB.lt
  have fB4 := hB.free (o + 4)
  have lcp := row_cap hr
  simp only [List.length_cons] at lcp c4 hlen
  go_enter Tryd.func11, Tryd.ntmps11
  have lrow : (c :: r).length = r.length + 1 := rfl
  have hl1 : (nums (c :: r)).length = (r.length + 1) * 1 := by rw [nums_length]; simp
  have HC : ∀ j u, (nums (c :: r))[j]? = some u → (w.alloc (.cells #[] 3)).cell? ((⟨g, 1, none⟩ : Addr).add j) = some u := fun j u hu => by
    rw [Addr.add_lit, (bal1 (w := w) _).cell lg]
    have hx : (nums (a :: c :: r))[1 + j]? = some u := by rw [Nat.add_comm]; exact hu
    simp only [nums, List.getElem?_map, Option.map_eq_some_iff] at hx
    obtain ⟨x, hx1, rfl⟩ := hx
    exact hr.cell hx1
  go_wp2_with (at_builtin; refine wpList_append_mine _ rfl _ _ 22 rfl 3 i0 _ 1 8 Tryd.underlying22 hi hz0 hz1 hz2 rfl (by decide) (.slice (some ⟨w.heap.size, 0, none⟩) 0 0) 0 [] rfl (row_empty w _ rfl) ⟨g, 1, none⟩ (r.length + 1) (cp - 1) (nums (c :: r)) rfl hl1 HC (nums_one _) (by unfold maxLen; omega) (by omega) (by omega) ?_; intro g1 cp1 w3 hrow hgr hn; rw [Nat.zero_add] at hrow ⊢; rw [List.nil_append] at hrow; have lg1 : w.heap.size ≤ g1 := (by rcases hn with hn | hn; (simp [Value.ownBlock] at hn; omega); (simp at hn; omega)); have hb3 : Below w.heap.size w w3 := ((bal1 _).grown hgr (by simp) (fun k hk => by simp [Value.ownBlock] at hk; omega)); have B3 := hB.below hb3; have R3 : RowI w0 w3 (.slice (some ⟨g1, 0, none⟩) (r.length + 1) cp1) (c :: r) := RowI.of_own hrow rfl rfl (Nat.le_trans h.bel.size lg1); have x4 : w3.cell? ⟨B, o + 4, none⟩ = some (.slice (some ⟨g, 0, none⟩) (r.length + 1 + 1) cp) := (B3.cell _).trans h4; have xf4 := B3.free (o + 4); clear hrow hgr hn)
  obtain ⟨vh', hvh⟩ : ∃ v : Value, .slice (some ⟨g1, 0, none⟩) (r.length + 1) cp1 = v := ⟨_, rfl⟩
  have lR : ∀ k, vh'.ownBlock = some k → w.heap.size ≤ k := fun k hk => by rw [← hvh] at hk; simp [Value.ownBlock] at hk; omega
  rw [hvh] at R3 ⊢
  have t4 : Two w0 (w3.setCell ⟨B, o + 4, none⟩ vh') b y s s N := (h.below hb3).set B3 _ _
  have B4 : Blk w0 (w3.setCell ⟨B, o + 4, none⟩ vh') B 35 (cs.setIfInBounds (o + 4) vh') := B3.set (o + 4) _
  have o4 : Oth [B] w (w3.setCell ⟨B, o + 4, none⟩ vh') := (Oth.below hb3).trans (Oth.set _ _ _ _ (by simp))
  have R4 : RowI w0 (w3.setCell ⟨B, o + 4, none⟩ vh') vh' (c :: r) := R3.oth (Oth.set w3 B (o + 4) vh' (F := [B]) (by simp)) fun k hk => by have := lR k hk; simp; omega
  clear hvh
  have h1x : (cs.setIfInBounds (o + 4) vh')[o + 1]? = some (.pointer none) := by rw [Array.getElem?_setIfInBounds_ne (by omega)]; exact h1
  have h3x : (cs.setIfInBounds (o + 4) vh')[o + 3]? = some v3 := by rw [Array.getElem?_setIfInBounds_ne (by omega)]; exact h3
  have nR : ∀ k, vh'.ownBlock = some k → k ∉ [B] := fun k hk => by have := lR k hk; simp; omega
  generalize w3.setCell ⟨B, o + 4, none⟩ vh' = w4 at t4 B4 o4 R4 ⊢
  go_wp2_with (first
    | (go_at_call 15; refine (cNewPush 3 a a 0 _).mono ?_; rintro e w1 ⟨rfl, hw1⟩; have t1 : Two w0 w1 b y s s N := (hw1 ▸ t4.alloc _); have P1 : Blk w0 w1 w4.heap.size 82 (PushS.new 3 a a 0).cells := (by rw [hw1]; exact Blk.new t4.bel.size _ (by decide)); have o1a : Oth [B] w4 w1 := (hw1 ▸ Oth.alloc _ _ _); have o1 : Oth [B] w w1 := (o4).trans o1a; have B1 : Blk w0 w1 B 35 (cs.setIfInBounds (o + 4) vh') := (by rw [hw1]; exact B4.below (bal1 _)); obtain ⟨p, hp⟩ : ∃ p, w4.heap.size = p := ⟨_, rfl⟩; have lp : w.heap.size ≤ p := (hp ▸ o4.size); rw [hp] at P1 ⊢; clear hp hw1; have d0 : w1.cell? ⟨B, o + 1, none⟩ = some (.pointer none) := (B1.cell _).trans h1x; have f0 := B1.free (o + 1); have nB : p ∉ [B] := (by simp; exact P1.ne B1 (by decide)))
    | (go_at_call 27; refine (rNewPush 3 a a 0 _).mono ?_; rintro e w2 ⟨rfl, hw2⟩; have t2 : Two w0 w2 b y s s N := (hw2 ▸ (t1.set B1 _ _).alloc _); have P2 : Blk w0 w2 (w1.setCell ⟨B, o + 1, none⟩ (.pointer (some ⟨p, 0, none⟩))).heap.size 92 (PushS.new 3 a a 0).rcells := (by rw [hw2]; exact Blk.new (t1.set B1 _ _).bel.size _ (by decide)); have o2 : Oth [B] w1 w2 := (hw2 ▸ (Oth.set _ _ _ _ (by simp)).trans (Oth.alloc _ _ _)); have B2 : Blk w0 w2 B 35 ((cs.setIfInBounds (o + 4) vh').setIfInBounds (o + 1) (ptr p)) := (by rw [hw2]; exact (B1.set (o + 1) _).below (bal1 _)); obtain ⟨q, hq⟩ : ∃ q, (w1.setCell ⟨B, o + 1, none⟩ (.pointer (some ⟨p, 0, none⟩))).heap.size = q := ⟨_, rfl⟩; have lq : w.heap.size ≤ q := (by rw [← hq]; simp [World.setCell]; exact o1.size); rw [hq] at P2 ⊢; clear hq hw2; have d2 : w2.cell? ⟨B, o + 3, none⟩ = some v3 := (B2.cell _).trans (by rw [Array.getElem?_setIfInBounds_ne (by omega)]; exact h3x); have f2 := B2.free (o + 3); have mB : q ∉ [B] := (by simp; exact P2.ne B2 (by decide))))
  go_returns
  exact  ⟨rfl, t2.set B2 _ _, vh', p, q, B2.set _ _, (P1.oth o2 nB).oth (Oth.set _ _ _ _ (by simp)) nB, P2.oth (Oth.set _ _ _ _ (by simp)) mB, (o1.trans o2).trans (Oth.set _ _ _ _ (by simp)), lp, lq, ((R4.oth o1a nR).oth o2 nR).oth (Oth.set _ _ _ _ (by simp)) nR, lR⟩
end
end Go.Proofs.YteclgafdflmioaaDoor
