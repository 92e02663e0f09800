/-
  The walk of the law on two Swaps.
-/
import Derived.Test.YtgakmpfmckikgaaDoorDr
import Derived.Deep.Cut
namespace Go.Proofs.YtgakmpfmckikgaaDoor
set_option linter.unusedVariables false
set_option maxRecDepth 100000

def rqS (u n : Vl) : Rq := ⟨3, 96, 0, u, n⟩
def hwS : Hw := ⟨false, false, false, 0⟩
/-- nobody has done it: how far this one is from that -/
def Fst (u : Vl) (z : Int) (n : Vl) (x : Sx) (r : Nat) : Prop := x.o.y = false ∧ (x.k = some (.swap 97 (rqS u n) hwS) ∧ r = 2 ∨ x.k = some (.exch 97 z (rqS u n) hwS) ∧ r = 1)
/-- another one has: how far this one is from its end -/
def Snd (u : Vl) (z : Int) (n : Vl) (x : Sx) (r : Nat) : Prop := x.o.y = false ∧ (x.k = some (.exch 97 z (rqS u n) hwS) ∧ r = 2 ∨ x.k = some (.swap 97 (rqS u n) hwS) ∧ r = 1 ∨ x.k = none ∧ r = 0)
structure Game (u : Vl) (z : Int) (a b : Vl) (i : Nat) (x0 x1 : Sx) (s : St) : Prop where
  len : s.ws.length = 160
  or_ : (∃ r0 r1, Fst u z a x0 r0 ∧ Fst u z b x1 r1 ∧ s.got 97 = z ∧ (60 ≤ i → 2 * (6 + r0 + r1) + i ≤ 80)) ∨
    (x0.k = none ∧ x0.o.y = true ∧ s.got 97 = a.w ∧ ∃ r, Snd u z b x1 r ∧ (60 ≤ i → 2 * r + i + (i + 1) % 2 ≤ 81)) ∨
    (x1.k = none ∧ x1.o.y = true ∧ s.got 97 = b.w ∧ ∃ r, Snd u z a x0 r ∧ (60 ≤ i → 2 * r + i + i % 2 ≤ 81))
section
variable {u : Vl} {z : Int} {a b n : Vl} {i : Nat} {x x0 x1 : Sx} {s : St}
theorem In97 : In 97 := ⟨by omega, by omega⟩
theorem behS (u n : Vl) (z : Int) : behind 97 z (rqS u n) hwS = .exch 97 z (rqS u n) hwS := by simp [behind, shadeK, hwS]
theorem Fst.le {r : Nat} (h : Fst u z n x r) : 1 ≤ r ∧ r ≤ 2 := by rcases h.2 with ⟨_, h⟩ | ⟨_, h⟩ <;> omega
theorem Snd.le {r : Nat} (h : Snd u z n x r) : r ≤ 2 := by rcases h.2 with ⟨_, h⟩ | ⟨_, h⟩ | ⟨_, h⟩ <;> omega
/-- one of them steps while nobody has done it -/
theorem Fst.step {r : Nat} (h : Fst u z n x r) (hl : s.ws.length = 160) (hz : s.got 97 = z) (hu : Vl.of z = u) :
    (r = 2 ∧ Fst u z n (x.next s) 1 ∧ (x.mem s).got 97 = z) ∨ (r = 1 ∧ (x.next s).k = none ∧ (x.next s).o.y = true ∧ (x.mem s).got 97 = n.w) := by
  obtain ⟨hy, ⟨hk, hr⟩ | ⟨hk, hr⟩⟩ := h
  · refine .inl ⟨hr, ?_, ?_⟩
    · have q : x.next s = ⟨some (.exch 97 z (rqS u n) hwS), true, Ou.zero⟩ := by
        simp only [Sx.next, hk, K.next, hz]
        rw [if_pos (by rw [hu]; rfl), behS]
      rw [q]
      exact ⟨rfl, .inr ⟨rfl, rfl⟩⟩
    · simp only [Sx.mem, hk, K.mem]; exact hz
  · have e1 : s.ok1 97 z = true := by rw [← hz]; exact ok1_got hl In97
    refine .inr ⟨hr, ?_, ?_, ?_⟩
    · simp [Sx.next, hk, K.next, e1]
    · simp [Sx.next, hk, K.next, e1]
    · simp only [Sx.mem, hk, K.mem]
      rw [← hz, got_cas hl In97]; rfl
/-- one of them steps when the other one has done it -/
theorem Snd.step {r : Nat} {m : Vl} (h : Snd u z n x r) (hl : s.ws.length = 160) (hz : s.got 97 = m.w) (hm : Vl.of m.w = m) (hmu : m ≠ u) (hu : Vl.of z = u) :
    Snd u z n (x.next s) (r - 1) ∧ (x.mem s).got 97 = m.w := by
  obtain ⟨hy, ⟨hk, hr⟩ | ⟨hk, hr⟩ | ⟨hk, hr⟩⟩ := h
  · have ne : m.w ≠ z := fun e => hmu (by rw [← hm, e, hu])
    have e1 : s.ok1 97 z = false := by rw [ok1_iff hl In97, ← In97.got hl, hz]; simpa using ne
    have q : x.next s = ⟨some (.swap 97 (rqS u n) hwS), false, Ou.zero⟩ := by simp [Sx.next, hk, K.next, e1]
    rw [q]
    refine ⟨⟨rfl, .inr (.inl ⟨rfl, by omega⟩)⟩, ?_⟩
    simp only [Sx.mem, hk, K.mem]
    rw [In97.got (by rw [St.n_cas]; exact hl), word_cas_no hl In97 (by rw [← In97.got hl, hz]; exact ne), ← In97.got hl, hz]
  · have q : x.next s = ⟨none, true, Ou.zero⟩ := by
      simp only [Sx.next, hk, K.next, hz, hm]
      rw [if_neg (by exact hmu)]
      rfl
    rw [q]
    refine ⟨⟨rfl, .inr (.inr ⟨rfl, by omega⟩)⟩, ?_⟩
    simp only [Sx.mem, hk, K.mem]; exact hz
  · have q : x.next s = x := by simp [Sx.next, hk]
    have q2 : x.mem s = s := by simp [Sx.mem, hk]
    rw [q, q2]
    exact ⟨⟨hy, .inr (.inr ⟨hk, by omega⟩)⟩, hz⟩
theorem still_k (h : x.k = none) : x.next s = x ∧ x.mem s = s := by simp [Sx.next, Sx.mem, h]
theorem Game.len' (ok : x.Ok) (hl : s.ws.length = 160) : (x.mem s).ws.length = 160 := (Sx.len (s := s) ok).trans hl
theorem Game.step0 (G : Game u z a b i x0 x1 s) (ok : x0.Ok) (hu : Vl.of z = u) (ha : Vl.of a.w = a) (hb : Vl.of b.w = b) (na : a ≠ u) (nb : b ≠ u) (hi : 60 ≤ i → i % 2 = 0) (h80 : i < 80) : Game u z a b (i + 1) (x0.next s) x1 (x0.mem s) := by
  refine ⟨Game.len' ok G.len, ?_⟩
  rcases G.or_ with ⟨r0, r1, h0, h1, hz, hr⟩ | ⟨hk, hy, hz, r, h1, hr⟩ | ⟨hk, hy, hz, r, h0, hr⟩
  · have l1 := h1.le
    have l0 := h0.le
    rcases h0.step G.len hz hu with ⟨rfl, f, g⟩ | ⟨rfl, f, g, e⟩
    · exact .inl ⟨1, r1, f, h1, g, fun h => by by_cases h60 : 60 ≤ i; have := hr h60; omega; omega⟩
    · have s1 : ∃ r, Snd u z b x1 r ∧ r ≤ 2 := by
        obtain ⟨y1, ⟨k1, e1⟩ | ⟨k1, e1⟩⟩ := h1
        · exact ⟨1, ⟨y1, .inr (.inl ⟨k1, rfl⟩)⟩, by omega⟩
        · exact ⟨2, ⟨y1, .inl ⟨k1, rfl⟩⟩, by omega⟩
      obtain ⟨r, s1, s2⟩ := s1
      have key : 60 ≤ i + 1 → 2 * r + (i + 1) + (i + 1 + 1) % 2 ≤ 81 := by
        intro h
        clear f g e s1
        rcases Nat.lt_or_ge i 60 with h' | h'
        · omega
        · have := hr h'; omega
      exact .inr (.inl ⟨f, g, e, r, s1, key⟩)
  · obtain ⟨q1, q2⟩ := still_k (s := s) hk
    rw [q1, q2]
    have key : 60 ≤ i + 1 → 2 * r + (i + 1) + (i + 1 + 1) % 2 ≤ 81 := by
      intro h
      have hle := h1.le
      rcases Nat.lt_or_ge i 60 with h' | h'
      · clear hr hi; omega
      · have a1 := hr h'; have a2 := hi h'; clear hr hi; omega
    exact .inr (.inl ⟨hk, hy, hz, r, h1, key⟩)
  · obtain ⟨f, g⟩ := h0.step G.len hz hb nb hu
    have key : 60 ≤ i + 1 → 2 * (r - 1) + (i + 1) + (i + 1) % 2 ≤ 81 := by
      intro h
      have hle := h0.le
      rcases Nat.lt_or_ge i 60 with h' | h'
      · clear hr hi; omega
      · have a1 := hr h'; have a2 := hi h'; clear hr hi; omega
    exact .inr (.inr ⟨hk, hy, g, r - 1, f, key⟩)
theorem Game.step1 (G : Game u z a b i x0 x1 s) (ok : x1.Ok) (hu : Vl.of z = u) (ha : Vl.of a.w = a) (hb : Vl.of b.w = b) (na : a ≠ u) (nb : b ≠ u) (hi : 60 ≤ i → i % 2 = 1) (h80 : i < 80) : Game u z a b (i + 1) x0 (x1.next s) (x1.mem s) := by
  refine ⟨Game.len' ok G.len, ?_⟩
  rcases G.or_ with ⟨r0, r1, h0, h1, hz, hr⟩ | ⟨hk, hy, hz, r, h1, hr⟩ | ⟨hk, hy, hz, r, h0, hr⟩
  · have l1 := h1.le
    have l0 := h0.le
    rcases h1.step G.len hz hu with ⟨rfl, f, g⟩ | ⟨rfl, f, g, e⟩
    · exact .inl ⟨r0, 1, h0, f, g, fun h => by by_cases h60 : 60 ≤ i; have := hr h60; omega; omega⟩
    · have s1 : ∃ r, Snd u z a x0 r ∧ r ≤ 2 := by
        obtain ⟨y1, ⟨k1, e1⟩ | ⟨k1, e1⟩⟩ := h0
        · exact ⟨1, ⟨y1, .inr (.inl ⟨k1, rfl⟩)⟩, by omega⟩
        · exact ⟨2, ⟨y1, .inl ⟨k1, rfl⟩⟩, by omega⟩
      obtain ⟨r, s1, s2⟩ := s1
      have key : 60 ≤ i + 1 → 2 * r + (i + 1) + (i + 1) % 2 ≤ 81 := by
        intro h
        clear f g e s1
        rcases Nat.lt_or_ge i 60 with h' | h'
        · omega
        · have := hr h'; omega
      exact .inr (.inr ⟨f, g, e, r, s1, key⟩)
  · obtain ⟨f, g⟩ := h1.step G.len hz ha na hu
    have key : 60 ≤ i + 1 → 2 * (r - 1) + (i + 1) + (i + 1 + 1) % 2 ≤ 81 := by
      intro h
      have hle := h1.le
      rcases Nat.lt_or_ge i 60 with h' | h'
      · clear hr hi; omega
      · have a1 := hr h'; have a2 := hi h'; clear hr hi; omega
    exact .inr (.inl ⟨hk, hy, g, r - 1, f, key⟩)
  · obtain ⟨q1, q2⟩ := still_k (s := s) hk
    rw [q1, q2]
    have key : 60 ≤ i + 1 → 2 * r + (i + 1) + (i + 1) % 2 ≤ 81 := by
      intro h
      have hle := h0.le
      rcases Nat.lt_or_ge i 60 with h' | h'
      · clear hr hi; omega
      · have a1 := hr h'; have a2 := hi h'; clear hr hi; omega
    exact .inr (.inr ⟨hk, hy, hz, r, h0, key⟩)
/-- at the end -/
theorem Game.fin (G : Game u z a b 80 x0 x1 s) : (x0.o.y = true ∧ x1.o.y = false ∧ s.got 97 = a.w) ∨ (x0.o.y = false ∧ x1.o.y = true ∧ s.got 97 = b.w) := by
  rcases G.or_ with ⟨r0, r1, h0, h1, hz, hr⟩ | ⟨hk, hy, hz, r, h1, hr⟩ | ⟨hk, hy, hz, r, h0, hr⟩
  · have := hr (by omega); have := h0.le; omega
  · exact .inl ⟨hy, h1.1, hz⟩
  · exact .inr ⟨h0.1, hy, hz⟩
theorem Game.start (hl : s.ws.length = 160) (hz : s.got 97 = z) : Game u z a b 0 (Sx.new 97 (rqS u a) hwS) (Sx.new 97 (rqS u b) hwS) s :=
  ⟨hl, .inl ⟨2, 2, ⟨rfl, .inl ⟨rfl, rfl⟩⟩, ⟨rfl, .inl ⟨rfl, rfl⟩⟩, hz, fun h => by omega⟩⟩
end
end Go.Proofs.YtgakmpfmckikgaaDoor

namespace Go.Proofs.YtgakmpfmckikgaaDoor
set_option linter.unusedVariables false
set_option linter.unusedSimpArgs false
set_option maxRecDepth 100000
open Go.ChangeShapes Go.WideShapes Go.RowKit

theorem bneT (w : World) : (binOp .neq 4 (.bool true) (.bool false)).run Tryd.prog w = .ok (.bool true) w := by kernel_rfl
theorem bneF (w : World) : (binOp .neq 4 (.bool false) (.bool true)).run Tryd.prog w = .ok (.bool true) w := by kernel_rfl
set_option maxHeartbeats 12000000 in
theorem wDirectSwaps (av : Option Addr) (ll cv' : Nat) (zl : Nat → Vl) (v1 v2 : Vl) (ap : Option Addr) (lp cp' : Nat) (zp : Nat → Int) (w : World) (W : H.Wid w) (cv : CameV w av ll zl) (fi1 : v1.Fit) (fi2 : v2.Fit) (ci : CameI w ap lp zp) :
    Calls Tryd.prog 4 #[.slice av ll cv', .agg #[.int .i64 v1.k, .int .i64 v1.n, .int .i64 v2.k, .int .i64 v2.n], .slice ap lp cp'] w fun e w' => e = .returned (.bool true) ∧ Below w.heap.size w w' := by
  obtain ⟨S, hS⟩ : ∃ S, laidO (tagP 0 fun _ => 0) (fldP ll zl) 16 = S := ⟨_, rfl⟩
  have hSl : S.ws.length = 160 := by rw [← hS]; exact laid_len 16
  have G := good_fldP ll zl 0
  obtain ⟨u, hu⟩ : ∃ u, fldP ll zl 0 = u := ⟨_, rfl⟩
  rw [hu] at G
  have hw : S.word 97 = u.w := by rw [← hS, ← hu]; exact laid_fld (i := 0) (f := 0) (by omega) (by omega)
  have hgot : S.got 97 = u.w := by rw [In97.got hSl, hw]
  have GA := good_valP v1
  have GB := good_valP v2
  obtain ⟨a, ha⟩ : ∃ v, valP v1 = v := ⟨_, rfl⟩
  obtain ⟨b', hb'⟩ : ∃ v, valP v2 = v := ⟨_, rfl⟩
  rw [ha] at GA
  rw [hb'] at GB
  have hU := u.u64
  have hkk : F.Plain.kind u.w = u.k := congrArg Vl.k G.of
  have hnn : F.Plain.num u.w = u.n := congrArg Vl.n G.of
  go_enter Tryd.func4, Tryd.ntmps4
  go_upto_region 5 with (first
    | (go_at_call 8; refine (cShown _ (W.on (by go_grown))).mono ?_; rintro e w1 ⟨rfl, hb1'⟩; have hb1 : Below w.heap.size w w1 := bel_trans (by go_grown) hb1'; have T0 : Blk w w1 w.heap.size 56 #[.int .i64 v1.k, .int .i64 v1.n, .int .i64 v2.k, .int .i64 v2.n] := (Blk.new (Nat.le_refl _) _ (by decide)).below hb1'; clear hb1')
    | (go_at_call 9; refine (cLaid (at_ := none) (lt := 0) (ct := 0) (zt := fun _ => 0) w1 (W.on hb1) (.inl rfl) (cv.on hb1)).mono ?_; rintro e w2 ⟨b, y, rfl, h2⟩; have h3 := h2.lift hb1 W; rw [hS] at h3; have T1 := T0.below h2.bel; clear h2 T0))
  obtain ⟨g, cp, hs⟩ := h3.seen
  have c0 := hs.c0
  rw [hSl] at c0
  have c1 := hs.at hSl 97 (by omega)
  rw [show ((97 : Nat) : Int) = 97 from rfl, hw] at c1
  have ly := hs.ly
  have lg := hs.lg
  obtain ⟨uw, huw⟩ : ∃ uw, u.w = uw := ⟨_, rfl⟩
  rw [huw] at c1 hU hkk hnn hgot
  obtain ⟨tw, htw⟩ : ∃ tw, w.heap.size = tw := ⟨_, rfl⟩
  rw [htw] at T1 ⊢
  clear htw
  go_upto_region 6 with (go_at_call 16; refine (F.rOf uw hU.1 hU.2 _).mono ?_; rintro e w3 ⟨rfl, hw3⟩; rw [hkk, hnn] at hw3 ⊢; have hb3 : Below w2.heap.size w2 w3 := (by rw [hw3]; go_grown); have h4 := h3.below hb3; have T2 := T1.below hb3; clear hw3 hb3)
  have BUb : Below w3.heap.size w3 (w3.alloc (.cells #[.int .i64 u.k, .int .i64 u.n] 24)) := (Below.refl _ _).alloc (Nat.le_refl _) _
  have BU : Blk w (w3.alloc (.cells #[.int .i64 u.k, .int .i64 u.n] 24)) w3.heap.size 24 #[.int .i64 u.k, .int .i64 u.n] := Blk.new h4.bel.size _ (by decide)
  have h5 := h4.below BUb
  have T3 := T2.below BUb
  generalize w3.alloc (.cells #[.int .i64 u.k, .int .i64 u.n] 24) = w4 at BU h5 T3 ⊢
  generalize w3.heap.size = ub at BU ⊢
  clear BUb
  clear c0 c1 ly lg hs T2 T1 h4 h3
  have t0 : w4.cell? ⟨tw, 0, none⟩ = some (.int .i64 v1.k) := T3.cell 0
  have t1 : w4.cell? ⟨tw, 1, none⟩ = some (.int .i64 v1.n) := T3.cell 1
  go_upto_region 7 with (go_at_call 18; refine (cVal v1 fi1 _).mono ?_; rintro e w5 ⟨rfl, hb5⟩; rw [ha]; have h6 := h5.below hb5; have T4 := T3.below hb5; have BU5 := BU.below hb5; clear hb5)
  have BAb : Below w5.heap.size w5 (w5.alloc (.cells #[.int .i64 a.k, .int .i64 a.n] 24)) := (Below.refl _ _).alloc (Nat.le_refl _) _
  have BA : Blk w (w5.alloc (.cells #[.int .i64 a.k, .int .i64 a.n] 24)) w5.heap.size 24 #[.int .i64 a.k, .int .i64 a.n] := Blk.new h6.bel.size _ (by decide)
  have h7 := h6.below BAb
  have T5 := T4.below BAb
  have BU6 := BU5.below BAb
  generalize w5.alloc (.cells #[.int .i64 a.k, .int .i64 a.n] 24) = w6 at BA h7 T5 BU6 ⊢
  generalize w5.heap.size = ab at BA ⊢
  clear BAb
  have t2 : w6.cell? ⟨tw, 2, none⟩ = some (.int .i64 v2.k) := T5.cell 2
  have t3 : w6.cell? ⟨tw, 3, none⟩ = some (.int .i64 v2.n) := T5.cell 3
  go_upto_region 8 with (go_at_call 18; refine (cVal v2 fi2 _).mono ?_; rintro e w7 ⟨rfl, hb7⟩; rw [hb']; have h8 := h7.below hb7; have BU7 := BU6.below hb7; have BA7 := BA.below hb7; clear hb7)
  have BBb : Below w7.heap.size w7 (w7.alloc (.cells #[.int .i64 b'.k, .int .i64 b'.n] 24)) := (Below.refl _ _).alloc (Nat.le_refl _) _
  have BB : Blk w (w7.alloc (.cells #[.int .i64 b'.k, .int .i64 b'.n] 24)) w7.heap.size 24 #[.int .i64 b'.k, .int .i64 b'.n] := Blk.new h8.bel.size _ (by decide)
  have h9 := h8.below BBb
  have BU8 := BU7.below BBb
  have BA8 := BA7.below BBb
  generalize w7.alloc (.cells #[.int .i64 b'.k, .int .i64 b'.n] 24) = w8 at BB h9 BU8 BA8 ⊢
  generalize w7.heap.size = bb at BB ⊢
  clear BBb
  clear t0 t1 t2 t3 T3 T4 T5 h5 h6 h7 h8 BU BU5 BU6 BU7 BA BA7
  have a0 : w8.cell? ⟨ub, 0, none⟩ = some (.int .i64 u.k) := BU8.cell 0
  have a1 : w8.cell? ⟨ub, 1, none⟩ = some (.int .i64 u.n) := BU8.cell 1
  have al := BU8.lt
  have c0 : w8.cell? ⟨ab, 0, none⟩ = some (.int .i64 a.k) := BA8.cell 0
  have c1 : w8.cell? ⟨ab, 1, none⟩ = some (.int .i64 a.n) := BA8.cell 1
  have cl := BA8.lt
  have e0 : w8.cell? ⟨bb, 0, none⟩ = some (.int .i64 b'.k) := BB.cell 0
  have e1 : w8.cell? ⟨bb, 1, none⟩ = some (.int .i64 b'.n) := BB.cell 1
  have el := BB.lt
  by_cases na : a = u
  · have q1 := eqVal_t na
    clear na
    go_wp2
    go_ret
    exact ⟨rfl, h9.bel⟩
  · have q1 := eqVal_f na
    by_cases nb : b' = u
    · have q2 := eqVal_t nb
      have na' : Hid (a ≠ u) := na
      clear na nb
      go_wp2
      go_ret
      exact ⟨rfl, h9.bel⟩
    · have q2 := eqVal_f nb
      have hu1 : Vl.of uw = u := by rw [← huw]; exact G.of
      have na' : Hid (a ≠ u) := na
      have nb' : Hid (b' ≠ u) := nb
      clear na nb
      have XB : Below w8.heap.size w8 (w8.alloc (.cells #[.pointer none, .pointer none] 58)) := (Below.refl _ _).alloc (Nat.le_refl _) _
      have X0 : Blk w (w8.alloc (.cells #[.pointer none, .pointer none] 58)) w8.heap.size 58 #[.pointer none, .pointer none] := Blk.new h9.bel.size _ (by decide)
      have i1 := h9.below XB
      have BU9 := BU8.below XB
      have BA9 := BA8.below XB
      have BB9 := BB.below XB
      go_upto_region 11 with (fail)
      clear a0 a1 al c0 c1 cl e0 e1 el
      generalize w8.alloc (.cells #[.pointer none, .pointer none] 58) = w9 at X0 i1 BU9 BA9 BB9 ⊢
      generalize w8.heap.size = xb at X0 ⊢
      clear XB
      have a0 : w9.cell? ⟨ub, 0, none⟩ = some (.int .i64 u.k) := BU9.cell 0
      have a1 : w9.cell? ⟨ub, 1, none⟩ = some (.int .i64 u.n) := BU9.cell 1
      have al := BU9.lt
      have c0 : w9.cell? ⟨ab, 0, none⟩ = some (.int .i64 a.k) := BA9.cell 0
      have c1 : w9.cell? ⟨ab, 1, none⟩ = some (.int .i64 a.n) := BA9.cell 1
      have cl := BA9.lt
      have xc0 : w9.cell? ⟨xb, 0, none⟩ = some (.pointer none) := X0.cell 0
      go_upto_region 12 with (go_at_call 19; refine (cNewDirect 96 ⟨3, 96, 0, u, a⟩ ⟨false, false, false, 0⟩ _ (by decide) (by decide) (by simp) (by simp)).mono ?_; rintro e w10 ⟨p0, rfl, M10⟩; have i2 := i1.below M10.bel; have P0 : Mx w w10 p0 94 (Sx.new 97 (rqS u a) hwS) := M10.mx i1.bel.size (by decide) (by decide) (Sx.ok_new _ _ _); have BU10 := BU9.below M10.bel; have BA10 := BA9.below M10.bel; have BB10 := BB9.below M10.bel; have X1 := X0.below M10.bel; have x10 : w10.cell? ⟨xb, 0, none⟩ = some (.pointer none) := X1.cell 0; have xf10 := X1.free 0; clear M10)
      have X2 : Blk w (w10.setCell ⟨xb, 0, none⟩ (pt p0)) xb 58 #[pt p0, .pointer none] := X1.set 0 (pt p0)
      have i3 := i2.set X1 0 (pt p0)
      have o10 : Oth [xb] w10 (w10.setCell ⟨xb, 0, none⟩ (pt p0)) := Oth.set _ _ _ _ (by simp)
      obtain ⟨vp, Bp⟩ := P0.blk
      have P1 := P0.oth1 o10 X1 (by decide) (Bp.ne X1 (by decide))
      have BU11 := BU10.oth o10 (by simpa using BU10.ne X1 (by decide))
      have BA11 := BA10.oth o10 (by simpa using BA10.ne X1 (by decide))
      have BB11 := BB10.oth o10 (by simpa using BB10.ne X1 (by decide))
      clear a0 a1 al c0 c1 cl xc0 x10 xf10 Bp o10
      generalize w10.setCell ⟨xb, 0, none⟩ (pt p0) = w11 at X2 i3 P1 BU11 BA11 BB11 ⊢
      have a0 : w11.cell? ⟨ub, 0, none⟩ = some (.int .i64 u.k) := BU11.cell 0
      have a1 : w11.cell? ⟨ub, 1, none⟩ = some (.int .i64 u.n) := BU11.cell 1
      have al := BU11.lt
      have c0 : w11.cell? ⟨bb, 0, none⟩ = some (.int .i64 b'.k) := BB11.cell 0
      have c1 : w11.cell? ⟨bb, 1, none⟩ = some (.int .i64 b'.n) := BB11.cell 1
      have cl := BB11.lt
      go_upto_region 13 with (go_at_call 19; refine (cNewDirect 96 ⟨3, 96, 0, u, b'⟩ ⟨false, false, false, 0⟩ _ (by decide) (by decide) (by simp) (by simp)).mono ?_; rintro e w12 ⟨p1, rfl, M12⟩; have i4 := i3.below M12.bel; have Q0 : Mx w w12 p1 94 (Sx.new 97 (rqS u b') hwS) := M12.mx i3.bel.size (by decide) (by decide) (Sx.ok_new _ _ _); have npq : p0 ≠ p1 := (by have := P1.lt; have := M12.new; omega); have P2 := P1.below M12.bel; have BA12 := BA11.below M12.bel; have BB12 := BB11.below M12.bel; have X3 := X2.below M12.bel; have x12 : w12.cell? ⟨xb, 1, none⟩ = some (.pointer none) := X3.cell 1; have xf12 := X3.free 1; clear M12)
      have X4 : Blk w (w12.setCell ⟨xb, 1, none⟩ (pt p1)) xb 58 #[pt p0, pt p1] := X3.set 1 (pt p1)
      have i5 := i4.set X3 1 (pt p1)
      have o12 : Oth [xb] w12 (w12.setCell ⟨xb, 1, none⟩ (pt p1)) := Oth.set _ _ _ _ (by simp)
      obtain ⟨vp, Bp⟩ := P2.blk
      obtain ⟨vq, Bq⟩ := Q0.blk
      have P3 := P2.oth1 o12 X3 (by decide) (Bp.ne X3 (by decide))
      have Q1 := Q0.oth1 o12 X3 (by decide) (Bq.ne X3 (by decide))
      have BA13 := BA12.oth o12 (by simpa using BA12.ne X3 (by decide))
      have BB13 := BB12.oth o12 (by simpa using BB12.ne X3 (by decide))
      clear a0 a1 al c0 c1 cl x12 xf12 Bp Bq o12
      generalize w12.setCell ⟨xb, 1, none⟩ (pt p1) = w13 at X4 i5 P3 Q1 BA13 BB13 ⊢
      have xc0 : w13.cell? ⟨xb, 0, none⟩ = some (pt p0) := X4.cell 0
      have xc1 : w13.cell? ⟨xb, 1, none⟩ = some (pt p1) := X4.cell 1
      have G0 : Game u uw a b' 0 (Sx.new 97 (rqS u a) hwS) (Sx.new 97 (rqS u b') hwS) S := Game.start hSl hgot
      go_wp2_with (fail)
      clear xc0 xc1 X0 X1 X2 X3 BU9 BU10 BU11 BA9 BA10 BA11 BA12 BB9 BB10 BB11 BB12 i1 i2 i3 i4 P0 P1 P2 Q0 q1 q2
      go_loopw [14] (fun i wr => ∃ j : Nat, j ≤ 80 ∧ i = .int .i64 j ∧ ∃ x0 x1 s, Two w wr b y s S (128 + j) ∧ Mx w wr p0 94 x0 ∧ Mx w wr p1 94 x1 ∧ Game u uw a b' j x0 x1 s ∧ Blk w wr xb 58 #[pt p0, pt p1] ∧ Blk w wr ab 24 #[.int .i64 a.k, .int .i64 a.n] ∧ Blk w wr bb 24 #[.int .i64 b'.k, .int .i64 b'.n]) (fun i _ => 80 - (intOf i).toNat)
      case atStart => exact ⟨0, Nat.zero_le _, rfl, _, _, S, i5, P3, Q1, G0, X4, BA13, BB13⟩
      case round =>
        obtain ⟨j, hj, rfl, x0, x1, s, k1, k2, k3, GG, k5, k6, k7⟩ := hrel
        by_cases hj8 : j < 80
        case pos =>
          have hji : (j : Int) < 80 := by omega
          have xc0 : wr.cell? ⟨xb, 0, none⟩ = some (pt p0) := k5.cell 0
          have xc1 : wr.cell? ⟨xb, 1, none⟩ = some (pt p1) := k5.cell 1
          obtain ⟨vp, Bp⟩ := k2.blk
          obtain ⟨vq, Bq⟩ := k3.blk
          by_cases hA : j < lp
          · by_cases hB : j < 60
            · have ci1 := ci.on k1.bel
              obtain ⟨vb, off, rfl, hvb, hz⟩ : ∃ b off, ap = some ⟨b, off, none⟩ ∧ b < wr.heap.size ∧ ∀ j, j < lp → wr.cell? ⟨b, off + j, none⟩ = some (.int .i64 (zp j)) ∧ -9223372036854775808 ≤ zp j ∧ zp j ≤ 9223372036854775807 := ci1.resolve_left (by omega)
              obtain ⟨dz, z0, z1⟩ := hz j hA
              obtain ⟨zj, hzj⟩ : ∃ zj, zp j = zj := ⟨_, rfl⟩
              rw [hzj] at dz z0 z1
              clear hz hzj ci1
              have hAi : (j : Int) < (lp : Int) := by omega
              have hBi : (j : Int) < 60 := by omega
              have kk := kd_lt zj 2 (by decide)
              obtain ⟨kz, hkz⟩ : ∃ kz, kd zj 2 = kz := ⟨_, rfl⟩
              rw [hkz] at kk
              rcases (show kz = 0 ∨ kz = 1 by omega) with rfl | rfl
              · go_wp2_with (first
                  | (go_at_call 12; refine (tD k1 k2 (by omega)).mono ?_; rintro e w20 ⟨rfl, t1, t2, o20⟩; have t3 := k3.oth1 o20 Bp (by decide) (Ne.symm npq); have t5 := k5.oth o20 (by simpa using k5.ne Bp (by decide)); have t6 := k6.oth o20 (by simpa using k6.ne Bp (by decide)); have t7 := k7.oth o20 (by simpa using k7.ne Bp (by decide)))
                  | (go_at_call 10; refine (cKind _ zj 2 z0 z1 (by decide)).mono ?_; rintro e wk ⟨rfl, hwk⟩; rw [hwk, hkz]; clear hwk wk))
                go_roundw
                case rel => exact ⟨j + 1, by omega, by go_num, _, _, _, t1, t2, t3, GG.step0 k2.ok hu1 GA.of GB.of na'.out nb'.out (fun h => by omega) hj8, t5, t6, t7⟩
                case measure => simp [intOf]; omega
              · go_wp2_with (first
                  | (go_at_call 12; refine (tD k1 k3 (by omega)).mono ?_; rintro e w20 ⟨rfl, t1, t2, o20⟩; have t3 := k2.oth1 o20 Bq (by decide) npq; have t5 := k5.oth o20 (by simpa using k5.ne Bq (by decide)); have t6 := k6.oth o20 (by simpa using k6.ne Bq (by decide)); have t7 := k7.oth o20 (by simpa using k7.ne Bq (by decide)))
                  | (go_at_call 10; refine (cKind _ zj 2 z0 z1 (by decide)).mono ?_; rintro e wk ⟨rfl, hwk⟩; rw [hwk, hkz]; clear hwk wk))
                go_roundw
                case rel => exact ⟨j + 1, by omega, by go_num, _, _, _, t1, t3, t2, GG.step1 k3.ok hu1 GA.of GB.of na'.out nb'.out (fun h => by omega) hj8, t5, t6, t7⟩
                case measure => simp [intOf]; omega
            · have hAi : (j : Int) < (lp : Int) := by omega
              have hBi : ¬ (j : Int) < 60 := by omega
              rcases Nat.mod_two_eq_zero_or_one j with hm | hm
              · have hmi : (j : Int) % 2 = 0 := by omega
                go_wp2_with (first
                  | (go_at_call 12; refine (tD k1 k2 (by omega)).mono ?_; rintro e w20 ⟨rfl, t1, t2, o20⟩; have t3 := k3.oth1 o20 Bp (by decide) (Ne.symm npq); have t5 := k5.oth o20 (by simpa using k5.ne Bp (by decide)); have t6 := k6.oth o20 (by simpa using k6.ne Bp (by decide)); have t7 := k7.oth o20 (by simpa using k7.ne Bp (by decide))))
                go_roundw
                case rel => exact ⟨j + 1, by omega, by go_num, _, _, _, t1, t2, t3, GG.step0 k2.ok hu1 GA.of GB.of na'.out nb'.out (fun h => hm) hj8, t5, t6, t7⟩
                case measure => simp [intOf]; omega
              · have hmi : (j : Int) % 2 = 1 := by omega
                go_wp2_with (first
                  | (go_at_call 12; refine (tD k1 k3 (by omega)).mono ?_; rintro e w20 ⟨rfl, t1, t2, o20⟩; have t3 := k2.oth1 o20 Bq (by decide) npq; have t5 := k5.oth o20 (by simpa using k5.ne Bq (by decide)); have t6 := k6.oth o20 (by simpa using k6.ne Bq (by decide)); have t7 := k7.oth o20 (by simpa using k7.ne Bq (by decide))))
                go_roundw
                case rel => exact ⟨j + 1, by omega, by go_num, _, _, _, t1, t3, t2, GG.step1 k3.ok hu1 GA.of GB.of na'.out nb'.out (fun h => hm) hj8, t5, t6, t7⟩
                case measure => simp [intOf]; omega
          · have hAi : ¬ (j : Int) < (lp : Int) := by omega
            rcases Nat.mod_two_eq_zero_or_one j with hm | hm
            · have hmi : (j : Int) % 2 = 0 := by omega
              go_wp2_with (first
                | (go_at_call 12; refine (tD k1 k2 (by omega)).mono ?_; rintro e w20 ⟨rfl, t1, t2, o20⟩; have t3 := k3.oth1 o20 Bp (by decide) (Ne.symm npq); have t5 := k5.oth o20 (by simpa using k5.ne Bp (by decide)); have t6 := k6.oth o20 (by simpa using k6.ne Bp (by decide)); have t7 := k7.oth o20 (by simpa using k7.ne Bp (by decide))))
              go_roundw
              case rel => exact ⟨j + 1, by omega, by go_num, _, _, _, t1, t2, t3, GG.step0 k2.ok hu1 GA.of GB.of na'.out nb'.out (fun h => hm) hj8, t5, t6, t7⟩
              case measure => simp [intOf]; omega
            · have hmi : (j : Int) % 2 = 1 := by omega
              go_wp2_with (first
                | (go_at_call 12; refine (tD k1 k3 (by omega)).mono ?_; rintro e w20 ⟨rfl, t1, t2, o20⟩; have t3 := k2.oth1 o20 Bq (by decide) npq; have t5 := k5.oth o20 (by simpa using k5.ne Bq (by decide)); have t6 := k6.oth o20 (by simpa using k6.ne Bq (by decide)); have t7 := k7.oth o20 (by simpa using k7.ne Bq (by decide))))
              go_roundw
              case rel => exact ⟨j + 1, by omega, by go_num, _, _, _, t1, t3, t2, GG.step1 k3.ok hu1 GA.of GB.of na'.out nb'.out (fun h => hm) hj8, t5, t6, t7⟩
              case measure => simp [intOf]; omega
        case neg =>
          obtain rfl : j = 80 := by omega
          have xc0 : wr.cell? ⟨xb, 0, none⟩ = some (pt p0) := k5.cell 0
          obtain ⟨vp, Bp⟩ := k2.blk
          obtain ⟨vq, Bq⟩ := k3.blk
          have F0 := GG.fin
          have gl := GG.len
          go_upto_region 23 with (go_at_call 14; refine (cDResult Bp).mono ?_; rintro e w21 ⟨rfl, hb21⟩; unfold Ou.val; have l1 := k1.below hb21; have l3 := Bq.below hb21; have l5 := k5.below hb21; have l6 := k6.below hb21; have l7 := k7.below hb21; clear hb21)
          have OAb : Below w21.heap.size w21 (w21.alloc (.cells #[.int .i64 x0.o.c, .int .i64 x0.o.v.k, .int .i64 x0.o.v.n, .bool x0.o.y] 45)) := (Below.refl _ _).alloc (Nat.le_refl _) _
          have OA : Blk w (w21.alloc (.cells #[.int .i64 x0.o.c, .int .i64 x0.o.v.k, .int .i64 x0.o.v.n, .bool x0.o.y] 45)) w21.heap.size 45 #[.int .i64 x0.o.c, .int .i64 x0.o.v.k, .int .i64 x0.o.v.n, .bool x0.o.y] := Blk.new l1.bel.size _ (by decide)
          have m1 := l1.below OAb
          have m3 := l3.below OAb
          have m5 := l5.below OAb
          have m6 := l6.below OAb
          have m7 := l7.below OAb
          generalize w21.alloc (.cells #[.int .i64 x0.o.c, .int .i64 x0.o.v.k, .int .i64 x0.o.v.n, .bool x0.o.y] 45) = w22 at OA m1 m3 m5 m6 m7 ⊢
          generalize w21.heap.size = ob at OA ⊢
          clear OAb
          have xc1 : w22.cell? ⟨xb, 1, none⟩ = some (pt p1) := m5.cell 1
          go_upto_region 24 with (go_at_call 14; refine (cDResult m3).mono ?_; rintro e w23 ⟨rfl, hb23⟩; unfold Ou.val; have n1 := m1.below hb23; have n6 := m6.below hb23; have n7 := m7.below hb23; have nO := OA.below hb23; clear hb23)
          have OBb : Below w23.heap.size w23 (w23.alloc (.cells #[.int .i64 x1.o.c, .int .i64 x1.o.v.k, .int .i64 x1.o.v.n, .bool x1.o.y] 45)) := (Below.refl _ _).alloc (Nat.le_refl _) _
          have OB : Blk w (w23.alloc (.cells #[.int .i64 x1.o.c, .int .i64 x1.o.v.k, .int .i64 x1.o.v.n, .bool x1.o.y] 45)) w23.heap.size 45 #[.int .i64 x1.o.c, .int .i64 x1.o.v.k, .int .i64 x1.o.v.n, .bool x1.o.y] := Blk.new n1.bel.size _ (by decide)
          have r1 := n1.below OBb
          have r6 := n6.below OBb
          have r7 := n7.below OBb
          have rO := nO.below OBb
          generalize w23.alloc (.cells #[.int .i64 x1.o.c, .int .i64 x1.o.v.k, .int .i64 x1.o.v.n, .bool x1.o.y] 45) = w24 at OB r1 r6 r7 rO ⊢
          generalize w23.heap.size = oc at OB ⊢
          clear OBb
          have Gs : U64 (s.got 97) := r1.rng1.got 97
          obtain ⟨gw, hgw⟩ : ∃ gw, s.got 97 = gw := ⟨_, rfl⟩
          rw [hgw] at F0 Gs
          obtain ⟨nv, hnv⟩ : ∃ nv, Vl.of gw = nv := ⟨_, rfl⟩
          have hk2 : F.Plain.kind gw = nv.k := congrArg Vl.k hnv
          have hn2 : F.Plain.num gw = nv.n := congrArg Vl.n hnv
          go_upto_region 25 with (first
            | (go_at_call 17; refine (hLoad r1.one (by omega) 97).mono ?_; rintro e w25 ⟨rfl, H25, o25⟩; rw [hgw]; have s6 := r6.oth o25 (by simp); have s7 := r7.oth o25 (by simp); have sO := rO.oth o25 (by simp); have sP := OB.oth o25 (by simp); clear o25)
            | (go_at_call 16; refine (F.rOf gw Gs.1 Gs.2 _).mono ?_; rintro e w26 ⟨rfl, hw26⟩; rw [hk2, hn2] at hw26 ⊢; have hb26 : Below w25.heap.size w25 w26 := (by rw [hw26]; go_grown); have H26 := H25.below hb26; have u6 := s6.below hb26; have u7 := s7.below hb26; have uO := sO.below hb26; have uP := sP.below hb26; clear hw26 hb26))
          have BNb : Below w26.heap.size w26 (w26.alloc (.cells #[.int .i64 nv.k, .int .i64 nv.n] 24)) := (Below.refl _ _).alloc (Nat.le_refl _) _
          have BN : Blk w (w26.alloc (.cells #[.int .i64 nv.k, .int .i64 nv.n] 24)) w26.heap.size 24 #[.int .i64 nv.k, .int .i64 nv.n] := Blk.new H26.bel.size _ (by decide)
          have H27 := H26.below BNb
          have y6 := u6.below BNb
          have y7 := u7.below BNb
          have yO := uO.below BNb
          have yP := uP.below BNb
          generalize w26.alloc (.cells #[.int .i64 nv.k, .int .i64 nv.n] 24) = w27 at BN H27 y6 y7 yO yP ⊢
          generalize w26.heap.size = nb2 at BN ⊢
          clear BNb
          have d0 : w27.cell? ⟨ob, 3, none⟩ = some (.bool x0.o.y) := yO.cell 3
          have d1 : w27.cell? ⟨oc, 3, none⟩ = some (.bool x1.o.y) := yP.cell 3
          have f0 : w27.cell? ⟨nb2, 0, none⟩ = some (.int .i64 nv.k) := BN.cell 0
          have f1 : w27.cell? ⟨nb2, 1, none⟩ = some (.int .i64 nv.n) := BN.cell 1
          have fl := BN.lt
          have ga0 : w27.cell? ⟨ab, 0, none⟩ = some (.int .i64 a.k) := y6.cell 0
          have ga1 : w27.cell? ⟨ab, 1, none⟩ = some (.int .i64 a.n) := y6.cell 1
          have gal := y6.lt
          have hb0 : w27.cell? ⟨bb, 0, none⟩ = some (.int .i64 b'.k) := y7.cell 0
          have hb1 : w27.cell? ⟨bb, 1, none⟩ = some (.int .i64 b'.n) := y7.cell 1
          have hbl := y7.lt
          rcases F0 with ⟨F1, F2, F3⟩ | ⟨F1, F2, F3⟩
          · rw [F1] at d0
            rw [F2] at d1
            have hna : nv = a := by rw [← hnv, F3, GA.of]
            have e1 := eqVal_t hna
            have b1 := bneT
            clear hna F1 F2 F3
            go_wp2
            go_ret
            exact ⟨rfl, H27.bel⟩
          · rw [F1] at d0
            rw [F2] at d1
            have hna : nv = b' := by rw [← hnv, F3, GB.of]
            have e1 := eqVal_t hna
            have b1 := bneF
            clear hna F1 F2 F3
            go_wp2
            go_ret
            exact ⟨rfl, H27.bel⟩
end Go.Proofs.YtgakmpfmckikgaaDoor
