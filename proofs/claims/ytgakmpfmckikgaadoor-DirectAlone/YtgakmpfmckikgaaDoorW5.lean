/-
  The walk of the law on an access alone.
-/
import Derived.Test.YtgakmpfmckikgaaDoorEa
import Derived.Test.YtgakmpfmckikgaaDoorBg
import Derived.Test.YtgakmpfmckikgaaDoorHand
import Derived.Deep.Cut
import Derived.Deep.RegionHeld3
namespace Go.Proofs.YtgakmpfmckikgaaDoor
set_option linter.unusedVariables false
set_option linter.unusedSimpArgs false
set_option maxRecDepth 100000
open Go.ChangeShapes Go.WideShapes Go.RowKit
open H.Plain (hw pS pC pN pM pG pT pL mv)

section
variable {w0 w w' : World} {b y p WB : Nat} {s1 s2 : St} {N : Nat} {x : Sx} {kk : Int}
theorem tLoad (h : Two w0 w b y s1 s2 N) (hN : N < 1000000) (a : Int) :
    Calls Tryd.prog 17 #[.pointer (some ⟨b, 0, none⟩), .int .i64 a] w fun e w' => e = .returned (.int .u64 (s1.got a)) ∧ Two w0 w' b y (s1.load a) s2 (N + 1) ∧ Oth [] w w' ∧ ∀ g cp, Seen2 w y g cp s2 → Seen2 w' y g cp s2 := by
  have ht := h.top1
  have hc : s1.c < 1000000 := by omega
  obtain ⟨⟨L, M, rfl, rfl, hm, hr, hl, hl2⟩, hb, f1, f2, t1, t2, r1, r2, wd⟩ := h
  refine (cLoad hm f1 hc a).mono ?_
  rintro e w' ⟨rfl, L', hm', st⟩
  have hl' : ∀ k ∈ L'.fp, w0.heap.size ≤ k ∧ k ∉ M.fp := fun k hk => (st.new k hk).elim (hl k) fun h' => ⟨Nat.le_trans hb.size h', fun hkM => by have := hr.lt k hkM; omega⟩
  have hr' : Rm w' M s2 := hr.on st.kept fun k hk hm' => (hl k hm').2 hk
  refine ⟨rfl, ⟨⟨L', M, st.b, rfl, hm', hr', hl', hl2⟩, hb.trans (st.kept.below (fun k hk => (hl k hk).1) hb.size), f1.load hc a, f2, by rw [St.c_load]; omega, by omega, r1.load a, r2, wd⟩, Oth.step hm (by simp [MTs]) f1 st, fun g cp hs => ?_⟩
  have e0 := hs.c0
  rw [hr.cell0] at e0
  simp at e0
  obtain ⟨rfl, rfl⟩ := e0
  exact ⟨hr'.cell0, hr'.cell2, fun j hj => hr'.wcell j hj, hr'.lt _ (by simp [Loc.fp]), hr'.lt _ (by simp [Loc.fp])⟩
/-- the worker's machine: of the first kind, or of the second -/
def Which (w0 w : World) (WB p : Nat) (kk : Int) (x : Sx) : Prop := ∃ cs, Blk w0 w WB 40 cs ∧ ((kk = 0 ∧ cs[0]? = some (pt p) ∧ Mx w0 w p 94 x) ∨ (kk = 1 ∧ cs[0]? = some (.pointer none) ∧ cs[1]? = some (pt p) ∧ Mx w0 w p 95 x))
end
theorem bel_drewN (w : World) (n : Nat) : Below w.heap.size w (w.drewN n) := S.bdr (Below.refl _ _) n
theorem kd_id {c n : Int} (h0 : 0 ≤ c) (h : c < n) : kd c n = c := by
  unfold kd
  rw [if_neg (by omega)]
  exact Int.emod_eq_of_lt h0 h
/-- what the law asks for -/
def askP (q : Op7) (ko kf : Int) : Rq := ⟨1 + kd q.a 3, 96 + 4 * ko, kf, valP q.x, valP q.y⟩
theorem alone_fin (ll : Nat) (zl : Nat → Vl) (q : Op7) {ko kf : Int} (k1 : 0 ≤ ko ∧ ko < 16) (k2 : 0 ≤ kf ∧ kf < 3) {S : St} (hS : laidO (tagP 0 (fun _ => 0)) (fldP ll zl) 16 = S) :
    ∃ u : Vl, u.Good ∧ S.word (97 + 4 * ko + kf) = u.w ∧ (∀ h, Fin' (Sx.new (96 + 4 * ko + 1 + kf) (askP q ko kf) h) S 13 (Left S (97 + 4 * ko + kf) (askP q ko kf))) ∧ ∀ e, Fin' (Sx.plain (askP q ko kf) e) S 13 (Left S (97 + 4 * ko + kf) (askP q ko kf)) := by
  have C : Calm S := hS ▸ calm_laid _
  obtain ⟨i, rfl⟩ : ∃ i : Nat, ko = i := ⟨ko.toNat, by omega⟩
  obtain ⟨f, rfl⟩ : ∃ f : Nat, kf = f := ⟨kf.toNat, by omega⟩
  have G := good_fldP ll zl (3 * i + f)
  have hw : S.word (97 + 4 * (i : Int) + (f : Int)) = (fldP ll zl (3 * i + f)).w := by rw [← hS]; exact laid_fld (by omega) (by omega)
  have hu : (Vl.of (S.word (97 + 4 * (i : Int) + (f : Int)))).Obj := by rw [hw, G.of]; exact G.far
  have k3 := kd_lt q.a 3 (by decide)
  have hop : (askP q i f).op = 1 ∨ (askP q i f).op = 2 ∨ (askP q i f).op = 3 := by simp only [askP]; omega
  have ef : 96 + 4 * (i : Int) + 1 + (f : Int) = 97 + 4 * (i : Int) + (f : Int) := by omega
  refine ⟨_, G, hw, fun h => ?_, fun e => ?_⟩
  · rw [ef]
    exact (direct_fin C rfl C.t ⟨by omega, by omega⟩ (by omega) (by omega) hop hu (good_valP _).far (good_valP _).far).mono (by omega)
  · exact plain_fin C (i := i) (by omega) rfl (by simp only [askP]; omega) (by simp only [askP]; omega) (by simp only [askP]; omega) hop hu (good_valP _).far (good_valP _).far
set_option maxHeartbeats 12000000 in
theorem wDirectAlone (av : Option Addr) (ll cv' : Nat) (zl : Nat → Vl) (q : Op7) (w : World) (W : H.Wid w) (cv : CameV w av ll zl) (fq : q.Fit) :
    Calls Tryd.prog 3 #[.slice av ll cv', .agg q.cells] w fun e w' => e = .returned (.bool true) ∧ Below w.heap.size w w' := by
  obtain ⟨S, hS⟩ : ∃ S, laidO (tagP 0 (fun _ => 0)) (fldP ll zl) 16 = S := ⟨_, rfl⟩
  have hSl : S.ws.length = 160 := by rw [← hS]; exact laid_len 16
  have g1 := kd_lt q.k 2 (by decide)
  have g2 := kd_lt q.o 16 (by decide)
  have g3 := kd_lt q.f 3 (by decide)
  have hk3b := kd_lt q.a 3 (by decide)
  obtain ⟨u, Gu, hSw, F0, F1⟩ := alone_fin ll zl q g2 g3 hS
  have Gx := good_valP q.x
  have Gy := good_valP q.y
  simp only [askP] at F0 F1
  obtain ⟨kk, hkk⟩ : ∃ v, kd q.k 2 = v := ⟨_, rfl⟩
  obtain ⟨ko, hko⟩ : ∃ v, kd q.o 16 = v := ⟨_, rfl⟩
  obtain ⟨kf, hkf⟩ : ∃ v, kd q.f 3 = v := ⟨_, rfl⟩
  obtain ⟨ka, hka⟩ : ∃ v, kd q.a 3 = v := ⟨_, rfl⟩
  obtain ⟨vx, hvx⟩ : ∃ v, valP q.x = v := ⟨_, rfl⟩
  obtain ⟨vy, hvy⟩ : ∃ v, valP q.y = v := ⟨_, rfl⟩
  rw [hkk] at g1
  rw [hko] at g2 hSw F0 F1
  rw [hkf] at g3 hSw F0 F1
  rw [hka] at hk3b F0 F1
  rw [hvx] at Gx F0 F1
  rw [hvy] at Gy F0 F1
  obtain ⟨na, hna⟩ : ∃ na : Nat, 97 + 4 * ko + kf = (na : Int) := ⟨(97 + 4 * ko + kf).toNat, by omega⟩
  have na1 : na < 160 := by omega
  have na0 : 96 ≤ na := by omega
  rw [hna] at hSw
  unfold Op7.cells
  go_enter Tryd.func3, Tryd.ntmps3
  go_upto_region 1 with (fail)
  have hb0 : Below w.heap.size w (w.alloc (.cells #[.int .i64 q.k, .int .i64 q.b, .int .i64 q.o, .int .i64 q.f, .int .i64 q.a, .int .i64 q.x.k, .int .i64 q.x.n, .int .i64 q.y.k, .int .i64 q.y.n] 26)) := (Below.refl _ _).alloc (Nat.le_refl _) _
  have OB0 : Blk w (w.alloc (.cells #[.int .i64 q.k, .int .i64 q.b, .int .i64 q.o, .int .i64 q.f, .int .i64 q.a, .int .i64 q.x.k, .int .i64 q.x.n, .int .i64 q.y.k, .int .i64 q.y.n] 26)) w.heap.size 26 #[.int .i64 q.k, .int .i64 q.b, .int .i64 q.o, .int .i64 q.f, .int .i64 q.a, .int .i64 q.x.k, .int .i64 q.x.n, .int .i64 q.y.k, .int .i64 q.y.n] := Blk.new (Nat.le_refl _) _ (by decide)
  generalize w.alloc (.cells #[.int .i64 q.k, .int .i64 q.b, .int .i64 q.o, .int .i64 q.f, .int .i64 q.a, .int .i64 q.x.k, .int .i64 q.x.n, .int .i64 q.y.k, .int .i64 q.y.n] 26) = w0 at hb0 OB0 ⊢
  obtain ⟨ob, hob⟩ : ∃ ob, w.heap.size = ob := ⟨_, rfl⟩
  rw [hob] at OB0 ⊢
  go_upto_region 5 with (first
    | (go_at_call 8; refine (cShown _ (W.on hb0)).mono ?_; rintro e w1 ⟨rfl, hb1'⟩; have hb1 := bel_trans hb0 hb1'; have OB1 := OB0.below hb1'; clear hb1')
    | (go_at_call 9; refine (cLaid w1 (W.on hb1) (zt := fun _ => 0) (.inl rfl) (cv.on hb1)).mono ?_; rintro e w2 ⟨b, y, rfl, h2⟩; have T2 := h2.lift hb1 W; rw [hS] at T2; have OB2 := OB1.below h2.bel; clear h2))
  clear hb0 hb1 OB0 OB1
  have c0 : w2.cell? ⟨ob, 0, none⟩ = some (.int .i64 q.k) := OB2.cell 0
  have c1 : w2.cell? ⟨ob, 1, none⟩ = some (.int .i64 q.b) := OB2.cell 1
  have c2 : w2.cell? ⟨ob, 2, none⟩ = some (.int .i64 q.o) := OB2.cell 2
  have c3 : w2.cell? ⟨ob, 3, none⟩ = some (.int .i64 q.f) := OB2.cell 3
  have c4 : w2.cell? ⟨ob, 4, none⟩ = some (.int .i64 q.a) := OB2.cell 4
  have c5 : w2.cell? ⟨ob, 5, none⟩ = some (.int .i64 q.x.k) := OB2.cell 5
  have c6 : w2.cell? ⟨ob, 6, none⟩ = some (.int .i64 q.x.n) := OB2.cell 6
  have c7 : w2.cell? ⟨ob, 7, none⟩ = some (.int .i64 q.y.k) := OB2.cell 7
  have c8 : w2.cell? ⟨ob, 8, none⟩ = some (.int .i64 q.y.n) := OB2.cell 8
  have cl := OB2.lt
  have fz : ∀ i, w2.frozen? ⟨ob, i, none⟩ = false := fun i => OB2.free i
  go_upto_region 6 with (go_at_call 10; refine (cKind _ q.k 2 fq.k.1 fq.k.2 (by decide)).mono ?_; rintro e wk ⟨rfl, hwk⟩; rw [hwk, hkk]; clear hwk wk)
  have T3 := T2.set OB2 0 (.int .i64 kk)
  have OB3 : Blk w (w2.setCell ⟨ob, 0, none⟩ (.int .i64 kk)) ob 26 #[.int .i64 kk, .int .i64 q.b, .int .i64 q.o, .int .i64 q.f, .int .i64 q.a, .int .i64 q.x.k, .int .i64 q.x.n, .int .i64 q.y.k, .int .i64 q.y.n] := OB2.set 0 (.int .i64 kk)
  clear c0 c1 c2 c3 c4 c5 c6 c7 c8 cl fz
  generalize w2.setCell ⟨ob, 0, none⟩ (.int .i64 kk) = w3 at OB3 T3 ⊢
  have c0 : w3.cell? ⟨ob, 0, none⟩ = some (.int .i64 kk) := OB3.cell 0
  have c1 : w3.cell? ⟨ob, 1, none⟩ = some (.int .i64 q.b) := OB3.cell 1
  have c2 : w3.cell? ⟨ob, 2, none⟩ = some (.int .i64 q.o) := OB3.cell 2
  have c3 : w3.cell? ⟨ob, 3, none⟩ = some (.int .i64 q.f) := OB3.cell 3
  have c4 : w3.cell? ⟨ob, 4, none⟩ = some (.int .i64 q.a) := OB3.cell 4
  have c5 : w3.cell? ⟨ob, 5, none⟩ = some (.int .i64 q.x.k) := OB3.cell 5
  have c6 : w3.cell? ⟨ob, 6, none⟩ = some (.int .i64 q.x.n) := OB3.cell 6
  have c7 : w3.cell? ⟨ob, 7, none⟩ = some (.int .i64 q.y.k) := OB3.cell 7
  have c8 : w3.cell? ⟨ob, 8, none⟩ = some (.int .i64 q.y.n) := OB3.cell 8
  have cl := OB3.lt
  have fz : ∀ i, w3.frozen? ⟨ob, i, none⟩ = false := fun i => OB3.free i
  go_upto_region 7 with (go_at_call 10; refine (cKind _ q.o 16 fq.o.1 fq.o.2 (by decide)).mono ?_; rintro e wk ⟨rfl, hwk⟩; rw [hwk, hko]; clear hwk wk)
  have T4 := T3.set OB3 2 (.int .i64 ko)
  have OB4 : Blk w (w3.setCell ⟨ob, 2, none⟩ (.int .i64 ko)) ob 26 #[.int .i64 kk, .int .i64 q.b, .int .i64 ko, .int .i64 q.f, .int .i64 q.a, .int .i64 q.x.k, .int .i64 q.x.n, .int .i64 q.y.k, .int .i64 q.y.n] := OB3.set 2 (.int .i64 ko)
  clear c0 c1 c2 c3 c4 c5 c6 c7 c8 cl fz
  generalize w3.setCell ⟨ob, 2, none⟩ (.int .i64 ko) = w4 at OB4 T4 ⊢
  have c0 : w4.cell? ⟨ob, 0, none⟩ = some (.int .i64 kk) := OB4.cell 0
  have c1 : w4.cell? ⟨ob, 1, none⟩ = some (.int .i64 q.b) := OB4.cell 1
  have c2 : w4.cell? ⟨ob, 2, none⟩ = some (.int .i64 ko) := OB4.cell 2
  have c3 : w4.cell? ⟨ob, 3, none⟩ = some (.int .i64 q.f) := OB4.cell 3
  have c4 : w4.cell? ⟨ob, 4, none⟩ = some (.int .i64 q.a) := OB4.cell 4
  have c5 : w4.cell? ⟨ob, 5, none⟩ = some (.int .i64 q.x.k) := OB4.cell 5
  have c6 : w4.cell? ⟨ob, 6, none⟩ = some (.int .i64 q.x.n) := OB4.cell 6
  have c7 : w4.cell? ⟨ob, 7, none⟩ = some (.int .i64 q.y.k) := OB4.cell 7
  have c8 : w4.cell? ⟨ob, 8, none⟩ = some (.int .i64 q.y.n) := OB4.cell 8
  have cl := OB4.lt
  have fz : ∀ i, w4.frozen? ⟨ob, i, none⟩ = false := fun i => OB4.free i
  go_upto_region 8 with (go_at_call 10; refine (cKind _ q.f 3 fq.f.1 fq.f.2 (by decide)).mono ?_; rintro e wk ⟨rfl, hwk⟩; rw [hwk, hkf]; clear hwk wk)
  have T5 := T4.set OB4 3 (.int .i64 kf)
  have OB5 : Blk w (w4.setCell ⟨ob, 3, none⟩ (.int .i64 kf)) ob 26 #[.int .i64 kk, .int .i64 q.b, .int .i64 ko, .int .i64 kf, .int .i64 q.a, .int .i64 q.x.k, .int .i64 q.x.n, .int .i64 q.y.k, .int .i64 q.y.n] := OB4.set 3 (.int .i64 kf)
  clear c0 c1 c2 c3 c4 c5 c6 c7 c8 cl fz
  generalize w4.setCell ⟨ob, 3, none⟩ (.int .i64 kf) = w5 at OB5 T5 ⊢
  clear OB2 OB3 OB4 T2 T3 T4
  go_upto_region 9 with (fail)
  have hb5 : Below w5.heap.size w5 (w5.alloc (.cells #[.pointer none, .pointer none, .pointer none, .pointer none, .pointer none, .pointer none] 40)) := (Below.refl _ _).alloc (Nat.le_refl _) _
  have WB0 : Blk w (w5.alloc (.cells #[.pointer none, .pointer none, .pointer none, .pointer none, .pointer none, .pointer none] 40)) w5.heap.size 40 #[.pointer none, .pointer none, .pointer none, .pointer none, .pointer none, .pointer none] := Blk.new T5.bel.size _ (by decide)
  have T6 := T5.below hb5
  have OB6 := OB5.below hb5
  generalize w5.alloc (.cells #[.pointer none, .pointer none, .pointer none, .pointer none, .pointer none, .pointer none] 40) = w6 at WB0 T6 OB6 ⊢
  generalize w5.heap.size = WB at WB0 ⊢
  clear hb5 T5 OB5
  have c0 : w6.cell? ⟨ob, 0, none⟩ = some (.int .i64 kk) := OB6.cell 0
  have c1 : w6.cell? ⟨ob, 1, none⟩ = some (.int .i64 q.b) := OB6.cell 1
  have c2 : w6.cell? ⟨ob, 2, none⟩ = some (.int .i64 ko) := OB6.cell 2
  have c3 : w6.cell? ⟨ob, 3, none⟩ = some (.int .i64 kf) := OB6.cell 3
  have c4 : w6.cell? ⟨ob, 4, none⟩ = some (.int .i64 q.a) := OB6.cell 4
  have c5 : w6.cell? ⟨ob, 5, none⟩ = some (.int .i64 q.x.k) := OB6.cell 5
  have c6 : w6.cell? ⟨ob, 6, none⟩ = some (.int .i64 q.x.n) := OB6.cell 6
  have c7 : w6.cell? ⟨ob, 7, none⟩ = some (.int .i64 q.y.k) := OB6.cell 7
  have c8 : w6.cell? ⟨ob, 8, none⟩ = some (.int .i64 q.y.n) := OB6.cell 8
  have cl := OB6.lt
  have fq' : (Op7.mk kk q.b ko kf q.a q.x q.y).Fit := ⟨⟨by simp only; omega, by simp only; omega⟩, fq.b, ⟨by simp only; omega, by simp only; omega⟩, ⟨by simp only; omega, by simp only; omega⟩, fq.a, fq.x, fq.y⟩
  go_upto_region 12 with (go_at_call 11; refine (cBegin (q := ⟨kk, q.b, ko, kf, q.a, q.x, q.y⟩) fq' WB0 (o := 0) (by decide) (by decide) (by decide) (by decide) (by decide)).mono ?_; rintro e w7 ⟨rfl, B0, B1, B2⟩)
  clear c0 c1 c2 c3 c4 c5 c6 c7 c8 cl B2
  obtain ⟨p, x0, d, xe, se, hd, E, hL, T7, OB7, WH, nd0⟩ : ∃ p x0 d xe se, d ≤ 13 ∧ Ends x0 S d xe se ∧ Left S (97 + 4 * ko + kf) ⟨1 + ka, 96 + 4 * ko, kf, vx, vy⟩ xe se ∧ Two w w7 b y S S 128 ∧ Blk w w7 ob 26 #[.int .i64 kk, .int .i64 q.b, .int .i64 ko, .int .i64 kf, .int .i64 q.a, .int .i64 q.x.k, .int .i64 q.x.n, .int .i64 q.y.k, .int .i64 q.y.n] ∧ Which w w7 WB p kk x0 ∧ x0.done = false := by
    have i1 : kd ko 17 = ko := kd_id g2.1 (by omega)
    have i2 : kd kf 3 = kf := kd_id g3.1 g3.2
    have i4 : ko % 16 = ko := Int.emod_eq_of_lt g2.1 g2.2
    have fin : ∀ (K : Kept [WB] w6 w7), Two w w7 b y S S 128 ∧ Blk w w7 ob 26 #[.int .i64 kk, .int .i64 q.b, .int .i64 ko, .int .i64 kf, .int .i64 q.a, .int .i64 q.x.k, .int .i64 q.x.n, .int .i64 q.y.k, .int .i64 q.y.n] := fun K => ⟨T6.kept K fun k hk => by simp at hk; subst hk; exact ⟨WB0.old, _, _, _, WB0.hT, WB0.at_⟩, OB6.oth (Oth.kept K) (by simpa using OB6.ne WB0 (by decide))⟩
    rcases (show kk = 0 ∨ kk = 1 by omega) with rfl | rfl
    · obtain ⟨K, p, p', cs', X, _, Bw, sx, _, _⟩ := B0 (show kd 0 3 = 0 by decide)
      simp only [baseP, rqP, hwP, i1, i2, i4, hka, hvx, hvy] at X
      obtain ⟨d, xe, se, hd, E, hL⟩ := F0 ⟨kd q.b 16 % 2 == 1, kd q.b 16 / 2 % 2 == 1, kd q.b 16 / 4 % 2 == 1, kd q.b 16 / 8⟩
      exact ⟨p, _, d, xe, se, hd, E, hL, (fin K).1, (fin K).2, ⟨_, Bw, .inl ⟨rfl, sx.one, X⟩⟩, by
        simp only [Sx.new, Sx.done, firstK]
        rcases (show ka = 0 ∨ ka = 1 ∨ ka = 2 by omega) with rfl | rfl | rfl <;> rfl⟩
    · obtain ⟨K, p, p', cs', X, _, Bw, sx, _, _⟩ := B1 (show kd 1 3 = 1 by decide)
      have i5 : (if ko = 16 then (0 : Int) else 96 + 4 * ko) = 96 + 4 * ko := if_neg (by omega)
      simp only [atP, rqP, enP, i1, i5, hka, hvx, hvy] at X
      obtain ⟨d, xe, se, hd, E, hL⟩ := F1 ⟨kd q.b 16 % 5, kd q.b 16 / 8, 0⟩
      exact ⟨p, _, d, xe, se, hd, E, hL, (fin K).1, (fin K).2, ⟨_, Bw, .inr ⟨rfl, sx.nil 0 (by decide) (by decide), sx.one, X⟩⟩, by
        simp only [Sx.plain]
        rw [if_neg (by omega)]
        rfl⟩
  clear B0 B1 F0 F1 WB0 T6 OB6 fq'
  have hd1 : 0 < d := by
    rcases Nat.eq_zero_or_pos d with h | h
    · have := E.at_
      rw [h] at this
      have q := E.done
      simp only [runX, Prod.mk.injEq] at this
      rw [← this.1, nd0] at q
      cases q
    · exact h
  go_wp2_with (fail)
  go_loopw [10, 11] (fun dv i wr => ∃ j : Nat, j ≤ d ∧ i = .int .i64 j ∧ dv = .bool (runX x0 S j).1.done ∧ Two w wr b y (runX x0 S j).2 S (128 + j) ∧ Which w wr WB p kk (runX x0 S j).1 ∧ Blk w wr ob 26 #[.int .i64 kk, .int .i64 q.b, .int .i64 ko, .int .i64 kf, .int .i64 q.a, .int .i64 q.x.k, .int .i64 q.x.n, .int .i64 q.y.k, .int .i64 q.y.n]) (fun _ i _ => 40 - (intOf i).toNat)
  case atStart => exact ⟨0, Nat.zero_le _, rfl, (by rw [E.not 0 hd1]), T7, WH, OB7⟩
  case round =>
    obtain ⟨j, hj, rfl, rfl, p1, p3, p4⟩ := hrel
    clear T7 WH OB7
    have hj6 : (j : Int) < 40 := by omega
    by_cases hjd : j < d
    case pos =>
      rcases p3 with ⟨cs, BW, ⟨rfl, i0, m2⟩ | ⟨rfl, i0, i1, m2⟩⟩
      · have nd := E.not j hjd
        obtain ⟨xj, hxj⟩ : ∃ xj, (runX x0 S j).1 = xj := ⟨_, rfl⟩
        obtain ⟨sj, hsj⟩ : ∃ sj, (runX x0 S j).2 = sj := ⟨_, rfl⟩
        rw [hxj] at nd m2 ⊢
        rw [hsj] at p1
        rw [nd]
        have r1 : (runX x0 S (j + 1)).1 = xj.next sj := by simp only [runX, hxj, hsj]
        have r2 : (runX x0 S (j + 1)).2 = xj.mem sj := by simp only [runX, hxj, hsj]
        have wc0 : wr.cell? ⟨WB, 0, none⟩ = some (pt p) := (BW.cell 0).trans i0
        go_wp2_with (go_at_call 12; refine (tD p1 m2 (by omega)).mono ?_; rintro e w8 ⟨rfl, t1, t2, o8⟩; obtain ⟨vx', Bx'⟩ := m2.blk; have t3 := BW.oth o8 (by simpa using Bx'.ne BW (by decide) |>.symm); have t4 := p4.oth o8 (by simpa using Bx'.ne p4 (by decide) |>.symm); clear Bx' o8)
        go_roundw
        case rel => exact ⟨j + 1, by omega, by go_num, (by rw [r1]), (by rw [r2]; exact t1), (by rw [r1]; exact ⟨_, t3, .inl ⟨rfl, i0, t2⟩⟩), t4⟩
        case measure => simp [intOf]; omega
      · have nd := E.not j hjd
        obtain ⟨xj, hxj⟩ : ∃ xj, (runX x0 S j).1 = xj := ⟨_, rfl⟩
        obtain ⟨sj, hsj⟩ : ∃ sj, (runX x0 S j).2 = sj := ⟨_, rfl⟩
        rw [hxj] at nd m2 ⊢
        rw [hsj] at p1
        rw [nd]
        have r1 : (runX x0 S (j + 1)).1 = xj.next sj := by simp only [runX, hxj, hsj]
        have r2 : (runX x0 S (j + 1)).2 = xj.mem sj := by simp only [runX, hxj, hsj]
        have wc0 : wr.cell? ⟨WB, 0, none⟩ = some (.pointer none) := (BW.cell 0).trans i0
        have wc1 : wr.cell? ⟨WB, 1, none⟩ = some (pt p) := (BW.cell 1).trans i1
        go_wp2_with (go_at_call 13; refine (tP p1 m2 (by omega)).mono ?_; rintro e w8 ⟨rfl, t1, t2, o8⟩; obtain ⟨vx', Bx'⟩ := m2.blk; have t3 := BW.oth o8 (by simpa using Bx'.ne BW (by decide) |>.symm); have t4 := p4.oth o8 (by simpa using Bx'.ne p4 (by decide) |>.symm); clear Bx' o8)
        go_roundw
        case rel => exact ⟨j + 1, by omega, by go_num, (by rw [r1]), (by rw [r2]; exact t1), (by rw [r1]; exact ⟨_, t3, .inr ⟨rfl, i0, i1, t2⟩⟩), t4⟩
        case measure => simp [intOf]; omega
    case neg =>
      obtain rfl : j = d := by omega
      rw [E.at_] at p1 p3 ⊢
      simp only at p1 p3 ⊢
      rw [E.done]
      go_upto_region 20 with (fail)
      have ZB : Below wr.heap.size wr (wr.alloc (.cells #[.int .i64 0, .int .i64 0, .int .i64 0, .bool false] 45)) := (Below.refl _ _).alloc (Nat.le_refl _) _
      have BO : Blk w (wr.alloc (.cells #[.int .i64 0, .int .i64 0, .int .i64 0, .bool false] 45)) wr.heap.size 45 #[.int .i64 0, .int .i64 0, .int .i64 0, .bool false] := Blk.new p1.bel.size _ (by decide)
      have p9 := p1.below ZB
      have p49 := p4.below ZB
      have p39 : Which w (wr.alloc (.cells #[.int .i64 0, .int .i64 0, .int .i64 0, .bool false] 45)) WB p kk xe := by
        rcases p3 with ⟨cs, BW, ⟨e, i0, m2⟩ | ⟨e, i0, i1, m2⟩⟩
        · exact ⟨cs, BW.below ZB, .inl ⟨e, i0, m2.below ZB⟩⟩
        · exact ⟨cs, BW.below ZB, .inr ⟨e, i0, i1, m2.below ZB⟩⟩
      clear ZB p1 p3 p4
      generalize wr.alloc (.cells #[.int .i64 0, .int .i64 0, .int .i64 0, .bool false] 45) = w9 at BO p9 p49 p39 ⊢
      generalize wr.heap.size = outb at BO ⊢
      obtain ⟨cs, BW9, p39⟩ := p39
      obtain ⟨wv, hwv, hwq⟩ : ∃ wv, w9.cell? ⟨WB, 0, none⟩ = some (.pointer wv) ∧ ((kk = 0 ∧ wv = some ⟨p, 0, none⟩) ∨ (kk = 1 ∧ wv = none)) := by
        rcases p39 with ⟨e, i0, m2⟩ | ⟨e, i0, i1, m2⟩
        · exact ⟨_, (BW9.cell 0).trans i0, .inl ⟨e, rfl⟩⟩
        · exact ⟨_, (BW9.cell 0).trans i0, .inr ⟨e, rfl⟩⟩
      go_upto_if 69 with (fail)
      go_cut [10] from 70 (fun c wx => c = .bool true ∧ Two w wx b y se S (128 + j) ∧ Blk w wx outb 45 #[.int .i64 xe.o.c, .int .i64 xe.o.v.k, .int .i64 xe.o.v.n, .bool xe.o.y] ∧ Blk w wx ob 26 #[.int .i64 kk, .int .i64 q.b, .int .i64 ko, .int .i64 kf, .int .i64 q.a, .int .i64 q.x.k, .int .i64 q.x.n, .int .i64 q.y.k, .int .i64 q.y.n])
      case first =>
        rcases p39 with ⟨rfl, i0, m9⟩ | ⟨rfl, i0, i1, m9⟩
        · obtain rfl : wv = some ⟨p, 0, none⟩ := by rcases hwq with ⟨_, h⟩ | ⟨h, _⟩; exact h; exact absurd h (by decide)
          have wc0 : w9.cell? ⟨WB, 0, none⟩ = some (pt p) := (BW9.cell 0).trans i0
          obtain ⟨vx', Bx'⟩ := m9.blk
          have fo0 := fOut0
          have fo1 := fOut1
          have fo2 := fOut2
          go_wp2_with (go_at_call 14; refine (cDResult Bx').mono ?_; rintro e v1 ⟨rfl, hbv1⟩; unfold Ou.val; have T1 := p9.below hbv1; have B1 := BO.below hbv1; have O1 := p49.below hbv1; have b0 : v1.cell? ⟨outb, 0, none⟩ = some (.int .i64 0) := B1.cell 0; have b1 : v1.cell? ⟨outb, 1, none⟩ = some (.int .i64 0) := B1.cell 1; have b2 : v1.cell? ⟨outb, 2, none⟩ = some (.int .i64 0) := B1.cell 2; have b3 : v1.cell? ⟨outb, 3, none⟩ = some (.bool false) := B1.cell 3; have bf : ∀ i, v1.frozen? ⟨outb, i, none⟩ = false := fun i => B1.free i)
          go_meet
          case rel =>
            have oo : Oth [outb] v1 ((((v1.setCell ⟨outb, 0, none⟩ (.int .i64 xe.o.c)).setCell ⟨outb, 1, none⟩ (.int .i64 xe.o.v.k)).setCell ⟨outb, 2, none⟩ (.int .i64 xe.o.v.n)).setCell ⟨outb, 3, none⟩ (.bool xe.o.y)) := (((Oth.set _ _ _ _ (by simp)).trans (Oth.set _ _ _ _ (by simp))).trans (Oth.set _ _ _ _ (by simp))).trans (Oth.set _ _ _ _ (by simp))
            exact ⟨rfl, (((T1.set B1 0 _).set (B1.set 0 _) 1 _).set ((B1.set 0 _).set 1 _) 2 _).set (((B1.set 0 _).set 1 _).set 2 _) 3 _, ((((B1.set 0 (.int .i64 xe.o.c)).set 1 (.int .i64 xe.o.v.k)).set 2 (.int .i64 xe.o.v.n)).set 3 (.bool xe.o.y)), O1.oth oo (by simpa using (B1.ne O1 (by decide)).symm)⟩
        · obtain rfl : wv = none := by rcases hwq with ⟨h, _⟩ | ⟨_, h⟩; exact absurd h (by decide); exact h
          have wc0 : w9.cell? ⟨WB, 0, none⟩ = some (.pointer none) := (BW9.cell 0).trans i0
          have wc1 : w9.cell? ⟨WB, 1, none⟩ = some (pt p) := (BW9.cell 1).trans i1
          obtain ⟨vx', Bx'⟩ := m9.blk
          have fo0 := fOut0
          have fo1 := fOut1
          have fo2 := fOut2
          go_wp2_with (go_at_call 15; refine (cPResult Bx').mono ?_; rintro e v1 ⟨rfl, hbv1⟩; unfold Ou.val; have T1 := p9.below hbv1; have B1 := BO.below hbv1; have O1 := p49.below hbv1; have b0 : v1.cell? ⟨outb, 0, none⟩ = some (.int .i64 0) := B1.cell 0; have b1 : v1.cell? ⟨outb, 1, none⟩ = some (.int .i64 0) := B1.cell 1; have b2 : v1.cell? ⟨outb, 2, none⟩ = some (.int .i64 0) := B1.cell 2; have b3 : v1.cell? ⟨outb, 3, none⟩ = some (.bool false) := B1.cell 3; have bf : ∀ i, v1.frozen? ⟨outb, i, none⟩ = false := fun i => B1.free i)
          go_meet
          case rel =>
            have oo : Oth [outb] v1 ((((v1.setCell ⟨outb, 0, none⟩ (.int .i64 xe.o.c)).setCell ⟨outb, 1, none⟩ (.int .i64 xe.o.v.k)).setCell ⟨outb, 2, none⟩ (.int .i64 xe.o.v.n)).setCell ⟨outb, 3, none⟩ (.bool xe.o.y)) := (((Oth.set _ _ _ _ (by simp)).trans (Oth.set _ _ _ _ (by simp))).trans (Oth.set _ _ _ _ (by simp))).trans (Oth.set _ _ _ _ (by simp))
            exact ⟨rfl, (((T1.set B1 0 _).set (B1.set 0 _) 1 _).set ((B1.set 0 _).set 1 _) 2 _).set (((B1.set 0 _).set 1 _).set 2 _) 3 _, ((((B1.set 0 (.int .i64 xe.o.c)).set 1 (.int .i64 xe.o.v.k)).set 2 (.int .i64 xe.o.v.n)).set 3 (.bool xe.o.y)), O1.oth oo (by simpa using (B1.ne O1 (by decide)).symm)⟩
      case rest =>
        obtain ⟨rfl, k1, k2, k4⟩ := hcut
        clear hwv hwq p39 BW9 BO p9 p49
        obtain ⟨oc, hoc⟩ : ∃ v, xe.o.c = v := ⟨_, rfl⟩
        obtain ⟨ov, hov⟩ : ∃ v, xe.o.v = v := ⟨_, rfl⟩
        obtain ⟨oy, hoy'⟩ : ∃ v, xe.o.y = v := ⟨_, rfl⟩
        rw [hoc, hov, hoy'] at k2
        have Gse : U64 (se.got na) := k1.rng1.got na
        obtain ⟨gw, hgw⟩ : ∃ gw, se.got na = gw := ⟨_, rfl⟩
        obtain ⟨nv, hnv⟩ : ∃ nv, Vl.of gw = nv := ⟨_, rfl⟩
        have hwn : se.word na = gw := by rw [← In.got hL.len ⟨by omega, by omega⟩]; exact hgw
        have lrd : 1 + ka = 1 → oc = 0 ∧ ov = u ∧ nv = u := fun e => by
          obtain ⟨a1, a2, a3⟩ := hL.rd e
          rw [hna] at a2 a3
          exact ⟨hoc ▸ a1, by rw [← hov, a2, hSw, Gu.of], by rw [← hnv, ← hwn, a3, hSw, Gu.of]⟩
        have lwr : 1 + ka = 2 → oc = 0 ∧ nv = vy := fun e => by
          obtain ⟨a1, a3⟩ := hL.wr e
          rw [hna] at a3
          exact ⟨hoc ▸ a1, by rw [← hnv, ← hwn, a3]; exact Gy.of⟩
        have lyes : 1 + ka = 3 → u = vx → oy = true ∧ nv = vy := fun e h => by
          obtain ⟨a1, a3⟩ := hL.yes e (by rw [hna, hSw, Gu.of]; exact h)
          rw [hna] at a3
          exact ⟨hoy' ▸ a1, by rw [← hnv, ← hwn, a3]; exact Gy.of⟩
        have lno : 1 + ka = 3 → u ≠ vx → oy = false ∧ nv = u := fun e h => by
          obtain ⟨a1, a3⟩ := hL.no e (by rw [hna, hSw, Gu.of]; exact h)
          rw [hna] at a3
          exact ⟨hoy' ▸ a1, by rw [← hnv, ← hwn, a3, hSw, Gu.of]⟩
        rw [hgw] at Gse
        have hk2 : F.Plain.kind gw = nv.k := congrArg Vl.k hnv
        have hn2 : F.Plain.num gw = nv.n := congrArg Vl.n hnv
        have hU := u.u64
        have hkk2 : F.Plain.kind u.w = u.k := congrArg Vl.k Gu.of
        have hnn2 : F.Plain.num u.w = u.n := congrArg Vl.n Gu.of
        have c0 : wc.cell? ⟨ob, 0, none⟩ = some (.int .i64 kk) := k4.cell 0
        have c1 : wc.cell? ⟨ob, 1, none⟩ = some (.int .i64 q.b) := k4.cell 1
        have c2 : wc.cell? ⟨ob, 2, none⟩ = some (.int .i64 ko) := k4.cell 2
        have c3 : wc.cell? ⟨ob, 3, none⟩ = some (.int .i64 kf) := k4.cell 3
        have c4 : wc.cell? ⟨ob, 4, none⟩ = some (.int .i64 q.a) := k4.cell 4
        have c5 : wc.cell? ⟨ob, 5, none⟩ = some (.int .i64 q.x.k) := k4.cell 5
        have c6 : wc.cell? ⟨ob, 6, none⟩ = some (.int .i64 q.x.n) := k4.cell 6
        have c7 : wc.cell? ⟨ob, 7, none⟩ = some (.int .i64 q.y.k) := k4.cell 7
        have c8 : wc.cell? ⟨ob, 8, none⟩ = some (.int .i64 q.y.n) := k4.cell 8
        have cl := k4.lt
        go_upto_region 24 with (fail)
        try rw [hna]
        clear c0 c1 c2 c3 c4 c5 c6 c7 c8 cl
        obtain ⟨g, cp, hs⟩ := k1.seen
        have x0 := hs.c0
        rw [hSl] at x0
        have x1 := hs.at hSl na (by omega)
        rw [hSw] at x1
        have ly := hs.ly
        have lg := hs.lg
        obtain ⟨uw, huw⟩ : ∃ uw, u.w = uw := ⟨_, rfl⟩
        rw [huw] at x1 hU hkk2 hnn2
        go_upto_region 25 with (go_at_call 16; refine (F.rOf uw hU.1 hU.2 _).mono ?_; rintro e w10 ⟨rfl, hw10⟩; rw [hkk2, hnn2] at hw10 ⊢; have hb10 : Below wc.heap.size wc w10 := (by rw [hw10]; go_grown); have t1 := k1.below hb10; have t2 := k2.below hb10; have t4 := k4.below hb10; clear hw10 hb10)
        have BUb : Below w10.heap.size w10 (w10.alloc (.cells #[.int .i64 u.k, .int .i64 u.n] 24)) := (Below.refl _ _).alloc (Nat.le_refl _) _
        have BU : Blk w (w10.alloc (.cells #[.int .i64 u.k, .int .i64 u.n] 24)) w10.heap.size 24 #[.int .i64 u.k, .int .i64 u.n] := Blk.new t1.bel.size _ (by decide)
        have f1 := t1.below BUb
        have f2 := t2.below BUb
        have f4 := t4.below BUb
        generalize w10.alloc (.cells #[.int .i64 u.k, .int .i64 u.n] 24) = w11 at BU f1 f2 f4 ⊢
        generalize w10.heap.size = ub at BU ⊢
        clear BUb t1 t2 t4 k1 k2 k4 hs x0 x1 ly lg
        go_upto_region 26 with (first
          | (go_at_call 17; refine (tLoad f1 (by omega) na).mono ?_; rintro e w12 ⟨rfl, z1, o12, n12⟩; rw [hgw]; clear n12)
          | (go_at_call 16; refine (F.rOf gw Gse.1 Gse.2 _).mono ?_; rintro e w13 ⟨rfl, hw13⟩; rw [hk2, hn2] at hw13 ⊢; have hb13 : Below w12.heap.size w12 w13 := (by rw [hw13]; go_grown); clear hw13))
        have BNb : Below w13.heap.size w13 (w13.alloc (.cells #[.int .i64 nv.k, .int .i64 nv.n] 24)) := (Below.refl _ _).alloc (Nat.le_refl _) _
        have z2 := z1.below hb13
        have BN5 : Blk w (w13.alloc (.cells #[.int .i64 nv.k, .int .i64 nv.n] 24)) w13.heap.size 24 #[.int .i64 nv.k, .int .i64 nv.n] := Blk.new z2.bel.size _ (by decide)
        have BU5 := ((BU.oth o12 (by simp)).below hb13).below BNb
        have BO5 := ((f2.oth o12 (by simp)).below hb13).below BNb
        have OB5 := ((f4.oth o12 (by simp)).below hb13).below BNb
        have z3 := z2.below BNb
        generalize w13.alloc (.cells #[.int .i64 nv.k, .int .i64 nv.n] 24) = w14 at BN5 BU5 BO5 OB5 z3 ⊢
        generalize w13.heap.size = nb at BN5 ⊢
        clear BNb z1 z2 hb13 o12 f1 f2 f4 BU
        have z1 := z3
        clear z3
        have hws : (se.load na).ws = se.ws := rfl
        go_wp2_with (fail)
        go_loopw [16] (fun a wr => ∃ n : Nat, 96 ≤ n ∧ n ≤ 160 ∧ a = .int .i64 n ∧ ∃ s, s.ws = se.ws ∧ Two w wr b y s S (200 + n) ∧ Blk w wr outb 45 #[.int .i64 oc, .int .i64 ov.k, .int .i64 ov.n, .bool oy] ∧ Blk w wr ub 24 #[.int .i64 u.k, .int .i64 u.n] ∧ Blk w wr nb 24 #[.int .i64 nv.k, .int .i64 nv.n] ∧ Blk w wr ob 26 #[.int .i64 kk, .int .i64 q.b, .int .i64 ko, .int .i64 kf, .int .i64 q.a, .int .i64 q.x.k, .int .i64 q.x.n, .int .i64 q.y.k, .int .i64 q.y.n]) (fun a _ => 160 - (intOf a).toNat)
        case atStart => exact ⟨96, Nat.le_refl _, by decide, rfl, _, hws, z1.mono (by omega), BO5, BU5, BN5, OB5⟩
        case round =>
          obtain ⟨n, hn0, hn1, rfl, s, hs, p1, BO, BU, BN, OB⟩ := hrel
          clear z1 BO5 BU5 BN5 OB5 hws
          by_cases hn : n < 160
          case pos =>
            have d1 : decide ((n : Int) < 160) = true := by simp; omega
            rcases Nat.lt_trichotomy n na with hne | rfl | hne
            rotate_left
            · have e1 : ((n : Int) != (n : Int)) = false := by simp
              go_upto_region 29 with (fail)
              go_quiet (fail)
              go_wp2
              go_roundw
              case rel => exact ⟨n + 1, by omega, by omega, by go_num, s, hs, (p1.below (bel_drewN _ _)).mono (by omega), BO.below (bel_drewN _ _), BU.below (bel_drewN _ _), BN.below (bel_drewN _ _), OB.below (bel_drewN _ _)⟩
              case measure => simp [intOf]; omega
            all_goals (
              have e1 : ((n : Int) != (na : Int)) = true := by simp; omega
              obtain ⟨r4, hr4⟩ : ∃ r4 : Nat, (n : Int) % 4 = (r4 : Int) := ⟨((n : Int) % 4).toNat, by omega⟩
              have hr5 : (r4 : Int) < 4 := by omega
              rcases e2 : ((r4 : Int) != 0) with _ | _
              · go_upto_region 29 with (fail)
                go_quiet (fail)
                go_wp2
                go_roundw
                case rel => exact ⟨n + 1, by omega, by omega, by go_num, s, hs, (p1.below (bel_drewN _ _)).mono (by omega), BO.below (bel_drewN _ _), BU.below (bel_drewN _ _), BN.below (bel_drewN _ _), OB.below (bel_drewN _ _)⟩
                case measure => simp [intOf]; omega
              · obtain ⟨g, cp, hse⟩ := p1.seen
                have x0 := hse.c0
                rw [hSl] at x0
                have xj := hse.at hSl n hn
                have hsl : s.ws.length = 160 := by rw [hs]; exact hL.len
                have gj : s.got n = S.word n := by
                  rw [In.got hsl ⟨by omega, by omega⟩]
                  have : s.word n = se.word n := by simp only [St.word, hs]
                  rw [this]
                  exact hL.rest n ⟨by omega, by omega⟩ (by rw [hna]; omega) (by omega) (by rw [hr4]; simpa using e2)
                obtain ⟨v, hv⟩ : ∃ v, S.word n = v := ⟨_, rfl⟩
                rw [hv] at xj gj
                have lyy := hse.ly
                have lgg := hse.lg
                go_upto_region 29 with (fail)
                refine wp_region_noPanic ?_
                have x0d : wr.drew.cell? ⟨y, 0, none⟩ = some (.slice (some ⟨g, 0, none⟩) 160 cp) := x0
                have xjd : wr.drew.cell? ⟨g, n, none⟩ = some (.int .u64 v) := xj
                refine wp_region_held_drew (S := fun w' => w'.cell? ⟨y, 0, none⟩ = some (.slice (some ⟨g, 0, none⟩) 160 cp) ∧ w'.cell? ⟨g, n, none⟩ = some (.int .u64 v)) (by kernel_rfl) ⟨x0d, xjd⟩ (fun hHeld => ?_)
                refine takeH (i := 0) 99 (.int .i64 n) rfl rfl (by kernel_rfl) (by kernel_rfl) (by kernel_rfl) (fun _ _ _ h => h) (by rfl) ?_ (by assumption) ?_
                · intro w hSw; (try dsimp only at hSw); go_simp
                simp only [List.setIfInBounds_toArray, List.set_cons_zero, List.set_cons_succ]
                refine takeH (i := 1) 100 (.int .i64 na) rfl rfl (by kernel_rfl) (by kernel_rfl) (by kernel_rfl) (fun _ _ _ h => h) (by rfl) ?_ (by assumption) ?_
                · intro w hSw; (try dsimp only at hSw); go_simp
                simp only [List.setIfInBounds_toArray, List.set_cons_zero, List.set_cons_succ]
                refine takeH (i := 2) 101 (.bool true) rfl rfl (by kernel_rfl) (by kernel_rfl) (by kernel_rfl) (fun _ _ _ h => h) (by rfl) ?_ (by assumption) ?_
                · intro w hSw; (try dsimp only at hSw); go_simp
                simp only [List.setIfInBounds_toArray, List.set_cons_zero, List.set_cons_succ]
                refine takeH (i := 3) 102 (.bool true) rfl rfl (by kernel_rfl) (by kernel_rfl) (by kernel_rfl) (fun _ _ _ h => h) (by rfl) ?_ (by assumption) ?_
                · intro w hSw; (try dsimp only at hSw); go_simp
                simp only [List.setIfInBounds_toArray, List.set_cons_zero, List.set_cons_succ]
                refine takeH (i := 4) 103 (.int .i64 n) rfl rfl (by kernel_rfl) (by kernel_rfl) (by kernel_rfl) (fun _ _ _ h => h) (by rfl) ?_ (by assumption) ?_
                · intro w hSw; (try dsimp only at hSw); go_simp
                simp only [List.setIfInBounds_toArray, List.set_cons_zero, List.set_cons_succ]
                refine takeH (i := 5) 104 (.int .i64 r4) rfl rfl (by kernel_rfl) (by kernel_rfl) (by kernel_rfl) (fun _ _ _ h => h) (by rfl) ?_ (by assumption) ?_
                · intro w hSw; (try dsimp only at hSw); go_simp; exact (Int.tmod_eq_emod_of_nonneg (by omega)).trans hr4
                simp only [List.setIfInBounds_toArray, List.set_cons_zero, List.set_cons_succ]
                refine takeH (i := 6) 105 (.bool true) rfl rfl (by kernel_rfl) (by kernel_rfl) (by kernel_rfl) (fun _ _ _ h => h) (by rfl) ?_ (by assumption) ?_
                · intro w hSw; (try dsimp only at hSw); go_simp
                simp only [List.setIfInBounds_toArray, List.set_cons_zero, List.set_cons_succ]
                refine takeH (i := 7) 106 (.bool true) rfl rfl (by kernel_rfl) (by kernel_rfl) (by kernel_rfl) (fun _ _ _ h => h) (by rfl) ?_ (by assumption) ?_
                · intro w hSw; (try dsimp only at hSw); go_simp
                simp only [List.setIfInBounds_toArray, List.set_cons_zero, List.set_cons_succ]
                refine takeH (i := 8) 107 (.bool true) rfl rfl (by kernel_rfl) (by kernel_rfl) (by kernel_rfl) (fun _ _ _ h => h) (by rfl) ?_ (by assumption) ?_
                · intro w hSw; (try dsimp only at hSw); go_simp
                simp only [List.setIfInBounds_toArray, List.set_cons_zero, List.set_cons_succ]
                refine takeH (i := 9) 108 (pt b) rfl rfl (by kernel_rfl) (by kernel_rfl) (by kernel_rfl) (fun _ _ _ h => h) (by rfl) ?_ (by assumption) ?_
                · intro w hSw; (try dsimp only at hSw); go_simp
                simp only [List.setIfInBounds_toArray, List.set_cons_zero, List.set_cons_succ]
                refine takeH (i := 10) 109 (.int .i64 n) rfl rfl (by kernel_rfl) (by kernel_rfl) (by kernel_rfl) (fun _ _ _ h => h) (by rfl) ?_ (by assumption) ?_
                · intro w hSw; (try dsimp only at hSw); go_simp
                simp only [List.setIfInBounds_toArray, List.set_cons_zero, List.set_cons_succ]
                refine takeH (i := 12) 111 (pt y) rfl rfl (by kernel_rfl) (by kernel_rfl) (by kernel_rfl) (fun _ _ _ h => h) (by rfl) ?_ (by assumption) ?_
                · intro w hSw; (try dsimp only at hSw); go_simp
                simp only [List.setIfInBounds_toArray, List.set_cons_zero, List.set_cons_succ]
                refine takeH (i := 13) 112 (pt y) rfl rfl (by kernel_rfl) (by kernel_rfl) (by kernel_rfl) (fun _ _ _ h => h) (by rfl) ?_ (by assumption) ?_
                · intro w hSw; (try dsimp only at hSw); go_simp
                simp only [List.setIfInBounds_toArray, List.set_cons_zero, List.set_cons_succ]
                refine takeH (i := 14) 113 (pt y) rfl rfl (by kernel_rfl) (by kernel_rfl) (by kernel_rfl) (fun _ _ _ h => h) (by rfl) ?_ (by assumption) ?_
                · intro w hSw; (try dsimp only at hSw); go_simp
                simp only [List.setIfInBounds_toArray, List.set_cons_zero, List.set_cons_succ]
                refine takeH (i := 15) 114 (.slice (some ⟨g, 0, none⟩) 160 cp) rfl rfl (by kernel_rfl) (by kernel_rfl) (by kernel_rfl) (fun _ _ _ h => h) (by rfl) ?_ (by assumption) ?_
                · intro w hSw; (try dsimp only at hSw); go_simp
                simp only [List.setIfInBounds_toArray, List.set_cons_zero, List.set_cons_succ]
                refine takeH (i := 16) 115 (.int .i64 n) rfl rfl (by kernel_rfl) (by kernel_rfl) (by kernel_rfl) (fun _ _ _ h => h) (by rfl) ?_ (by assumption) ?_
                · intro w hSw; (try dsimp only at hSw); go_simp
                simp only [List.setIfInBounds_toArray, List.set_cons_zero, List.set_cons_succ]
                refine takeH (i := 17) 116 (.pointer (some ⟨g, n, none⟩)) rfl rfl (by kernel_rfl) (by kernel_rfl) (by kernel_rfl) (fun _ _ _ h => h) (by rfl) ?_ (by assumption) ?_
                · intro w hSw; (try dsimp only at hSw); go_simp; intro h; exact absurd h (by omega)
                simp only [List.setIfInBounds_toArray, List.set_cons_zero, List.set_cons_succ]
                refine takeH (i := 18) 117 (.int .u64 v) rfl rfl (by kernel_rfl) (by kernel_rfl) (by kernel_rfl) (fun _ _ _ h => h) (by rfl) ?_ (by assumption) ?_
                · intro w hSw; (try dsimp only at hSw); go_simp
                simp only [List.setIfInBounds_toArray, List.set_cons_zero, List.set_cons_succ]
                refine wpAnyH_ready (rs := [11]) (by kernel_rfl) (by simp) ?_
                refine AllReadyH.cons rfl (fun K hK => ?_) AllReadyH.nil
                go_simp
                refine (tLoad p1.drew (by omega) n).mono ?_
                rintro e w7 ⟨rfl, h7, o7, n7⟩
                rw [gj]
                have hse7 := n7 g cp (hse.below (Below.refl _ _).drew)
                have x7 : w7.cell? ⟨y, 0, none⟩ = some (.slice (some ⟨g, 0, none⟩) 160 cp) ∧ w7.cell? ⟨g, n, none⟩ = some (.int .u64 v) := ⟨hSl ▸ hse7.c0, hv ▸ hse7.at hSl n hn⟩
                clear hse7 n7
                refine hK.out _ _ x7 (fun hHeld => ?_)
                clear hK K
                try simp only [Act.put, List.setIfInBounds_toArray, List.set_cons_zero, List.set_cons_succ]
                refine takeH (i := 19) 118 (.bool false) rfl rfl (by kernel_rfl) (by kernel_rfl) (by kernel_rfl) (fun _ _ _ h => h) (by rfl) ?_ (by assumption) ?_
                · intro w hSw; (try dsimp only at hSw); go_simp
                simp only [List.setIfInBounds_toArray, List.set_cons_zero, List.set_cons_succ]
                refine takeH (i := 20) 119 (.bool false) rfl rfl (by kernel_rfl) (by kernel_rfl) (by kernel_rfl) (fun _ _ _ h => h) (by rfl) ?_ (by assumption) ?_
                · intro w hSw; (try dsimp only at hSw); go_simp
                simp only [List.setIfInBounds_toArray, List.set_cons_zero, List.set_cons_succ]
                refine wpAnyH_done (by kernel_rfl) ?_ _
                refine NoPanic.normal ?_
                go_wp2
                go_roundw
                case rel => exact ⟨n + 1, by omega, by omega, by go_num, s.load n, hs, h7.mono (by omega), (BO.below (Below.refl _ _).drew).oth o7 (by simp), (BU.below (Below.refl _ _).drew).oth o7 (by simp), (BN.below (Below.refl _ _).drew).oth o7 (by simp), (OB.below (Below.refl _ _).drew).oth o7 (by simp)⟩
                case measure => simp [intOf]; omega)

          case neg =>
            obtain rfl : n = 160 := by omega
            have hk3 : ka = 0 ∨ ka = 1 ∨ ka = 2 := by omega
            have o0 : wr.cell? ⟨outb, 0, none⟩ = some (.int .i64 oc) := BO.cell 0
            have o1 : wr.cell? ⟨outb, 1, none⟩ = some (.int .i64 ov.k) := BO.cell 1
            have o2 : wr.cell? ⟨outb, 2, none⟩ = some (.int .i64 ov.n) := BO.cell 2
            have o3 : wr.cell? ⟨outb, 3, none⟩ = some (.bool oy) := BO.cell 3
            have ol := BO.lt
            have a0 : wr.cell? ⟨ub, 0, none⟩ = some (.int .i64 u.k) := BU.cell 0
            have a1 : wr.cell? ⟨ub, 1, none⟩ = some (.int .i64 u.n) := BU.cell 1
            have al := BU.lt
            have n0 : wr.cell? ⟨nb, 0, none⟩ = some (.int .i64 nv.k) := BN.cell 0
            have n1 : wr.cell? ⟨nb, 1, none⟩ = some (.int .i64 nv.n) := BN.cell 1
            have nl := BN.lt
            have c0 : wr.cell? ⟨ob, 0, none⟩ = some (.int .i64 kk) := OB.cell 0
            have c1 : wr.cell? ⟨ob, 1, none⟩ = some (.int .i64 q.b) := OB.cell 1
            have c2 : wr.cell? ⟨ob, 2, none⟩ = some (.int .i64 ko) := OB.cell 2
            have c3 : wr.cell? ⟨ob, 3, none⟩ = some (.int .i64 kf) := OB.cell 3
            have c4 : wr.cell? ⟨ob, 4, none⟩ = some (.int .i64 q.a) := OB.cell 4
            have c5 : wr.cell? ⟨ob, 5, none⟩ = some (.int .i64 q.x.k) := OB.cell 5
            have c6 : wr.cell? ⟨ob, 6, none⟩ = some (.int .i64 q.x.n) := OB.cell 6
            have c7 : wr.cell? ⟨ob, 7, none⟩ = some (.int .i64 q.y.k) := OB.cell 7
            have c8 : wr.cell? ⟨ob, 8, none⟩ = some (.int .i64 q.y.n) := OB.cell 8
            have cl := OB.lt
            clear hk3b
            rcases hk3 with rfl | rfl | rfl
            · obtain ⟨h1, h2, h3⟩ := lrd rfl
              rw [h1] at o0
              clear lrd lwr lyes lno
              have vq1 := eqVal_t (a := ov) (b := u) h2
              have vq2 := eqVal_t (a := nv) (b := u) h3
              clear h1 h2 h3
              go_wp2_with (go_at_call 10; refine (cKind _ q.a 3 fq.a.1 fq.a.2 (by decide)).mono ?_; rintro e wk ⟨rfl, hwk⟩; rw [hwk, hka]; clear hwk wk)
              go_ret
              exact ⟨rfl, p1.bel⟩
            · obtain ⟨h1, h2⟩ := lwr rfl
              rw [h1] at o0
              clear lrd lwr lyes lno
              have vq := eqVal_t (a := nv) (b := vy) h2
              clear h1 h2
              go_upto_region 35 with (go_at_call 10; refine (cKind _ q.a 3 fq.a.1 fq.a.2 (by decide)).mono ?_; rintro e wk ⟨rfl, hwk⟩; rw [hwk, hka]; clear hwk wk)
              have keep : ∀ w', Below wr.heap.size wr w' → w'.cell? ⟨outb, 0, none⟩ = some (.int .i64 0) ∧ w'.cell? ⟨outb, 1, none⟩ = some (.int .i64 ov.k) ∧ w'.cell? ⟨outb, 2, none⟩ = some (.int .i64 ov.n) ∧ w'.cell? ⟨outb, 3, none⟩ = some (.bool oy) ∧ w'.cell? ⟨ub, 0, none⟩ = some (.int .i64 u.k) ∧ w'.cell? ⟨ub, 1, none⟩ = some (.int .i64 u.n) ∧ w'.cell? ⟨nb, 0, none⟩ = some (.int .i64 nv.k) ∧ w'.cell? ⟨nb, 1, none⟩ = some (.int .i64 nv.n) ∧ w'.cell? ⟨ob, 0, none⟩ = some (.int .i64 kk) ∧ w'.cell? ⟨ob, 1, none⟩ = some (.int .i64 q.b) ∧ w'.cell? ⟨ob, 2, none⟩ = some (.int .i64 ko) ∧ w'.cell? ⟨ob, 3, none⟩ = some (.int .i64 kf) ∧ w'.cell? ⟨ob, 4, none⟩ = some (.int .i64 q.a) ∧ w'.cell? ⟨ob, 5, none⟩ = some (.int .i64 q.x.k) ∧ w'.cell? ⟨ob, 6, none⟩ = some (.int .i64 q.x.n) ∧ w'.cell? ⟨ob, 7, none⟩ = some (.int .i64 q.y.k) ∧ w'.cell? ⟨ob, 8, none⟩ = some (.int .i64 q.y.n) := fun w' hb => ⟨bcell hb ol o0, bcell hb ol o1, bcell hb ol o2, bcell hb ol o3, bcell hb al a0, bcell hb al a1, bcell hb nl n0, bcell hb nl n1, bcell hb cl c0, bcell hb cl c1, bcell hb cl c2, bcell hb cl c3, bcell hb cl c4, bcell hb cl c5, bcell hb cl c6, bcell hb cl c7, bcell hb cl c8⟩
              have hbd : Below wr.heap.size wr wr.drew := (Below.refl _ _).drew
              have RD := keep _ hbd
              go_region_held3 (fun w' => w'.cell? ⟨outb, 0, none⟩ = some (.int .i64 0) ∧ w'.cell? ⟨outb, 1, none⟩ = some (.int .i64 ov.k) ∧ w'.cell? ⟨outb, 2, none⟩ = some (.int .i64 ov.n) ∧ w'.cell? ⟨outb, 3, none⟩ = some (.bool oy) ∧ w'.cell? ⟨ub, 0, none⟩ = some (.int .i64 u.k) ∧ w'.cell? ⟨ub, 1, none⟩ = some (.int .i64 u.n) ∧ w'.cell? ⟨nb, 0, none⟩ = some (.int .i64 nv.k) ∧ w'.cell? ⟨nb, 1, none⟩ = some (.int .i64 nv.n) ∧ w'.cell? ⟨ob, 0, none⟩ = some (.int .i64 kk) ∧ w'.cell? ⟨ob, 1, none⟩ = some (.int .i64 q.b) ∧ w'.cell? ⟨ob, 2, none⟩ = some (.int .i64 ko) ∧ w'.cell? ⟨ob, 3, none⟩ = some (.int .i64 kf) ∧ w'.cell? ⟨ob, 4, none⟩ = some (.int .i64 q.a) ∧ w'.cell? ⟨ob, 5, none⟩ = some (.int .i64 q.x.k) ∧ w'.cell? ⟨ob, 6, none⟩ = some (.int .i64 q.x.n) ∧ w'.cell? ⟨ob, 7, none⟩ = some (.int .i64 q.y.k) ∧ w'.cell? ⟨ob, 8, none⟩ = some (.int .i64 q.y.n)) (first | assumption | exact RD | exact keep _ (by assumption))
                ((go_at_call 18; refine (cVal q.y fq.y _).mono ?_; rintro e v1 ⟨rfl, hbv1⟩; rw [hvy]; have hq1 := bel_trans hbd hbv1))
              go_wp2
              go_ret
              exact ⟨rfl, bel_trans p1.bel hq1⟩
            · by_cases hd0 : u = vx
              · have heq' : ∀ w, (binOp .eql 24 (.agg #[.int .i64 u.k, .int .i64 u.n]) (.agg #[.int .i64 vx.k, .int .i64 vx.n])).run Tryd.prog w = .ok (.bool true) w := eqVal_t (a := u) (b := vx) hd0
                obtain ⟨hoy, hnv⟩ : oy = true ∧ nv = vy := lyes rfl hd0
                rw [hoy] at o3
                clear lrd lwr lyes lno
                go_upto_region 36 with (go_at_call 10; refine (cKind _ q.a 3 fq.a.1 fq.a.2 (by decide)).mono ?_; rintro e wk ⟨rfl, hwk⟩; rw [hwk, hka]; clear hwk wk)
                have keep : ∀ w', Below wr.heap.size wr w' → w'.cell? ⟨outb, 0, none⟩ = some (.int .i64 oc) ∧ w'.cell? ⟨outb, 1, none⟩ = some (.int .i64 ov.k) ∧ w'.cell? ⟨outb, 2, none⟩ = some (.int .i64 ov.n) ∧ w'.cell? ⟨outb, 3, none⟩ = some (.bool true) ∧ w'.cell? ⟨ub, 0, none⟩ = some (.int .i64 u.k) ∧ w'.cell? ⟨ub, 1, none⟩ = some (.int .i64 u.n) ∧ w'.cell? ⟨nb, 0, none⟩ = some (.int .i64 nv.k) ∧ w'.cell? ⟨nb, 1, none⟩ = some (.int .i64 nv.n) ∧ w'.cell? ⟨ob, 0, none⟩ = some (.int .i64 kk) ∧ w'.cell? ⟨ob, 1, none⟩ = some (.int .i64 q.b) ∧ w'.cell? ⟨ob, 2, none⟩ = some (.int .i64 ko) ∧ w'.cell? ⟨ob, 3, none⟩ = some (.int .i64 kf) ∧ w'.cell? ⟨ob, 4, none⟩ = some (.int .i64 q.a) ∧ w'.cell? ⟨ob, 5, none⟩ = some (.int .i64 q.x.k) ∧ w'.cell? ⟨ob, 6, none⟩ = some (.int .i64 q.x.n) ∧ w'.cell? ⟨ob, 7, none⟩ = some (.int .i64 q.y.k) ∧ w'.cell? ⟨ob, 8, none⟩ = some (.int .i64 q.y.n) := fun w' hb => ⟨bcell hb ol o0, bcell hb ol o1, bcell hb ol o2, bcell hb ol o3, bcell hb al a0, bcell hb al a1, bcell hb nl n0, bcell hb nl n1, bcell hb cl c0, bcell hb cl c1, bcell hb cl c2, bcell hb cl c3, bcell hb cl c4, bcell hb cl c5, bcell hb cl c6, bcell hb cl c7, bcell hb cl c8⟩
                have hbd : Below wr.heap.size wr wr.drew := (Below.refl _ _).drew
                have RD := keep _ hbd
                go_region_held3 (fun w' => w'.cell? ⟨outb, 0, none⟩ = some (.int .i64 oc) ∧ w'.cell? ⟨outb, 1, none⟩ = some (.int .i64 ov.k) ∧ w'.cell? ⟨outb, 2, none⟩ = some (.int .i64 ov.n) ∧ w'.cell? ⟨outb, 3, none⟩ = some (.bool true) ∧ w'.cell? ⟨ub, 0, none⟩ = some (.int .i64 u.k) ∧ w'.cell? ⟨ub, 1, none⟩ = some (.int .i64 u.n) ∧ w'.cell? ⟨nb, 0, none⟩ = some (.int .i64 nv.k) ∧ w'.cell? ⟨nb, 1, none⟩ = some (.int .i64 nv.n) ∧ w'.cell? ⟨ob, 0, none⟩ = some (.int .i64 kk) ∧ w'.cell? ⟨ob, 1, none⟩ = some (.int .i64 q.b) ∧ w'.cell? ⟨ob, 2, none⟩ = some (.int .i64 ko) ∧ w'.cell? ⟨ob, 3, none⟩ = some (.int .i64 kf) ∧ w'.cell? ⟨ob, 4, none⟩ = some (.int .i64 q.a) ∧ w'.cell? ⟨ob, 5, none⟩ = some (.int .i64 q.x.k) ∧ w'.cell? ⟨ob, 6, none⟩ = some (.int .i64 q.x.n) ∧ w'.cell? ⟨ob, 7, none⟩ = some (.int .i64 q.y.k) ∧ w'.cell? ⟨ob, 8, none⟩ = some (.int .i64 q.y.n)) (first | assumption | exact RD | exact keep _ (by assumption))
                  ((go_at_call 18; refine (cVal q.x fq.x _).mono ?_; rintro e v1 ⟨rfl, hbv1⟩; rw [hvx]; have hq1 := bel_trans hbd hbv1))
                clear keep RD
                have BO2 := BO.below hq1
                have BU2 := BU.below hq1
                have BN2 := BN.below hq1
                have OB2 := OB.below hq1
                rw [hoy] at BO2
                clear o0 o1 o2 o3 ol a0 a1 al n0 n1 nl c0 c1 c2 c3 c4 c5 c6 c7 c8 cl
                have o0 : v1.cell? ⟨outb, 0, none⟩ = some (.int .i64 oc) := BO2.cell 0
                have o1 : v1.cell? ⟨outb, 1, none⟩ = some (.int .i64 ov.k) := BO2.cell 1
                have o2 : v1.cell? ⟨outb, 2, none⟩ = some (.int .i64 ov.n) := BO2.cell 2
                have o3 : v1.cell? ⟨outb, 3, none⟩ = some (.bool true) := BO2.cell 3
                have ol := BO2.lt
                have a0 : v1.cell? ⟨ub, 0, none⟩ = some (.int .i64 u.k) := BU2.cell 0
                have a1 : v1.cell? ⟨ub, 1, none⟩ = some (.int .i64 u.n) := BU2.cell 1
                have al := BU2.lt
                have n0 : v1.cell? ⟨nb, 0, none⟩ = some (.int .i64 nv.k) := BN2.cell 0
                have n1 : v1.cell? ⟨nb, 1, none⟩ = some (.int .i64 nv.n) := BN2.cell 1
                have nl := BN2.lt
                have c0 : v1.cell? ⟨ob, 0, none⟩ = some (.int .i64 kk) := OB2.cell 0
                have c1 : v1.cell? ⟨ob, 1, none⟩ = some (.int .i64 q.b) := OB2.cell 1
                have c2 : v1.cell? ⟨ob, 2, none⟩ = some (.int .i64 ko) := OB2.cell 2
                have c3 : v1.cell? ⟨ob, 3, none⟩ = some (.int .i64 kf) := OB2.cell 3
                have c4 : v1.cell? ⟨ob, 4, none⟩ = some (.int .i64 q.a) := OB2.cell 4
                have c5 : v1.cell? ⟨ob, 5, none⟩ = some (.int .i64 q.x.k) := OB2.cell 5
                have c6 : v1.cell? ⟨ob, 6, none⟩ = some (.int .i64 q.x.n) := OB2.cell 6
                have c7 : v1.cell? ⟨ob, 7, none⟩ = some (.int .i64 q.y.k) := OB2.cell 7
                have c8 : v1.cell? ⟨ob, 8, none⟩ = some (.int .i64 q.y.n) := OB2.cell 8
                have cl := OB2.lt
                have vq := eqVal_t (a := nv) (b := vy) hnv
                have hbw := bel_trans p1.bel hq1
                clear hq1 hbv1 hbd heq'
                go_upto_region 38 with (fail)
                have keep : ∀ w', Below v1.heap.size v1 w' → w'.cell? ⟨outb, 0, none⟩ = some (.int .i64 oc) ∧ w'.cell? ⟨outb, 1, none⟩ = some (.int .i64 ov.k) ∧ w'.cell? ⟨outb, 2, none⟩ = some (.int .i64 ov.n) ∧ w'.cell? ⟨outb, 3, none⟩ = some (.bool true) ∧ w'.cell? ⟨ub, 0, none⟩ = some (.int .i64 u.k) ∧ w'.cell? ⟨ub, 1, none⟩ = some (.int .i64 u.n) ∧ w'.cell? ⟨nb, 0, none⟩ = some (.int .i64 nv.k) ∧ w'.cell? ⟨nb, 1, none⟩ = some (.int .i64 nv.n) ∧ w'.cell? ⟨ob, 0, none⟩ = some (.int .i64 kk) ∧ w'.cell? ⟨ob, 1, none⟩ = some (.int .i64 q.b) ∧ w'.cell? ⟨ob, 2, none⟩ = some (.int .i64 ko) ∧ w'.cell? ⟨ob, 3, none⟩ = some (.int .i64 kf) ∧ w'.cell? ⟨ob, 4, none⟩ = some (.int .i64 q.a) ∧ w'.cell? ⟨ob, 5, none⟩ = some (.int .i64 q.x.k) ∧ w'.cell? ⟨ob, 6, none⟩ = some (.int .i64 q.x.n) ∧ w'.cell? ⟨ob, 7, none⟩ = some (.int .i64 q.y.k) ∧ w'.cell? ⟨ob, 8, none⟩ = some (.int .i64 q.y.n) := fun w' hb => ⟨bcell hb ol o0, bcell hb ol o1, bcell hb ol o2, bcell hb ol o3, bcell hb al a0, bcell hb al a1, bcell hb nl n0, bcell hb nl n1, bcell hb cl c0, bcell hb cl c1, bcell hb cl c2, bcell hb cl c3, bcell hb cl c4, bcell hb cl c5, bcell hb cl c6, bcell hb cl c7, bcell hb cl c8⟩
                have hbd : Below v1.heap.size v1 v1.drew := (Below.refl _ _).drew
                have RD := keep _ hbd
                go_region_held3 (fun w' => w'.cell? ⟨outb, 0, none⟩ = some (.int .i64 oc) ∧ w'.cell? ⟨outb, 1, none⟩ = some (.int .i64 ov.k) ∧ w'.cell? ⟨outb, 2, none⟩ = some (.int .i64 ov.n) ∧ w'.cell? ⟨outb, 3, none⟩ = some (.bool true) ∧ w'.cell? ⟨ub, 0, none⟩ = some (.int .i64 u.k) ∧ w'.cell? ⟨ub, 1, none⟩ = some (.int .i64 u.n) ∧ w'.cell? ⟨nb, 0, none⟩ = some (.int .i64 nv.k) ∧ w'.cell? ⟨nb, 1, none⟩ = some (.int .i64 nv.n) ∧ w'.cell? ⟨ob, 0, none⟩ = some (.int .i64 kk) ∧ w'.cell? ⟨ob, 1, none⟩ = some (.int .i64 q.b) ∧ w'.cell? ⟨ob, 2, none⟩ = some (.int .i64 ko) ∧ w'.cell? ⟨ob, 3, none⟩ = some (.int .i64 kf) ∧ w'.cell? ⟨ob, 4, none⟩ = some (.int .i64 q.a) ∧ w'.cell? ⟨ob, 5, none⟩ = some (.int .i64 q.x.k) ∧ w'.cell? ⟨ob, 6, none⟩ = some (.int .i64 q.x.n) ∧ w'.cell? ⟨ob, 7, none⟩ = some (.int .i64 q.y.k) ∧ w'.cell? ⟨ob, 8, none⟩ = some (.int .i64 q.y.n)) (first | assumption | exact RD | exact keep _ (by assumption))
                  ((go_at_call 18; refine (cVal q.y fq.y _).mono ?_; rintro e v2 ⟨rfl, hbv2⟩; rw [hvy]; have hq2 := bel_trans hbd hbv2))
                go_wp2
                go_ret
                exact ⟨rfl, bel_trans hbw hq2⟩
              · have heq' : ∀ w, (binOp .eql 24 (.agg #[.int .i64 u.k, .int .i64 u.n]) (.agg #[.int .i64 vx.k, .int .i64 vx.n])).run Tryd.prog w = .ok (.bool false) w := eqVal_f (a := u) (b := vx) hd0
                obtain ⟨hoy, hnv⟩ : oy = false ∧ nv = u := lno rfl hd0
                rw [hoy] at o3
                clear lrd lwr lyes lno
                go_upto_region 36 with (go_at_call 10; refine (cKind _ q.a 3 fq.a.1 fq.a.2 (by decide)).mono ?_; rintro e wk ⟨rfl, hwk⟩; rw [hwk, hka]; clear hwk wk)
                have keep : ∀ w', Below wr.heap.size wr w' → w'.cell? ⟨outb, 0, none⟩ = some (.int .i64 oc) ∧ w'.cell? ⟨outb, 1, none⟩ = some (.int .i64 ov.k) ∧ w'.cell? ⟨outb, 2, none⟩ = some (.int .i64 ov.n) ∧ w'.cell? ⟨outb, 3, none⟩ = some (.bool false) ∧ w'.cell? ⟨ub, 0, none⟩ = some (.int .i64 u.k) ∧ w'.cell? ⟨ub, 1, none⟩ = some (.int .i64 u.n) ∧ w'.cell? ⟨nb, 0, none⟩ = some (.int .i64 nv.k) ∧ w'.cell? ⟨nb, 1, none⟩ = some (.int .i64 nv.n) ∧ w'.cell? ⟨ob, 0, none⟩ = some (.int .i64 kk) ∧ w'.cell? ⟨ob, 1, none⟩ = some (.int .i64 q.b) ∧ w'.cell? ⟨ob, 2, none⟩ = some (.int .i64 ko) ∧ w'.cell? ⟨ob, 3, none⟩ = some (.int .i64 kf) ∧ w'.cell? ⟨ob, 4, none⟩ = some (.int .i64 q.a) ∧ w'.cell? ⟨ob, 5, none⟩ = some (.int .i64 q.x.k) ∧ w'.cell? ⟨ob, 6, none⟩ = some (.int .i64 q.x.n) ∧ w'.cell? ⟨ob, 7, none⟩ = some (.int .i64 q.y.k) ∧ w'.cell? ⟨ob, 8, none⟩ = some (.int .i64 q.y.n) := fun w' hb => ⟨bcell hb ol o0, bcell hb ol o1, bcell hb ol o2, bcell hb ol o3, bcell hb al a0, bcell hb al a1, bcell hb nl n0, bcell hb nl n1, bcell hb cl c0, bcell hb cl c1, bcell hb cl c2, bcell hb cl c3, bcell hb cl c4, bcell hb cl c5, bcell hb cl c6, bcell hb cl c7, bcell hb cl c8⟩
                have hbd : Below wr.heap.size wr wr.drew := (Below.refl _ _).drew
                have RD := keep _ hbd
                go_region_held3 (fun w' => w'.cell? ⟨outb, 0, none⟩ = some (.int .i64 oc) ∧ w'.cell? ⟨outb, 1, none⟩ = some (.int .i64 ov.k) ∧ w'.cell? ⟨outb, 2, none⟩ = some (.int .i64 ov.n) ∧ w'.cell? ⟨outb, 3, none⟩ = some (.bool false) ∧ w'.cell? ⟨ub, 0, none⟩ = some (.int .i64 u.k) ∧ w'.cell? ⟨ub, 1, none⟩ = some (.int .i64 u.n) ∧ w'.cell? ⟨nb, 0, none⟩ = some (.int .i64 nv.k) ∧ w'.cell? ⟨nb, 1, none⟩ = some (.int .i64 nv.n) ∧ w'.cell? ⟨ob, 0, none⟩ = some (.int .i64 kk) ∧ w'.cell? ⟨ob, 1, none⟩ = some (.int .i64 q.b) ∧ w'.cell? ⟨ob, 2, none⟩ = some (.int .i64 ko) ∧ w'.cell? ⟨ob, 3, none⟩ = some (.int .i64 kf) ∧ w'.cell? ⟨ob, 4, none⟩ = some (.int .i64 q.a) ∧ w'.cell? ⟨ob, 5, none⟩ = some (.int .i64 q.x.k) ∧ w'.cell? ⟨ob, 6, none⟩ = some (.int .i64 q.x.n) ∧ w'.cell? ⟨ob, 7, none⟩ = some (.int .i64 q.y.k) ∧ w'.cell? ⟨ob, 8, none⟩ = some (.int .i64 q.y.n)) (first | assumption | exact RD | exact keep _ (by assumption))
                  ((go_at_call 18; refine (cVal q.x fq.x _).mono ?_; rintro e v1 ⟨rfl, hbv1⟩; rw [hvx]; have hq1 := bel_trans hbd hbv1))
                clear keep RD
                have BO2 := BO.below hq1
                have BU2 := BU.below hq1
                have BN2 := BN.below hq1
                have OB2 := OB.below hq1
                rw [hoy] at BO2
                clear o0 o1 o2 o3 ol a0 a1 al n0 n1 nl c0 c1 c2 c3 c4 c5 c6 c7 c8 cl
                have o0 : v1.cell? ⟨outb, 0, none⟩ = some (.int .i64 oc) := BO2.cell 0
                have o1 : v1.cell? ⟨outb, 1, none⟩ = some (.int .i64 ov.k) := BO2.cell 1
                have o2 : v1.cell? ⟨outb, 2, none⟩ = some (.int .i64 ov.n) := BO2.cell 2
                have o3 : v1.cell? ⟨outb, 3, none⟩ = some (.bool false) := BO2.cell 3
                have ol := BO2.lt
                have a0 : v1.cell? ⟨ub, 0, none⟩ = some (.int .i64 u.k) := BU2.cell 0
                have a1 : v1.cell? ⟨ub, 1, none⟩ = some (.int .i64 u.n) := BU2.cell 1
                have al := BU2.lt
                have n0 : v1.cell? ⟨nb, 0, none⟩ = some (.int .i64 nv.k) := BN2.cell 0
                have n1 : v1.cell? ⟨nb, 1, none⟩ = some (.int .i64 nv.n) := BN2.cell 1
                have nl := BN2.lt
                have c0 : v1.cell? ⟨ob, 0, none⟩ = some (.int .i64 kk) := OB2.cell 0
                have c1 : v1.cell? ⟨ob, 1, none⟩ = some (.int .i64 q.b) := OB2.cell 1
                have c2 : v1.cell? ⟨ob, 2, none⟩ = some (.int .i64 ko) := OB2.cell 2
                have c3 : v1.cell? ⟨ob, 3, none⟩ = some (.int .i64 kf) := OB2.cell 3
                have c4 : v1.cell? ⟨ob, 4, none⟩ = some (.int .i64 q.a) := OB2.cell 4
                have c5 : v1.cell? ⟨ob, 5, none⟩ = some (.int .i64 q.x.k) := OB2.cell 5
                have c6 : v1.cell? ⟨ob, 6, none⟩ = some (.int .i64 q.x.n) := OB2.cell 6
                have c7 : v1.cell? ⟨ob, 7, none⟩ = some (.int .i64 q.y.k) := OB2.cell 7
                have c8 : v1.cell? ⟨ob, 8, none⟩ = some (.int .i64 q.y.n) := OB2.cell 8
                have cl := OB2.lt
                have vq := eqVal_t (a := nv) (b := u) hnv
                have hbw := bel_trans p1.bel hq1
                clear hq1 hbv1 hbd heq'
                go_wp2_with (fail)
                go_ret
                exact ⟨rfl, hbw⟩
end Go.Proofs.YtgakmpfmckikgaaDoor
