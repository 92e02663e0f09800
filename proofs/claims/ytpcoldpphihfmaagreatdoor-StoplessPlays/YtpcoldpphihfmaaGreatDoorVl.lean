import Derived.Test.YtpcoldpphihfmaaGreatDoorD2
import Derived.Test.YtpcoldpphihfmaaGreatDoorVr
import Derived.Test.YtpcoldpphihfmaaGreatDoorHRefs
import Derived.Test.YtpcoldpphihfmaaGreatDoorVco
import Derived.Deep.Cut
namespace Go.Proofs.YtpcoldpphihfmaaGreatDoor
set_option linter.unusedVariables false
set_option linter.unusedSimpArgs false
set_option maxRecDepth 100000
open Go.ChangeShapes Go.WideShapes Go.RowKit
open H.Plain (hw pS pC pN pM pG pT pL mv)
section
variable {w0 w w' : World} {b y : Nat} {s1 s2 : St} {N : Nat}
theorem Two.seen (h : Two w0 w b y s1 s2 N) : ∃ g cp, Seen2 w y g cp s2 := by
 obtain ⟨⟨L, M, e1, rfl, hm, hr, hl, hl2⟩, _⟩ := h
 exact ⟨M.g, M.cp, hr.cell0, hr.cell2, fun j hj => hr.wcell j hj, hr.lt _ (by simp [Loc.fp]), hr.lt _ (by simp [Loc.fp])⟩
theorem Two.cnt2 (h : Two w0 w b y s1 s2 N) : w.cell? ⟨y, 1, none⟩ = some (.int .i64 s2.c) ∧ w.frozen? ⟨y, 1, none⟩ = false := by
 obtain ⟨⟨L, M, e1, rfl, hm, hr, hl, hl2⟩, _⟩ := h
 exact ⟨hr.cell1, hr.free 1⟩
theorem TwoT.tight50 {ow : Bool} (h : TwoT ow w0 w b y s1 s2 N) (h1 : s1.c ≤ 50) (h2 : s2.c ≤ 50) : TwoT ow w0 w b y s1 s2 50 := ⟨h.at_, h.bel, h.fit1, h.fit2, h1, h2, h.rng1, h.rng2, h.wid⟩
theorem Two.setC (h : Two w0 w b y s1 s2 N) {c : Int} (hc : s2.c ≤ c) (hN : c ≤ N) (hm : c ≤ 1000000) : Two w0 (w.setCell ⟨y, 1, none⟩ (.int .i64 c)) b y s1 { s2 with c := c } N := by
 obtain ⟨⟨L, M, e1, rfl, hm1, hr, hl, hl2⟩, hb, f1, f2, t1, t2, r1, r2, wd⟩ := h
 have k : Kept [M.b] w (w.setCell ⟨M.b, 1, none⟩ (.int .i64 c)) := Kept.setCell [M.b] _ _ _ (by simp)
 have hm' : Mm (w.setCell ⟨M.b, 1, none⟩ (.int .i64 c)) L s1 := hm1.on k fun j hj e => by simp at e; subst e; exact (hl _ hj).2 (by simp [Loc.fp])
 have hr' : Rm (w.setCell ⟨M.b, 1, none⟩ (.int .i64 c)) M { s2 with c := c } := ⟨(by have q := Go.Joins.block_setCell hr.blk (.int .i64 c) (i := 1); simp at q; exact q), ownsRow_setCell_other hr.row (fun e => hr.bg (Option.some.inj e).symm) _, ownsRow_setCell_other hr.unt hr.bu _, hr.non, hr.ht⟩
 exact ⟨⟨L, M, e1, rfl, hm', hr', hl, hl2⟩, hb.trans (k.below (fun j hj => by simp at hj; subst hj; exact hl2 _ (by simp [Loc.fp])) hb.size), f1, ⟨f2.t0, by have := f2.tc; show s2.t ≤ c; omega, by have := f2.lc; show (s2.l.length : Int) ≤ c; omega, hm, f2.n1, f2.n4⟩, t1, hN, r1, r2, wd⟩
end
section
set_option maxHeartbeats 4000000
theorem cLaid (w : World) (W : H.Wid w) {tg : Int} {at_ av : Option Addr} {lt ll ct cv' : Nat} {zt : Nat → Int} {zl : Nat → Vl} (ci : CameI w at_ lt zt) (cv : CameV w av ll zl) (h10 : -9223372036854775808 ≤ tg) (h11 : tg ≤ 9223372036854775807) :
  Calls Tryz.prog 10 #[.agg #[.int .i64 tg, .slice at_ lt ct, .slice av ll cv']] w fun e w' => ∃ b y s1 s2, e = .returned (.tuple #[.pointer (some ⟨b, 0, none⟩), .pointer (some ⟨y, 0, none⟩)]) ∧ Two w w' b y s1 s2 50 ∧ s1.ws = s2.ws ∧ MW s1 (gl (kd tg 6) (fldP ll zl) (stP lt zt)) := by
 obtain ⟨l, hl⟩ : ∃ l, fldP ll zl = l := ⟨_, rfl⟩
 obtain ⟨st, hst'⟩ : ∃ l, stP lt zt = l := ⟨_, rfl⟩
 obtain ⟨t, htk⟩ : ∃ t, kd tg 6 = t := ⟨_, rfl⟩
 rw [hl, hst', htk]
 obtain ⟨h0, hh0⟩ : ∃ h0, hw 1 0 3 0 0 0 0 = h0 := ⟨_, rfl⟩
 obtain ⟨lk, hlk⟩ : ∃ q, lkP t = q := ⟨_, rfl⟩
 obtain ⟨ht, hht⟩ : ∃ ht, hw 1 0 3 0 0 t lk = ht := ⟨_, rfl⟩
 obtain ⟨hx8, hhx8⟩ : ∃ q, hw 2 1 3 0 0 0 112 = q := ⟨_, rfl⟩
 have hU0 : U64 h0 := hh0 ▸ u64_hw _ _ _ _ _ _ _
 have hUt : U64 ht := hht ▸ u64_hw _ _ _ _ _ _ _
 have hU8 : U64 hx8 := hhx8 ▸ u64_hw _ _ _ _ _ _ _
 have a0 : Below w.heap.size w (w.alloc (.cells #[.int .i64 tg, .slice at_ lt ct, .slice av ll cv'] 25)) := (Below.refl _ _).alloc (Nat.le_refl _) _
 have X0 : Blk w (w.alloc (.cells #[.int .i64 tg, .slice at_ lt ct, .slice av ll cv'] 25)) w.heap.size 25 #[.int .i64 tg, .slice at_ lt ct, .slice av ll cv'] := Blk.new (Nat.le_refl _) _ (by decide)
 go_enter Tryz.func10, Tryz.ntmps10
 go_upto_region 1 with (fail)
 generalize w.alloc (.cells #[.int .i64 tg, .slice at_ lt ct, .slice av ll cv'] 25) = wa at a0 X0 ⊢
 generalize w.heap.size = xb at X0 ⊢
 have cv2 := cv.on a0
 have ct2 := ci.on a0
 have Wa := W.on a0
 have x0' : wa.cell? ⟨xb, 0, none⟩ = some (.int .i64 tg) := X0.cell 0
 have x1' : wa.cell? ⟨xb, 1, none⟩ = some (.slice at_ lt ct) := X0.cell 1
 have x2' : wa.cell? ⟨xb, 2, none⟩ = some (.slice av ll cv') := X0.cell 2
 have hx := X0.lt
 go_upto_region 6 with (first
  | (go_at_call 37; refine (hNew _ 160 (by decide) (by decide) (Below.refl _ _) Wa).mono ?_; rintro e wc ⟨b, rfl, h1⟩)
  | (go_at_call 38; refine (yNew h1 160 (by decide) (by decide)).mono ?_; rintro e w2' ⟨y, rfl, h2⟩))
 have h3 := h2.alloc (.cells #[.int .i64 1, .int .i64 0, .int .i64 3, .int .i64 0, .int .i64 0, .int .i64 0, .int .i64 0] 40)
 have B3 : Blk wa (w2'.alloc (.cells #[.int .i64 1, .int .i64 0, .int .i64 3, .int .i64 0, .int .i64 0, .int .i64 0, .int .i64 0] 40)) w2'.heap.size 40 #[.int .i64 1, .int .i64 0, .int .i64 3, .int .i64 0, .int .i64 0, .int .i64 0, .int .i64 0] := Blk.new h2.bel.size _ (by decide)
 generalize w2'.alloc (.cells #[.int .i64 1, .int .i64 0, .int .i64 3, .int .i64 0, .int .i64 0, .int .i64 0, .int .i64 0] 40) = w3 at h3 B3 ⊢
 generalize w2'.heap.size = hb at B3 ⊢
 have c0 : w3.cell? ⟨hb, 0, none⟩ = some (.int .i64 1) := B3.cell 0
 have c1 : w3.cell? ⟨hb, 1, none⟩ = some (.int .i64 0) := B3.cell 1
 have c2 : w3.cell? ⟨hb, 2, none⟩ = some (.int .i64 3) := B3.cell 2
 have c3 : w3.cell? ⟨hb, 3, none⟩ = some (.int .i64 0) := B3.cell 3
 have c4 : w3.cell? ⟨hb, 4, none⟩ = some (.int .i64 0) := B3.cell 4
 have c5 : w3.cell? ⟨hb, 5, none⟩ = some (.int .i64 0) := B3.cell 5
 have c6 : w3.cell? ⟨hb, 6, none⟩ = some (.int .i64 0) := B3.cell 6
 have cl := B3.lt
 go_upto_region 7 with (first
  | (go_at_call 12; refine (H.rWord _ _ _ _ _ _ _ _).mono ?_; rintro e w4 ⟨rfl, hw4⟩; rw [hh0]; have hb4 : Below w3.heap.size w3 w4 := (by rw [hw4]; go_grown); have h4 := h3.below hb4; have B4 := B3.below hb4; clear hw4 hb4)
  | (go_at_call 14; refine (yStore h4 (by omega) 100 hU0).mono ?_; rintro e w5 ⟨rfl, h5, o5⟩; have M5 := MZ.at_ MZ.new (i := 4) (by omega) (show 100 = 96 + ((4 : Nat) : Int) by omega) h0; have B5 := B4.oth o5 (by simp); generalize (St.new 160).store 100 h0 = s5 at h5 M5))
 clear c0 c1 c2 c3 c4 c5 c6 cl
 have c0 : w5.cell? ⟨hb, 0, none⟩ = some (.int .i64 1) := B5.cell 0
 have c1 : w5.cell? ⟨hb, 1, none⟩ = some (.int .i64 0) := B5.cell 1
 have c2 : w5.cell? ⟨hb, 2, none⟩ = some (.int .i64 3) := B5.cell 2
 have c3 : w5.cell? ⟨hb, 3, none⟩ = some (.int .i64 0) := B5.cell 3
 have c4 : w5.cell? ⟨hb, 4, none⟩ = some (.int .i64 0) := B5.cell 4
 have c5 : w5.cell? ⟨hb, 5, none⟩ = some (.int .i64 0) := B5.cell 5
 have c6 : w5.cell? ⟨hb, 6, none⟩ = some (.int .i64 0) := B5.cell 6
 have cl := B5.lt
 go_upto_region 8 with (first
  | (go_at_call 12; refine (H.rWord _ _ _ _ _ _ _ _).mono ?_; rintro e w6 ⟨rfl, hw6⟩; rw [hh0]; have hb6 : Below w5.heap.size w5 w6 := (by rw [hw6]; go_grown); have h6 := h5.below hb6; have B6 := B5.below hb6; clear hw6 hb6)
  | (go_at_call 14; refine (yStore h6 (by omega) 112 hU0).mono ?_; rintro e w7 ⟨rfl, h7, o7⟩; have M7 := MZ.at_ M5 (i := 16) (by omega) (show 112 = 96 + ((16 : Nat) : Int) by omega) h0; have B7 := B6.oth o7 (by simp); generalize s5.store 112 h0 = s7 at h7 M7))
 clear c0 c1 c2 c3 c4 c5 c6 cl
 have c0 : w7.cell? ⟨hb, 0, none⟩ = some (.int .i64 1) := B7.cell 0
 have c1 : w7.cell? ⟨hb, 1, none⟩ = some (.int .i64 0) := B7.cell 1
 have c2 : w7.cell? ⟨hb, 2, none⟩ = some (.int .i64 3) := B7.cell 2
 have c3 : w7.cell? ⟨hb, 3, none⟩ = some (.int .i64 0) := B7.cell 3
 have c4 : w7.cell? ⟨hb, 4, none⟩ = some (.int .i64 0) := B7.cell 4
 have c5 : w7.cell? ⟨hb, 5, none⟩ = some (.int .i64 0) := B7.cell 5
 have c6 : w7.cell? ⟨hb, 6, none⟩ = some (.int .i64 0) := B7.cell 6
 have cl := B7.lt
 have f5 := B7.free 5
 have f6 := B7.free 6
 have xa : w7.cell? ⟨xb, 0, none⟩ = some (.int .i64 tg) := (h7.bel.cell hx).trans x0'
 have xal : xb < w7.heap.size := Nat.lt_of_lt_of_le hx h7.bel.size
 clear B3 B4 B5 B6 h1 h2 h3 h4 h5 h6 o5 o7 M5
 by_cases ht2 : t = 2
 case' pos =>
  have e2 : (t == 2) = true := by simp [ht2]
  have hlk'' : Hid (lk = 112) := (by rw [← hlk, lkP, if_pos ht2] : lk = 112)
  clear ht2
  go_upto_region 12 with (go_at_call 11; refine (cKind _ tg 6 h10 h11 (by decide)).mono ?_; rintro e wk ⟨rfl, hwk⟩; rw [hwk, htk]; clear hwk wk)
  have h8 := ((h7.set B7 5 (.int .i64 t)).set (B7.set 5 (.int .i64 t)) 6 (.int .i64 104)).set ((B7.set 5 (.int .i64 t)).set 6 (.int .i64 104)) 6 (.int .i64 112)
  have B8 : Blk wa (((w7.setCell ⟨hb, 5, none⟩ (.int .i64 t)).setCell ⟨hb, 6, none⟩ (.int .i64 104)).setCell ⟨hb, 6, none⟩ (.int .i64 112)) hb 40 #[.int .i64 1, .int .i64 0, .int .i64 3, .int .i64 0, .int .i64 0, .int .i64 t, .int .i64 lk] := (by rw [hlk''.out]; exact ((B7.set 5 _).set 6 _).set 6 _)
  clear c0 c1 c2 c3 c4 c5 c6 cl f5 f6 xa xal e2 hlk'' B7 h7
  generalize ((w7.setCell ⟨hb, 5, none⟩ (.int .i64 t)).setCell ⟨hb, 6, none⟩ (.int .i64 104)).setCell ⟨hb, 6, none⟩ (.int .i64 112) = w8 at h8 B8 ⊢
 case' neg =>
  have e2 : (t == 2) = false := by simpa using ht2
  have hlk' : Hid (lk = 104) := (by rw [← hlk, lkP, if_neg ht2] : lk = 104)
  clear ht2
  go_upto_region 12 with (go_at_call 11; refine (cKind _ tg 6 h10 h11 (by decide)).mono ?_; rintro e wk ⟨rfl, hwk⟩; rw [hwk, htk]; clear hwk wk)
  have h8 := (h7.set B7 5 (.int .i64 t)).set (B7.set 5 (.int .i64 t)) 6 (.int .i64 104)
  have B8 : Blk wa ((w7.setCell ⟨hb, 5, none⟩ (.int .i64 t)).setCell ⟨hb, 6, none⟩ (.int .i64 104)) hb 40 #[.int .i64 1, .int .i64 0, .int .i64 3, .int .i64 0, .int .i64 0, .int .i64 t, .int .i64 lk] := (by rw [hlk'.out]; exact (B7.set 5 _).set 6 _)
  clear c0 c1 c2 c3 c4 c5 c6 cl f5 f6 xa xal e2 hlk' B7 h7
  generalize (w7.setCell ⟨hb, 5, none⟩ (.int .i64 t)).setCell ⟨hb, 6, none⟩ (.int .i64 104) = w8 at h8 B8 ⊢
 all_goals (
  have c0 : w8.cell? ⟨hb, 0, none⟩ = some (.int .i64 1) := B8.cell 0
  have c1 : w8.cell? ⟨hb, 1, none⟩ = some (.int .i64 0) := B8.cell 1
  have c2 : w8.cell? ⟨hb, 2, none⟩ = some (.int .i64 3) := B8.cell 2
  have c3 : w8.cell? ⟨hb, 3, none⟩ = some (.int .i64 0) := B8.cell 3
  have c4 : w8.cell? ⟨hb, 4, none⟩ = some (.int .i64 0) := B8.cell 4
  have c5 : w8.cell? ⟨hb, 5, none⟩ = some (.int .i64 t) := B8.cell 5
  have c6 : w8.cell? ⟨hb, 6, none⟩ = some (.int .i64 lk) := B8.cell 6
  have cl := B8.lt
  go_upto_region 13 with (first
   | (go_at_call 12; refine (H.rWord _ _ _ _ _ _ _ _).mono ?_; rintro e w9 ⟨rfl, hw9⟩; rw [hht]; have hb9 : Below w8.heap.size w8 w9 := (by rw [hw9]; go_grown); have h9 := h8.below hb9; clear hw9 hb9)
   | (go_at_call 14; refine (yStore h9 (by omega) 96 hUt).mono ?_; rintro e w10 ⟨rfl, h10', o10⟩; have M10 := MZ.at_ M7 (i := 0) (by omega) (show 96 = 96 + ((0 : Nat) : Int) by omega) ht; generalize s7.store 96 ht = s10 at h10' M10))
  clear c0 c1 c2 c3 c4 c5 c6 cl
  go_wp2_with (first
   | (go_at_call 12; refine (H.rWord _ _ _ _ _ _ _ _).mono ?_; rintro e w11 ⟨rfl, hw11⟩; rw [hhx8]; have hb11 : Below w10.heap.size w10 w11 := (by rw [hw11]; go_grown); have h11' := h10'.below hb11; clear hw11 hb11)
   | (go_at_call 14; refine (yStore h11' (by omega) 104 hU8).mono ?_; rintro e w12 ⟨rfl, h12, o12⟩; have M12 := MZ.at_ M10 (i := 8) (by omega) (show 104 = 96 + ((8 : Nat) : Int) by omega) hx8; generalize s10.store 104 hx8 = s12 at h12 M12))
  have M12' : MZ s12 (gp t l st 0) := by
   have e : gp t l st 0 = updN (updN (updN (updN (fun _ => 0) 4 h0) 16 h0) 0 ht) 8 hx8 := by simp only [gp, g0, H3, HWd, hlk, hh0, hht, hhx8]
   rw [e]; exact M12
  clear M12 M7 M10 h8 h9 h10' h11' B8
  go_loopw [9] (fun i wr => ∃ (g : Nat) (s : St) (n : Nat), g ≤ 6 ∧ i = .int .i64 g ∧ Two wa wr b y (St.new 160) s n ∧ MZ s (gp t l st g) ∧ (g ≤ 3 → n = 4 + 5 * g) ∧ (3 ≤ g → n = 16 + g)) (fun i _ => 6 - (intOf i).toNat)
  case atStart => exact ⟨0, s12, 4, by omega, rfl, h12.mono (by omega), M12', by omega, by omega⟩
  case round =>
   obtain ⟨g, s, n, hg, rfl, p1, M1, hn1, hn2⟩ := hrel
   by_cases hg6 : g < 6
   case pos =>
    have cv1 := cv2.on p1.bel
    have xs : wr.cell? ⟨xb, 2, none⟩ = some (.slice av ll cv') := (p1.bel.cell hx).trans x2'
    have xlt : xb < wr.heap.size := Nat.lt_of_lt_of_le hx p1.bel.size
    have hgi : (g : Int) < 6 := by omega
    by_cases hin : g < ll
    case' pos =>
     obtain ⟨vb', off, rfl, hvb, hz⟩ : ∃ b off, av = some ⟨b, off, none⟩ ∧ b < wr.heap.size ∧ ∀ j, j < ll → wr.cell? ⟨b, off + j * 2, none⟩ = some (.int .i64 (zl j).k) ∧ wr.cell? ⟨b, off + (j * 2 + 1), none⟩ = some (.int .i64 (zl j).n) ∧ (zl j).Fit := (cv1.resolve_left (by omega))
     obtain ⟨d0, d1, df⟩ := hz g hin
     obtain ⟨qv, hqv⟩ : ∃ qv, zl g = qv := ⟨_, rfl⟩
     rw [hqv] at d0 d1 df
     have hlx : l g = valP qv := by rw [← hl, fldP, if_pos hin, hqv]
     obtain ⟨u, hu⟩ : ∃ u, valP qv = u := ⟨_, rfl⟩
     rw [hu] at hlx
     have hini : (g : Int) < (ll : Int) := by omega
     rw [← Nat.add_assoc] at d1
     clear hz hqv
     go_upto_region 20 with (go_at_call 28; refine (cVal qv df _).mono ?_; rintro e w7 ⟨rfl, hb7⟩; rw [hu]; have p7 := (p1.alloc (.cells #[.int .i64 0, .int .i64 0] 38)).below hb7; have B7 : Blk wa w7 wr.heap.size 38 #[.int .i64 0, .int .i64 0] := (Blk.new p1.bel.size _ (by decide)).below hb7; have e0 : w7.cell? ⟨wr.heap.size, 0, none⟩ = some (.int .i64 0) := B7.cell 0; have e1 : w7.cell? ⟨wr.heap.size, 1, none⟩ = some (.int .i64 0) := B7.cell 1; have f0 := B7.free 0; have f1 := B7.free 1)
     have V8 : Blk wa ((w7.setCell ⟨wr.heap.size, 0, none⟩ (.int .i64 u.k)).setCell ⟨wr.heap.size, 1, none⟩ (.int .i64 u.n)) wr.heap.size 38 #[.int .i64 u.k, .int .i64 u.n] := (B7.set 0 _).set 1 _
     have p8 := (p7.set B7 0 (.int .i64 u.k)).set (B7.set 0 (.int .i64 u.k)) 1 (.int .i64 u.n)
     clear e0 e1 f0 f1 d0 d1 hini xs xlt cv1
     generalize (w7.setCell ⟨wr.heap.size, 0, none⟩ (.int .i64 u.k)).setCell ⟨wr.heap.size, 1, none⟩ (.int .i64 u.n) = w8 at V8 p8 ⊢
     generalize wr.heap.size = vb at V8 ⊢
    case' neg =>
     have hlx : l g = Vl.zero := by rw [← hl, fldP, if_neg hin]
     have hini : ¬ (g : Int) < (ll : Int) := by omega
     obtain ⟨u, hu⟩ : ∃ u, Vl.zero = u := ⟨_, rfl⟩
     rw [hu] at hlx
     have p8 := p1.alloc (.cells #[.int .i64 0, .int .i64 0] 38)
     have V8 : Blk wa (wr.alloc (.cells #[.int .i64 0, .int .i64 0] 38)) wr.heap.size 38 #[.int .i64 u.k, .int .i64 u.n] := (by rw [← hu]; exact Blk.new p1.bel.size _ (by decide))
     go_upto_region 20 with (fail)
     clear hini xs xlt cv1
     generalize wr.alloc (.cells #[.int .i64 0, .int .i64 0] 38) = w8 at V8 p8 ⊢
     generalize wr.heap.size = vb at V8 ⊢
    all_goals (
     have x0 : w8.cell? ⟨vb, 0, none⟩ = some (.int .i64 u.k) := V8.cell 0
     have x1 : w8.cell? ⟨vb, 1, none⟩ = some (.int .i64 u.n) := V8.cell 1
     have xl := V8.lt
     have i2 : IntKind.i64.wrap (97 + (g : Int)) = 97 + (g : Int) := by rw [IntKind.wrap_i64]; omega
     have m2 : IntKind.i64.wrap (2 * (g : Int)) = 2 * (g : Int) := by rw [IntKind.wrap_i64]; omega
     have m6 : IntKind.i64.wrap (106 + 2 * (g : Int)) = 106 + 2 * (g : Int) := by rw [IntKind.wrap_i64]; omega
     have m7 : IntKind.i64.wrap (107 + 2 * (g : Int)) = 107 + 2 * (g : Int) := by rw [IntKind.wrap_i64]; omega
     have m3 : IntKind.i64.wrap (113 + (g : Int)) = 113 + (g : Int) := by rw [IntKind.wrap_i64]; omega
     obtain ⟨wd, hwd⟩ : ∃ wd, F.Plain.word u.k u.n = wd := ⟨_, rfl⟩
     have hwd2 : u.w = wd := hwd
     have hU : U64 wd := hwd2 ▸ Vl.u64 u
     by_cases hg3 : g < 3
     ·have hd : g / 3 = 0 := by omega
      have h3n : ¬ 3 ≤ g := by omega
      have i3 : (g : Int).tdiv 3 = 0 := by rw [Int.tdiv_eq_ediv_of_nonneg (by omega)]; omega
      have t3 : decide (3 ≤ (g : Int)) = false := by simp; omega
      go_upto_region 22 with (first
       | (go_at_call 36; refine (F.rWord u.k u.n _).mono ?_; rintro e w10 ⟨rfl, m10, hw10⟩; rw [hwd]; have hb10 : Below w8.heap.size w8 w10 := (by rw [hw10]; exact F.bdr ((Below.refl _ _).alloc (Nat.le_refl _) _) _); have p10 := p8.below hb10; clear hw10 hb10)
       | (go_at_call 14; refine (yStore p10 (by omega) (97 + (g : Int)) hU).mono ?_; rintro e wA ⟨rfl, hA, oA⟩; have MA := MZ.at_ M1 (i := (1 + g)) (by omega) (show (97 + (g : Int)) = 96 + (((1 + g) : Nat) : Int) by omega) wd; generalize s.store (97 + (g : Int)) wd = sA at hA MA))
      clear x0 x1 xl
      have ys : wA.cell? ⟨xb, 1, none⟩ = some (.slice at_ lt ct) := (hA.bel.cell hx).trans x1'
      have yl : xb < wA.heap.size := Nat.lt_of_lt_of_le hx hA.bel.size
      by_cases hst : g < lt
      ·obtain ⟨sb, soff, rfl, hsb, hsz⟩ : ∃ b off, at_ = some ⟨b, off, none⟩ ∧ b < wA.heap.size ∧ ∀ j, j < lt → wA.cell? ⟨b, off + j, none⟩ = some (.int .i64 (zt j)) ∧ -9223372036854775808 ≤ zt j ∧ zt j ≤ 9223372036854775807 := (ct2.on hA.bel).resolve_left (by omega)
       obtain ⟨d0, d1, d2⟩ := hsz g hst
       obtain ⟨qz, hqz⟩ : ∃ qz, zt g = qz := ⟨_, rfl⟩
       rw [hqz] at d0 d1 d2
       have hsv' : st g = kd qz 5 := by rw [← hst', stP, if_pos hst, hqz]
       have k5 := kd_lt qz 5 (by decide)
       obtain ⟨sv, hk⟩ : ∃ sv, kd qz 5 = sv := ⟨_, rfl⟩
       rw [hk] at hsv' k5
       have hsti : (g : Int) < (lt : Int) := by omega
       clear hsz hqz
       rcases (show sv = 0 ∨ sv = 1 ∨ sv = 2 ∨ sv = 3 ∨ sv = 4 by omega) with rfl | rfl | rfl | rfl | rfl
       ·have hsv : st g = 0 := hsv'
        clear hsv' k5
        go_upto_region 26 with (go_at_call 11; refine (cKind _ qz 5 d1 d2 (by decide)).mono ?_; rintro e wk ⟨rfl, hwk⟩; rw [hwk, hk]; clear hwk wk)
        go_upto_region 27 with (go_at_call 36; refine (F.rWord 2 0 _).mono ?_; rintro e wz ⟨rfl, mz, hwz⟩; rw [show F.Plain.word 2 0 = 2 by decide]; have hbz : Below wA.heap.size wA wz := (by rw [hwz]; exact F.bdr ((Below.refl _ _).alloc (Nat.le_refl _) _) _); have hz := hA.below hbz; clear hwz hbz)
        go_wp2_with (go_at_call 14; refine (yStore hz (by omega) (113 + (g : Int)) ⟨by decide, by decide⟩).mono ?_; rintro e wE ⟨rfl, hE, oE⟩; have ME := MZ.at_ MA (i := (17 + g)) (by omega) (show (113 + (g : Int)) = 96 + (((17 + g) : Nat) : Int) by omega) 2; generalize sA.store (113 + (g : Int)) 2 = sE at hE ME)
        go_roundw
        case rel => exact ⟨g + 1, sE, n + 5, by omega, by go_num, hE.mono (by omega), (by have e : gp t l st (g + 1) = _ := (by simp only [gp, hlx, hsv, fG, hwd2, hd, Nat.add_zero, if_neg h3n]; simp only [Int.reduceLT, Int.reduceSub, Int.reduceEq, if_true, if_false, reduceIte]; rfl); rw [e]; exact ME), by omega, by omega⟩
        case measure => simp [intOf]; omega
       ·have hsv : st g = 1 := hsv'
        clear hsv' k5
        go_upto_region 26 with (go_at_call 11; refine (cKind _ qz 5 d1 d2 (by decide)).mono ?_; rintro e wk ⟨rfl, hwk⟩; rw [hwk, hk]; clear hwk wk)
        go_upto_region 27 with (go_at_call 36; refine (F.rWord 2 0 _).mono ?_; rintro e wz ⟨rfl, mz, hwz⟩; rw [show F.Plain.word 2 0 = 2 by decide]; have hbz : Below wA.heap.size wA wz := (by rw [hwz]; exact F.bdr ((Below.refl _ _).alloc (Nat.le_refl _) _) _); have hz := hA.below hbz; clear hwz hbz)
        go_upto_region 29 with (first
         | (go_at_call 39; refine (F.rFreeze wd hU.1 hU.2 _).mono ?_; rintro e wy ⟨rfl, hwy⟩; rw [hwy]; clear hwy wy)
         | (go_at_call 14; refine (yStore hz (by omega) (97 + (g : Int)) (u64_fz hU)).mono ?_; rintro e wB ⟨rfl, hB, oB⟩; have MB := MZ.at_ MA (i := (1 + g)) (by omega) (show (97 + (g : Int)) = 96 + (((1 + g) : Nat) : Int) by omega) (F.Plain.fz wd); generalize sA.store (97 + (g : Int)) (F.Plain.fz wd) = sB at hB MB))
        go_wp2_with (go_at_call 14; refine (yStore hB (by omega) (113 + (g : Int)) ⟨by decide, by decide⟩).mono ?_; rintro e wE ⟨rfl, hE, oE⟩; have ME := MZ.at_ MB (i := (17 + g)) (by omega) (show (113 + (g : Int)) = 96 + (((17 + g) : Nat) : Int) by omega) 2; generalize sB.store (113 + (g : Int)) 2 = sE at hE ME)
        go_roundw
        case rel => exact ⟨g + 1, sE, n + 5, by omega, by go_num, hE.mono (by omega), (by have e : gp t l st (g + 1) = _ := (by simp only [gp, hlx, hsv, fG, hwd2, hd, Nat.add_zero, if_neg h3n]; simp only [Int.reduceLT, Int.reduceSub, Int.reduceEq, if_true, if_false, reduceIte]; rfl); rw [e]; exact ME), by omega, by omega⟩
        case measure => simp [intOf]; omega
       ·have hsv : st g = 2 := hsv'
        clear hsv' k5
        go_upto_region 26 with (go_at_call 11; refine (cKind _ qz 5 d1 d2 (by decide)).mono ?_; rintro e wk ⟨rfl, hwk⟩; rw [hwk, hk]; clear hwk wk)
        go_upto_region 27 with (go_at_call 36; refine (F.rWord 2 0 _).mono ?_; rintro e wz ⟨rfl, mz, hwz⟩; rw [show F.Plain.word 2 0 = 2 by decide]; have hbz : Below wA.heap.size wA wz := (by rw [hwz]; exact F.bdr ((Below.refl _ _).alloc (Nat.le_refl _) _) _); have hz := hA.below hbz; clear hwz hbz)
        go_upto_region 29 with (first
         | (go_at_call 39; refine (F.rFreeze wd hU.1 hU.2 _).mono ?_; rintro e wy ⟨rfl, hwy⟩; rw [hwy]; clear hwy wy)
         | (go_at_call 14; refine (yStore hz (by omega) (97 + (g : Int)) (u64_fz hU)).mono ?_; rintro e wB ⟨rfl, hB, oB⟩; have MB := MZ.at_ MA (i := (1 + g)) (by omega) (show (97 + (g : Int)) = 96 + (((1 + g) : Nat) : Int) by omega) (F.Plain.fz wd); generalize sA.store (97 + (g : Int)) (F.Plain.fz wd) = sB at hB MB))
        go_upto_region 31 with (go_at_call 14; refine (yStore hB (by omega) (106 + 2 * (g : Int)) ⟨by decide, by decide⟩).mono ?_; rintro e wC ⟨rfl, hC, oC⟩; have MC := MZ.at_ MB (i := (10 + 2 * g)) (by omega) (show (106 + 2 * (g : Int)) = 96 + (((10 + 2 * g) : Nat) : Int) by omega) 1; generalize sB.store (106 + 2 * (g : Int)) 1 = sC at hC MC)
        go_upto_region 32 with (go_at_call 14; refine (yStore hC (by omega) (107 + 2 * (g : Int)) hU).mono ?_; rintro e wD ⟨rfl, hD, oD⟩; have MD := MZ.at_ MC (i := (11 + 2 * g)) (by omega) (show (107 + 2 * (g : Int)) = 96 + (((11 + 2 * g) : Nat) : Int) by omega) wd; generalize sC.store (107 + 2 * (g : Int)) wd = sD at hD MD)
        go_wp2_with (go_at_call 14; refine (yStore hD (by omega) (113 + (g : Int)) ⟨by decide, by decide⟩).mono ?_; rintro e wE ⟨rfl, hE, oE⟩; have ME := MZ.at_ MD (i := (17 + g)) (by omega) (show (113 + (g : Int)) = 96 + (((17 + g) : Nat) : Int) by omega) 2; generalize sD.store (113 + (g : Int)) 2 = sE at hE ME)
        go_roundw
        case rel => exact ⟨g + 1, sE, n + 5, by omega, by go_num, hE.mono (by omega), (by have e : gp t l st (g + 1) = _ := (by simp only [gp, hlx, hsv, fG, hwd2, hd, Nat.add_zero, if_neg h3n]; simp only [Int.reduceLT, Int.reduceSub, Int.reduceEq, if_true, if_false, reduceIte]; rfl); rw [e]; exact ME), by omega, by omega⟩
        case measure => simp [intOf]; omega
       ·have hsv : st g = 3 := hsv'
        clear hsv' k5
        go_upto_region 26 with (go_at_call 11; refine (cKind _ qz 5 d1 d2 (by decide)).mono ?_; rintro e wk ⟨rfl, hwk⟩; rw [hwk, hk]; clear hwk wk)
        go_upto_region 27 with (go_at_call 36; refine (F.rWord 2 0 _).mono ?_; rintro e wz ⟨rfl, mz, hwz⟩; rw [show F.Plain.word 2 0 = 2 by decide]; have hbz : Below wA.heap.size wA wz := (by rw [hwz]; exact F.bdr ((Below.refl _ _).alloc (Nat.le_refl _) _) _); have hz := hA.below hbz; clear hwz hbz)
        go_upto_region 29 with (first
         | (go_at_call 39; refine (F.rFreeze wd hU.1 hU.2 _).mono ?_; rintro e wy ⟨rfl, hwy⟩; rw [hwy]; clear hwy wy)
         | (go_at_call 14; refine (yStore hz (by omega) (97 + (g : Int)) (u64_fz hU)).mono ?_; rintro e wB ⟨rfl, hB, oB⟩; have MB := MZ.at_ MA (i := (1 + g)) (by omega) (show (97 + (g : Int)) = 96 + (((1 + g) : Nat) : Int) by omega) (F.Plain.fz wd); generalize sA.store (97 + (g : Int)) (F.Plain.fz wd) = sB at hB MB))
        go_upto_region 31 with (go_at_call 14; refine (yStore hB (by omega) (106 + 2 * (g : Int)) ⟨by decide, by decide⟩).mono ?_; rintro e wC ⟨rfl, hC, oC⟩; have MC := MZ.at_ MB (i := (10 + 2 * g)) (by omega) (show (106 + 2 * (g : Int)) = 96 + (((10 + 2 * g) : Nat) : Int) by omega) 2; generalize sB.store (106 + 2 * (g : Int)) 2 = sC at hC MC)
        go_upto_region 32 with (go_at_call 14; refine (yStore hC (by omega) (107 + 2 * (g : Int)) hU).mono ?_; rintro e wD ⟨rfl, hD, oD⟩; have MD := MZ.at_ MC (i := (11 + 2 * g)) (by omega) (show (107 + 2 * (g : Int)) = 96 + (((11 + 2 * g) : Nat) : Int) by omega) wd; generalize sC.store (107 + 2 * (g : Int)) wd = sD at hD MD)
        go_wp2_with (go_at_call 14; refine (yStore hD (by omega) (113 + (g : Int)) ⟨by decide, by decide⟩).mono ?_; rintro e wE ⟨rfl, hE, oE⟩; have ME := MZ.at_ MD (i := (17 + g)) (by omega) (show (113 + (g : Int)) = 96 + (((17 + g) : Nat) : Int) by omega) 2; generalize sD.store (113 + (g : Int)) 2 = sE at hE ME)
        go_roundw
        case rel => exact ⟨g + 1, sE, n + 5, by omega, by go_num, hE.mono (by omega), (by have e : gp t l st (g + 1) = _ := (by simp only [gp, hlx, hsv, fG, hwd2, hd, Nat.add_zero, if_neg h3n]; simp only [Int.reduceLT, Int.reduceSub, Int.reduceEq, if_true, if_false, reduceIte]; rfl); rw [e]; exact ME), by omega, by omega⟩
        case measure => simp [intOf]; omega
       ·have hsv : st g = 4 := hsv'
        clear hsv' k5
        go_upto_region 26 with (go_at_call 11; refine (cKind _ qz 5 d1 d2 (by decide)).mono ?_; rintro e wk ⟨rfl, hwk⟩; rw [hwk, hk]; clear hwk wk)
        go_upto_region 27 with (go_at_call 36; refine (F.rWord 2 0 _).mono ?_; rintro e wz ⟨rfl, mz, hwz⟩; rw [show F.Plain.word 2 0 = 2 by decide]; have hbz : Below wA.heap.size wA wz := (by rw [hwz]; exact F.bdr ((Below.refl _ _).alloc (Nat.le_refl _) _) _); have hz := hA.below hbz; clear hwz hbz)
        go_upto_region 29 with (first
         | (go_at_call 39; refine (F.rFreeze wd hU.1 hU.2 _).mono ?_; rintro e wy ⟨rfl, hwy⟩; rw [hwy]; clear hwy wy)
         | (go_at_call 14; refine (yStore hz (by omega) (97 + (g : Int)) (u64_fz hU)).mono ?_; rintro e wB ⟨rfl, hB, oB⟩; have MB := MZ.at_ MA (i := (1 + g)) (by omega) (show (97 + (g : Int)) = 96 + (((1 + g) : Nat) : Int) by omega) (F.Plain.fz wd); generalize sA.store (97 + (g : Int)) (F.Plain.fz wd) = sB at hB MB))
        go_upto_region 31 with (go_at_call 14; refine (yStore hB (by omega) (106 + 2 * (g : Int)) ⟨by decide, by decide⟩).mono ?_; rintro e wC ⟨rfl, hC, oC⟩; have MC := MZ.at_ MB (i := (10 + 2 * g)) (by omega) (show (106 + 2 * (g : Int)) = 96 + (((10 + 2 * g) : Nat) : Int) by omega) 3; generalize sB.store (106 + 2 * (g : Int)) 3 = sC at hC MC)
        go_upto_region 32 with (go_at_call 14; refine (yStore hC (by omega) (107 + 2 * (g : Int)) hU).mono ?_; rintro e wD ⟨rfl, hD, oD⟩; have MD := MZ.at_ MC (i := (11 + 2 * g)) (by omega) (show (107 + 2 * (g : Int)) = 96 + (((11 + 2 * g) : Nat) : Int) by omega) wd; generalize sC.store (107 + 2 * (g : Int)) wd = sD at hD MD)
        go_wp2_with (go_at_call 14; refine (yStore hD (by omega) (113 + (g : Int)) hU).mono ?_; rintro e wE ⟨rfl, hE, oE⟩; have ME := MZ.at_ MD (i := (17 + g)) (by omega) (show (113 + (g : Int)) = 96 + (((17 + g) : Nat) : Int) by omega) wd; generalize sD.store (113 + (g : Int)) wd = sE at hE ME)
        go_roundw
        case rel => exact ⟨g + 1, sE, n + 5, by omega, by go_num, hE.mono (by omega), (by have e : gp t l st (g + 1) = _ := (by simp only [gp, hlx, hsv, fG, hwd2, hd, Nat.add_zero, if_neg h3n]; simp only [Int.reduceLT, Int.reduceSub, Int.reduceEq, if_true, if_false, reduceIte]; rfl); rw [e]; exact ME), by omega, by omega⟩
        case measure => simp [intOf]; omega
      ·have hsv : st g = 0 := by rw [← hst', stP, if_neg hst]
       have hsti : ¬ (g : Int) < (lt : Int) := by omega
       go_upto_region 26 with (fail)
       go_upto_region 27 with (go_at_call 36; refine (F.rWord 2 0 _).mono ?_; rintro e wz ⟨rfl, mz, hwz⟩; rw [show F.Plain.word 2 0 = 2 by decide]; have hbz : Below wA.heap.size wA wz := (by rw [hwz]; exact F.bdr ((Below.refl _ _).alloc (Nat.le_refl _) _) _); have hz := hA.below hbz; clear hwz hbz)
       go_wp2_with (go_at_call 14; refine (yStore hz (by omega) (113 + (g : Int)) ⟨by decide, by decide⟩).mono ?_; rintro e wE ⟨rfl, hE, oE⟩; have ME := MZ.at_ MA (i := (17 + g)) (by omega) (show (113 + (g : Int)) = 96 + (((17 + g) : Nat) : Int) by omega) 2; generalize sA.store (113 + (g : Int)) 2 = sE at hE ME)
       go_roundw
       case rel => exact ⟨g + 1, sE, n + 5, by omega, by go_num, hE.mono (by omega), (by have e : gp t l st (g + 1) = _ := (by simp only [gp, hlx, hsv, fG, hwd2, hd, Nat.add_zero, if_neg h3n]; simp only [Int.reduceLT, Int.reduceSub, Int.reduceEq, if_true, if_false, reduceIte]; rfl); rw [e]; exact ME), by omega, by omega⟩
       case measure => simp [intOf]; omega
     ·have hd : g / 3 = 1 := by omega
      have h3n : 3 ≤ g := by omega
      have i3 : (g : Int).tdiv 3 = 1 := by rw [Int.tdiv_eq_ediv_of_nonneg (by omega)]; omega
      have t3 : decide (3 ≤ (g : Int)) = true := by simp; omega
      have i4 : IntKind.i64.wrap (97 + (g : Int) + 1) = 97 + (g : Int) + 1 := by rw [IntKind.wrap_i64]; omega
      go_wp2_with (first
       | (go_at_call 36; refine (F.rWord u.k u.n _).mono ?_; rintro e w10 ⟨rfl, m10, hw10⟩; rw [hwd]; have hb10 : Below w8.heap.size w8 w10 := (by rw [hw10]; exact F.bdr ((Below.refl _ _).alloc (Nat.le_refl _) _) _); have p10 := p8.below hb10; clear hw10 hb10)
       | (go_at_call 14; refine (yStore p10 (by omega) (97 + (g : Int) + 1) hU).mono ?_; rintro e wA ⟨rfl, hA, oA⟩; have MA := MZ.at_ M1 (i := (1 + g + 1)) (by omega) (show (97 + (g : Int) + 1) = 96 + (((1 + g + 1) : Nat) : Int) by omega) wd; generalize s.store (97 + (g : Int) + 1) wd = sA at hA MA))
      go_roundw
      case rel => exact ⟨g + 1, sA, n + 1, by omega, by go_num, hA, (by have e : gp t l st (g + 1) = _ := (by simp only [gp]; rw [g3_ t l st g _ _ _ h3n, hd, hlx, hwd2]); rw [e]; exact MA), by omega, by omega⟩
      case measure => simp [intOf]; omega
    )
   case neg =>
    have hge : g = 6 := by omega
    have hgi : ¬ (g : Int) < 6 := by omega
    have hn : n = 22 := by omega
    rw [hge] at M1
    rw [hn] at p1
    have hsl := M1.m.len
    have hc2 := p1.top2
    go_wp2_with (fail)
    go_loopw [14] (fun i wr => ∃ (q : Nat) (s1 : St), 96 ≤ q ∧ q ≤ 120 ∧ i = .int .i64 q ∧ Two wa wr b y s1 s (22 + q) ∧ Cpy s1 s (q - 96)) (fun i _ => 120 - (intOf i).toNat)
    case atStart => exact ⟨96, St.new 160, by omega, by omega, rfl, p1.mono (by omega), Cpy.new⟩
    case round =>
     obtain ⟨q, s1, hq0, hq, rfl, q1, C⟩ := hrel
     by_cases hq8 : q < 120
     case pos =>
      have hqi : (q : Int) < 120 := by omega
      obtain ⟨gq, cp, hS⟩ := q1.seen
      have c0 := hS.c0
      rw [hsl] at c0
      have cw := hS.cw q (by omega)
      obtain ⟨v, hv⟩ : ∃ v, s.ws.getD q 0 = v := ⟨_, rfl⟩
      rw [hv] at cw
      have hw : s.word (96 + ((q - 96 : Nat) : Int)) = v := by rw [show (96 : Int) + ((q - 96 : Nat) : Int) = (q : Int) by omega]; simpa [St.word] using hv
      have hU : U64 v := by rw [← hv, List.getD_eq_getElem?_getD]; exact (by rw [List.getElem?_eq_getElem (by omega)]; exact q1.rng2 _ (List.getElem_mem _) : U64 (s.ws[q]?.getD 0))
      have ly := hS.ly
      clear hS
      go_wp2_with (go_at_call 13; refine (tStore q1 (by omega) (q : Int) hU).mono ?_; rintro e w20 ⟨rfl, q2, o2⟩)
      go_roundw
      case rel => exact ⟨q + 1, _, by omega, by omega, by go_num, q2, (by have c := C.step (by omega); rw [hw, show (96 : Int) + ((q - 96 : Nat) : Int) = (q : Int) by omega, show q - 96 + 1 = q + 1 - 96 by omega] at c; exact c)⟩
      case measure => simp [intOf]; omega
     case neg =>
      obtain rfl : q = 120 := by omega
      have cc : s1.c = 24 := C.c
      obtain ⟨yc, yf⟩ := q1.cnt2
      have hone := q1.one
      go_wp2_with (go_at_call 40; refine (hCount hone).mono ?_; rintro e w21 ⟨rfl, hw21⟩; rw [hw21, cc]; clear hw21 w21)
      have q3 := q1.setC (c := 24) (by omega) (by omega) (by omega)
      have ews : s1.ws = s.ws := C.all M1
      exact bodyPost_ret (v := .tuple #[.pointer (some ⟨b, 0, none⟩), .pointer (some ⟨y, 0, none⟩)]) (by simp [results, Tryz.results10, go_sem]) rfl ⟨b, y, s1, { s with c := 24 }, rfl, (q3.tight50 (by omega) (show (24 : Int) ≤ 50 by decide)).lift a0 W, ews, M1.m.of_ws ews C.t⟩
 )
end
end Go.Proofs.YtpcoldpphihfmaaGreatDoor
