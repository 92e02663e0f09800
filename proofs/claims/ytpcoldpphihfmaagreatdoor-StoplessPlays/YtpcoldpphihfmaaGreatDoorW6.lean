import Derived.Test.YtpcoldpphihfmaaGreatDoorYsa
import Derived.Test.YtpcoldpphihfmaaGreatDoorYc
import Derived.Test.YtpcoldpphihfmaaGreatDoorYq
import Derived.Test.YtpcoldpphihfmaaGreatDoorVgo
import Derived.Test.YtpcoldpphihfmaaGreatDoorVl
import Derived.Deep.Cut
import Derived.Deep.RegionHeld3
namespace Go.Proofs.YtpcoldpphihfmaaGreatDoor
set_option linter.unusedVariables false
set_option linter.unusedSimpArgs false
set_option maxRecDepth 100000
open Go.ChangeShapes Go.WideShapes Go.RowKit
theorem reqP_ok (q : Op15) : (reqP q).Ok := by
 have h1 := kd_lt q.ac 4 (by decide)
 have h2 := kd_lt q.fd 4 (by decide)
 have h3 : 0 ≤ atP (kd q.ob 4).toNat ∧ atP (kd q.ob 4).toNat < 128 ∧ (atP (kd q.ob 4).toNat = 0 ∨ 96 ≤ atP (kd q.ob 4).toNat) := by
  unfold atP
  split <;> omega
 refine ⟨?_, h3.1, by show atP (kd q.ob 4).toNat < 4096; omega, h2.1, ?_⟩
 ·show 1 + kd q.ac 4 % 3 = 1 ∨ 1 + kd q.ac 4 % 3 = 2 ∨ 1 + kd q.ac 4 % 3 = 3
  omega
 ·show kd q.fd 4 < 4096
  omega
set_option maxHeartbeats 12000000 in
theorem wStoplessPlays (tg : Int) (at_ : Option Addr) (lt ct : Nat) (zt : Nat → Int) (av : Option Addr) (ll cv' : Nat) (zl : Nat → Vl) (ao : Option Addr) (lo co : Nat) (zo : Nat → Op15) (ap : Option Addr) (lp cp : Nat) (zp : Nat → Int) (tg0 : -9223372036854775808 ≤ tg) (tg1 : tg ≤ 9223372036854775807) (w : World) (L : Laid w) (ci : CameI w at_ lt zt) (cv : CameV w av ll zl) (oo : CameO w ao lo zo) (ip : CameI w ap lp zp) :
  Calls Tryz.prog 3 #[.agg #[.int .i64 tg, .slice at_ lt ct, .slice av ll cv'], .slice ao lo co, .slice ap lp cp] w fun e w' => e = .returned (.bool true) ∧ Below w.heap.size w w' := by
 obtain ⟨W, Bw⟩ := L
 go_enter Tryz.func3, Tryz.ntmps3
 go_upto_region 1 with (fail)
 have hb0 : Below w.heap.size w (w.alloc (.cells #[.int .i64 tg, .slice at_ lt ct, .slice av ll cv'] 25)) := (Below.refl _ _).alloc (Nat.le_refl _) _
 have P0 : Blk w (w.alloc (.cells #[.int .i64 tg, .slice at_ lt ct, .slice av ll cv'] 25)) w.heap.size 25 #[.int .i64 tg, .slice at_ lt ct, .slice av ll cv'] := Blk.new (Nat.le_refl _) _ (by decide)
 generalize w.alloc (.cells #[.int .i64 tg, .slice at_ lt ct, .slice av ll cv'] 25) = w0 at hb0 P0 ⊢
 generalize hpb : w.heap.size = pb at P0 ⊢
 go_upto_region 2 with (go_at_call 9; refine (cShown _ ⟨W.on (hpb ▸ hb0), Bw.on (hpb ▸ hb0)⟩).mono ?_; rintro e w1 ⟨rfl, hb1'⟩; have hb1 : Below w.heap.size w w1 := bel_trans (hpb ▸ hb0) hb1'; have P1 := P0.below hb1'; clear hb1')
 have d0 : w1.cell? ⟨pb, 0, none⟩ = some (.int .i64 tg) := P1.cell 0
 have d1 : w1.cell? ⟨pb, 1, none⟩ = some (.slice at_ lt ct) := P1.cell 1
 have dl := P1.lt
 have d2 : w1.cell? ⟨pb, 2, none⟩ = some (.slice av ll cv') := P1.cell 2
 go_upto_region 3 with (go_at_call 10; refine (cLaid _ (W.on hb1) (ci.on hb1) (cv.on hb1) tg0 tg1).mono ?_; rintro e w2 ⟨b, y, S1, S2, rfl, h2, hSw, hSM⟩; have hSl : S1.ws.length = 160 := hSM.len; have T2 := h2.lift hb1 W; clear h2 hSM)
 clear d0 d1 d2 dl P0 P1 hb0 hb1
 go_upto_region 5 with (fail)
 have aA : Below w2.heap.size w2 (w2.alloc (.cells #[.pointer none, .pointer none, .pointer none] 33)) := (Below.refl _ _).alloc (Nat.le_refl _) _
 have A3 : Blk w (w2.alloc (.cells #[.pointer none, .pointer none, .pointer none] 33)) w2.heap.size 33 #[.pointer none, .pointer none, .pointer none] := Blk.new T2.bel.size _ (by decide)
 have T3 := T2.below aA
 go_upto_region 6 with (fail)
 generalize w2.alloc (.cells #[.pointer none, .pointer none, .pointer none] 33) = w3 at A3 T3 ⊢
 generalize w2.heap.size = ab at A3 ⊢
 clear aA T2
 have aB : Below w3.heap.size w3 (w3.alloc (.cells #[.pointer none, .pointer none, .pointer none] 35)) := (Below.refl _ _).alloc (Nat.le_refl _) _
 have R4 : Blk w (w3.alloc (.cells #[.pointer none, .pointer none, .pointer none] 35)) w3.heap.size 35 #[.pointer none, .pointer none, .pointer none] := Blk.new T3.bel.size _ (by decide)
 have T4 := T3.below aB
 have A4 := A3.below aB
 go_upto_region 7 with (fail)
 generalize w3.alloc (.cells #[.pointer none, .pointer none, .pointer none] 35) = w4 at R4 T4 A4 ⊢
 generalize w3.heap.size = rb at R4 ⊢
 clear aB T3 A3
 have N4 : Now w w4 b y ab rb 50 (fun _ => .pointer none) (fun _ => .pointer none) (fun _ => []) (fun _ => .fin false Ou.zero) S1 S2 := ⟨T4, hSl, hSw, A4, R4, team_none⟩
 clear R4 T4 A4
 go_wp2_with (fail)
 go_loopw [12, 13] (fun nx i wr => ∃ j n : Nat, j ≤ 300 ∧ j ≤ lp ∧ i = .int .i64 j ∧ n ≤ 30 ∧ nx = .int .i64 n ∧ ∃ pa pr F x s1 s2, Now w wr b y ab rb (50 + 2 * j) pa pr F x s1 s2) (fun _ i _ => 300 - (intOf i).toNat)
 case atStart => exact ⟨0, 0, Nat.zero_le _, Nat.zero_le _, rfl, Nat.zero_le _, rfl, _, _, _, _, _, _, N4⟩
 case round =>
  obtain ⟨j, n, hj, hjl, rfl, hn, rfl, pa, pr, F, x, s1, s2, M⟩ := hrel
  clear N4
  by_cases hjp : j < lp
  case neg =>
   have hd1 : decide ((j : Int) < (lp : Int)) = false := by simp; omega
   as_aux_lemma =>
    go_wp2_with (first
     | (go_at_call 24; refine (cSame2 M.two M.len M.ws (by omega)).mono ?_; rintro e w9 ⟨rfl, hb9⟩)
     | (go_at_call 25; refine (cPair 104 2 (by decide) (by decide) (by decide) (by decide) _).mono ?_; rintro e wk ⟨rfl, hwk⟩; rw [hwk, show pairP 104 2 = 110 by decide]; clear hwk wk)
     | (go_at_call 26; refine (yPair 104 2 (by decide) (by decide) (by decide) (by decide) _).mono ?_; rintro e wk ⟨rfl, hwk⟩; rw [hwk, show pairP 104 2 = 110 by decide]; clear hwk wk))
    go_ret
    exact ⟨rfl, bel_trans M.two.bel hb9⟩
  case pos =>
   by_cases hj3 : j < 300
   case neg =>
    have hd1 : decide ((j : Int) < (lp : Int)) = true := by simp; omega
    have hd2 : decide ((j : Int) < 300) = false := by simp; omega
    as_aux_lemma =>
     go_wp2_with (first
      | (go_at_call 24; refine (cSame2 M.two M.len M.ws (by omega)).mono ?_; rintro e w9 ⟨rfl, hb9⟩)
      | (go_at_call 25; refine (cPair 104 2 (by decide) (by decide) (by decide) (by decide) _).mono ?_; rintro e wk ⟨rfl, hwk⟩; rw [hwk, show pairP 104 2 = 110 by decide]; clear hwk wk)
      | (go_at_call 26; refine (yPair 104 2 (by decide) (by decide) (by decide) (by decide) _).mono ?_; rintro e wk ⟨rfl, hwk⟩; rw [hwk, show pairP 104 2 = 110 by decide]; clear hwk wk))
     go_ret
     exact ⟨rfl, bel_trans M.two.bel hb9⟩
   case pos =>
    have hd1 : decide ((j : Int) < (lp : Int)) = true := by simp; omega
    have hd2 : decide ((j : Int) < 300) = true := by simp; omega
    obtain ⟨kb, koff, rfl, hkb, hz⟩ : ∃ b off, ap = some ⟨b, off, none⟩ ∧ b < wr.heap.size ∧ ∀ j, j < lp → wr.cell? ⟨b, off + j, none⟩ = some (.int .i64 (zp j)) ∧ -9223372036854775808 ≤ zp j ∧ zp j ≤ 9223372036854775807 := (ip.on M.two.bel).resolve_left (by omega)
    obtain ⟨d0, dl, du⟩ := hz j hjp
    obtain ⟨z, hzz⟩ : ∃ z, zp j = z := ⟨_, rfl⟩
    rw [hzz] at d0 dl du
    clear hz hzz
    obtain ⟨kk, hkk, hk3⟩ : ∃ kk : Nat, kd z 3 = (kk : Int) ∧ kk < 3 := ⟨(kd z 3).toNat, by have := kd_lt z 3 (by decide); omega, by have := kd_lt z 3 (by decide); omega⟩
    have hki : (0 : Int) ≤ (kk : Int) ∧ (kk : Int) < 3 := by omega
    rcases M.team.either hk3 with hpk | ⟨p, hpk⟩
    ·have ca := M.ca hk3 hpk
     have al := M.ab.lt
     by_cases hno : n < lo ∧ n < 30
     ·have hd3 : decide ((n : Int) ≥ (lo : Int)) = false := by simp; omega
      have hd4 : decide ((n : Int) ≥ 30) = false := by simp; omega
      obtain ⟨cb, coff, rfl, Oo⟩ : ∃ b off, ao = some ⟨b, off, none⟩ ∧ OpsO w b off lo zo := oo.resolve_left (by omega)
      obtain ⟨q, hq⟩ : ∃ q, zo n = q := ⟨_, rfl⟩
      have fq : q.Fit := hq ▸ Oo.fit n hno.1
      have O2 := Oo.on M.two.bel
      have g0 : wr.cell? ⟨cb, coff + n * 15, none⟩ = some (.int .i64 q.ob) := hq ▸ O2.c0 n hno.1
      have g1 : wr.cell? ⟨cb, coff + n * 15 + 1, none⟩ = some (.int .i64 q.fd) := hq ▸ O2.c1 n hno.1
      have g2 : wr.cell? ⟨cb, coff + n * 15 + 2, none⟩ = some (.int .i64 q.ac) := hq ▸ O2.c2 n hno.1
      have g3 : wr.cell? ⟨cb, coff + n * 15 + 3, none⟩ = some (.int .i64 q.md) := hq ▸ O2.c3 n hno.1
      have g4 : wr.cell? ⟨cb, coff + n * 15 + 4, none⟩ = some (.int .i64 q.x.k) := hq ▸ O2.c4 n hno.1
      have g5 : wr.cell? ⟨cb, coff + n * 15 + 5, none⟩ = some (.int .i64 q.x.n) := hq ▸ O2.c5 n hno.1
      have g6 : wr.cell? ⟨cb, coff + n * 15 + 6, none⟩ = some (.int .i64 q.y.k) := hq ▸ O2.c6 n hno.1
      have g7 : wr.cell? ⟨cb, coff + n * 15 + 7, none⟩ = some (.int .i64 q.y.n) := hq ▸ O2.c7 n hno.1
      have g8 : wr.cell? ⟨cb, coff + n * 15 + 8, none⟩ = some (.int .i64 q.hS) := hq ▸ O2.c8 n hno.1
      have g9 : wr.cell? ⟨cb, coff + n * 15 + 9, none⟩ = some (.int .i64 q.hC) := hq ▸ O2.c9 n hno.1
      have g10 : wr.cell? ⟨cb, coff + n * 15 + 10, none⟩ = some (.int .i64 q.hN) := hq ▸ O2.c10 n hno.1
      have g11 : wr.cell? ⟨cb, coff + n * 15 + 11, none⟩ = some (.int .i64 q.hM) := hq ▸ O2.c11 n hno.1
      have g12 : wr.cell? ⟨cb, coff + n * 15 + 12, none⟩ = some (.int .i64 q.hG) := hq ▸ O2.c12 n hno.1
      have g13 : wr.cell? ⟨cb, coff + n * 15 + 13, none⟩ = some (.int .i64 q.hT) := hq ▸ O2.c13 n hno.1
      have g14 : wr.cell? ⟨cb, coff + n * 15 + 14, none⟩ = some (.int .i64 q.hL) := hq ▸ O2.c14 n hno.1
      have gl := O2.lt
      have hn2 : (n : Int) < (lo : Int) := by omega
      clear O2 hq
      go_upto_region 14 with (go_at_call 11; refine (cKind _ z 3 dl du (by decide)).mono ?_; rintro e wk ⟨rfl, hwk⟩; rw [hwk, hkk]; clear hwk wk)
      clear ca d0 hkb
      go_upto_region 15 with (fail)
      clear g0 g1 g2 g3 g4 g5 g6 g7 g8 g9 g10 g11 g12 g13 g14 gl
      have a1 : Below wr.heap.size wr (wr.alloc (.cells #[.int .i64 q.ob, .int .i64 q.fd, .int .i64 q.ac, .int .i64 q.md, .int .i64 q.x.k, .int .i64 q.x.n, .int .i64 q.y.k, .int .i64 q.y.n, .int .i64 q.hS, .int .i64 q.hC, .int .i64 q.hN, .int .i64 q.hM, .int .i64 q.hG, .int .i64 q.hT, .int .i64 q.hL] 42)) := (Below.refl _ _).alloc (Nat.le_refl _) _
      have C1 : Blk w (wr.alloc (.cells #[.int .i64 q.ob, .int .i64 q.fd, .int .i64 q.ac, .int .i64 q.md, .int .i64 q.x.k, .int .i64 q.x.n, .int .i64 q.y.k, .int .i64 q.y.n, .int .i64 q.hS, .int .i64 q.hC, .int .i64 q.hN, .int .i64 q.hM, .int .i64 q.hG, .int .i64 q.hT, .int .i64 q.hL] 42)) wr.heap.size 42 #[.int .i64 q.ob, .int .i64 q.fd, .int .i64 q.ac, .int .i64 q.md, .int .i64 q.x.k, .int .i64 q.x.n, .int .i64 q.y.k, .int .i64 q.y.n, .int .i64 q.hS, .int .i64 q.hC, .int .i64 q.hN, .int .i64 q.hM, .int .i64 q.hG, .int .i64 q.hT, .int .i64 q.hL] := Blk.new M.two.bel.size _ (by decide)
      have M1 := M.below a1
      have D1 : Mid w wr (wr.alloc (.cells #[.int .i64 q.ob, .int .i64 q.fd, .int .i64 q.ac, .int .i64 q.md, .int .i64 q.x.k, .int .i64 q.x.n, .int .i64 q.y.k, .int .i64 q.y.n, .int .i64 q.hS, .int .i64 q.hC, .int .i64 q.hN, .int .i64 q.hM, .int .i64 q.hG, .int .i64 q.hT, .int .i64 q.hL] 42)) b y ab rb wr.heap.size (50 + 2 * j) pa pr s1 s2 #[.int .i64 q.ob, .int .i64 q.fd, .int .i64 q.ac, .int .i64 q.md, .int .i64 q.x.k, .int .i64 q.x.n, .int .i64 q.y.k, .int .i64 q.y.n, .int .i64 q.hS, .int .i64 q.hC, .int .i64 q.hN, .int .i64 q.hM, .int .i64 q.hG, .int .i64 q.hT, .int .i64 q.hL] := ⟨Oth.below a1, M1.two, M1.ab, M1.rb, C1⟩
      generalize wr.alloc (.cells #[.int .i64 q.ob, .int .i64 q.fd, .int .i64 q.ac, .int .i64 q.md, .int .i64 q.x.k, .int .i64 q.x.n, .int .i64 q.y.k, .int .i64 q.y.n, .int .i64 q.hS, .int .i64 q.hC, .int .i64 q.hN, .int .i64 q.hM, .int .i64 q.hG, .int .i64 q.hT, .int .i64 q.hL] 42) = v1 at C1 M1 D1 ⊢
      generalize hobw : wr.heap.size = ob at C1 D1 ⊢
      clear a1 hobw
      have h2 : v1.cell? ⟨ob, 2, none⟩ = some (.int .i64 q.ac) := C1.cell 2
      have ol := C1.lt
      obtain ⟨m4, hm4⟩ : ∃ m, kd q.ac 4 = m := ⟨_, rfl⟩
      by_cases h43 : m4 = 3
      ·have c4 : (m4 == 3) = true := by simp [h43]
       clear h43
       as_aux_lemma =>
        have e8 : v1.cell? ⟨ob, 8, none⟩ = some (.int .i64 q.hS) := C1.cell 8
        have e9 : v1.cell? ⟨ob, 9, none⟩ = some (.int .i64 q.hC) := C1.cell 9
        have e10 : v1.cell? ⟨ob, 10, none⟩ = some (.int .i64 q.hN) := C1.cell 10
        have e11 : v1.cell? ⟨ob, 11, none⟩ = some (.int .i64 q.hM) := C1.cell 11
        have e12 : v1.cell? ⟨ob, 12, none⟩ = some (.int .i64 q.hG) := C1.cell 12
        have e13 : v1.cell? ⟨ob, 13, none⟩ = some (.int .i64 q.hT) := C1.cell 13
        have e14 : v1.cell? ⟨ob, 14, none⟩ = some (.int .i64 q.hL) := C1.cell 14
        obtain ⟨v, hv⟩ : ∃ v, H.Plain.hw q.hS q.hC q.hN q.hM q.hG q.hT q.hL = v := ⟨_, rfl⟩
        have hU : U64 v := hv ▸ u64_hw _ _ _ _ _ _ _
        have l' : (s1.store 96 v).ws.length = 160 := by rw [St.n_store]; exact M.len
        have ew' := y_store M.ws 96 v
        obtain ⟨s', hs'⟩ : ∃ u, s1.store 96 v = u := ⟨_, rfl⟩
        obtain ⟨t', ht'⟩ : ∃ u, s2.store 96 v = u := ⟨_, rfl⟩
        rw [hs'] at l'
        rw [hs', ht'] at ew'
        go_wp2_with (first
         | (go_at_call 11; refine (cKind _ q.ac 4 fq.ac.1 fq.ac.2 (by decide)).mono ?_; rintro e wk ⟨rfl, hwk⟩; rw [hwk, hm4]; clear hwk wk)
         | (go_at_call 12; refine (H.rWord q.hS q.hC q.hN q.hM q.hG q.hT q.hL _).mono ?_; rintro e v2 ⟨rfl, hv2⟩; rw [hv]; have M2 := M1.below (hv2 ▸ (Below.refl _ _).alloc (Nat.le_refl _) _ : Below v1.heap.size v1 v2); clear hv2)
         | (go_at_call 13; refine (tStore M2.two (by omega) 96 hU).mono ?_; rintro e v3 ⟨rfl, T3, o3⟩; rw [hs'] at T3)
         | (go_at_call 14; refine (yStore T3 (by omega) 96 hU).mono ?_; rintro e v4 ⟨rfl, T4, o4⟩; rw [ht'] at T4; have M4 := M2.stored T4 l' ew' (o3.trans o4)))
        go_roundw
        case rel => exact ⟨j + 1, n + 1, by omega, by omega, by go_num, by omega, by go_num, pa, pr, F, x, s', t', M4.mono (by omega)⟩
        case measure => simp [intOf]; omega
      ·have c4 : (m4 == 3) = false := by simpa using h43
       clear h43 M1
       obtain ⟨r, hr⟩ : ∃ r, reqP q = r := ⟨_, rfl⟩
       obtain ⟨en, hen⟩ : ∃ e, envP q = e := ⟨_, rfl⟩
       have rok : r.Ok := hr ▸ reqP_ok q
       have hrc : (reqP q).cells = #[.int .i64 r.op, .int .i64 r.at_, .int .i64 r.fd, .int .i64 r.x.k, .int .i64 r.x.n, .int .i64 r.y.k, .int .i64 r.y.n] := by rw [hr]; rfl
       obtain ⟨x1, hx1⟩ : ∃ x, Cw.new r en = x := ⟨_, rfl⟩
       have okx : x1.Ok := hx1 ▸ Cw.ok_new rok
       clear hr
       go_upto_region 20 with (go_at_call 11; refine (cKind _ q.ac 4 fq.ac.1 fq.ac.2 (by decide)).mono ?_; rintro e wk ⟨rfl, hwk⟩; rw [hwk, hm4]; clear hwk wk)
       clear h2 ol C1 c4 hm4
       have D2 := D1.below (Below.refl _ v1).drew
       refine wp_region_held_drew (S := fun w' => w'.cell? ⟨ob, 0, none⟩ = some (.int .i64 q.ob) ∧ w'.cell? ⟨ob, 1, none⟩ = some (.int .i64 q.fd) ∧ w'.cell? ⟨ob, 2, none⟩ = some (.int .i64 q.ac) ∧ w'.cell? ⟨ob, 3, none⟩ = some (.int .i64 q.md) ∧ w'.cell? ⟨ob, 4, none⟩ = some (.int .i64 q.x.k) ∧ w'.cell? ⟨ob, 5, none⟩ = some (.int .i64 q.x.n) ∧ w'.cell? ⟨ob, 6, none⟩ = some (.int .i64 q.y.k) ∧ w'.cell? ⟨ob, 7, none⟩ = some (.int .i64 q.y.n) ∧ w'.cell? ⟨ob, 8, none⟩ = some (.int .i64 q.hS) ∧ w'.cell? ⟨ob, 9, none⟩ = some (.int .i64 q.hC) ∧ w'.cell? ⟨ob, 10, none⟩ = some (.int .i64 q.hN) ∧ w'.cell? ⟨ob, 11, none⟩ = some (.int .i64 q.hM) ∧ w'.cell? ⟨ob, 12, none⟩ = some (.int .i64 q.hG) ∧ w'.cell? ⟨ob, 13, none⟩ = some (.int .i64 q.hT) ∧ w'.cell? ⟨ob, 14, none⟩ = some (.int .i64 q.hL)) (by kernel_rfl) ⟨D2.op.cell 0, D2.op.cell 1, D2.op.cell 2, D2.op.cell 3, D2.op.cell 4, D2.op.cell 5, D2.op.cell 6, D2.op.cell 7, D2.op.cell 8, D2.op.cell 9, D2.op.cell 10, D2.op.cell 11, D2.op.cell 12, D2.op.cell 13, D2.op.cell 14⟩ (fun hHeld => ?_)
       generalize v1.drew = v2 at D2 hHeld ⊢
       refine tkH (i := 0) 80 (.int .i64 kk) rfl rfl ?_
       simp only [sA1, sA2, sA3]
       refine tkH (i := 1) 81 (.agg #[.int .i64 q.ob, .int .i64 q.fd, .int .i64 q.ac, .int .i64 q.md, .int .i64 q.x.k, .int .i64 q.x.n, .int .i64 q.y.k, .int .i64 q.y.n, .int .i64 q.hS, .int .i64 q.hC, .int .i64 q.hN, .int .i64 q.hM, .int .i64 q.hG, .int .i64 q.hT, .int .i64 q.hL]) rfl rfl ?_
       simp only [sA1, sA2, sA3]
       refine tkH (i := 3) 83 (.agg #[.int .i64 q.ob, .int .i64 q.fd, .int .i64 q.ac, .int .i64 q.md, .int .i64 q.x.k, .int .i64 q.x.n, .int .i64 q.y.k, .int .i64 q.y.n, .int .i64 q.hS, .int .i64 q.hC, .int .i64 q.hN, .int .i64 q.hM, .int .i64 q.hG, .int .i64 q.hT, .int .i64 q.hL]) rfl rfl ?_
       simp only [sA1, sA2, sA3]
       refine rd1 2 rfl fun K hK => ?_
       go_simp
       refine (cReq q fq _).mono ?_
       rintro e v3 ⟨rfl, hb⟩
       rw [hrc]
       have D3 := D2.below hb
       clear hb
       refine hK.out _ _ ⟨D3.op.cell 0, D3.op.cell 1, D3.op.cell 2, D3.op.cell 3, D3.op.cell 4, D3.op.cell 5, D3.op.cell 6, D3.op.cell 7, D3.op.cell 8, D3.op.cell 9, D3.op.cell 10, D3.op.cell 11, D3.op.cell 12, D3.op.cell 13, D3.op.cell 14⟩ (fun hHeld => ?_)
       clear hK K
       try simp only [Act.put, sA1, sA2, sA3]
       refine rd1 4 rfl fun K hK => ?_
       go_simp
       refine (cEnv q fq _).mono ?_
       rintro e v4 ⟨rfl, hb⟩
       rw [hen]
       have D4 := D3.below hb
       clear hb
       refine hK.out _ _ ⟨D4.op.cell 0, D4.op.cell 1, D4.op.cell 2, D4.op.cell 3, D4.op.cell 4, D4.op.cell 5, D4.op.cell 6, D4.op.cell 7, D4.op.cell 8, D4.op.cell 9, D4.op.cell 10, D4.op.cell 11, D4.op.cell 12, D4.op.cell 13, D4.op.cell 14⟩ (fun hHeld => ?_)
       clear hK K
       try simp only [Act.put, sA1, sA2, sA3]
       refine rd1 5 rfl fun K hK => ?_
       go_simp
       refine (cNewC r en _).mono ?_
       rintro e v5 ⟨p, rfl, Mc⟩
       rw [hx1] at Mc
       have D5 := D4.below Mc.bel
       have m5 := Mc.cm (w0 := w) D4.two.bel.size okx Bw
       have hp := Nat.le_trans D4.oth.size Mc.new
       clear Mc
       refine hK.out _ _ ⟨D5.op.cell 0, D5.op.cell 1, D5.op.cell 2, D5.op.cell 3, D5.op.cell 4, D5.op.cell 5, D5.op.cell 6, D5.op.cell 7, D5.op.cell 8, D5.op.cell 9, D5.op.cell 10, D5.op.cell 11, D5.op.cell 12, D5.op.cell 13, D5.op.cell 14⟩ (fun hHeld => ?_)
       clear hK K
       try simp only [Act.put, sA1, sA2, sA3]
       refine tkH (i := 6) 86 (.pointer (some ⟨ab, kk, none⟩)) rfl rfl ?_
       simp only [sA1, sA2, sA3]
       have za : v5.cell? ⟨ab, kk, none⟩ = some (.pointer none) := (D5.ab.cell kk).trans (by rw [arr3_get _ hk3, hpk])
       have zf := D5.ab.free kk
       refine rd1 7 rfl fun K hK => ?_
       go_simp
       refine hK.out _ _ ⟨(D5.setA hk3 (pt p)).op.cell 0, (D5.setA hk3 (pt p)).op.cell 1, (D5.setA hk3 (pt p)).op.cell 2, (D5.setA hk3 (pt p)).op.cell 3, (D5.setA hk3 (pt p)).op.cell 4, (D5.setA hk3 (pt p)).op.cell 5, (D5.setA hk3 (pt p)).op.cell 6, (D5.setA hk3 (pt p)).op.cell 7, (D5.setA hk3 (pt p)).op.cell 8, (D5.setA hk3 (pt p)).op.cell 9, (D5.setA hk3 (pt p)).op.cell 10, (D5.setA hk3 (pt p)).op.cell 11, (D5.setA hk3 (pt p)).op.cell 12, (D5.setA hk3 (pt p)).op.cell 13, (D5.setA hk3 (pt p)).op.cell 14⟩ (fun hHeld => ?_)
       clear hK K
       try simp only [Act.put, sA1, sA2, sA3]
       clear za zf hHeld
       have D6 := D5.setA hk3 (pt p)
       have m6 := D5.cmA (k := kk) m5 (pt p)
       refine wpAnyH_done (by kernel_rfl) ?_ _
       generalize v5.setCell ⟨ab, kk, none⟩ (pt p) = v6 at D6 m6 ⊢
       clear D2 D3 D4 D5 m5 D1
       go_upto_region 21 with (fail)
       have D7 := D6.below (Below.refl _ v6).drew
       have m7 := m6.below (Below.refl _ v6).drew
       refine wp_region_held_drew (S := fun w' => w'.cell? ⟨ob, 0, none⟩ = some (.int .i64 q.ob) ∧ w'.cell? ⟨ob, 1, none⟩ = some (.int .i64 q.fd) ∧ w'.cell? ⟨ob, 2, none⟩ = some (.int .i64 q.ac) ∧ w'.cell? ⟨ob, 3, none⟩ = some (.int .i64 q.md) ∧ w'.cell? ⟨ob, 4, none⟩ = some (.int .i64 q.x.k) ∧ w'.cell? ⟨ob, 5, none⟩ = some (.int .i64 q.x.n) ∧ w'.cell? ⟨ob, 6, none⟩ = some (.int .i64 q.y.k) ∧ w'.cell? ⟨ob, 7, none⟩ = some (.int .i64 q.y.n) ∧ w'.cell? ⟨ob, 8, none⟩ = some (.int .i64 q.hS) ∧ w'.cell? ⟨ob, 9, none⟩ = some (.int .i64 q.hC) ∧ w'.cell? ⟨ob, 10, none⟩ = some (.int .i64 q.hN) ∧ w'.cell? ⟨ob, 11, none⟩ = some (.int .i64 q.hM) ∧ w'.cell? ⟨ob, 12, none⟩ = some (.int .i64 q.hG) ∧ w'.cell? ⟨ob, 13, none⟩ = some (.int .i64 q.hT) ∧ w'.cell? ⟨ob, 14, none⟩ = some (.int .i64 q.hL)) (by kernel_rfl) ⟨D7.op.cell 0, D7.op.cell 1, D7.op.cell 2, D7.op.cell 3, D7.op.cell 4, D7.op.cell 5, D7.op.cell 6, D7.op.cell 7, D7.op.cell 8, D7.op.cell 9, D7.op.cell 10, D7.op.cell 11, D7.op.cell 12, D7.op.cell 13, D7.op.cell 14⟩ (fun hHeld => ?_)
       generalize v6.drew = v7 at D7 m7 hHeld ⊢
       refine tkH (i := 0) 87 (.int .i64 kk) rfl rfl ?_
       simp only [sA1, sA2, sA3]
       refine tkH (i := 1) 88 (.agg #[.int .i64 q.ob, .int .i64 q.fd, .int .i64 q.ac, .int .i64 q.md, .int .i64 q.x.k, .int .i64 q.x.n, .int .i64 q.y.k, .int .i64 q.y.n, .int .i64 q.hS, .int .i64 q.hC, .int .i64 q.hN, .int .i64 q.hM, .int .i64 q.hG, .int .i64 q.hT, .int .i64 q.hL]) rfl rfl ?_
       simp only [sA1, sA2, sA3]
       refine tkH (i := 3) 90 (.agg #[.int .i64 q.ob, .int .i64 q.fd, .int .i64 q.ac, .int .i64 q.md, .int .i64 q.x.k, .int .i64 q.x.n, .int .i64 q.y.k, .int .i64 q.y.n, .int .i64 q.hS, .int .i64 q.hC, .int .i64 q.hN, .int .i64 q.hM, .int .i64 q.hG, .int .i64 q.hT, .int .i64 q.hL]) rfl rfl ?_
       simp only [sA1, sA2, sA3]
       refine rd1 2 rfl fun K hK => ?_
       go_simp
       refine (cReq q fq _).mono ?_
       rintro e v8 ⟨rfl, hb⟩
       rw [hrc]
       have D8 := D7.below hb
       have m8 := m7.below hb
       clear hb
       refine hK.out _ _ ⟨D8.op.cell 0, D8.op.cell 1, D8.op.cell 2, D8.op.cell 3, D8.op.cell 4, D8.op.cell 5, D8.op.cell 6, D8.op.cell 7, D8.op.cell 8, D8.op.cell 9, D8.op.cell 10, D8.op.cell 11, D8.op.cell 12, D8.op.cell 13, D8.op.cell 14⟩ (fun hHeld => ?_)
       clear hK K
       try simp only [Act.put, sA1, sA2, sA3]
       refine rd1 4 rfl fun K hK => ?_
       go_simp
       refine (cEnv q fq _).mono ?_
       rintro e v9 ⟨rfl, hb⟩
       rw [hen]
       have D9 := D8.below hb
       have m9 := m8.below hb
       clear hb
       refine hK.out _ _ ⟨D9.op.cell 0, D9.op.cell 1, D9.op.cell 2, D9.op.cell 3, D9.op.cell 4, D9.op.cell 5, D9.op.cell 6, D9.op.cell 7, D9.op.cell 8, D9.op.cell 9, D9.op.cell 10, D9.op.cell 11, D9.op.cell 12, D9.op.cell 13, D9.op.cell 14⟩ (fun hHeld => ?_)
       clear hK K
       try simp only [Act.put, sA1, sA2, sA3]
       refine rd1 5 rfl fun K hK => ?_
       go_simp
       refine (rNewC (w0 := w) r en _ D9.two.bel.size rok).mono ?_
       rintro e v10 ⟨qq, F', rfl, hb, hq1, hF1, Mr10⟩
       rw [hx1] at Mr10
       have D10 := D9.below hb
       have m10 := m9.below hb
       have hqq := Nat.le_trans D9.oth.size hq1
       have hF := fun i hi => Nat.le_trans D9.oth.size (hF1 i hi)
       clear hb hq1 hF1
       refine hK.out _ _ ⟨D10.op.cell 0, D10.op.cell 1, D10.op.cell 2, D10.op.cell 3, D10.op.cell 4, D10.op.cell 5, D10.op.cell 6, D10.op.cell 7, D10.op.cell 8, D10.op.cell 9, D10.op.cell 10, D10.op.cell 11, D10.op.cell 12, D10.op.cell 13, D10.op.cell 14⟩ (fun hHeld => ?_)
       clear hK K
       try simp only [Act.put, sA1, sA2, sA3]
       refine tkH (i := 6) 93 (.pointer (some ⟨rb, kk, none⟩)) rfl rfl ?_
       simp only [sA1, sA2, sA3]
       have za : v10.cell? ⟨rb, kk, none⟩ = some (pr kk) := (D10.rb.cell kk).trans (by rw [arr3_get _ hk3])
       have zf := D10.rb.free kk
       refine rd1 7 rfl fun K hK => ?_
       go_simp
       refine hK.out _ _ ⟨(D10.setR hk3 (pt qq)).op.cell 0, (D10.setR hk3 (pt qq)).op.cell 1, (D10.setR hk3 (pt qq)).op.cell 2, (D10.setR hk3 (pt qq)).op.cell 3, (D10.setR hk3 (pt qq)).op.cell 4, (D10.setR hk3 (pt qq)).op.cell 5, (D10.setR hk3 (pt qq)).op.cell 6, (D10.setR hk3 (pt qq)).op.cell 7, (D10.setR hk3 (pt qq)).op.cell 8, (D10.setR hk3 (pt qq)).op.cell 9, (D10.setR hk3 (pt qq)).op.cell 10, (D10.setR hk3 (pt qq)).op.cell 11, (D10.setR hk3 (pt qq)).op.cell 12, (D10.setR hk3 (pt qq)).op.cell 13, (D10.setR hk3 (pt qq)).op.cell 14⟩ (fun hHeld => ?_)
       clear hK K
       try simp only [Act.put, sA1, sA2, sA3]
       clear za zf hHeld
       have D11 := D10.setR hk3 (pt qq)
       have m11 := D10.cmR (k := kk) m10 (pt qq)
       have Mr11 := D10.rcR (k := kk) Mr10 (pt qq)
       refine wpAnyH_done (by kernel_rfl) ?_ _
       generalize v10.setCell ⟨rb, kk, none⟩ (pt qq) = v11 at D11 m11 Mr11 ⊢
       clear D7 D8 D9 D10 m7 m8 m9 m10 Mr10 D6 m6
       have N9 := Mid.now M D11 hk3 hp hqq hF m11 Mr11
       clear D11 m11 Mr11 hp hqq hF hrc hen rok okx hx1 fq
       obtain ⟨pa9, hpa9⟩ : ∃ f, updN pa kk (pt p) = f := ⟨_, rfl⟩
       obtain ⟨pr9, hpr9⟩ : ∃ f, updN pr kk (pt qq) = f := ⟨_, rfl⟩
       obtain ⟨F9, hF9⟩ : ∃ f, updN F kk (p :: qq :: F') = f := ⟨_, rfl⟩
       obtain ⟨x9, hx9⟩ : ∃ f, updN x kk x1 = f := ⟨_, rfl⟩
       have hpk9 : pa9 kk = pt p := hpa9 ▸ updN_at _ _ _
       rw [hpa9, hpr9, hF9, hx9] at N9
       clear hpa9 hpr9 hF9 hx9 hpk M
       obtain ⟨qq, F', e2, e3, m, Mr⟩ := N9.team.busy hk3 hpk9
       obtain ⟨x0, hx0⟩ : ∃ u, x9 kk = u := ⟨_, rfl⟩
       rw [hx0] at m Mr
       obtain ⟨x', hx'⟩ : ∃ u, x0.next s1 = u := ⟨_, rfl⟩
       have hx2 : x0.next s2 = x' := (x0.next_ws N9.ws).symm.trans hx'
       obtain ⟨s', hs'⟩ : ∃ u, x0.mem s1 = u := ⟨_, rfl⟩
       obtain ⟨t', ht'⟩ : ∃ u, x0.mem s2 = u := ⟨_, rfl⟩
       have l' : s'.ws.length = 160 := by rw [← hs', Cw.len m.ok]; exact N9.len
       have ew' : s'.ws = t'.ws := by rw [← hs', ← ht']; exact x0.mem_ws N9.ws
       have ok' : x'.Ok := hx' ▸ m.ok.next N9.two.rng1
       have okm := m.ok
       obtain ⟨⟨oc, ⟨vk, vn⟩, oy⟩, hoo⟩ : ∃ o, x'.o = o := ⟨_, rfl⟩
       have hval : x'.o.val = .agg #[.int .i64 oc, .int .i64 vk, .int .i64 vn, .bool oy] := by rw [hoo]; rfl
       have eo := neOut ⟨oc, ⟨vk, vn⟩, oy⟩
       simp only at eo
       obtain ⟨hh, hhh⟩ : ∃ v, x'.hit = v := ⟨_, rfl⟩
       have bq2 := neBool hh
       have ca := N9.ca hk3 hpk9
       have al := N9.ab.lt
       clear hx0 hoo
       rcases hdn : x'.done with _ | _
       ·as_aux_lemma =>
         have bq1 := neBool false
         go_upto_region 25 with (first
          | (go_at_call 19; refine (tC N9.two m (by omega)).mono ?_; rintro e u1 ⟨rfl, T1, m1, o1⟩; rw [hx'] at m1 ⊢; rw [hs'] at T1; rw [hdn]))
         clear ca al
         obtain ⟨Mr1, A1, R1⟩ := N9.half m Mr o1
         have cr : u1.cell? ⟨rb, kk, none⟩ = some (pt qq) := (R1.cell kk).trans (by rw [arr3_get _ hk3, e2])
         have rl := R1.lt
         go_upto_region 26 with (go_at_call 20; refine (xC T1 Mr1 okm (by omega)).mono ?_; rintro e u2 ⟨rfl, T2, o2, F2, M2, fr⟩; rw [hx2] at M2 ⊢; rw [ht'] at T2; rw [hdn])
         clear cr rl
         obtain ⟨N2, m2⟩ := N9.whole hk3 hpk9 e2 e3 m Mr o1 m1 o2 T2 l' ew' M2 fr
         have sh := M2.shown
         rw [hhh] at sh
         have ml := M2.lt
         have ca := N2.ca hk3 hpk9
         have cr := N2.cr hk3 e2
         have al := N2.ab.lt
         have rl := N2.rb.lt
         have keep : ∀ w', Below u2.heap.size u2 w' → Below u2.heap.size u2 w' ∧ w'.cell? ⟨ab, kk, none⟩ = some (pt p) ∧ w'.cell? ⟨rb, kk, none⟩ = some (pt qq) ∧ w'.cell? ⟨qq, 19, none⟩ = some (.bool hh) := fun w' hb => ⟨hb, bcell hb al ca, bcell hb rl cr, bcell hb ml sh⟩
         have hbd : Below u2.heap.size u2 u2.drew := (Below.refl _ _).drew
         have RD := keep _ hbd
         have onA : ∀ w', Below u2.heap.size u2 w' ∧ w'.cell? ⟨ab, kk, none⟩ = some (pt p) ∧ w'.cell? ⟨rb, kk, none⟩ = some (pt qq) ∧ w'.cell? ⟨qq, 19, none⟩ = some (.bool hh) → Cm w w' p x' := fun w' hs => m2.below hs.1
         have onB : ∀ w', Below u2.heap.size u2 w' ∧ w'.cell? ⟨ab, kk, none⟩ = some (pt p) ∧ w'.cell? ⟨rb, kk, none⟩ = some (pt qq) ∧ w'.cell? ⟨qq, 19, none⟩ = some (.bool hh) → RCm w w' qq F2 x' := fun w' hs => M2.below hs.1
         clear ca cr al rl ml sh e3 Mr1 A1 R1 o1 o2 T1 T2 m1 fr m Mr
         go_region_held3 (fun w' => Below u2.heap.size u2 w' ∧ w'.cell? ⟨ab, kk, none⟩ = some (pt p) ∧ w'.cell? ⟨rb, kk, none⟩ = some (pt qq) ∧ w'.cell? ⟨qq, 19, none⟩ = some (.bool hh)) (first | assumption | exact RD | exact keep _ (by assumption))
          (first
           | (go_at_call 21; refine (cCHit (onA _ (by assumption))).mono ?_; rintro e v0 ⟨rfl, hv0⟩; rw [hv0, hhh]; clear hv0 v0)
           | (go_at_call 22; refine (cCResult (onA _ (by assumption))).mono ?_; rintro e v1 ⟨rfl, hbv1⟩; rw [hval]; have hq1 : Below u2.heap.size u2 v1 := bel_trans (by exact And.left (by assumption)) hbv1; clear hbv1)
           | (go_at_call 23; refine (rCResult (onB _ (by assumption)) ok').mono ?_; rintro e v2 ⟨rfl, hbv2⟩; rw [hval]; have hq2 : Below u2.heap.size u2 v2 := bel_trans (by exact And.left (by assumption)) hbv2; clear hbv2))
         all_goals (
          have hB : Below u2.heap.size u2 _ := And.left (by assumption)
          clear keep RD onA onB
          go_wp2
          go_roundw
          case rel => exact ⟨j + 1, (n + 1), by omega, by omega, by go_num, by omega, by go_num, _, _, _, _, s', t', (N2.below hB).mono (by omega)⟩
          case measure => simp [intOf]; omega)
       ·as_aux_lemma =>
         have bq1 := neBool true
         go_upto_region 25 with (first
          | (go_at_call 19; refine (tC N9.two m (by omega)).mono ?_; rintro e u1 ⟨rfl, T1, m1, o1⟩; rw [hx'] at m1 ⊢; rw [hs'] at T1; rw [hdn]))
         clear ca al
         obtain ⟨Mr1, A1, R1⟩ := N9.half m Mr o1
         have cr : u1.cell? ⟨rb, kk, none⟩ = some (pt qq) := (R1.cell kk).trans (by rw [arr3_get _ hk3, e2])
         have rl := R1.lt
         go_upto_region 26 with (go_at_call 20; refine (xC T1 Mr1 okm (by omega)).mono ?_; rintro e u2 ⟨rfl, T2, o2, F2, M2, fr⟩; rw [hx2] at M2 ⊢; rw [ht'] at T2; rw [hdn])
         clear cr rl
         obtain ⟨N2, m2⟩ := N9.whole hk3 hpk9 e2 e3 m Mr o1 m1 o2 T2 l' ew' M2 fr
         have sh := M2.shown
         rw [hhh] at sh
         have ml := M2.lt
         have ca := N2.ca hk3 hpk9
         have cr := N2.cr hk3 e2
         have al := N2.ab.lt
         have rl := N2.rb.lt
         have keep : ∀ w', Below u2.heap.size u2 w' → Below u2.heap.size u2 w' ∧ w'.cell? ⟨ab, kk, none⟩ = some (pt p) ∧ w'.cell? ⟨rb, kk, none⟩ = some (pt qq) ∧ w'.cell? ⟨qq, 19, none⟩ = some (.bool hh) := fun w' hb => ⟨hb, bcell hb al ca, bcell hb rl cr, bcell hb ml sh⟩
         have hbd : Below u2.heap.size u2 u2.drew := (Below.refl _ _).drew
         have RD := keep _ hbd
         have onA : ∀ w', Below u2.heap.size u2 w' ∧ w'.cell? ⟨ab, kk, none⟩ = some (pt p) ∧ w'.cell? ⟨rb, kk, none⟩ = some (pt qq) ∧ w'.cell? ⟨qq, 19, none⟩ = some (.bool hh) → Cm w w' p x' := fun w' hs => m2.below hs.1
         have onB : ∀ w', Below u2.heap.size u2 w' ∧ w'.cell? ⟨ab, kk, none⟩ = some (pt p) ∧ w'.cell? ⟨rb, kk, none⟩ = some (pt qq) ∧ w'.cell? ⟨qq, 19, none⟩ = some (.bool hh) → RCm w w' qq F2 x' := fun w' hs => M2.below hs.1
         clear ca cr al rl ml sh e3 Mr1 A1 R1 o1 o2 T1 T2 m1 fr m Mr
         go_region_held3 (fun w' => Below u2.heap.size u2 w' ∧ w'.cell? ⟨ab, kk, none⟩ = some (pt p) ∧ w'.cell? ⟨rb, kk, none⟩ = some (pt qq) ∧ w'.cell? ⟨qq, 19, none⟩ = some (.bool hh)) (first | assumption | exact RD | exact keep _ (by assumption))
          (first
           | (go_at_call 21; refine (cCHit (onA _ (by assumption))).mono ?_; rintro e v0 ⟨rfl, hv0⟩; rw [hv0, hhh]; clear hv0 v0)
           | (go_at_call 22; refine (cCResult (onA _ (by assumption))).mono ?_; rintro e v1 ⟨rfl, hbv1⟩; rw [hval]; have hq1 : Below u2.heap.size u2 v1 := bel_trans (by exact And.left (by assumption)) hbv1; clear hbv1)
           | (go_at_call 23; refine (rCResult (onB _ (by assumption)) ok').mono ?_; rintro e v2 ⟨rfl, hbv2⟩; rw [hval]; have hq2 : Below u2.heap.size u2 v2 := bel_trans (by exact And.left (by assumption)) hbv2; clear hbv2))
         all_goals (
          have hB : Below u2.heap.size u2 _ := And.left (by assumption)
          clear keep RD onA onB
          have N3 := N2.below hB
          have ca := N3.ca hk3 hpk9
          have cz := N3.ab.free kk
          have al := N3.ab.lt
          go_wp2
          go_roundw
          case rel => exact ⟨j + 1, (n + 1), by omega, by omega, by go_num, by omega, by go_num, _, _, _, _, s', t', ((N2.below hB).off hk3).mono (by omega)⟩
          case measure => simp [intOf]; omega)
     ·as_aux_lemma =>
       rcases hd3 : decide ((n : Int) ≥ (lo : Int)) with _ | _
       ·have hd4 : decide ((n : Int) ≥ 30) = true := by simp at hd3 ⊢; omega
        go_wp2_with (go_at_call 11; refine (cKind _ z 3 dl du (by decide)).mono ?_; rintro e wk ⟨rfl, hwk⟩; rw [hwk, hkk]; clear hwk wk)
        go_roundw
        case rel => exact ⟨j + 1, n, by omega, by omega, by go_num, hn, rfl, pa, pr, F, x, s1, s2, M.mono (by omega)⟩
        case measure => simp [intOf]; omega
        exact ⟨⟨j + 1, n, by omega, by omega, by go_num, hn, rfl, pa, pr, F, x, s1, s2, M.mono (by omega)⟩, by simp [intOf]; omega⟩
       ·go_wp2_with (go_at_call 11; refine (cKind _ z 3 dl du (by decide)).mono ?_; rintro e wk ⟨rfl, hwk⟩; rw [hwk, hkk]; clear hwk wk)
        go_roundw
        case rel => exact ⟨j + 1, n, by omega, by omega, by go_num, hn, rfl, pa, pr, F, x, s1, s2, M.mono (by omega)⟩
        case measure => simp [intOf]; omega
        exact ⟨⟨j + 1, n, by omega, by omega, by go_num, hn, rfl, pa, pr, F, x, s1, s2, M.mono (by omega)⟩, by simp [intOf]; omega⟩
    ·obtain ⟨qq, F', e2, e3, m, Mr⟩ := M.team.busy hk3 hpk
     obtain ⟨x0, hx0⟩ : ∃ u, x kk = u := ⟨_, rfl⟩
     rw [hx0] at m Mr
     obtain ⟨x', hx'⟩ : ∃ u, x0.next s1 = u := ⟨_, rfl⟩
     have hx2 : x0.next s2 = x' := (x0.next_ws M.ws).symm.trans hx'
     obtain ⟨s', hs'⟩ : ∃ u, x0.mem s1 = u := ⟨_, rfl⟩
     obtain ⟨t', ht'⟩ : ∃ u, x0.mem s2 = u := ⟨_, rfl⟩
     have l' : s'.ws.length = 160 := by rw [← hs', Cw.len m.ok]; exact M.len
     have ew' : s'.ws = t'.ws := by rw [← hs', ← ht']; exact x0.mem_ws M.ws
     have ok' : x'.Ok := hx' ▸ m.ok.next M.two.rng1
     have okm := m.ok
     obtain ⟨⟨oc, ⟨vk, vn⟩, oy⟩, hoo⟩ : ∃ o, x'.o = o := ⟨_, rfl⟩
     have hval : x'.o.val = .agg #[.int .i64 oc, .int .i64 vk, .int .i64 vn, .bool oy] := by rw [hoo]; rfl
     have eo := neOut ⟨oc, ⟨vk, vn⟩, oy⟩
     simp only at eo
     obtain ⟨hh, hhh⟩ : ∃ v, x'.hit = v := ⟨_, rfl⟩
     have bq2 := neBool hh
     have ca := M.ca hk3 hpk
     have al := M.ab.lt
     clear hx0 hoo
     rcases hdn : x'.done with _ | _
     ·as_aux_lemma =>
       have bq1 := neBool false
       go_upto_region 25 with (first
        | (go_at_call 11; refine (cKind _ z 3 dl du (by decide)).mono ?_; rintro e wk ⟨rfl, hwk⟩; rw [hwk, hkk]; clear hwk wk)
        | (go_at_call 19; refine (tC M.two m (by omega)).mono ?_; rintro e u1 ⟨rfl, T1, m1, o1⟩; rw [hx'] at m1 ⊢; rw [hs'] at T1; rw [hdn]))
       clear ca al
       obtain ⟨Mr1, A1, R1⟩ := M.half m Mr o1
       have cr : u1.cell? ⟨rb, kk, none⟩ = some (pt qq) := (R1.cell kk).trans (by rw [arr3_get _ hk3, e2])
       have rl := R1.lt
       go_upto_region 26 with (go_at_call 20; refine (xC T1 Mr1 okm (by omega)).mono ?_; rintro e u2 ⟨rfl, T2, o2, F2, M2, fr⟩; rw [hx2] at M2 ⊢; rw [ht'] at T2; rw [hdn])
       clear cr rl
       obtain ⟨N2, m2⟩ := M.whole hk3 hpk e2 e3 m Mr o1 m1 o2 T2 l' ew' M2 fr
       have sh := M2.shown
       rw [hhh] at sh
       have ml := M2.lt
       have ca := N2.ca hk3 hpk
       have cr := N2.cr hk3 e2
       have al := N2.ab.lt
       have rl := N2.rb.lt
       have keep : ∀ w', Below u2.heap.size u2 w' → Below u2.heap.size u2 w' ∧ w'.cell? ⟨ab, kk, none⟩ = some (pt p) ∧ w'.cell? ⟨rb, kk, none⟩ = some (pt qq) ∧ w'.cell? ⟨qq, 19, none⟩ = some (.bool hh) := fun w' hb => ⟨hb, bcell hb al ca, bcell hb rl cr, bcell hb ml sh⟩
       have hbd : Below u2.heap.size u2 u2.drew := (Below.refl _ _).drew
       have RD := keep _ hbd
       have onA : ∀ w', Below u2.heap.size u2 w' ∧ w'.cell? ⟨ab, kk, none⟩ = some (pt p) ∧ w'.cell? ⟨rb, kk, none⟩ = some (pt qq) ∧ w'.cell? ⟨qq, 19, none⟩ = some (.bool hh) → Cm w w' p x' := fun w' hs => m2.below hs.1
       have onB : ∀ w', Below u2.heap.size u2 w' ∧ w'.cell? ⟨ab, kk, none⟩ = some (pt p) ∧ w'.cell? ⟨rb, kk, none⟩ = some (pt qq) ∧ w'.cell? ⟨qq, 19, none⟩ = some (.bool hh) → RCm w w' qq F2 x' := fun w' hs => M2.below hs.1
       clear ca cr al rl ml sh e3 Mr1 A1 R1 o1 o2 T1 T2 m1 fr m Mr
       go_region_held3 (fun w' => Below u2.heap.size u2 w' ∧ w'.cell? ⟨ab, kk, none⟩ = some (pt p) ∧ w'.cell? ⟨rb, kk, none⟩ = some (pt qq) ∧ w'.cell? ⟨qq, 19, none⟩ = some (.bool hh)) (first | assumption | exact RD | exact keep _ (by assumption))
        (first
         | (go_at_call 21; refine (cCHit (onA _ (by assumption))).mono ?_; rintro e v0 ⟨rfl, hv0⟩; rw [hv0, hhh]; clear hv0 v0)
         | (go_at_call 22; refine (cCResult (onA _ (by assumption))).mono ?_; rintro e v1 ⟨rfl, hbv1⟩; rw [hval]; have hq1 : Below u2.heap.size u2 v1 := bel_trans (by exact And.left (by assumption)) hbv1; clear hbv1)
         | (go_at_call 23; refine (rCResult (onB _ (by assumption)) ok').mono ?_; rintro e v2 ⟨rfl, hbv2⟩; rw [hval]; have hq2 : Below u2.heap.size u2 v2 := bel_trans (by exact And.left (by assumption)) hbv2; clear hbv2))
       all_goals (
        have hB : Below u2.heap.size u2 _ := And.left (by assumption)
        clear keep RD onA onB
        go_wp2
        go_roundw
        case rel => exact ⟨j + 1, n, by omega, by omega, by go_num, by omega, rfl, _, _, _, _, s', t', (N2.below hB).mono (by omega)⟩
        case measure => simp [intOf]; omega)
     ·as_aux_lemma =>
       have bq1 := neBool true
       go_upto_region 25 with (first
        | (go_at_call 11; refine (cKind _ z 3 dl du (by decide)).mono ?_; rintro e wk ⟨rfl, hwk⟩; rw [hwk, hkk]; clear hwk wk)
        | (go_at_call 19; refine (tC M.two m (by omega)).mono ?_; rintro e u1 ⟨rfl, T1, m1, o1⟩; rw [hx'] at m1 ⊢; rw [hs'] at T1; rw [hdn]))
       clear ca al
       obtain ⟨Mr1, A1, R1⟩ := M.half m Mr o1
       have cr : u1.cell? ⟨rb, kk, none⟩ = some (pt qq) := (R1.cell kk).trans (by rw [arr3_get _ hk3, e2])
       have rl := R1.lt
       go_upto_region 26 with (go_at_call 20; refine (xC T1 Mr1 okm (by omega)).mono ?_; rintro e u2 ⟨rfl, T2, o2, F2, M2, fr⟩; rw [hx2] at M2 ⊢; rw [ht'] at T2; rw [hdn])
       clear cr rl
       obtain ⟨N2, m2⟩ := M.whole hk3 hpk e2 e3 m Mr o1 m1 o2 T2 l' ew' M2 fr
       have sh := M2.shown
       rw [hhh] at sh
       have ml := M2.lt
       have ca := N2.ca hk3 hpk
       have cr := N2.cr hk3 e2
       have al := N2.ab.lt
       have rl := N2.rb.lt
       have keep : ∀ w', Below u2.heap.size u2 w' → Below u2.heap.size u2 w' ∧ w'.cell? ⟨ab, kk, none⟩ = some (pt p) ∧ w'.cell? ⟨rb, kk, none⟩ = some (pt qq) ∧ w'.cell? ⟨qq, 19, none⟩ = some (.bool hh) := fun w' hb => ⟨hb, bcell hb al ca, bcell hb rl cr, bcell hb ml sh⟩
       have hbd : Below u2.heap.size u2 u2.drew := (Below.refl _ _).drew
       have RD := keep _ hbd
       have onA : ∀ w', Below u2.heap.size u2 w' ∧ w'.cell? ⟨ab, kk, none⟩ = some (pt p) ∧ w'.cell? ⟨rb, kk, none⟩ = some (pt qq) ∧ w'.cell? ⟨qq, 19, none⟩ = some (.bool hh) → Cm w w' p x' := fun w' hs => m2.below hs.1
       have onB : ∀ w', Below u2.heap.size u2 w' ∧ w'.cell? ⟨ab, kk, none⟩ = some (pt p) ∧ w'.cell? ⟨rb, kk, none⟩ = some (pt qq) ∧ w'.cell? ⟨qq, 19, none⟩ = some (.bool hh) → RCm w w' qq F2 x' := fun w' hs => M2.below hs.1
       clear ca cr al rl ml sh e3 Mr1 A1 R1 o1 o2 T1 T2 m1 fr m Mr
       go_region_held3 (fun w' => Below u2.heap.size u2 w' ∧ w'.cell? ⟨ab, kk, none⟩ = some (pt p) ∧ w'.cell? ⟨rb, kk, none⟩ = some (pt qq) ∧ w'.cell? ⟨qq, 19, none⟩ = some (.bool hh)) (first | assumption | exact RD | exact keep _ (by assumption))
        (first
         | (go_at_call 21; refine (cCHit (onA _ (by assumption))).mono ?_; rintro e v0 ⟨rfl, hv0⟩; rw [hv0, hhh]; clear hv0 v0)
         | (go_at_call 22; refine (cCResult (onA _ (by assumption))).mono ?_; rintro e v1 ⟨rfl, hbv1⟩; rw [hval]; have hq1 : Below u2.heap.size u2 v1 := bel_trans (by exact And.left (by assumption)) hbv1; clear hbv1)
         | (go_at_call 23; refine (rCResult (onB _ (by assumption)) ok').mono ?_; rintro e v2 ⟨rfl, hbv2⟩; rw [hval]; have hq2 : Below u2.heap.size u2 v2 := bel_trans (by exact And.left (by assumption)) hbv2; clear hbv2))
       all_goals (
        have hB : Below u2.heap.size u2 _ := And.left (by assumption)
        clear keep RD onA onB
        have N3 := N2.below hB
        have ca := N3.ca hk3 hpk
        have cz := N3.ab.free kk
        have al := N3.ab.lt
        go_wp2
        go_roundw
        case rel => exact ⟨j + 1, n, by omega, by omega, by go_num, by omega, rfl, _, _, _, _, s', t', ((N2.below hB).off hk3).mono (by omega)⟩
        case measure => simp [intOf]; omega)
end Go.Proofs.YtpcoldpphihfmaaGreatDoor
