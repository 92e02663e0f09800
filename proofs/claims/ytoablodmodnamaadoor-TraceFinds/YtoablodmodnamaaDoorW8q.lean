/-
  The walk of TraceFinds.
-/
import Derived.Test.YtoablodmodnamaaDoorToq
import Derived.Test.YtoablodmodnamaaDoorUmq
import Derived.Test.YtoablodmodnamaaDoorUdq
import Derived.Deep.Cut
import Derived.Deep.CutBlock
import Derived.Deep.RegionHeld3
namespace Go.Proofs.YtoablodmodnamaaDoor
set_option linter.unusedVariables false
set_option linter.unusedSimpArgs false
set_option maxRecDepth 100000
open Go.ChangeShapes Go.WideShapes Go.RowKit
open S.Plain (t0 t1 tw nx p0 p1 p2 p3 pw)
open H.Plain (hw pS pC pN pM pG pT pL)
open F.Plain (kind num)

set_option maxHeartbeats 30000000 in
theorem wTraceFinds (bl : Int) (b0 : -9223372036854775808 ≤ bl) (b1 : bl ≤ 9223372036854775807) (ac : Option Addr) (lc cc : Nat) (zc : Nat → Int) (am : Option Addr) (lm cm : Nat) (af : Option Addr) (lf cf : Nat) (zf : Nat → Int) (ar : Option Addr) (lr cr : Nat) (zr : Nat → Int) (w : World) (W : H.Wid w) (ic : CameI w ac lc zc) (jf : CameI w af lf zf) (jr : CameI w ar lr zr) :
    Calls Tryd.prog 4 #[.agg #[.int .i64 bl, .slice ac lc cc, .slice am lm cm, .slice af lf cf], .slice ar lr cr] w fun e w' => e = .returned (.bool true) ∧ Below w.heap.size w w' := by
  go_enter Tryd.func4, Tryd.ntmps4
  go_upto_region 1 with (fail)
  have B1 : Blk w (w.alloc (.cells #[.int .i64 bl, .slice ac lc cc, .slice am lm cm, .slice af lf cf] 66)) w.heap.size 66 #[.int .i64 bl, .slice ac lc cc, .slice am lm cm, .slice af lf cf] := Blk.new (Nat.le_refl _) _ (by decide)
  have hb1 : Below w.heap.size w (w.alloc (.cells #[.int .i64 bl, .slice ac lc cc, .slice am lm cm, .slice af lf cf] 66)) := (Below.refl _ _).alloc (Nat.le_refl _) _
  generalize w.alloc (.cells #[.int .i64 bl, .slice ac lc cc, .slice am lm cm, .slice af lf cf] 66) = w1 at B1 hb1 ⊢
  have W1 := W.on hb1
  go_upto_region 2 with (go_at_call 21; refine (cShown _ W1).mono ?_; rintro e w2 ⟨rfl, hb2⟩)
  have B2 := B1.below hb2
  have hbb := bel_trans hb1 hb2
  have c2 : w2.cell? ⟨w.heap.size, 2, none⟩ = some (.slice am lm cm) := B2.cell 2
  have f2 := B2.free 2
  have l2 := B2.lt
  go_upto_region 3 with (fail)
  have B3 := B2.set 2 (.slice none 0 0)
  have hb3 : Below w.heap.size w (w2.setCell ⟨w.heap.size, 2, none⟩ (.slice none 0 0)) := hbb.setCell (Nat.le_refl _) _
  clear c2 f2 l2 B1 B2 hb1 hb2 hbb W1
  generalize w2.setCell ⟨w.heap.size, 2, none⟩ (.slice none 0 0) = wB at B3 hb3 ⊢
  have WB := W.on hb3
  have icB := ic.on hb3
  have jfB := jf.on hb3
  have jrB := jr.on hb3
  have c0 : wB.cell? ⟨w.heap.size, 0, none⟩ = some (.int .i64 bl) := B3.cell 0
  have c1 : wB.cell? ⟨w.heap.size, 1, none⟩ = some (.slice ac lc cc) := B3.cell 1
  have c2 : wB.cell? ⟨w.heap.size, 2, none⟩ = some (.slice none 0 0) := B3.cell 2
  have c3 : wB.cell? ⟨w.heap.size, 3, none⟩ = some (.slice af lf cf) := B3.cell 3
  have cl := B3.lt
  go_upto_region 4 with (go_at_call 22; refine (cBuilt bl b0 b1 ac lc cc zc af lf cf zf 0 (by decide) wB WB icB jfB).mono ?_; rintro r w4 ⟨n, y, v, l, f0, S, N, n1, n6, rfl, Y, V, lo, fi, hl, hN, hrow, hold⟩)
  clear c0 c1 c2 c3 cl B3
  have hbp : Below w4.heap.size w4 (w4.alloc (.cells #[.int .i64 (mkPl 2 n).t, .int .i64 (mkPl 2 n).b, .int .i64 (mkPl 2 n).tb, .int .i64 (mkPl 2 n).hp, .int .i64 (mkPl 2 n).sz] 32)) := (Below.refl _ _).alloc (Nat.le_refl _) _
  have Y5 := Y.below hbp
  have Bp : Blk wB (w4.alloc (.cells #[.int .i64 (mkPl 2 n).t, .int .i64 (mkPl 2 n).b, .int .i64 (mkPl 2 n).tb, .int .i64 (mkPl 2 n).hp, .int .i64 (mkPl 2 n).sz] 32)) w4.heap.size 32 #[.int .i64 (mkPl 2 n).t, .int .i64 (mkPl 2 n).b, .int .i64 (mkPl 2 n).tb, .int .i64 (mkPl 2 n).hp, .int .i64 (mkPl 2 n).sz] := Blk.new Y.bel.size _ (by decide)
  have r5 : (w4.alloc (.cells #[.int .i64 (mkPl 2 n).t, .int .i64 (mkPl 2 n).b, .int .i64 (mkPl 2 n).tb, .int .i64 (mkPl 2 n).hp, .int .i64 (mkPl 2 n).sz] 32)).ownsRow 0 3 1 v l.length (ats l) := own_oth (F := []) hrow (Oth.below hbp) (by decide) (by simp)
  obtain ⟨ao, cap, rfl, hao⟩ := row_lies hrow
  generalize w4.alloc (.cells #[.int .i64 (mkPl 2 n).t, .int .i64 (mkPl 2 n).b, .int .i64 (mkPl 2 n).tb, .int .i64 (mkPl 2 n).hp, .int .i64 (mkPl 2 n).sz] 32) = w5 at Y5 Bp r5 ⊢
  generalize w4.heap.size = p6 at Bp ⊢
  obtain ⟨LN, hLN⟩ : ∃ LN, 32 + 32 * n = LN := ⟨_, rfl⟩
  rw [hLN] at V lo fi
  have hLN2 : 64 ≤ LN ∧ LN ≤ 224 := by omega
  obtain ⟨U, hU⟩ : ∃ U : Pl5, U = ⟨(mkPl 2 n).t, (mkPl 2 n).b, (mkPl 2 n).tb, (mkPl 2 n).hp, (mkPl 2 n).sz⟩ := ⟨_, rfl⟩
  have hUt : Hid (U.th = 2) := by show U.th = 2; rw [hU]; rfl
  have hUs : Hid (U.si = (LN : Int)) := by show U.si = (LN : Int); rw [hU]; show ((szN 2 n : Nat) : Int) = _; rw [sz_N n6, hLN]
  have Bp' : Blk wB w5 p6 32 #[.int .i64 U.th, .int .i64 U.bl, .int .i64 U.ta, .int .i64 U.he, .int .i64 U.si] := by rw [hU]; exact Bp
  clear Y Bp hrow hold hbp
  go_upto_region 5 with (go_at_call 23; refine (cCopied Y5 V.len (by omega) (by omega)).mono ?_; rintro e w6 ⟨b, rfl, hM⟩)
  have L6 : Lf wB w6 b y (laidTo S.ws LN) S (7000) p6 #[.int .i64 U.th, .int .i64 U.bl, .int .i64 U.ta, .int .i64 U.he, .int .i64 U.si] (.slice ao l.length cap) l := Lf.start Y5 (hM.mono (by omega)) (by omega) Bp' r5
  have V6 : Vw LN (laidTo S.ws LN) f0 := by have := V.copied; rwa [V.len] at this
  have G6 := fi.gy
  have Z6 := fi.z
  have hU64 : ∀ a : Nat, a < LN → U64 (f0 a) := fun a ha => by rw [← V.word a (by omega) (by omega)]; exact Y5.rng2.word _
  clear Y5 hM Bp' r5 hU hLN
  obtain ⟨i0, hi0, hie⟩ := Option.map_eq_some_iff.1 infoB
  simp only [Prod.mk.injEq] at hie
  obtain ⟨hz0, hz1, hz2⟩ := hie
  have p4 : w6.cell? ⟨p6, 4, none⟩ = some (.int .i64 (LN : Int)) := by rw [← hUs.out]; exact L6.b6.cell 4
  have pl := L6.b6.lt
  go_upto_block 0 with (at_make; refine wpList_make_full _ rfl _ _ 70 rfl 0 4 i0 (.bool false) 1 Tryd.underlying70 hi0 hz0 hz1 .i64 .i64 LN LN LN rfl rfl rfl rfl ?b2 ?b3 ?b4 ?_)
  case b2 => rw [hz2]; omega
  case b3 => unfold maxLen; omega
  case b4 => omega
  intro wm hown hg
  obtain ⟨hmk, hbm⟩ := made_marks hown hg
  have L7 := L6.below hbm
  have Bw : Blk wB wm w6.heap.size 4 (marks LN fun _ => false) := ⟨hmk, L6.size, by decide⟩
  clear hi0 hz0 hz1 hz2 p4 pl hown hg hmk hbm L6
  generalize w6.heap.size = gw at Bw ⊢
  go_upto_block 0 with (fail)
  go_cut [11, 12, 13, 14] from 51 (fun _ _ _ _ wx => ∃ (s1 : St) (f : Int → Int) (C : List Ob) (wt : Int → Bool), Lf wB wx b y s1 S (7100) p6 #[.int .i64 U.th, .int .i64 U.bl, .int .i64 U.ta, .int .i64 U.he, .int .i64 U.si] (.slice ao l.length cap) l ∧ Vw LN s1 f ∧ Gy LN l f0 f [] C ∧ Zr f ∧ Blk wB wx gw 4 (marks LN wt) ∧ Ws l C wt)
  case first =>
    go_wp2_with (fail)
    go_loopw [11] (fun vi wr => ∃ (j : Nat) (s1 : St) (f : Int → Int) (C : List Ob) (wt : Int → Bool), j ≤ 10 ∧ j ≤ lr ∧ vi = .int .i64 j ∧ Lf wB wr b y s1 S (7000 + 5 * j) p6 #[.int .i64 U.th, .int .i64 U.bl, .int .i64 U.ta, .int .i64 U.he, .int .i64 U.si] (.slice ao l.length cap) l ∧ Vw LN s1 f ∧ Gy LN l f0 f [] C ∧ Zr f ∧ Blk wB wr gw 4 (marks LN wt) ∧ Ws l C wt) (fun vi _ => 10 - (intOf vi).toNat)
    case atStart => exact ⟨0, _, f0, [], fun _ => false, by omega, by omega, rfl, L7, V6, G6, Z6, Bw, Ws.none l⟩
    case round =>
      clear L7 V6 G6 Z6 Bw
      obtain ⟨j, s1, f, C, wt, hj, hjr, rfl, L, V1, G, Z, Bw, hws⟩ := hrel
      by_cases h1 : j < lr
      · have d1 : decide ((j : Int) < (lr : Int)) = true := by simp; omega
        by_cases h2 : j < 10
        · have d2 : decide ((j : Int) < 10) = true := by simp; omega
          by_cases h3 : 0 < l.length
          · have d3 : decide ((l.length : Int) > 0) = true := decide_eq_true (by omega)
            as_aux_lemma =>
              have ej : (0 : Int) ≤ (j : Int) := by omega
              have ej2 : (j : Int) < (lr : Int) := by omega
              obtain ⟨kb, koff, har, hkb, hz⟩ : ∃ b off, ar = some ⟨b, off, none⟩ ∧ b < wr.heap.size ∧ ∀ j, j < lr → wr.cell? ⟨b, off + j, none⟩ = some (.int .i64 (zr j)) ∧ -9223372036854775808 ≤ zr j ∧ zr j ≤ 9223372036854775807 := (jrB.on L.bel).resolve_left (by omega)
              obtain ⟨gv, rfl⟩ := hao h3
              subst har
              obtain ⟨d0, dl, du⟩ := hz j h1
              obtain ⟨z, hzz⟩ : ∃ z, zr j = z := ⟨_, rfl⟩
              rw [hzz] at d0 dl du
              clear hz hzz
              obtain ⟨ix, hix', ixl⟩ : ∃ ix : Nat, kd z l.length = (ix : Int) ∧ ix < l.length := ⟨(kd z l.length).toNat, by have := kd_bounds z l.length (by omega); omega, by have := kd_bounds z l.length (by omega); omega⟩
              have hix : Hid (kd z l.length = (ix : Int)) := hix'
              clear hix'
              obtain ⟨o, ho⟩ : ∃ o, l[ix]? = some o := ⟨l[ix], List.getElem?_eq_getElem ixl⟩
              have hol : o ∈ l := List.mem_of_getElem? ho
              have rc := L.rowAt ho
              have hbo := lo.b o hol
              obtain ⟨a, ha⟩ : ∃ a, o.at = a := ⟨_, rfl⟩
              rw [ha] at rc hbo
              have i0 : (0 : Int) ≤ (ix : Int) := by omega
              have i1 : (ix : Int) < (l.length : Int) := by omega
              have hr1 := L.two.rng1
              go_upto_region 13 with (first | (go_at_call 24; refine (cNum _ z l.length dl du (by omega)).mono ?_; rintro r wn ⟨rfl, hwn⟩; rw [hwn, hix.out]; clear hwn wn) | (go_at_call 25; refine (nShade (w0 := wB) a 1 L.size).mono ?_; rintro e w7 ⟨z1, rfl, M7, hb7, hz7⟩))
              clear rc d0 hkb i0 i1 ej ej2 d1 d2 d3 hix ixl dl du
              have L0 : Lf wB w7 b y (shI a s1 0).2 S (7000 + 5 * j + 0) p6 #[.int .i64 U.th, .int .i64 U.bl, .int .i64 U.ta, .int .i64 U.he, .int .i64 U.si] (.slice (some ⟨gv, 0, none⟩) l.length cap) l := L.below hb7
              have M0 : SM wB w7 z1 (shI a s1 0).1 := M7
              have Bw0 := Bw.below hb7
              clear L M7 hb7 hz7 Bw
              go_wp2_with (fail)
              go_loopw [14] (fun vk wr => ∃ k : Nat, k ≤ 5 ∧ vk = .int .i64 k ∧ Lf wB wr b y (shI a s1 k).2 S (7000 + 5 * j + k) p6 #[.int .i64 U.th, .int .i64 U.bl, .int .i64 U.ta, .int .i64 U.he, .int .i64 U.si] (.slice (some ⟨gv, 0, none⟩) l.length cap) l ∧ SM wB wr z1 (shI a s1 k).1 ∧ Blk wB wr gw 4 (marks LN wt)) (fun vk _ => 5 - (intOf vk).toNat)
              case atStart => exact ⟨0, by omega, rfl, L0, M0, Bw0⟩
              case round =>
                obtain ⟨k, hk, rfl, L, M, Bw⟩ := hrel
                clear L0 M0 Bw0
                by_cases hk5 : k < 5
                · have dk : decide ((k : Int) < 5) = true := by simp; omega
                  have ok := (shI_ok (a := a) hr1 k).1
                  go_wp2_with (go_at_call 26; refine (sStep L.two M ok (by omega)).mono ?_; rintro e w9 ⟨rfl, T9, M9, o9⟩)
                  have L9 := L.one T9 o9 M (by decide)
                  have Bw9 := Bw.oth o9 (by simpa using Bw.ne M (by decide))
                  go_roundw
                  case rel => exact ⟨k + 1, by omega, by go_num, L9, M9, Bw9⟩
                  case measure => simp [intOf]; omega
                · obtain rfl : k = 5 := by omega
                  have dk : decide (((5 : Nat) : Int) < 5) = false := by simp
                  obtain ⟨f', C', V', G', Z', hC⟩ := shade5 V1 lo G Z hol
                  rw [ha] at V'
                  obtain ⟨A, hA⟩ : ∃ A : Nat, a = (A : Int) := ⟨a.toNat, by omega⟩
                  subst hA
                  have wc : wr.cell? ⟨gw, A, none⟩ = some (.bool (wt A)) := (Bw.cell A).trans (marks_at LN wt A (by omega))
                  have wf := Bw.free A
                  have wl := Bw.lt
                  have ea : (0 : Int) ≤ (A : Int) := by omega
                  have ea2 : (A : Int) < (LN : Int) := by omega
                  have Lw := L.set Bw (by decide) A (.bool true)
                  have Bw' := Bw.set A (.bool true)
                  rw [marks_set] at Bw'
                  have hws' := hws.add lo hol hC
                  rw [ha] at hws'
                  go_wp2_with (fail)
                  go_roundw
                  case rel => exact ⟨j + 1, _, f', C', _, by omega, by omega, by go_num, Lw.mono (by omega), V', G', Z', Bw', hws'⟩
                  case measure => simp [intOf]; omega
          · have d3 : decide ((l.length : Int) > 0) = false := decide_eq_false (by omega)

            go_wp2_with (fail)
            go_meet
            exact ⟨s1, f, C, wt, L.mono (by omega), V1, G, Z, Bw, hws⟩
        · have d2 : decide ((j : Int) < 10) = false := by simp; omega

          go_wp2_with (fail)
          go_meet
          exact ⟨s1, f, C, wt, L.mono (by omega), V1, G, Z, Bw, hws⟩
      · have d1 : decide ((j : Int) < (lr : Int)) = false := by simp; omega

        go_wp2_with (fail)
        go_meet
        exact ⟨s1, f, C, wt, L.mono (by omega), V1, G, Z, Bw, hws⟩
  case rest =>
    obtain ⟨s1, f, C, wt, L, V1, G, Z, Bw, hws⟩ := hcut
    clear L7 V6 G6 Z6
    have hW0 : WOut l f0 C 0 wt := hws.out
    have L0 := L
    have Bw0 := Bw
    clear L Bw hws
    go_upto_block 4 with (fail)
    go_cut [15, 16, 17, 18, 19] from 92 (fun _ _ _ _ _ wx => ∃ wt : Int → Bool, Lf wB wx b y s1 S (7100) p6 #[.int .i64 U.th, .int .i64 U.bl, .int .i64 U.ta, .int .i64 U.he, .int .i64 U.si] (.slice ao l.length cap) l ∧ Blk wB wx gw 4 (marks LN wt) ∧ WOut l f0 C l.length wt)
    case first =>
      go_wp2_with (fail)
      go_loopw [15] (fun vr wr => ∃ (r : Nat) (wt : Int → Bool), r ≤ l.length ∧ vr = .int .i64 r ∧ Lf wB wr b y s1 S (7100) p6 #[.int .i64 U.th, .int .i64 U.bl, .int .i64 U.ta, .int .i64 U.he, .int .i64 U.si] (.slice ao l.length cap) l ∧ Blk wB wr gw 4 (marks LN wt) ∧ WOut l f0 C r wt) (fun vr _ => 60 - (intOf vr).toNat)
      case atStart => exact ⟨0, wt, by omega, rfl, L0, Bw0, hW0⟩
      case round =>
        clear L0 Bw0 hW0 wt
        obtain ⟨r, wt, hr, rfl, L, Bw, hW⟩ := hrel
        by_cases hrl : r < l.length
        · have hd0 : decide ((r : Int) < (l.length : Int)) = true := decide_eq_true (by omega)
          obtain ⟨gv, rfl⟩ := hao (by omega)
          go_wp2_with (fail)
          go_loopw [16] (fun vi wr => ∃ (i : Nat) (wi : Int → Bool), i ≤ l.length ∧ vi = .int .i64 i ∧ Lf wB wr b y s1 S (7100) p6 #[.int .i64 U.th, .int .i64 U.bl, .int .i64 U.ta, .int .i64 U.he, .int .i64 U.si] (.slice (some ⟨gv, 0, none⟩) l.length cap) l ∧ Blk wB wr gw 4 (marks LN wi) ∧ WIn l f0 wt i wi) (fun vi _ => 60 - (intOf vi).toNat)
          case atStart => exact ⟨0, wt, by omega, rfl, L, Bw, WIn.begin l f0 wt⟩
          case round =>
            clear L Bw hd0
            obtain ⟨i, wi, hi, rfl, L, Bw, hin⟩ := hrel
            by_cases hil : i < l.length
            · skip
              as_aux_lemma =>
                have hd1 : decide ((i : Int) < (l.length : Int)) = true := decide_eq_true (by omega)
                obtain ⟨o, ho⟩ : ∃ o, l[i]? = some o := ⟨l[i], List.getElem?_eq_getElem hil⟩
                have hol : o ∈ l := List.mem_of_getElem? ho
                have hbo := lo.b o hol
                have hm7 := lo.m7 o hol
                obtain ⟨A, hA⟩ : ∃ A : Nat, o.at = (A : Int) := ⟨o.at.toNat, by omega⟩
                have ei : (0 : Int) ≤ (i : Int) := by omega
                have ei2 : (i : Int) < (l.length : Int) := by omega
                have eA : (0 : Int) ≤ (A : Int) := by omega
                have eA2 : (A : Int) < (LN : Int) := by omega
                go_upto_region 24 with (fail)
                go_cut [17] from 98 to 155 (fun vb wx => ∃ hb, vb = pt hb ∧ Lf wB wx b y s1 S (7100) p6 #[.int .i64 U.th, .int .i64 U.bl, .int .i64 U.ta, .int .i64 U.he, .int .i64 U.si] (.slice (some ⟨gv, 0, none⟩) l.length cap) l ∧ Blk wB wx gw 4 (marks LN wi) ∧ Blk wB wx hb 74 #[.int .i64 1, .int .i64 o.c, .int .i64 o.m, .int .i64 0, .int .i64 0, .int .i64 0, .int .i64 0])
                case first =>
                  obtain ⟨g, cp, hS, hYw⟩ := L.words V
                  have hu' : U64 (f0 A) := hU64 A (by omega)
                  have was' : f0 A = hw 1 o.c o.m 0 0 0 0 := by rw [← hA]; exact fi.hdr o hol
                  obtain ⟨w1', w2', w3', w4', w5', w6', w7'⟩ := head_parts o hm7 (by omega) (by omega) was'
                  clear was'
                  obtain ⟨hdw, hdw'⟩ : ∃ x, f0 A = x := ⟨_, rfl⟩
                  rw [hdw'] at w1' w2' w3' w4' w5' w6' w7'
                  have hu : U64 hdw := hdw' ▸ hu'
                  have keep : ∀ w', Below wr.heap.size wr w' → w'.cell? ⟨y, 0, none⟩ = some (.slice (some ⟨g, 0, none⟩) LN cp) ∧ w'.cell? ⟨gv, i, none⟩ = some (.int .i64 A) ∧ w'.cell? ⟨g, A, none⟩ = some (.int .u64 hdw) := fun w' hb => by
                    obtain ⟨y1, y2⟩ := hYw w' (hS.below hb)
                    have y4 := (L.below hb).rowAt ho
                    rw [hA] at y4
                    have y5 := y2 A (by omega)
                    rw [hdw'] at y5
                    exact ⟨y1, y4, y5⟩
                  have hbd : Below wr.heap.size wr wr.drew := (Below.refl wr.heap.size wr).drew
                  have RD := keep _ hbd
                  clear hdw' hu'
                  refine wp_region_held_drew (S := fun w' => w'.cell? ⟨y, 0, none⟩ = some (.slice (some ⟨g, 0, none⟩) LN cp) ∧ w'.cell? ⟨gv, i, none⟩ = some (.int .i64 A) ∧ w'.cell? ⟨g, A, none⟩ = some (.int .u64 hdw)) (by kernel_rfl) RD (fun hHeld => ?_)
                  clear RD
                  generalize wr.drew = wd at hHeld hbd ⊢
                  refine takeH (i := 0) 104 (pt y) rfl rfl (by kernel_rfl) (by kernel_rfl) (by kernel_rfl) (fun _ _ _ h => h) (by rfl) ?_ (by assumption) ?_
                  · intro w hSw; (try dsimp only at hSw); go_simp
                  try simp only [List.setIfInBounds_toArray, List.set_cons_zero, List.set_cons_succ]
                  refine takeH (i := 1) 105 (pt y) rfl rfl (by kernel_rfl) (by kernel_rfl) (by kernel_rfl) (fun _ _ _ h => h) (by rfl) ?_ (by assumption) ?_
                  · intro w hSw; (try dsimp only at hSw); go_simp
                  try simp only [List.setIfInBounds_toArray, List.set_cons_zero, List.set_cons_succ]
                  refine takeH (i := 2) 106 (.pointer (some ⟨y, 0, none⟩)) rfl rfl (by kernel_rfl) (by kernel_rfl) (by kernel_rfl) (fun _ _ _ h => h) (by rfl) ?_ (by assumption) ?_
                  · intro w hSw; (try dsimp only at hSw); go_simp
                  try simp only [List.setIfInBounds_toArray, List.set_cons_zero, List.set_cons_succ]
                  refine takeH (i := 3) 107 (.slice (some ⟨g, 0, none⟩) LN cp) rfl rfl (by kernel_rfl) (by kernel_rfl) (by kernel_rfl) (fun _ _ _ h => h) (by rfl) ?_ (by assumption) ?_
                  · intro w hSw; (try dsimp only at hSw); go_simp
                  try simp only [List.setIfInBounds_toArray, List.set_cons_zero, List.set_cons_succ]
                  refine takeH (i := 4) 108 ((.slice (some ⟨gv, 0, none⟩) l.length cap)) rfl rfl (by kernel_rfl) (by kernel_rfl) (by kernel_rfl) (fun _ _ _ h => h) (by rfl) ?_ (by assumption) ?_
                  · intro w hSw; (try dsimp only at hSw); go_simp
                  try simp only [List.setIfInBounds_toArray, List.set_cons_zero, List.set_cons_succ]
                  refine takeH (i := 5) 109 (.int .i64 i) rfl rfl (by kernel_rfl) (by kernel_rfl) (by kernel_rfl) (fun _ _ _ h => h) (by rfl) ?_ (by assumption) ?_
                  · intro w hSw; (try dsimp only at hSw); go_simp
                  try simp only [List.setIfInBounds_toArray, List.set_cons_zero, List.set_cons_succ]
                  refine takeH (i := 6) 110 (.pointer (some ⟨gv, i, none⟩)) rfl rfl (by kernel_rfl) (by kernel_rfl) (by kernel_rfl) (fun _ _ _ h => h) (by rfl) ?_ (by assumption) ?_
                  · intro w hSw; (try dsimp only at hSw); go_simp
                  try simp only [List.setIfInBounds_toArray, List.set_cons_zero, List.set_cons_succ]
                  refine takeH (i := 7) 111 (.int .i64 A) rfl rfl (by kernel_rfl) (by kernel_rfl) (by kernel_rfl) (fun _ _ _ h => h) (by rfl) ?_ (by assumption) ?_
                  · intro w hSw; (try dsimp only at hSw); go_simp
                  try simp only [List.setIfInBounds_toArray, List.set_cons_zero, List.set_cons_succ]
                  refine takeH (i := 8) 112 (.pointer (some ⟨g, A, none⟩)) rfl rfl (by kernel_rfl) (by kernel_rfl) (by kernel_rfl) (fun _ _ _ h => h) (by rfl) ?_ (by assumption) ?_
                  · intro w hSw; (try dsimp only at hSw); go_simp
                  try simp only [List.setIfInBounds_toArray, List.set_cons_zero, List.set_cons_succ]
                  refine takeH (i := 9) 113 (.int .u64 hdw) rfl rfl (by kernel_rfl) (by kernel_rfl) (by kernel_rfl) (fun _ _ _ h => h) (by rfl) ?_ (by assumption) ?_
                  · intro w hSw; (try dsimp only at hSw); go_simp
                  try simp only [List.setIfInBounds_toArray, List.set_cons_zero, List.set_cons_succ]
                  refine wpAnyH_ready (rs := [10, 11]) (by kernel_rfl) (by simp) ?_
                  refine AllReadyH.cons rfl (fun K hK => ?_) (AllReadyH.cons rfl (fun K hK => ?_) AllReadyH.nil)
                  · go_simp
                    go_at_call 27
                    refine (H.rOf hdw hu.1 hu.2 _).mono ?_
                    rintro r w2 ⟨rfl, hw2⟩
                    rw [w1', w2', w3', w4', w5', w6', w7'] at hw2 ⊢
                    have hb2' : Below wr.heap.size wr w2 := hw2 ▸ (hbd.alloc hbd.size _)
                    clear hw2
                    refine hK.out _ _ (keep _ hb2') (fun hHeld => ?_)
                    clear hK K
                    try simp only [Act.put, List.setIfInBounds_toArray, List.set_cons_zero, List.set_cons_succ]
                    refine wpAnyH_ready (rs := [11]) (by kernel_rfl) (by simp) ?_
                    refine AllReadyH.cons rfl (fun K hK => ?_) AllReadyH.nil
                    go_simp
                    refine hK.out _ _ (keep _ (hb2'.alloc hb2'.size _)) (fun hHeld => ?_)
                    clear hK K
                    try simp only [Act.put, List.setIfInBounds_toArray, List.set_cons_zero, List.set_cons_succ]
                    refine wpAnyH_ready (rs := [12]) (by kernel_rfl) (by simp) ?_
                    refine AllReadyH.cons rfl (fun K hK => ?_) AllReadyH.nil
                    go_simp
                    refine hK.out _ _ (keep _ (hb2'.alloc hb2'.size _)) (fun hHeld => ?_)
                    clear hK K
                    try simp only [Act.put, List.setIfInBounds_toArray, List.set_cons_zero, List.set_cons_succ]
                    refine wpAnyH_done (by kernel_rfl) ?_ _
                    have hbn : Below wr.heap.size wr (w2.alloc (.cells #[.int .i64 1, .int .i64 o.c, .int .i64 o.m, .int .i64 0, .int .i64 0, .int .i64 0, .int .i64 0] 74)) := (hb2'.alloc hb2'.size _)
                    have Bn : Blk wB (w2.alloc (.cells #[.int .i64 1, .int .i64 o.c, .int .i64 o.m, .int .i64 0, .int .i64 0, .int .i64 0, .int .i64 0] 74)) w2.heap.size 74 #[.int .i64 1, .int .i64 o.c, .int .i64 o.m, .int .i64 0, .int .i64 0, .int .i64 0, .int .i64 0] := Blk.new (Nat.le_trans L.size hb2'.size) _ (by decide)
                    go_wp2
                    go_meet
                    case rel => exact ⟨_, rfl, L.below hbn, Blk.below Bw hbn, Bn⟩
                  · go_simp
                    refine hK.out _ _ (keep _ (hbd.alloc hbd.size _)) (fun hHeld => ?_)
                    clear hK K
                    try simp only [Act.put, List.setIfInBounds_toArray, List.set_cons_zero, List.set_cons_succ]
                    generalize hbz0 : wd.heap.size = bz
                    have hbzg : wr.heap.size ≤ bz := hbz0 ▸ hbd.size
                    obtain ⟨wz, hwz⟩ : ∃ wz, wd.alloc (.cells #[.int .i64 0, .int .i64 0, .int .i64 0, .int .i64 0, .int .i64 0, .int .i64 0, .int .i64 0] 74) = wz := ⟨_, rfl⟩
                    have hbz : Below wr.heap.size wr wz := hwz ▸ hbd.alloc hbd.size _
                    have BZ : Blk wB wz bz 74 #[.int .i64 0, .int .i64 0, .int .i64 0, .int .i64 0, .int .i64 0, .int .i64 0, .int .i64 0] := hwz ▸ hbz0 ▸ Blk.new (Nat.le_trans L.size hbd.size) _ (by decide)
                    rw [hwz]
                    clear hwz
                    refine wpAnyH_ready (rs := [10]) (by kernel_rfl) (by simp) ?_
                    refine AllReadyH.cons rfl (fun K hK => ?_) AllReadyH.nil
                    go_simp
                    go_at_call 27
                    refine (H.rOf hdw hu.1 hu.2 _).mono ?_
                    rintro r w2 ⟨rfl, hw2⟩
                    rw [w1', w2', w3', w4', w5', w6', w7'] at hw2 ⊢
                    have hb2'' : Below wz.heap.size wz w2 := hw2 ▸ ((Below.refl _ _).alloc (Nat.le_refl _) _)
                    clear hw2
                    have hb2' := bel_trans hbz hb2''
                    have BZ2 := BZ.below hb2''
                    have bz0 : w2.cell? ⟨bz, 0, none⟩ = some (.int .i64 0) := BZ2.cell 0
                    have bf0 := BZ2.free 0
                    have bz1 : w2.cell? ⟨bz, 1, none⟩ = some (.int .i64 0) := BZ2.cell 1
                    have bf1 := BZ2.free 1
                    have bz2 : w2.cell? ⟨bz, 2, none⟩ = some (.int .i64 0) := BZ2.cell 2
                    have bf2 := BZ2.free 2
                    have bz3 : w2.cell? ⟨bz, 3, none⟩ = some (.int .i64 0) := BZ2.cell 3
                    have bf3 := BZ2.free 3
                    have bz4 : w2.cell? ⟨bz, 4, none⟩ = some (.int .i64 0) := BZ2.cell 4
                    have bf4 := BZ2.free 4
                    have bz5 : w2.cell? ⟨bz, 5, none⟩ = some (.int .i64 0) := BZ2.cell 5
                    have bf5 := BZ2.free 5
                    have bz6 : w2.cell? ⟨bz, 6, none⟩ = some (.int .i64 0) := BZ2.cell 6
                    have bf6 := BZ2.free 6
                    have bzl := BZ2.lt
                    refine hK.out _ _ (keep _ hb2') (fun hHeld => ?_)
                    clear hK K
                    try simp only [Act.put, List.setIfInBounds_toArray, List.set_cons_zero, List.set_cons_succ]
                    refine wpAnyH_ready (rs := [12]) (by kernel_rfl) (by simp) ?_
                    refine AllReadyH.cons rfl (fun K hK => ?_) AllReadyH.nil
                    go_simp
                    refine hK.out _ _ (keep _ (((((((hb2'.setCell hbzg _).setCell hbzg _).setCell hbzg _).setCell hbzg _).setCell hbzg _).setCell hbzg _).setCell hbzg _)) (fun hHeld => ?_)
                    clear hK K
                    try simp only [Act.put, List.setIfInBounds_toArray, List.set_cons_zero, List.set_cons_succ]
                    refine wpAnyH_done (by kernel_rfl) ?_ _
                    have on : Oth [bz] w2 ((((((((w2.setCell ⟨bz, 0, none⟩ (.int .i64 1)).setCell ⟨bz, 1, none⟩ (.int .i64 o.c)).setCell ⟨bz, 2, none⟩ (.int .i64 o.m)).setCell ⟨bz, 3, none⟩ (.int .i64 0)).setCell ⟨bz, 4, none⟩ (.int .i64 0)).setCell ⟨bz, 5, none⟩ (.int .i64 0)).setCell ⟨bz, 6, none⟩ (.int .i64 0))) := (((((((Oth.set _ _ _ _ (by simp)).trans (Oth.set _ _ _ _ (by simp))).trans (Oth.set _ _ _ _ (by simp))).trans (Oth.set _ _ _ _ (by simp))).trans (Oth.set _ _ _ _ (by simp))).trans (Oth.set _ _ _ _ (by simp))).trans (Oth.set _ _ _ _ (by simp)))
                    go_wp2
                    go_meet
                    case rel => exact ⟨bz, rfl, ((((((((L.below hb2').set BZ2 (by decide) 0 (.int .i64 1)).set (BZ2.set 0 (.int .i64 1)) (by decide) 1 (.int .i64 o.c)).set ((BZ2.set 0 (.int .i64 1)).set 1 (.int .i64 o.c)) (by decide) 2 (.int .i64 o.m)).set (((BZ2.set 0 (.int .i64 1)).set 1 (.int .i64 o.c)).set 2 (.int .i64 o.m)) (by decide) 3 (.int .i64 0)).set ((((BZ2.set 0 (.int .i64 1)).set 1 (.int .i64 o.c)).set 2 (.int .i64 o.m)).set 3 (.int .i64 0)) (by decide) 4 (.int .i64 0)).set (((((BZ2.set 0 (.int .i64 1)).set 1 (.int .i64 o.c)).set 2 (.int .i64 o.m)).set 3 (.int .i64 0)).set 4 (.int .i64 0)) (by decide) 5 (.int .i64 0)).set ((((((BZ2.set 0 (.int .i64 1)).set 1 (.int .i64 o.c)).set 2 (.int .i64 o.m)).set 3 (.int .i64 0)).set 4 (.int .i64 0)).set 5 (.int .i64 0)) (by decide) 6 (.int .i64 0)), Blk.oth (Blk.below Bw hb2') on (by have := Blk.lt Bw; simp; omega), (((((((BZ2.set 0 (.int .i64 1)).set 1 (.int .i64 o.c)).set 2 (.int .i64 o.m)).set 3 (.int .i64 0)).set 4 (.int .i64 0)).set 5 (.int .i64 0)).set 6 (.int .i64 0))⟩
                clear L Bw
                obtain ⟨hb, rfl, L, Bw, Bh⟩ := hcut
                have Bm := Bh
                clear Bh
                generalize hb = hm at Bm ⊢
                go_wp2_with (fail)
                go_loopw [18] (fun vk wr => ∃ (k : Nat) (wj : Int → Bool), k ≤ o.m ∧ vk = .int .i64 k ∧ Lf wB wr b y s1 S (7100) p6 #[.int .i64 U.th, .int .i64 U.bl, .int .i64 U.ta, .int .i64 U.he, .int .i64 U.si] (.slice (some ⟨gv, 0, none⟩) l.length cap) l ∧ Blk wB wr gw 4 (marks LN wj) ∧ Blk wB wr hm 74 #[.int .i64 1, .int .i64 o.c, .int .i64 o.m, .int .i64 0, .int .i64 0, .int .i64 0, .int .i64 0] ∧ (wi o.at = false ∧ wj = wi ∨ wi o.at = true ∧ WFd l f0 wt i o k wj ∧ wj o.at = true)) (fun vk _ => 8 - (intOf vk).toNat)
                case atStart => exact ⟨0, wi, by omega, rfl, L, Bw, Bm, by
                  cases e : wi o.at with
                  | false => exact .inl ⟨rfl, rfl⟩
                  | true => exact .inr ⟨rfl, ⟨hin, fun j hj => by omega⟩, rfl⟩⟩
                case round =>
                  clear L Bw Bm
                  obtain ⟨k, wj, hk, rfl, L, Bw, Bm, hx⟩ := hrel
                  have hc2 : wr.cell? ⟨hm, 2, none⟩ = some (.int .i64 o.m) := Bm.cell 2
                  have hcl := Bm.lt
                  have rc := L.rowAt ho
                  rw [hA] at rc
                  have wcl := Bw.lt
                  have wcell : wr.cell? ⟨gw, A, none⟩ = some (.bool (wj A)) := (Bw.cell A).trans (marks_at LN wj A (by omega))
                  by_cases hkm : k < o.m
                  · have dk : decide ((k : Int) < (o.m : Int)) = true := by simp; omega
                    rcases hx with ⟨hwi, rfl⟩ | ⟨hwi, hf, hwt⟩
                    · have hv : wj A = false := by rw [← hA]; exact hwi
                      rw [hv] at wcell
                      go_wp2_with (fail)
                      go_roundw
                      case rel => exact ⟨i + 1, _, by omega, by go_num, L, Bw, hin.no ho hwi⟩
                      case measure => simp [intOf]; omega
                    · have hv : wj A = true := by rw [← hA]; exact hwt
                      rw [hv] at wcell
                      clear hv
                      as_aux_lemma =>
                        obtain ⟨AJ, hAJ'⟩ : ∃ AJ : Nat, (A : Int) + 1 + (k : Int) = (AJ : Int) := ⟨A + 1 + k, by omega⟩
                        have wi1 : IntKind.i64.wrap ((A : Int) + 1) = (A : Int) + 1 := by rw [IntKind.wrap_i64]; omega
                        have wi2 : IntKind.i64.wrap ((A : Int) + 1 + (k : Int)) = (AJ : Int) := by rw [IntKind.wrap_i64]; omega
                        have eJ : (0 : Int) ≤ (AJ : Int) := by omega
                        have eJ2 : (AJ : Int) < (LN : Int) := by omega
                        have hAt : o.at + 1 + (k : Int) = (AJ : Int) := by omega
                        have hu' : U64 (f0 AJ) := hU64 AJ (by omega)
                        obtain ⟨vw, hvw'⟩ : ∃ vw, f0 AJ = vw := ⟨_, rfl⟩
                        have hfd := fi.fd o hol k hkm
                        have hno := fun h => WFd.no (k := k) hf lo (o := o) h
                        have hyes := fun (h1 : kind (f0 (o.at + 1 + k)) = 1) {a : Int} (ha : num (f0 (o.at + 1 + k)) = a) => WFd.yes hf lo hol hwt hkm h1 ha
                        rw [hAt, hvw'] at hfd hno hyes
                        rw [hvw'] at hu'
                        have hvw : Hid (f0 AJ = vw) := hvw'
                        have hAJ : Hid ((A : Int) + 1 + (k : Int) = (AJ : Int)) := hAJ'
                        have hu := hu'
                        clear hvw' hAJ' hAt hu'
                        obtain ⟨kv, hkv⟩ : ∃ x, kind vw = x := ⟨_, rfl⟩
                        obtain ⟨nv, hnv⟩ : ∃ x, num vw = x := ⟨_, rfl⟩
                        rw [hkv, hnv] at hfd hno
                        rw [hkv] at hyes
                        go_upto_region 28 with (fail)
                        go_cut [19] from 115 to 155 (fun vb wx => ∃ hb, vb = pt hb ∧ Lf wB wx b y s1 S (7100) p6 #[.int .i64 U.th, .int .i64 U.bl, .int .i64 U.ta, .int .i64 U.he, .int .i64 U.si] (.slice (some ⟨gv, 0, none⟩) l.length cap) l ∧ Blk wB wx gw 4 (marks LN wj) ∧ Blk wB wx hm 74 #[.int .i64 1, .int .i64 o.c, .int .i64 o.m, .int .i64 0, .int .i64 0, .int .i64 0, .int .i64 0] ∧ Blk wB wx hb 82 #[.int .i64 kv, .int .i64 nv])
                        case first =>
                          obtain ⟨g, cp, hS, hYw⟩ := L.words V
                          have keep : ∀ w', Below wr.heap.size wr w' → w'.cell? ⟨y, 0, none⟩ = some (.slice (some ⟨g, 0, none⟩) LN cp) ∧ w'.cell? ⟨gv, i, none⟩ = some (.int .i64 A) ∧ w'.cell? ⟨g, AJ, none⟩ = some (.int .u64 vw) := fun w' hb => by
                            obtain ⟨y1, y2⟩ := hYw w' (hS.below hb)
                            have y4 := (L.below hb).rowAt ho
                            rw [hA] at y4
                            have y5 := y2 AJ (by omega)
                            rw [hvw.out] at y5
                            exact ⟨y1, y4, y5⟩
                          have hbd : Below wr.heap.size wr wr.drew := (Below.refl wr.heap.size wr).drew
                          have RD := keep _ hbd
                          refine wp_region_held_drew (S := fun w' => w'.cell? ⟨y, 0, none⟩ = some (.slice (some ⟨g, 0, none⟩) LN cp) ∧ w'.cell? ⟨gv, i, none⟩ = some (.int .i64 A) ∧ w'.cell? ⟨g, AJ, none⟩ = some (.int .u64 vw)) (by kernel_rfl) RD (fun hHeld => ?_)
                          clear RD
                          generalize wr.drew = wd at hHeld hbd ⊢
                          refine takeH (i := 0) 130 (pt y) rfl rfl (by kernel_rfl) (by kernel_rfl) (by kernel_rfl) (fun _ _ _ h => h) (by rfl) ?_ (by assumption) ?_
                          · intro w hSw; (try dsimp only at hSw); go_simp
                          try simp only [List.setIfInBounds_toArray, List.set_cons_zero, List.set_cons_succ]
                          refine takeH (i := 1) 131 (pt y) rfl rfl (by kernel_rfl) (by kernel_rfl) (by kernel_rfl) (fun _ _ _ h => h) (by rfl) ?_ (by assumption) ?_
                          · intro w hSw; (try dsimp only at hSw); go_simp
                          try simp only [List.setIfInBounds_toArray, List.set_cons_zero, List.set_cons_succ]
                          refine takeH (i := 2) 132 (.pointer (some ⟨y, 0, none⟩)) rfl rfl (by kernel_rfl) (by kernel_rfl) (by kernel_rfl) (fun _ _ _ h => h) (by rfl) ?_ (by assumption) ?_
                          · intro w hSw; (try dsimp only at hSw); go_simp
                          try simp only [List.setIfInBounds_toArray, List.set_cons_zero, List.set_cons_succ]
                          refine takeH (i := 3) 133 (.slice (some ⟨g, 0, none⟩) LN cp) rfl rfl (by kernel_rfl) (by kernel_rfl) (by kernel_rfl) (fun _ _ _ h => h) (by rfl) ?_ (by assumption) ?_
                          · intro w hSw; (try dsimp only at hSw); go_simp
                          try simp only [List.setIfInBounds_toArray, List.set_cons_zero, List.set_cons_succ]
                          refine takeH (i := 4) 134 ((.slice (some ⟨gv, 0, none⟩) l.length cap)) rfl rfl (by kernel_rfl) (by kernel_rfl) (by kernel_rfl) (fun _ _ _ h => h) (by rfl) ?_ (by assumption) ?_
                          · intro w hSw; (try dsimp only at hSw); go_simp
                          try simp only [List.setIfInBounds_toArray, List.set_cons_zero, List.set_cons_succ]
                          refine takeH (i := 5) 135 (.int .i64 i) rfl rfl (by kernel_rfl) (by kernel_rfl) (by kernel_rfl) (fun _ _ _ h => h) (by rfl) ?_ (by assumption) ?_
                          · intro w hSw; (try dsimp only at hSw); go_simp
                          try simp only [List.setIfInBounds_toArray, List.set_cons_zero, List.set_cons_succ]
                          refine takeH (i := 6) 136 (.pointer (some ⟨gv, i, none⟩)) rfl rfl (by kernel_rfl) (by kernel_rfl) (by kernel_rfl) (fun _ _ _ h => h) (by rfl) ?_ (by assumption) ?_
                          · intro w hSw; (try dsimp only at hSw); go_simp
                          try simp only [List.setIfInBounds_toArray, List.set_cons_zero, List.set_cons_succ]
                          refine takeH (i := 7) 137 (.int .i64 A) rfl rfl (by kernel_rfl) (by kernel_rfl) (by kernel_rfl) (fun _ _ _ h => h) (by rfl) ?_ (by assumption) ?_
                          · intro w hSw; (try dsimp only at hSw); go_simp
                          try simp only [List.setIfInBounds_toArray, List.set_cons_zero, List.set_cons_succ]
                          refine takeH (i := 8) 138 (.int .i64 ((A : Int) + 1)) rfl rfl (by kernel_rfl) (by kernel_rfl) (by kernel_rfl) (fun _ _ _ h => h) (by rfl) ?_ (by assumption) ?_
                          · intro w hSw; (try dsimp only at hSw); go_simp
                          try simp only [List.setIfInBounds_toArray, List.set_cons_zero, List.set_cons_succ]
                          refine takeH (i := 9) 139 (.int .i64 k) rfl rfl (by kernel_rfl) (by kernel_rfl) (by kernel_rfl) (fun _ _ _ h => h) (by rfl) ?_ (by assumption) ?_
                          · intro w hSw; (try dsimp only at hSw); go_simp
                          try simp only [List.setIfInBounds_toArray, List.set_cons_zero, List.set_cons_succ]
                          refine takeH (i := 10) 140 (.int .i64 AJ) rfl rfl (by kernel_rfl) (by kernel_rfl) (by kernel_rfl) (fun _ _ _ h => h) (by rfl) ?_ (by assumption) ?_
                          · intro w hSw; (try dsimp only at hSw); go_simp
                          try simp only [List.setIfInBounds_toArray, List.set_cons_zero, List.set_cons_succ]
                          refine takeH (i := 11) 141 (.pointer (some ⟨g, AJ, none⟩)) rfl rfl (by kernel_rfl) (by kernel_rfl) (by kernel_rfl) (fun _ _ _ h => h) (by rfl) ?_ (by assumption) ?_
                          · intro w hSw; (try dsimp only at hSw); go_simp
                          try simp only [List.setIfInBounds_toArray, List.set_cons_zero, List.set_cons_succ]
                          refine takeH (i := 12) 142 (.int .u64 vw) rfl rfl (by kernel_rfl) (by kernel_rfl) (by kernel_rfl) (fun _ _ _ h => h) (by rfl) ?_ (by assumption) ?_
                          · intro w hSw; (try dsimp only at hSw); go_simp
                          try simp only [List.setIfInBounds_toArray, List.set_cons_zero, List.set_cons_succ]
                          refine wpAnyH_ready (rs := [13, 14]) (by kernel_rfl) (by simp) ?_
                          refine AllReadyH.cons rfl (fun K hK => ?_) (AllReadyH.cons rfl (fun K hK => ?_) AllReadyH.nil)
                          · go_simp
                            go_at_call 28
                            refine (F.rOf vw hu.1 hu.2 _).mono ?_
                            rintro r w2 ⟨rfl, hw2⟩
                            rw [hkv, hnv] at hw2 ⊢
                            have hb2' : Below wr.heap.size wr w2 := hw2 ▸ (hbd.alloc hbd.size _)
                            clear hw2
                            refine hK.out _ _ (keep _ hb2') (fun hHeld => ?_)
                            clear hK K
                            try simp only [Act.put, List.setIfInBounds_toArray, List.set_cons_zero, List.set_cons_succ]
                            refine wpAnyH_ready (rs := [14]) (by kernel_rfl) (by simp) ?_
                            refine AllReadyH.cons rfl (fun K hK => ?_) AllReadyH.nil
                            go_simp
                            refine hK.out _ _ (keep _ (hb2'.alloc hb2'.size _)) (fun hHeld => ?_)
                            clear hK K
                            try simp only [Act.put, List.setIfInBounds_toArray, List.set_cons_zero, List.set_cons_succ]
                            refine wpAnyH_ready (rs := [15]) (by kernel_rfl) (by simp) ?_
                            refine AllReadyH.cons rfl (fun K hK => ?_) AllReadyH.nil
                            go_simp
                            refine hK.out _ _ (keep _ (hb2'.alloc hb2'.size _)) (fun hHeld => ?_)
                            clear hK K
                            try simp only [Act.put, List.setIfInBounds_toArray, List.set_cons_zero, List.set_cons_succ]
                            refine wpAnyH_done (by kernel_rfl) ?_ _
                            have hbn : Below wr.heap.size wr (w2.alloc (.cells #[.int .i64 kv, .int .i64 nv] 82)) := (hb2'.alloc hb2'.size _)
                            have Bn : Blk wB (w2.alloc (.cells #[.int .i64 kv, .int .i64 nv] 82)) w2.heap.size 82 #[.int .i64 kv, .int .i64 nv] := Blk.new (Nat.le_trans L.size hb2'.size) _ (by decide)
                            go_wp2
                            go_meet
                            case rel => exact ⟨_, rfl, L.below hbn, Blk.below Bw hbn, Blk.below Bm hbn, Bn⟩
                          · go_simp
                            refine hK.out _ _ (keep _ (hbd.alloc hbd.size _)) (fun hHeld => ?_)
                            clear hK K
                            try simp only [Act.put, List.setIfInBounds_toArray, List.set_cons_zero, List.set_cons_succ]
                            generalize hbz0 : wd.heap.size = bz
                            have hbzg : wr.heap.size ≤ bz := hbz0 ▸ hbd.size
                            obtain ⟨wz, hwz⟩ : ∃ wz, wd.alloc (.cells #[.int .i64 0, .int .i64 0] 82) = wz := ⟨_, rfl⟩
                            have hbz : Below wr.heap.size wr wz := hwz ▸ hbd.alloc hbd.size _
                            have BZ : Blk wB wz bz 82 #[.int .i64 0, .int .i64 0] := hwz ▸ hbz0 ▸ Blk.new (Nat.le_trans L.size hbd.size) _ (by decide)
                            rw [hwz]
                            clear hwz
                            refine wpAnyH_ready (rs := [13]) (by kernel_rfl) (by simp) ?_
                            refine AllReadyH.cons rfl (fun K hK => ?_) AllReadyH.nil
                            go_simp
                            go_at_call 28
                            refine (F.rOf vw hu.1 hu.2 _).mono ?_
                            rintro r w2 ⟨rfl, hw2⟩
                            rw [hkv, hnv] at hw2 ⊢
                            have hb2'' : Below wz.heap.size wz w2 := hw2 ▸ ((Below.refl _ _).alloc (Nat.le_refl _) _)
                            clear hw2
                            have hb2' := bel_trans hbz hb2''
                            have BZ2 := BZ.below hb2''
                            have bz0 : w2.cell? ⟨bz, 0, none⟩ = some (.int .i64 0) := BZ2.cell 0
                            have bf0 := BZ2.free 0
                            have bz1 : w2.cell? ⟨bz, 1, none⟩ = some (.int .i64 0) := BZ2.cell 1
                            have bf1 := BZ2.free 1
                            have bzl := BZ2.lt
                            refine hK.out _ _ (keep _ hb2') (fun hHeld => ?_)
                            clear hK K
                            try simp only [Act.put, List.setIfInBounds_toArray, List.set_cons_zero, List.set_cons_succ]
                            refine wpAnyH_ready (rs := [15]) (by kernel_rfl) (by simp) ?_
                            refine AllReadyH.cons rfl (fun K hK => ?_) AllReadyH.nil
                            go_simp
                            refine hK.out _ _ (keep _ ((hb2'.setCell hbzg _).setCell hbzg _)) (fun hHeld => ?_)
                            clear hK K
                            try simp only [Act.put, List.setIfInBounds_toArray, List.set_cons_zero, List.set_cons_succ]
                            refine wpAnyH_done (by kernel_rfl) ?_ _
                            have on : Oth [bz] w2 (((w2.setCell ⟨bz, 0, none⟩ (.int .i64 kv)).setCell ⟨bz, 1, none⟩ (.int .i64 nv))) := ((Oth.set _ _ _ _ (by simp)).trans (Oth.set _ _ _ _ (by simp)))
                            go_wp2
                            go_meet
                            case rel => exact ⟨bz, rfl, (((L.below hb2').set BZ2 (by decide) 0 (.int .i64 kv)).set (BZ2.set 0 (.int .i64 kv)) (by decide) 1 (.int .i64 nv)), Blk.oth (Blk.below Bw hb2') on (by have := Blk.lt Bw; simp; omega), Blk.oth (Blk.below Bm hb2') on (by have := Blk.lt Bm; simp; omega), ((BZ2.set 0 (.int .i64 kv)).set 1 (.int .i64 nv))⟩
                        clear L Bw Bm
                        obtain ⟨hb, rfl, L, Bw, Bm, Bh⟩ := hcut
                        have c0 := Bh.cell 0
                        have c1 := Bh.cell 1
                        have cl := Bh.lt
                        simp only [List.getElem?_toArray, List.getElem?_cons_zero, List.getElem?_cons_succ] at c0 c1
                        clear wi1 wi2 hAJ hvw hu
                        by_cases hk1 : kv = 1
                        · have d1 : (kv == 1) = true := by simpa using hk1
                          by_cases hn0 : nv = 0
                          · have d2 : (nv != 0) = false := by simp [hn0]
                            have hf' := hno (fun h => h.2 hn0)
                            clear hkv hnv hfd hno hyes hk1 hn0
                            go_wp2_with (fail)
                            go_roundw
                            case rel => exact ⟨k + 1, _, by omega, by go_num, L, Bw, Bm, .inr ⟨hwi, hf', hwt⟩⟩
                            case measure => simp [intOf]; omega
                          · have d2 : (nv != 0) = true := by simpa using hn0
                            obtain ⟨rr, hrl, hra⟩ := hfd hk1 hn0
                            have hrb := lo.b rr hrl
                            obtain ⟨NV, hNV⟩ : ∃ NV : Nat, nv = (NV : Int) := ⟨nv.toNat, by omega⟩
                            obtain ⟨hf', hwt'⟩ := hyes hk1 (hnv.trans hNV)
                            clear hkv hnv hfd hno hyes hk1 hn0
                            subst hNV
                            have e0 : (0 : Int) ≤ (NV : Int) := by omega
                            have e1 : (NV : Int) < (LN : Int) := by omega
                            clear hra hrb hrl rr
                            have wc : wc.cell? ⟨gw, NV, none⟩ = some (.bool (wj NV)) := (Bw.cell NV).trans (marks_at LN wj NV (by omega))
                            have wf := Bw.free NV
                            have wl := Bw.lt
                            have Lw := L.set Bw (by decide) NV (.bool true)
                            have Bm' := Bm.oth (Oth.set (F := [gw]) _ gw NV (.bool true) (by simp)) (by simpa using Bm.ne Bw (by decide))
                            have Bw' := Bw.set NV (.bool true)
                            rw [marks_set] at Bw'
                            go_wp2_with (fail)
                            go_roundw
                            case rel => exact ⟨k + 1, _, by omega, by go_num, Lw, Bw', Bm', .inr ⟨hwi, hf', hwt'⟩⟩
                            case measure => simp [intOf]; omega
                        · have d1 : (kv == 1) = false := by simpa using hk1
                          have hf' := hno (fun h => hk1 h.1)
                          clear hkv hnv hfd hno hyes hk1
                          go_wp2_with (fail)
                          go_roundw
                          case rel => exact ⟨k + 1, _, by omega, by go_num, L, Bw, Bm, .inr ⟨hwi, hf', hwt⟩⟩
                          case measure => simp [intOf]; omega
                  · have dk : decide ((k : Int) < (o.m : Int)) = false := by simp; omega
                    rcases hx with ⟨hwi, rfl⟩ | ⟨hwi, hf, hwt⟩
                    · skip
                      go_wp2_with (fail)
                      go_roundw
                      case rel => exact ⟨i + 1, _, by omega, by go_num, L, Bw, hin.no ho hwi⟩
                      case measure => simp [intOf]; omega
                    · skip
                      go_wp2_with (fail)
                      go_roundw
                      case rel => exact ⟨i + 1, _, by omega, by go_num, L, Bw, hf.in_.yes ho (fun j r hr hR => hf.refs j (by have := hR.1; omega) r hr hR)⟩
                      case measure => simp [intOf]; omega
            · have hd1 : decide ((i : Int) < (l.length : Int)) = false := decide_eq_false (by omega)
              obtain rfl : i = l.length := by omega
              go_wp2_with (fail)
              go_roundw
              case rel => exact ⟨r + 1, wi, by omega, by go_num, L, Bw, hW.round hin⟩
              case measure => simp [intOf]; omega
        · have hd0 : decide ((r : Int) < (l.length : Int)) = false := decide_eq_false (by omega)
          obtain rfl : r = l.length := by omega
          go_wp2_with (fail)
          go_meet
          exact ⟨wt, L, Bw, hW⟩
    clear L0 Bw0 hW0 wt
    obtain ⟨wt, L, Bw, hW⟩ := hcut
    go_upto_region 32 with (fail)
    have hbq : Below wc.heap.size wc (wc.alloc (.cells #[.int .i64 2, .int .i64 2, .int .i64 1, .int .i64 0] 37)) := (Below.refl _ _).alloc (Nat.le_refl _) _
    have Lq := L.below hbq
    have Bwq := Bw.below hbq
    have Bq : Blk wB (wc.alloc (.cells #[.int .i64 2, .int .i64 2, .int .i64 1, .int .i64 0] 37)) wc.heap.size 37 #[.int .i64 2, .int .i64 2, .int .i64 1, .int .i64 0] := Blk.new L.size _ (by decide)
    clear L hbq Bw
    generalize wc.alloc (.cells #[.int .i64 2, .int .i64 2, .int .i64 1, .int .i64 0] 37) = wq at Lq Bq Bwq ⊢
    generalize wc.heap.size = qq at Bq ⊢
    have e0 : wq.cell? ⟨p6, 0, none⟩ = some (.int .i64 U.th) := Lq.b6.cell 0
    have e1 : wq.cell? ⟨p6, 1, none⟩ = some (.int .i64 U.bl) := Lq.b6.cell 1
    have e2 : wq.cell? ⟨p6, 2, none⟩ = some (.int .i64 U.ta) := Lq.b6.cell 2
    have e3 : wq.cell? ⟨p6, 3, none⟩ = some (.int .i64 U.he) := Lq.b6.cell 3
    have e4 : wq.cell? ⟨p6, 4, none⟩ = some (.int .i64 U.si) := Lq.b6.cell 4
    have el := Lq.b6.lt
    have g0 : wq.cell? ⟨qq, 0, none⟩ = some (.int .i64 2) := Bq.cell 0
    have g1 : wq.cell? ⟨qq, 1, none⟩ = some (.int .i64 2) := Bq.cell 1
    have g2 : wq.cell? ⟨qq, 2, none⟩ = some (.int .i64 1) := Bq.cell 2
    have g3 : wq.cell? ⟨qq, 3, none⟩ = some (.int .i64 0) := Bq.cell 3
    have gl := Bq.lt
    have CP := tNewT Lq.two U q2
    rw [show q2.no = 2 from rfl, show q2.md = 2 from rfl, show q2.mr = 1 from rfl, show q2.ls = 0 from rfl] at CP
    go_upto_region 33 with (go_at_call 29; refine CP.mono ?_; rintro e w8 ⟨xp, rfl, T8, X8, o8, hx8⟩)
    have L8 := Lq.oth (F := []) T8 o8 (fun _ hz => by simp at hz)
    have Bq8 := Bq.oth o8 (by simp)
    have Bw8 := Bwq.oth o8 (by simp)
    clear e0 e1 e2 e3 e4 el 
    clear g0 g1 g2 g3 gl Lq Bq T8 o8 hx8 Bwq
    have g0 : w8.cell? ⟨qq, 0, none⟩ = some (.int .i64 2) := Bq8.cell 0
    have g1 : w8.cell? ⟨qq, 1, none⟩ = some (.int .i64 2) := Bq8.cell 1
    have g2 : w8.cell? ⟨qq, 2, none⟩ = some (.int .i64 1) := Bq8.cell 2
    have g3 : w8.cell? ⟨qq, 3, none⟩ = some (.int .i64 0) := Bq8.cell 3
    have gl := Bq8.lt
    go_upto_region 34 with (fail)
    have hbo : Below w8.heap.size w8 (w8.alloc (.cells #[.int .i64 2, .int .i64 2, .int .i64 1, .int .i64 0, .int .i64 2, .int .i64 2, .int .i64 1, .int .i64 0] 86)) := (Below.refl _ _).alloc (Nat.le_refl _) _
    have L9 := L8.below hbo
    have X9 := Blk.below X8 hbo
    have Bw9 := Bw8.below hbo
    have Bo9 : Blk wB (w8.alloc (.cells #[.int .i64 2, .int .i64 2, .int .i64 1, .int .i64 0, .int .i64 2, .int .i64 2, .int .i64 1, .int .i64 0] 86)) w8.heap.size 86 (own2 (two q2 q2)) := Blk.new L8.size _ (by decide)
    clear g0 g1 g2 g3 gl L8 X8 hbo Bq8 Bw8
    generalize w8.alloc (.cells #[.int .i64 2, .int .i64 2, .int .i64 1, .int .i64 0, .int .i64 2, .int .i64 2, .int .i64 1, .int .i64 0] 86) = w9 at L9 X9 Bo9 Bw9 ⊢
    generalize w8.heap.size = qo at Bo9 ⊢
    have Ge_C := G.subC
    obtain ⟨K, xe, e0, e1, se, fe, B, hK1, hK, RD, hpc, hq3, Ve, Ge, hC1, hC2, hC3⟩ := traced (U := U) lo fi.fd hl hUt.out V1 G Z
    have ok9 : (TrS.new q2).Ok U := TrS.ok_new q2 (by have := hUt.out; omega) (by decide)
    have d9 : ((TrS.new q2).pc == 0) = false := rfl
    clear G Z V1 f
    go_wp2_with (fail)
    go_loopw [23, 24] (fun vd vi wr => ∃ (i r : Nat) (x : TrS) (o0 o1 : Ph) (s : St), i + r = K ∧ vi = .int .i64 i ∧ vd = .bool (x.pc == 0) ∧ Rd U r x o0 o1 s xe e0 e1 se ∧ Lf wB wr b y s S (7100 + 5 * i) p6 #[.int .i64 U.th, .int .i64 U.bl, .int .i64 U.ta, .int .i64 U.he, .int .i64 U.si] (.slice ao l.length cap) l ∧ TM wB wr xp U x ∧ x.Ok U ∧ Blk wB wr qo 86 (own2 (two o0 o1)) ∧ Blk wB wr gw 4 (marks LN wt)) (fun _ vi _ => 5000 - (intOf vi).toNat)
    case atStart => exact ⟨0, K, _, _, _, _, by omega, rfl, rfl, RD, L9, X9, ok9, Bo9, Bw9⟩
    case round =>
      clear L9 X9 ok9 Bo9 RD d9 Bw9
      obtain ⟨i, r, x, o0, o1, s, hir, rfl, rfl, RD, L, X, ok, Bo, Bw⟩ := hrel
      have di : decide ((i : Int) < 5000) = true := by simp; omega
      cases RD with
      | nil =>
        have hd : (xe.pc == 0) = true := by simp [hpc]
        rw [hd]
        as_aux_lemma =>
          have L9 : Lf wB wr b y se S (40000 + 10 * 0) p6 #[.int .i64 U.th, .int .i64 U.bl, .int .i64 U.ta, .int .i64 U.he, .int .i64 U.si] (.slice ao l.length cap) l := L.mono (by omega)
          go_upto_block 14 with (fail)
          go_wp2_with (fail)
          go_loopw [30] (fun vi wr => ∃ (i : Nat) (s : St), i ≤ l.length ∧ vi = .int .i64 i ∧ Lf wB wr b y s S (40000 + 10 * i) p6 #[.int .i64 U.th, .int .i64 U.bl, .int .i64 U.ta, .int .i64 U.he, .int .i64 U.si] (.slice ao l.length cap) l ∧ Vw LN s fe ∧ Blk wB wr gw 4 (marks LN wt)) (fun vi _ => 60 - (intOf vi).toNat)
          case atStart => exact ⟨0, se, by omega, rfl, L9, Ve, Bw⟩
          case round =>
            clear L9 X Ve L di hd hir Bw Bo
            obtain ⟨i, s, hi, rfl, L, Vs, Bw⟩ := hrel
            by_cases hil : i < l.length
            · have hd1 : decide ((i : Int) < (l.length : Int)) = true := decide_eq_true (by omega)
              obtain ⟨gv, rfl⟩ := hao (by omega)
              obtain ⟨o, ho⟩ : ∃ o, l[i]? = some o := ⟨l[i], List.getElem?_eq_getElem hil⟩
              have hol : o ∈ l := List.mem_of_getElem? ho
              have hbo := lo.b o hol
              have hm7 := lo.m7 o hol
              obtain ⟨A, hA⟩ : ∃ A : Nat, o.at = (A : Int) := ⟨o.at.toNat, by omega⟩
              have ei : (0 : Int) ≤ (i : Int) := by omega
              have ei2 : (i : Int) < (l.length : Int) := by omega
              have eA : (0 : Int) ≤ (A : Int) := by omega
              have eA2 : (A : Int) < (LN : Int) := by omega
              obtain ⟨mk, mk0, mk1, hmk, hmB⟩ := Ge.head hol
              rw [hA] at hmk
              obtain ⟨fw, hfw⟩ : ∃ x, fe A = x := ⟨_, rfl⟩
              rw [hfw] at hmk
              obtain ⟨v1', v2', v3', v4', v5', v6', v7'⟩ := head_parts o hm7 mk0 mk1 hmk
              have hsame := hW.same (Nat.le_refl _) Ge_C Ge.subB hC1 hC2 hC3 hol
              obtain ⟨bv, hbv⟩ : ∃ bv, wt A = bv := ⟨_, rfl⟩
              rw [hA, hbv] at hsame
              have hmb : (mk == 1) = bv := by
                cases bv with
                | true => simpa using hmB.2 (hsame.2 rfl)
                | false => simpa using fun e => by have := hsame.1 (hmB.1 e); simp at this
              have rc := L.rowAt ho
              rw [hA] at rc
              have gt : s.got A = fw := (Vs.got (by omega) (by omega)).trans hfw
              have hu2 : U64 fw := by rw [← gt]; exact L.two.rng1.got _
              clear hmk hfw hsame hmB
              have Vd := Vs.load (a := (A : Int)) (by omega) (by omega)
              obtain ⟨g2, cp2, hS2, _⟩ := L.words V
              go_upto_region 55 with (first
                | (go_at_call 31; refine (L.load hS2 (by omega) A).mono ?_; rintro e w5 ⟨rfl, L5, o5, _⟩; rw [gt])
                | (go_at_call 27; refine (H.rOf fw hu2.1 hu2.2 _).mono ?_; rintro r w6 ⟨rfl, hw6⟩; rw [v1', v2', v3', v4', v5', v6', v7'] at hw6 ⊢; have hb6 := hw6 ▸ (Below.refl _ _).alloc (Nat.le_refl _) _; clear hw6))
              have hbn : Below w5.heap.size w5 (w6.alloc (.cells #[.int .i64 1, .int .i64 o.c, .int .i64 o.m, .int .i64 mk, .int .i64 0, .int .i64 0, .int .i64 0] 74)) := bel_trans hb6 ((Below.refl _ _).alloc (Nat.le_refl _) _)
              have L7 := L5.below hbn
              have Bw7 := (Bw.oth o5 (by simp)).below hbn
              have Bn7 : Blk wB (w6.alloc (.cells #[.int .i64 1, .int .i64 o.c, .int .i64 o.m, .int .i64 mk, .int .i64 0, .int .i64 0, .int .i64 0] 74)) w6.heap.size 74 #[.int .i64 1, .int .i64 o.c, .int .i64 o.m, .int .i64 mk, .int .i64 0, .int .i64 0, .int .i64 0] := Blk.new (Nat.le_trans L5.size hb6.size) _ (by decide)
              clear L L5 o5 hb6 hbn rc Bw v1' v2' v3' v4' v5' v6' v7' gt hu2 hS2
              generalize w6.alloc (.cells #[.int .i64 1, .int .i64 o.c, .int .i64 o.m, .int .i64 mk, .int .i64 0, .int .i64 0, .int .i64 0] 74) = w7 at L7 Bw7 Bn7 ⊢
              generalize w6.heap.size = nb at Bn7 ⊢
              have z3 : w7.cell? ⟨nb, 3, none⟩ = some (.int .i64 mk) := Bn7.cell 3
              have z4 : w7.cell? ⟨nb, 4, none⟩ = some (.int .i64 0) := Bn7.cell 4
              have zl := Bn7.lt
              have rc := L7.rowAt ho
              rw [hA] at rc
              have wcl := Bw7.lt
              have wcell : w7.cell? ⟨gw, A, none⟩ = some (.bool bv) := by rw [← hbv]; exact (Bw7.cell A).trans (marks_at LN wt A (by omega))
              have hbb : (bv != bv) = false := by simp
              have Lf' := L7.below (Go.Proofs.YtoablodmodnamaaDoor.S.bdr (Below.refl _ _) 1)
              have Bf' := Bw7.below (Go.Proofs.YtoablodmodnamaaDoor.S.bdr (Below.refl _ _) 1)
              clear hbv
              go_quiet (fail)
              go_wp2
              go_roundw
              case rel => exact ⟨i + 1, _, by omega, by go_num, (L7.below (Go.Proofs.YtoablodmodnamaaDoor.S.bdr (Below.refl _ _) _)).mono (by omega), Vd, Bw7.below (Go.Proofs.YtoablodmodnamaaDoor.S.bdr (Below.refl _ _) _)⟩
              case measure => simp [intOf]; omega
            · have hd1 : decide ((i : Int) < (l.length : Int)) = false := decide_eq_false (by omega)
              have hst : s.t = 0 := Vs.t
              go_wp2_with (go_at_call 32; refine (hTraps L.two.one).mono ?_; rintro e w5 ⟨rfl, rfl⟩; rw [hst])
              go_ret
              exact ⟨rfl, bel_trans hb3 L.bel⟩
      | cons h1 RD =>
        rename_i r
        have hd : (x.pc == 0) = false := by simp; omega
        rw [hd]
        go_upto_region 41 with (go_at_call 30; refine (tTrace L.two X ok (by omega)).mono ?_; rintro e w3 ⟨rfl, T3, X3, o3⟩)
        have L3 := L.one T3 o3 X (by decide)
        have Bo3 := Bo.oth o3 (by simpa using Bo.ne X (by decide))
        have Bw3 := Bw.oth o3 (by simpa using Bw.ne X (by decide))

        have ok3 := ok.next (s := s) L.two.rng1
        obtain ⟨sA, hsA⟩ : ∃ sA, x.mem s = sA := ⟨_, rfl⟩
        rw [hsA] at L3 RD
        obtain ⟨xA, hxA⟩ : ∃ xA, x.next U s = xA := ⟨_, rfl⟩
        rw [hxA] at X3 RD ok3 ⊢
        clear L X ok Bo T3 o3 hd di hsA hxA Bw
        have L3' : Lf wB w3 b y (pkS (two o0 o1) sA 0) S (7100 + 5 * i + 1 + 2 * 0) p6 #[.int .i64 U.th, .int .i64 U.bl, .int .i64 U.ta, .int .i64 U.he, .int .i64 U.si] (.slice ao l.length cap) l := L3
        have Bo3' : Blk wB w3 qo 86 (own2 (pkO (two o0 o1) sA 0)) := Bo3
        clear L3 Bo3
        go_wp2_with (fail)
        go_loopw [25] (fun vk wr => ∃ k : Nat, k ≤ 2 ∧ vk = .int .i64 k ∧ Lf wB wr b y (pkS (two o0 o1) sA k) S (7100 + 5 * i + 1 + 2 * k) p6 #[.int .i64 U.th, .int .i64 U.bl, .int .i64 U.ta, .int .i64 U.he, .int .i64 U.si] (.slice ao l.length cap) l ∧ TM wB wr xp U xA ∧ Blk wB wr qo 86 (own2 (pkO (two o0 o1) sA k)) ∧ Blk wB wr gw 4 (marks LN wt)) (fun vk _ => 2 - (intOf vk).toNat)
        case atStart => exact ⟨0, by omega, rfl, L3', X3, Bo3', Bw3⟩
        case round =>
          clear L3' X3 Bo3' Bw3
          obtain ⟨k, hk, rfl, L, X, Bo, Bw⟩ := hrel
          by_cases hk2 : k < 2
          · skip
            as_aux_lemma =>
              have dk : decide ((k : Int) < 2) = true := by simp; omega
              obtain ⟨o, ho⟩ : ∃ o, pkO (two o0 o1) sA k k = o := ⟨_, rfl⟩
              have hoo : two o0 o1 k = o := (pkO_at _ sA k k (Nat.le_refl _)).symm.trans ho
              go_upto_region 44 with (fail)
              have keep : ∀ w', Below wr.heap.size wr w' → w'.cell? ⟨p6, 0, none⟩ = some (.int .i64 U.th) ∧ w'.cell? ⟨p6, 1, none⟩ = some (.int .i64 U.bl) ∧ w'.cell? ⟨p6, 2, none⟩ = some (.int .i64 U.ta) ∧ w'.cell? ⟨p6, 3, none⟩ = some (.int .i64 U.he) ∧ w'.cell? ⟨p6, 4, none⟩ = some (.int .i64 U.si) ∧ w'.cell? ⟨qo, k * 4, none⟩ = some (.int .i64 o.no) ∧ w'.cell? ⟨qo, k * 4 + 1, none⟩ = some (.int .i64 o.md) ∧ w'.cell? ⟨qo, k * 4 + 2, none⟩ = some (.int .i64 o.mr) ∧ w'.cell? ⟨qo, k * 4 + 3, none⟩ = some (.int .i64 o.ls) := fun w' hb => ⟨(L.below hb).b6.cell 0, (L.below hb).b6.cell 1, (L.below hb).b6.cell 2, (L.below hb).b6.cell 3, (L.below hb).b6.cell 4, (co2 (Bo.below hb) hk2 ho).1, (co2 (Bo.below hb) hk2 ho).2.1, (co2 (Bo.below hb) hk2 ho).2.2.1, (co2 (Bo.below hb) hk2 ho).2.2.2⟩
              have hbd : Below wr.heap.size wr wr.drew := (Below.refl wr.heap.size wr).drew
              have RD := keep _ hbd
              have pl := L.b6.lt
              have ol := Bo.lt
              have hki' : (0 : Int) ≤ (k : Int) ∧ (k : Int) < 2 := by omega
              go_region_held3 (fun w' => w'.cell? ⟨p6, 0, none⟩ = some (.int .i64 U.th) ∧ w'.cell? ⟨p6, 1, none⟩ = some (.int .i64 U.bl) ∧ w'.cell? ⟨p6, 2, none⟩ = some (.int .i64 U.ta) ∧ w'.cell? ⟨p6, 3, none⟩ = some (.int .i64 U.he) ∧ w'.cell? ⟨p6, 4, none⟩ = some (.int .i64 U.si) ∧ w'.cell? ⟨qo, k * 4, none⟩ = some (.int .i64 o.no) ∧ w'.cell? ⟨qo, k * 4 + 1, none⟩ = some (.int .i64 o.md) ∧ w'.cell? ⟨qo, k * 4 + 2, none⟩ = some (.int .i64 o.mr) ∧ w'.cell? ⟨qo, k * 4 + 3, none⟩ = some (.int .i64 o.ls)) (first | assumption | exact RD | exact keep _ (by assumption))
                ((go_at_call 15; refine (nPoll (w0 := wB) U (i := (k : Int)) (by omega) (by omega) o 0 0 (fun _ => 0) (Nat.le_trans L.size hbd.size)).mono ?_; rintro e w5 ⟨zb, rfl, MB, hb5', hz5⟩; have hb5 : Below wr.heap.size wr w5 := bel_trans hbd hb5'))
              clear keep RD pl ol hki'
              have L5 := L.below hb5
              have X5 := Blk.below X hb5
              have Bo5 := Bo.below hb5
              have Bw5 := Bw.below hb5
              obtain ⟨X0, hX0⟩ : ∃ X0, PollS.new (10 + (k : Int)) o 0 0 (fun _ => 0) = X0 := ⟨_, rfl⟩
              rw [hX0] at MB
              have e0 : poll k o = X0 := hX0
              have ok0 : X0.wh.Ok := by rw [← hX0]; trivial
              have n0 : X0.n ≤ 8 := by rw [← hX0]; show 0 ≤ 8; omega
              have hr5 := L5.two.rng1
              have ok1 : (X0.next (pkS (two o0 o1) sA k)).wh.Ok := PollS.ok_next ok0 hr5
              have n1 : (X0.next (pkS (two o0 o1) sA k)).n ≤ 8 := by rw [← e0, poll_n]; omega
              clear hX0 L X Bo hb5 hb5' hz5 dk Bw
              go_upto_region 48 with (go_at_call 17; refine (tPoll0 L5.two MB ok0 n0 (by omega)).mono ?_; rintro e w6 ⟨rfl, T6, M6, o6⟩)
              have L6 := L5.one T6 o6 (MB.choose_spec.1) (by decide)
              have X6 := Blk.oth X5 o6 (by simpa using Ne.symm (MB.ne X5 (by decide)))
              have Bo6 := Bo5.oth o6 (by simpa using Ne.symm (MB.ne Bo5 (by decide)))
              have Bw6 := Bw5.oth o6 (by simpa using Ne.symm (MB.ne Bw5 (by decide)))
              clear L5 X5 Bo5 T6 o6 MB Bw5
              go_upto_region 49 with (go_at_call 17; refine (tPoll0 L6.two M6 ok1 n1 (by omega)).mono ?_; rintro e w7 ⟨rfl, T7, M7, o7⟩)
              have L7 := L6.one T7 o7 (M6.choose_spec.1) (by decide)
              have X7 := Blk.oth X6 o7 (by simpa using Ne.symm (M6.ne X6 (by decide)))
              have Bo7 := Bo6.oth o7 (by simpa using Ne.symm (M6.ne Bo6 (by decide)))
              have Bw7 := Bw6.oth o7 (by simpa using Ne.symm (M6.ne Bw6 (by decide)))
              clear L6 X6 Bo6 T7 o7 M6 ok1 n1 ok0 n0 hr5 Bw6
              have es : (X0.next (pkS (two o0 o1) sA k)).mem (X0.mem (pkS (two o0 o1) sA k)) = pkS (two o0 o1) sA (k + 1) := by show _ = plM k (two o0 o1 k) (pkS (two o0 o1) sA k); rw [hoo, plM, e0]
              rw [es] at L7
              obtain ⟨X2, hX2⟩ : ∃ X2, (X0.next (pkS (two o0 o1) sA k)).next (X0.mem (pkS (two o0 o1) sA k)) = X2 := ⟨_, rfl⟩
              rw [hX2] at M7
              have eo : updN2 (pkO (two o0 o1) sA k) k X2.own = pkO (two o0 o1) sA (k + 1) := by show _ = updN2 (pkO (two o0 o1) sA k) k (plO k (two o0 o1 k) (pkS (two o0 o1) sA k)); rw [hoo, plO, e0, hX2]
              clear es hX2
              go_upto_region 50 with (go_at_call 18; refine (hResult M7).mono ?_; rintro e w10 ⟨rfl, hb10⟩)
              have hbb : Below w10.heap.size w10 ((w10.alloc (.cells #[.int .i64 X2.own.no, .int .i64 X2.own.md, .int .i64 X2.own.mr, .int .i64 X2.own.ls] 37)).alloc (.cells #[.int .i64 X2.n, .int .i64 (X2.l 0), .int .i64 (X2.l 1), .int .i64 (X2.l 2), .int .i64 (X2.l 3), .int .i64 (X2.l 4), .int .i64 (X2.l 5), .int .i64 (X2.l 6), .int .i64 (X2.l 7)] 42)) := ((Below.refl _ _).alloc (Nat.le_refl _) _).alloc (by simp) _
              have hbc := bel_trans hb10 hbb
              have L11 := L7.below hbc
              have X11 := Blk.below X7 hbc
              have Bo11 := Bo7.below hbc
              have Bw11 := Bw7.below hbc
              have Bq11 : Blk wB ((w10.alloc (.cells #[.int .i64 X2.own.no, .int .i64 X2.own.md, .int .i64 X2.own.mr, .int .i64 X2.own.ls] 37)).alloc (.cells #[.int .i64 X2.n, .int .i64 (X2.l 0), .int .i64 (X2.l 1), .int .i64 (X2.l 2), .int .i64 (X2.l 3), .int .i64 (X2.l 4), .int .i64 (X2.l 5), .int .i64 (X2.l 6), .int .i64 (X2.l 7)] 42)) w10.heap.size 37 #[.int .i64 X2.own.no, .int .i64 X2.own.md, .int .i64 X2.own.mr, .int .i64 X2.own.ls] := (Blk.new (Nat.le_trans L7.size hb10.size) _ (by decide)).below ((Below.refl _ _).alloc (Nat.le_refl _) _)
              clear L7 X7 Bo7 hbb hbc hb10 M7 Bw7
              generalize (w10.alloc (.cells #[.int .i64 X2.own.no, .int .i64 X2.own.md, .int .i64 X2.own.mr, .int .i64 X2.own.ls] 37)).alloc (.cells #[.int .i64 X2.n, .int .i64 (X2.l 0), .int .i64 (X2.l 1), .int .i64 (X2.l 2), .int .i64 (X2.l 3), .int .i64 (X2.l 4), .int .i64 (X2.l 5), .int .i64 (X2.l 6), .int .i64 (X2.l 7)] 42) = w11 at L11 X11 Bo11 Bq11 Bw11 ⊢
              generalize w10.heap.size + 1 = qs
              generalize w10.heap.size = qw at Bq11 ⊢
              obtain ⟨c0, c1, c2, c3⟩ := co2 Bo11 hk2 (rfl : pkO (two o0 o1) sA k k = pkO (two o0 o1) sA k k)
              have f0' := Bo11.free (k * 4)
              have f1 := Bo11.free (k * 4 + 1)
              have f2 := Bo11.free (k * 4 + 2)
              have f3 := Bo11.free (k * 4 + 3)
              have cl := Bo11.lt
              have u0 : w11.cell? ⟨qw, 0, none⟩ = some (.int .i64 X2.own.no) := Bq11.cell 0
              have u1 : w11.cell? ⟨qw, 1, none⟩ = some (.int .i64 X2.own.md) := Bq11.cell 1
              have u2 : w11.cell? ⟨qw, 2, none⟩ = some (.int .i64 X2.own.mr) := Bq11.cell 2
              have u3 : w11.cell? ⟨qw, 3, none⟩ = some (.int .i64 X2.own.ls) := Bq11.cell 3
              have ul := Bq11.lt
              have ek : (0 : Int) ≤ (k : Int) := by omega
              have ek2 : (k : Int) < 2 := by omega
              have Bo12 := owned2 Bo11 hk2 X2.own
              have L12 := (((L11.set Bo11 (by decide) (k * 4) (.int .i64 X2.own.no)).set (Bo11.set _ _) (by decide) (k * 4 + 1) (.int .i64 X2.own.md)).set ((Bo11.set _ _).set _ _) (by decide) (k * 4 + 2) (.int .i64 X2.own.mr)).set (((Bo11.set _ _).set _ _).set _ _) (by decide) (k * 4 + 3) (.int .i64 X2.own.ls)
              have oth4 : Oth [qo] w11 ((((w11.setCell ⟨qo, k * 4, none⟩ (.int .i64 X2.own.no)).setCell ⟨qo, k * 4 + 1, none⟩ (.int .i64 X2.own.md)).setCell ⟨qo, k * 4 + 2, none⟩ (.int .i64 X2.own.mr)).setCell ⟨qo, k * 4 + 3, none⟩ (.int .i64 X2.own.ls)) := (((Oth.set _ _ _ _ (by simp)).trans (Oth.set _ _ _ _ (by simp))).trans (Oth.set _ _ _ _ (by simp))).trans (Oth.set _ _ _ _ (by simp))
              have X12 := Blk.oth X11 oth4 (by simpa using Blk.ne X11 Bo11 (by decide))
              have Bw12 := Bw11.oth oth4 (by simpa using Bw11.ne Bo11 (by decide))
              rw [eo] at Bo12
              go_wp2_with (fail)
              go_roundw
              case rel => exact ⟨k + 1, by omega, by go_num, L12.mono (by omega), X12, Bo12, Bw12⟩
              case measure => simp [intOf]; omega
          · obtain rfl : k = 2 := by omega
            have dk : decide (((2 : Nat) : Int) < 2) = false := by simp
            rw [pk_own] at Bo
            rw [pk_st] at L
            go_wp2_with (fail)
            go_roundw
            case rel => exact ⟨i + 1, r, xA, _, _, _, by omega, by go_num, rfl, RD, L.mono (by omega), X, ok3, Bo, Bw⟩
            case measure => simp [intOf]; omega
end Go.Proofs.YtoablodmodnamaaDoor
