/-
  The walk of the law on steps in any order.
-/
import Derived.Test.YtkgmfnllhjedpaaDoorRt
import Derived.Test.YtkgmfnllhjedpaaDoorWm
import Derived.Test.YtkgmfnllhjedpaaDoorOi
import Derived.Deep.Cut
namespace Go.Proofs.YtkgmfnllhjedpaaDoor
set_option linter.unusedVariables false
set_option maxRecDepth 100000
open Go.ChangeShapes Go.WideShapes Go.RowKit
open S.Plain (t0 t1 tw nx)
open H.Plain (hw pS pC pN pM pG pT pL)

theorem sq_zero {w0 w : World} (h : w0.heap.size ≤ w.heap.size) : Sq w0 ((w.alloc (.cells #[.pointer none, .pointer none, .pointer none] 29)).alloc (.cells #[.pointer none, .pointer none, .pointer none] 31)) w.heap.size (w.alloc (.cells #[.pointer none, .pointer none, .pointer none] 29)).heap.size (fun _ => none) (fun _ => 0) (fun _ => 0) where
  sb := ⟨_, (Blk.new h _ (by decide)).below ((Below.refl _ _).alloc (Nat.le_refl _) _), rfl, fun j hj => by match j, hj with | 0, _ => rfl | 1, _ => rfl | 2, _ => rfl⟩
  tb := ⟨_, Blk.new (Nat.le_trans h (by simp)) _ (by decide), rfl, fun j _ y e => by cases e⟩
  mach := fun j _ y e => by cases e
  apart := fun i _ j _ _ y y' e => by cases e
theorem nebT (w : World) : (binOp .neq 4 (.bool true) (.bool true)).run Tryd.prog w = .ok (.bool false) w := by kernel_rfl
theorem nebF (w : World) : (binOp .neq 4 (.bool false) (.bool false)).run Tryd.prog w = .ok (.bool false) w := by kernel_rfl

set_option maxHeartbeats 16000000 in
theorem wGreyPlays (ao : Option Addr) (len cap : Nat) (z : Nat → Int) (w : World) (W : H.Wid w) (hl : CameI w ao len z) :
    Calls Tryd.prog 3 #[.slice ao len cap] w fun e w' => e = .returned (.bool true) ∧ Below w.heap.size w w' := by
  have bT := nebT
  have bF := nebF
  go_enter Tryd.func3, Tryd.ntmps3
  go_upto_region 5 with (first
    | (go_at_call 8; refine (cShown w W).mono ?_; rintro e w1 ⟨rfl, hb1⟩)
    | (go_at_call 9; refine (cLaid w1 (W.on hb1)).mono ?_; rintro e w2 ⟨b, y, rfl, h2⟩; have h3 : Two w w2 b y (laidSt 16) (laidSt 16) 32 := (h2.lift hb1 W); clear h2))
  have S5 := sq_zero h3.bel.size
  have h5 := (h3.alloc (.cells #[.pointer none, .pointer none, .pointer none] 29)).alloc (.cells #[.pointer none, .pointer none, .pointer none] 31)
  go_upto_region 7 with (fail)
  generalize hW5 : (w2.alloc (.cells #[.pointer none, .pointer none, .pointer none] 29)).alloc (.cells #[.pointer none, .pointer none, .pointer none] 31) = w5 at S5 h5 ⊢
  have hTB : (w2.alloc (.cells #[.pointer none, .pointer none, .pointer none] 29)).heap.size = w2.heap.size + 1 := by simp [go_sem]
  rw [hTB] at S5
  clear hTB
  generalize w2.heap.size + 1 = TB at S5 ⊢
  generalize w2.heap.size = SB at S5 ⊢
  clear hW5 h3
  go_wp2_with (first
    | (go_at_call 10; refine (cNewNext _).mono ?_; rintro e w6 ⟨rfl, hM⟩; have M := made_of hM; have h6 := h5.below M.bel; have S6 := S5.below M.bel; have N6 := M.blk' h5.bel.size (by decide); obtain ⟨pn, hpn⟩ : ∃ p, w5.heap.size = p := ⟨_, rfl⟩; rw [hpn] at N6 ⊢; clear hpn M hM)
    | (go_at_call 11; refine (rNewNext _).mono ?_; rintro e w7 ⟨rfl, hM⟩; have M := made_of hM; have h7 := h6.below M.bel; have S7 := S6.below M.bel; have N7 := N6.below M.bel; have R7 := M.blk' h6.bel.size (by decide); obtain ⟨rn, hrn⟩ : ∃ p, w6.heap.size = p := ⟨_, rfl⟩; rw [hrn] at R7 ⊢; clear hrn M hM))
  have N0 : Nq w w7 pn rn NextS.new := ⟨N7, R7, NextS.ok_new⟩
  clear h5 S5 h6 S6 N6 N7 R7
  go_loopw [8, 9, 10] (fun va vb i wr => ∃ j : Nat, j ≤ 300 ∧ j ≤ len ∧ i = .int .i64 j ∧ ∃ pn rn s jb pp rr x, va = .pointer (some ⟨pn, 0, none⟩) ∧ vb = .pointer (some ⟨rn, 0, none⟩) ∧ Two w wr b y s s (32 + 2 * j) ∧ s.ws.length = 160 ∧ Sq w wr SB TB jb pp rr ∧ Nq w wr pn rn x) (fun _ _ i _ => 300 - (intOf i).toNat)
  case atStart => exact ⟨0, Nat.zero_le _, Nat.zero_le _, rfl, pn, rn, _, _, _, _, _, rfl, rfl, h7, laid_len, S7, N0⟩
  case round =>
    obtain ⟨j, hj, hjl, rfl, pn, rn, s, jb, pp, rr, x, rfl, rfl, q1, q2, q3, q4⟩ := hrel
    clear h7 S7 N0
    by_cases hjn : j < len ∧ j < 300
    case pos =>
      obtain ⟨hj1, hj2⟩ := hjn
      obtain ⟨c, off, rfl, hcb, hcell⟩ := hl.resolve_left (by omega)
      obtain ⟨hcj, hy1, hy2⟩ := hcell j hj1
      have hcj' : wr.cell? ⟨c, off + j, none⟩ = some (.int .i64 (z j)) := (q1.bel.cell hcb).trans hcj
      obtain ⟨k, hk, hk160⟩ : ∃ k : Nat, kd (z j) 160 = k ∧ k < 160 := kd_nat (z j) 160 (by decide)
      obtain ⟨zj, hzj⟩ : ∃ zj, z j = zj := ⟨_, rfl⟩
      rw [hzj] at hy1 hy2 hcj' hk
      clear hcell hcj hzj
      obtain ⟨jj, hjj, hjj4⟩ : ∃ jj : Nat, (k : Int) % 4 = (jj : Int) ∧ jj < 4 := ⟨k % 4, by omega, by omega⟩
      by_cases h3 : jj = 3
      case pos =>
        have c3 : ((jj : Int) == 3) = true := by simp [h3]
        clear h3
        obtain ⟨x', hx⟩ : ∃ x', x.next s = x' := ⟨_, rfl⟩
        obtain ⟨s', hs⟩ : ∃ s', x.mem s = s' := ⟨_, rfl⟩
        have ok' := q4.ok.next q1.rng1
        have l' := (NextS.len (s := s) q4.ok).trans q2
        rw [hx] at ok'
        rw [hs] at l'
        have P1 := q4.p
        have R1 := q4.r
        have okx := q4.ok
        have npr : pn ≠ rn := P1.ne R1 (by decide)
        obtain ⟨va, hva⟩ : ∃ v, x'.cell = v := ⟨_, rfl⟩
        obtain ⟨vc, hvc⟩ : ∃ v, x'.count = v := ⟨_, rfl⟩
        rcases hd : (x'.pc == 0) with _ | _
        · skip
          go_wp2_with (first
            | (go_at_call 12; refine (cKind _ zj 160 hy1 hy2 (by decide)).mono ?_; rintro e wk ⟨rfl, hwk⟩; rw [hwk, hk]; clear hwk wk)
            | (go_at_call 13; refine (tNext q1 P1 okx (by omega)).mono ?_; rintro e v1 ⟨rfl, T1, P2, o1⟩; rw [hx] at P2 ⊢; rw [hs] at T1; rw [hd]; have R2 := R1.oth o1 (by simpa using (Ne.symm npr)); have S1 := q3.oth1 o1 P1 (by decide))
            | (go_at_call 14; refine (oResult P2).mono ?_; rintro e v2 ⟨rfl, hb2⟩; rw [hva, hvc]; have T2 := T1.below hb2; have P3 := P2.below hb2; have R3 := R2.below hb2; have S2 := S1.below hb2; clear hb2)
            | (go_at_call 15; refine (yNext T2 R3 okx (by omega)).mono ?_; rintro e v3 ⟨rfl, T3, R4, o3⟩; rw [hx] at R4 ⊢; rw [hs] at T3; rw [hd]; have P4 := P3.oth o3 (by simpa using npr); have S3 := S2.oth1 o3 R3 (by decide); have k9 : v3.cell? ⟨rn, 9, none⟩ = some (.int .i64 va) := ((R4.cell 9).trans (by rw [← hva]; rfl)); have k10 : v3.cell? ⟨rn, 10, none⟩ = some (.int .i64 vc) := ((R4.cell 10).trans (by rw [← hvc]; rfl))))
          go_roundw
          case rel => exact ⟨j + 1, by omega, by omega, by go_num, pn, rn, s', jb, pp, rr, x', rfl, rfl, T3.mono (by omega), l', S3, ⟨P4, R4, ok'⟩⟩
          case measure => simp [intOf] <;> omega
        · skip
          go_wp2_with (first
            | (go_at_call 12; refine (cKind _ zj 160 hy1 hy2 (by decide)).mono ?_; rintro e wk ⟨rfl, hwk⟩; rw [hwk, hk]; clear hwk wk)
            | (go_at_call 13; refine (tNext q1 P1 okx (by omega)).mono ?_; rintro e v1 ⟨rfl, T1, P2, o1⟩; rw [hx] at P2 ⊢; rw [hs] at T1; rw [hd]; have R2 := R1.oth o1 (by simpa using (Ne.symm npr)); have S1 := q3.oth1 o1 P1 (by decide))
            | (go_at_call 14; refine (oResult P2).mono ?_; rintro e v2 ⟨rfl, hb2⟩; rw [hva, hvc]; have T2 := T1.below hb2; have P3 := P2.below hb2; have R3 := R2.below hb2; have S2 := S1.below hb2; clear hb2)
            | (go_at_call 15; refine (yNext T2 R3 okx (by omega)).mono ?_; rintro e v3 ⟨rfl, T3, R4, o3⟩; rw [hx] at R4 ⊢; rw [hs] at T3; rw [hd]; have P4 := P3.oth o3 (by simpa using npr); have S3 := S2.oth1 o3 R3 (by decide); have k9 : v3.cell? ⟨rn, 9, none⟩ = some (.int .i64 va) := ((R4.cell 9).trans (by rw [← hva]; rfl)); have k10 : v3.cell? ⟨rn, 10, none⟩ = some (.int .i64 vc) := ((R4.cell 10).trans (by rw [← hvc]; rfl)))
            | (go_at_call 10; refine (cNewNext _).mono ?_; rintro e v4 ⟨rfl, hM⟩; have M := made_of hM; have T4 := T3.below M.bel; have S4 := S3.below M.bel; have N4 := M.blk' T3.bel.size (by decide); obtain ⟨pm, hpm⟩ : ∃ p, v3.heap.size = p := ⟨_, rfl⟩; rw [hpm] at N4 ⊢; clear hpm M hM)
            | (go_at_call 11; refine (rNewNext _).mono ?_; rintro e v5 ⟨rfl, hM⟩; have M := made_of hM; have T5 := T4.below M.bel; have S5 := S4.below M.bel; have N5 := N4.below M.bel; have R5 := M.blk' T4.bel.size (by decide); obtain ⟨rm, hrm⟩ : ∃ p, v4.heap.size = p := ⟨_, rfl⟩; rw [hrm] at R5 ⊢; clear hrm M hM))
          go_roundw
          case rel => exact ⟨j + 1, by omega, by omega, by go_num, pm, rm, s', jb, pp, rr, NextS.new, rfl, rfl, T5.mono (by omega), l', S5, ⟨N5, R5, NextS.ok_new⟩⟩
          case measure => simp [intOf] <;> omega
      case neg =>
        have c3 : ((jj : Int) == 3) = false := by simp; omega
        have hj3 : jj < 3 := by omega
        have hjI : (0 : Int) ≤ (jj : Int) ∧ (jj : Int) < 3 := by omega
        clear h3 hjj4
        obtain ⟨sc1, sf1⟩ := q3.cell hj3
        rcases hjb : jb jj with _ | u
        · rw [sc_none hjb] at sc1
          obtain ⟨mk, hmk⟩ : ∃ mk : Int, 1 - (k : Int) / 100 = mk := ⟨_, rfl⟩
          obtain ⟨at0, hat⟩ : ∃ at0 : Int, 96 + 4 * ((k : Int) / 4 % 20) = at0 := ⟨_, rfl⟩
          have hat0 : 96 ≤ at0 ∧ at0 < 180 := by omega
          have hs0 := q1.bel.size
          by_cases hge : at0 < 160
          · have cg : decide (at0 ≥ 160) = false := by simp; omega
            clear hge
            go_wp2_with (first
              | (go_at_call 12; refine (cKind _ zj 160 hy1 hy2 (by decide)).mono ?_; rintro e wk ⟨rfl, hwk⟩; rw [hwk, hk]; clear hwk wk)
              | (go_at_call 16; refine (cNewShade at0 mk _).mono ?_; rintro e w6 ⟨rfl, M1⟩; obtain ⟨p, hp⟩ : ∃ p, wr.heap.size = p := ⟨_, rfl⟩; rw [hp]; obtain ⟨b1, b2, B1, B2, sc2, sf2⟩ := q3.begin1 hj3 M1 hs0; rw [sc_none hjb] at sc2)
              | (go_at_call 17; refine (rNewShade at0 mk _).mono ?_; rintro e w7 ⟨rfl, M2⟩; obtain ⟨q, hq⟩ : ∃ q, (w6.setCell ⟨SB, jj, none⟩ (.pointer (some ⟨p, 0, none⟩))).heap.size = q := ⟨_, rfl⟩; rw [hq]; have S3 := q3.start hj3 hjb hs0 hp M1 hq M2; obtain ⟨b3, b4, vt, B3, B4, tc2, tf2⟩ := q3.begin2 hj3 M1 M2; have T3 := (((q1.below M1.bel).set B1 jj (.pointer (some ⟨p, 0, none⟩))).below M2.bel).set B4 jj (.pointer (some ⟨q, 0, none⟩)); have N3 := ((((q4.below M1.bel).oth1 (Oth.set _ _ _ _ (by simp : SB ∈ [SB])) B1 (by decide)).below M2.bel).oth1 (Oth.set _ _ _ _ (by simp : TB ∈ [TB])) B4 (by decide) : Nq w (w7.setCell ⟨TB, jj, none⟩ (.pointer (some ⟨q, 0, none⟩))) pn rn x); have sc3 : (w7.setCell ⟨TB, jj, none⟩ (.pointer (some ⟨q, 0, none⟩))).cell? ⟨SB, jj, none⟩ = some (.pointer (some ⟨p, 0, none⟩)) := ((S3.cell hj3).1.trans (by rw [sc_some (upd_same jb jj _), upd_same])); clear hp hq M1 M2))
            change Sq w (w7.setCell ⟨TB, jj, none⟩ (.pointer (some ⟨q, 0, none⟩))) SB TB _ _ _ at S3
            generalize w7.setCell ⟨TB, jj, none⟩ (.pointer (some ⟨q, 0, none⟩)) = w8 at S3 T3 N3 sc3 ⊢
            obtain ⟨jb8, hjb8⟩ : ∃ f, upd jb jj (some (ShadeS.new at0 mk)) = f := ⟨_, rfl⟩
            obtain ⟨pp8, hpp8⟩ : ∃ f, upd pp jj p = f := ⟨_, rfl⟩
            obtain ⟨rr8, hrr8⟩ : ∃ f, upd rr jj q = f := ⟨_, rfl⟩
            have e8 : jb8 jj = some (ShadeS.new at0 mk) := by rw [← hjb8]; exact upd_same _ _ _
            have ep8 : pp8 jj = p := by rw [← hpp8]; exact upd_same _ _ _
            rw [hjb8, hpp8, hrr8] at S3
            obtain ⟨un, hun⟩ : ∃ u, ShadeS.new at0 mk = u := ⟨_, rfl⟩
            rw [hun] at e8
            rw [← ep8] at sc3 ⊢
            clear hjb8 hpp8 hrr8 hun ep8
            obtain ⟨X1, oku, g1, z1, Y1, rf1⟩ := S3.mach jj hj3 _ e8
            obtain ⟨u', hu⟩ : ∃ u', ShadeS.next un s = u' := ⟨_, rfl⟩
            obtain ⟨s', hs⟩ : ∃ s', ShadeS.mem un s = s' := ⟨_, rfl⟩
            have ok' := oku.next q1.rng1
            have l' := (ShadeS.len (s := s) oku).trans q2
            rw [hu] at ok'
            rw [hs] at l'
            rcases hd : (u'.pc == 0) with _ | _
            · go_wp2_with (first
                | (go_at_call 18; refine (tShade T3 X1 oku (by omega)).mono ?_; rintro e v1 ⟨rfl, T1, X2, o1⟩; rw [hu] at X2 ⊢; rw [hs] at T1; rw [hd]; obtain ⟨tc1, g2, z2, Y2, rf2⟩ := S3.half hj3 e8 o1; have N1 := N3.oth1 o1 X1 (by decide))
                | (go_at_call 19; refine (yShade T1 Y2 rf2 oku (by omega)).mono ?_; rintro e v2 ⟨rfl, T2, ⟨g3, z3, Y3, rf3⟩, o2⟩; rw [hu] at Y3 rf3 ⊢; rw [hs] at T2; rw [hd]; have S2 := S3.step hj3 e8 o1 X2 o2 Y3 ok' rf3; have N2 := N1.oth1 o2 Y2 (by decide); obtain ⟨sc2, sf2⟩ := S2.cell hj3; obtain ⟨cB, hB, _, _⟩ := S2.sb))
              go_roundw
              case rel => exact ⟨j + 1, by omega, by omega, by go_num, pn, rn, s', _, _, _, x, rfl, rfl, T2.mono (by omega), l', S2, N2⟩
              case measure => simp [intOf] <;> omega
            · go_wp2_with (first
                | (go_at_call 18; refine (tShade T3 X1 oku (by omega)).mono ?_; rintro e v1 ⟨rfl, T1, X2, o1⟩; rw [hu] at X2 ⊢; rw [hs] at T1; rw [hd]; obtain ⟨tc1, g2, z2, Y2, rf2⟩ := S3.half hj3 e8 o1; have N1 := N3.oth1 o1 X1 (by decide))
                | (go_at_call 19; refine (yShade T1 Y2 rf2 oku (by omega)).mono ?_; rintro e v2 ⟨rfl, T2, ⟨g3, z3, Y3, rf3⟩, o2⟩; rw [hu] at Y3 rf3 ⊢; rw [hs] at T2; rw [hd]; have S2 := S3.step hj3 e8 o1 X2 o2 Y3 ok' rf3; have N2 := N1.oth1 o2 Y2 (by decide); obtain ⟨sc2, sf2⟩ := S2.cell hj3; obtain ⟨cB, hB, _, _⟩ := S2.sb))
              go_roundw
              case rel => exact ⟨j + 1, by omega, by omega, by go_num, pn, rn, s', _, _, _, x, rfl, rfl, (T2.set hB jj (.pointer none)).mono (by omega), l', S2.clear hj3, N2.oth1 (Oth.set _ _ _ _ (by simp : SB ∈ [SB])) hB (by decide)⟩
              case measure => simp [intOf] <;> omega
          · have cg : decide (at0 ≥ 160) = true := by simp; omega
            clear hge
            go_wp2_with (first
              | (go_at_call 12; refine (cKind _ zj 160 hy1 hy2 (by decide)).mono ?_; rintro e wk ⟨rfl, hwk⟩; rw [hwk, hk]; clear hwk wk)
              | (go_at_call 16; refine (cNewShade 0 mk _).mono ?_; rintro e w6 ⟨rfl, M1⟩; obtain ⟨p, hp⟩ : ∃ p, wr.heap.size = p := ⟨_, rfl⟩; rw [hp]; obtain ⟨b1, b2, B1, B2, sc2, sf2⟩ := q3.begin1 hj3 M1 hs0; rw [sc_none hjb] at sc2)
              | (go_at_call 17; refine (rNewShade 0 mk _).mono ?_; rintro e w7 ⟨rfl, M2⟩; obtain ⟨q, hq⟩ : ∃ q, (w6.setCell ⟨SB, jj, none⟩ (.pointer (some ⟨p, 0, none⟩))).heap.size = q := ⟨_, rfl⟩; rw [hq]; have S3 := q3.start hj3 hjb hs0 hp M1 hq M2; obtain ⟨b3, b4, vt, B3, B4, tc2, tf2⟩ := q3.begin2 hj3 M1 M2; have T3 := (((q1.below M1.bel).set B1 jj (.pointer (some ⟨p, 0, none⟩))).below M2.bel).set B4 jj (.pointer (some ⟨q, 0, none⟩)); have N3 := ((((q4.below M1.bel).oth1 (Oth.set _ _ _ _ (by simp : SB ∈ [SB])) B1 (by decide)).below M2.bel).oth1 (Oth.set _ _ _ _ (by simp : TB ∈ [TB])) B4 (by decide) : Nq w (w7.setCell ⟨TB, jj, none⟩ (.pointer (some ⟨q, 0, none⟩))) pn rn x); have sc3 : (w7.setCell ⟨TB, jj, none⟩ (.pointer (some ⟨q, 0, none⟩))).cell? ⟨SB, jj, none⟩ = some (.pointer (some ⟨p, 0, none⟩)) := ((S3.cell hj3).1.trans (by rw [sc_some (upd_same jb jj _), upd_same])); clear hp hq M1 M2))
            change Sq w (w7.setCell ⟨TB, jj, none⟩ (.pointer (some ⟨q, 0, none⟩))) SB TB _ _ _ at S3
            generalize w7.setCell ⟨TB, jj, none⟩ (.pointer (some ⟨q, 0, none⟩)) = w8 at S3 T3 N3 sc3 ⊢
            obtain ⟨jb8, hjb8⟩ : ∃ f, upd jb jj (some (ShadeS.new 0 mk)) = f := ⟨_, rfl⟩
            obtain ⟨pp8, hpp8⟩ : ∃ f, upd pp jj p = f := ⟨_, rfl⟩
            obtain ⟨rr8, hrr8⟩ : ∃ f, upd rr jj q = f := ⟨_, rfl⟩
            have e8 : jb8 jj = some (ShadeS.new 0 mk) := by rw [← hjb8]; exact upd_same _ _ _
            have ep8 : pp8 jj = p := by rw [← hpp8]; exact upd_same _ _ _
            rw [hjb8, hpp8, hrr8] at S3
            obtain ⟨un, hun⟩ : ∃ u, ShadeS.new 0 mk = u := ⟨_, rfl⟩
            rw [hun] at e8
            rw [← ep8] at sc3 ⊢
            clear hjb8 hpp8 hrr8 hun ep8
            obtain ⟨X1, oku, g1, z1, Y1, rf1⟩ := S3.mach jj hj3 _ e8
            obtain ⟨u', hu⟩ : ∃ u', ShadeS.next un s = u' := ⟨_, rfl⟩
            obtain ⟨s', hs⟩ : ∃ s', ShadeS.mem un s = s' := ⟨_, rfl⟩
            have ok' := oku.next q1.rng1
            have l' := (ShadeS.len (s := s) oku).trans q2
            rw [hu] at ok'
            rw [hs] at l'
            rcases hd : (u'.pc == 0) with _ | _
            · go_wp2_with (first
                | (go_at_call 18; refine (tShade T3 X1 oku (by omega)).mono ?_; rintro e v1 ⟨rfl, T1, X2, o1⟩; rw [hu] at X2 ⊢; rw [hs] at T1; rw [hd]; obtain ⟨tc1, g2, z2, Y2, rf2⟩ := S3.half hj3 e8 o1; have N1 := N3.oth1 o1 X1 (by decide))
                | (go_at_call 19; refine (yShade T1 Y2 rf2 oku (by omega)).mono ?_; rintro e v2 ⟨rfl, T2, ⟨g3, z3, Y3, rf3⟩, o2⟩; rw [hu] at Y3 rf3 ⊢; rw [hs] at T2; rw [hd]; have S2 := S3.step hj3 e8 o1 X2 o2 Y3 ok' rf3; have N2 := N1.oth1 o2 Y2 (by decide); obtain ⟨sc2, sf2⟩ := S2.cell hj3; obtain ⟨cB, hB, _, _⟩ := S2.sb))
              go_roundw
              case rel => exact ⟨j + 1, by omega, by omega, by go_num, pn, rn, s', _, _, _, x, rfl, rfl, T2.mono (by omega), l', S2, N2⟩
              case measure => simp [intOf] <;> omega
            · go_wp2_with (first
                | (go_at_call 18; refine (tShade T3 X1 oku (by omega)).mono ?_; rintro e v1 ⟨rfl, T1, X2, o1⟩; rw [hu] at X2 ⊢; rw [hs] at T1; rw [hd]; obtain ⟨tc1, g2, z2, Y2, rf2⟩ := S3.half hj3 e8 o1; have N1 := N3.oth1 o1 X1 (by decide))
                | (go_at_call 19; refine (yShade T1 Y2 rf2 oku (by omega)).mono ?_; rintro e v2 ⟨rfl, T2, ⟨g3, z3, Y3, rf3⟩, o2⟩; rw [hu] at Y3 rf3 ⊢; rw [hs] at T2; rw [hd]; have S2 := S3.step hj3 e8 o1 X2 o2 Y3 ok' rf3; have N2 := N1.oth1 o2 Y2 (by decide); obtain ⟨sc2, sf2⟩ := S2.cell hj3; obtain ⟨cB, hB, _, _⟩ := S2.sb))
              go_roundw
              case rel => exact ⟨j + 1, by omega, by omega, by go_num, pn, rn, s', _, _, _, x, rfl, rfl, (T2.set hB jj (.pointer none)).mono (by omega), l', S2.clear hj3, N2.oth1 (Oth.set _ _ _ _ (by simp : SB ∈ [SB])) hB (by decide)⟩
              case measure => simp [intOf] <;> omega
        · rw [sc_some hjb] at sc1
          obtain ⟨X1, oku, g1, z1, Y1, rf1⟩ := q3.mach jj hj3 _ hjb
          obtain ⟨u', hu⟩ : ∃ u', ShadeS.next u s = u' := ⟨_, rfl⟩
          obtain ⟨s', hs⟩ : ∃ s', ShadeS.mem u s = s' := ⟨_, rfl⟩
          have ok' := oku.next q1.rng1
          have l' := (ShadeS.len (s := s) oku).trans q2
          rw [hu] at ok'
          rw [hs] at l'
          rcases hd : (u'.pc == 0) with _ | _
          · go_wp2_with (first
              | (go_at_call 12; refine (cKind _ zj 160 hy1 hy2 (by decide)).mono ?_; rintro e wk ⟨rfl, hwk⟩; rw [hwk, hk]; clear hwk wk)
              | (go_at_call 18; refine (tShade q1 X1 oku (by omega)).mono ?_; rintro e v1 ⟨rfl, T1, X2, o1⟩; rw [hu] at X2 ⊢; rw [hs] at T1; rw [hd]; obtain ⟨tc1, g2, z2, Y2, rf2⟩ := q3.half hj3 hjb o1; have N1 := q4.oth1 o1 X1 (by decide))
              | (go_at_call 19; refine (yShade T1 Y2 rf2 oku (by omega)).mono ?_; rintro e v2 ⟨rfl, T2, ⟨g3, z3, Y3, rf3⟩, o2⟩; rw [hu] at Y3 rf3 ⊢; rw [hs] at T2; rw [hd]; have S2 := q3.step hj3 hjb o1 X2 o2 Y3 ok' rf3; have N2 := N1.oth1 o2 Y2 (by decide); obtain ⟨sc2, sf2⟩ := S2.cell hj3; obtain ⟨cB, hB, _, _⟩ := S2.sb))
            go_roundw
            case rel => exact ⟨j + 1, by omega, by omega, by go_num, pn, rn, s', _, _, _, x, rfl, rfl, T2.mono (by omega), l', S2, N2⟩
            case measure => simp [intOf] <;> omega
          · go_wp2_with (first
              | (go_at_call 12; refine (cKind _ zj 160 hy1 hy2 (by decide)).mono ?_; rintro e wk ⟨rfl, hwk⟩; rw [hwk, hk]; clear hwk wk)
              | (go_at_call 18; refine (tShade q1 X1 oku (by omega)).mono ?_; rintro e v1 ⟨rfl, T1, X2, o1⟩; rw [hu] at X2 ⊢; rw [hs] at T1; rw [hd]; obtain ⟨tc1, g2, z2, Y2, rf2⟩ := q3.half hj3 hjb o1; have N1 := q4.oth1 o1 X1 (by decide))
              | (go_at_call 19; refine (yShade T1 Y2 rf2 oku (by omega)).mono ?_; rintro e v2 ⟨rfl, T2, ⟨g3, z3, Y3, rf3⟩, o2⟩; rw [hu] at Y3 rf3 ⊢; rw [hs] at T2; rw [hd]; have S2 := q3.step hj3 hjb o1 X2 o2 Y3 ok' rf3; have N2 := N1.oth1 o2 Y2 (by decide); obtain ⟨sc2, sf2⟩ := S2.cell hj3; obtain ⟨cB, hB, _, _⟩ := S2.sb))
            go_roundw
            case rel => exact ⟨j + 1, by omega, by omega, by go_num, pn, rn, s', _, _, _, x, rfl, rfl, (T2.set hB jj (.pointer none)).mono (by omega), l', S2.clear hj3, N2.oth1 (Oth.set _ _ _ _ (by simp : SB ∈ [SB])) hB (by decide)⟩
            case measure => simp [intOf] <;> omega
    case neg =>
      by_cases hj1 : j < len
      · have hj2 : ¬ j < 300 := fun h => hjn ⟨hj1, h⟩
        go_wp2_with (go_at_call 20; refine (cSame q1 q2 (by omega)).mono ?_; rintro e w8 ⟨rfl, hb8⟩; have q9 := q1.below hb8; clear hb8)
        go_ret
        exact ⟨rfl, q9.bel⟩
      · skip
        go_wp2_with (go_at_call 20; refine (cSame q1 q2 (by omega)).mono ?_; rintro e w8 ⟨rfl, hb8⟩; have q9 := q1.below hb8; clear hb8)
        go_ret
        exact ⟨rfl, q9.bel⟩
end Go.Proofs.YtkgmfnllhjedpaaDoor

