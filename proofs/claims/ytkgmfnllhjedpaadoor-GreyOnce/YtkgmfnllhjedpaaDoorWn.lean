/-
  The walk of the law on what is told once.
-/
import Derived.Test.YtkgmfnllhjedpaaDoorGw
import Derived.Test.YtkgmfnllhjedpaaDoorZa
import Derived.Test.YtkgmfnllhjedpaaDoorOi
import Derived.Deep.Cut
namespace Go.Proofs.YtkgmfnllhjedpaaDoor
set_option linter.unusedVariables false
set_option maxRecDepth 100000
open Go.ChangeShapes Go.WideShapes Go.RowKit
open S.Plain (t0 t1 tw nx)
open H.Plain (hw pS pC pN pM pG pT pL)

def zB : Array Value := #[.bool false, .bool false, .bool false, .bool false, .bool false, .bool false, .bool false, .bool false, .bool false, .bool false, .bool false, .bool false, .bool false, .bool false, .bool false, .bool false, .bool false, .bool false, .bool false, .bool false, .bool false, .bool false, .bool false, .bool false, .bool false, .bool false, .bool false, .bool false, .bool false, .bool false, .bool false, .bool false, .bool false, .bool false, .bool false, .bool false, .bool false, .bool false, .bool false, .bool false, .bool false, .bool false, .bool false, .bool false, .bool false, .bool false, .bool false, .bool false, .bool false, .bool false, .bool false, .bool false, .bool false, .bool false, .bool false, .bool false, .bool false, .bool false, .bool false, .bool false, .bool false, .bool false, .bool false, .bool false, .bool false, .bool false, .bool false, .bool false, .bool false, .bool false, .bool false, .bool false, .bool false, .bool false, .bool false, .bool false, .bool false, .bool false, .bool false, .bool false, .bool false, .bool false, .bool false, .bool false, .bool false, .bool false, .bool false, .bool false, .bool false, .bool false, .bool false, .bool false, .bool false, .bool false, .bool false, .bool false, .bool false, .bool false, .bool false, .bool false, .bool false, .bool false, .bool false, .bool false, .bool false, .bool false, .bool false, .bool false, .bool false, .bool false, .bool false, .bool false, .bool false, .bool false, .bool false, .bool false, .bool false, .bool false, .bool false, .bool false, .bool false, .bool false, .bool false, .bool false, .bool false, .bool false, .bool false, .bool false, .bool false, .bool false, .bool false, .bool false, .bool false, .bool false, .bool false, .bool false, .bool false, .bool false, .bool false, .bool false, .bool false, .bool false, .bool false, .bool false, .bool false, .bool false, .bool false, .bool false, .bool false, .bool false, .bool false, .bool false, .bool false, .bool false, .bool false, .bool false, .bool false, .bool false, .bool false, .bool false]
theorem zB_bl : zB = bl 160 (fun _ => false) := rfl
theorem sp_zero {w0 w : World} (h : w0.heap.size ≤ w.heap.size) : Sp w0 (w.alloc (.cells #[.pointer none, .pointer none, .pointer none] 29)) w.heap.size (fun _ => none) (fun _ => 0) where
  sb := ⟨_, Blk.new h _ (by decide), rfl, fun j hj => by match j, hj with | 0, _ => rfl | 1, _ => rfl | 2, _ => rfl⟩
  mach := fun j _ y e => by cases e
  apart := fun i _ j _ _ y y' e => by cases e
theorem neB (d : Bool) (w : World) : (binOp .neq 4 (.bool d) (.bool d)).run Tryd.prog w = .ok (.bool false) w := by cases d <;> kernel_rfl

/-- all that holds ahead of a round -/
structure Rd (w w' : World) (b SB AB TL len i : Nat) (pn : Nat) (s : St) (jb : Nat → Option ShadeS) (pp : Nat → Nat) (x : NextS) (l : List Int) (v : Nat) (ow : Int → Nat) (f g : Nat → Bool) : Prop where
  hand : Hand w w' b s (32 + i)
  sp : Sp w w' SB jb pp
  nx : Blk w w' pn 68 x.cells
  rows : Rows2 w w' AB TL f g
  gi : Gi s jb x l v ow f g
  vi : v ≤ i
  ph : Ph len i s jb x ow

set_option maxHeartbeats 16000000 in
theorem wGreyOnce (ao : Option Addr) (len cap : Nat) (z : Nat → Int) (w : World) (W : H.Wid w) (hl : CameI w ao len z) :
    Calls Tryd.prog 4 #[.slice ao len cap] w fun e w' => e = .returned (.bool true) ∧ Below w.heap.size w w' := by
  go_enter Tryd.func4, Tryd.ntmps4
  go_upto_region 5 with (first
    | (go_at_call 8; refine (cShown w W).mono ?_; rintro e w1 ⟨rfl, hb1⟩)
    | (go_at_call 9; refine (cLaid w1 (W.on hb1)).mono ?_; rintro e w2 ⟨b, yy, rfl, h2⟩; have h3 : Hand w w2 b (laidSt 16) 32 := (h2.one.lift hb1 W); clear h2))
  have S5 := sp_zero h3.bel.size
  have h5 := h3.alloc (.cells #[.pointer none, .pointer none, .pointer none] 29)
  go_upto_region 7 with (go_at_call 10; generalize w2.alloc (.cells #[.pointer none, .pointer none, .pointer none] 29) = w5 at S5 h5 ⊢; generalize w2.heap.size = SB at S5 ⊢; refine (cNewNext _).mono ?_; rintro e w6 ⟨rfl, hM⟩; have M := made_of hM; have h6 := h5.below M.bel; have S6 := S5.below M.bel; have N6 := M.blk' h5.bel.size (by decide); obtain ⟨pn, hpn⟩ : ∃ p, w5.heap.size = p := ⟨_, rfl⟩; rw [hpn] at N6 ⊢; clear hpn M hM h5 S5)
  clear h3
  refine wp_region_lit ?_
  refine wpList_zeros rfl rfl rfl 50 32 8 rfl rfl rfl rfl rfl rfl zB 160 (by kernel_rfl) (by kernel_rfl) rfl (by kernel_rfl) rfl rfl ?_
  refine wpList_nil ?_
  have A7 : Blk w (w6.alloc (.cells zB 50)) w6.heap.size 50 zB := Blk.new h6.bel.size _ (by decide)
  have b7 : Below w6.heap.size w6 (w6.alloc (.cells zB 50)) := (Below.refl _ _).alloc (Nat.le_refl _) _
  generalize w6.alloc (.cells zB 50) = w7 at A7 b7 ⊢
  have h7 := h6.below b7
  have S7 := S6.below b7
  have N7 := N6.below b7
  generalize w6.heap.size = AB at A7 ⊢
  clear b7 h6 S6 N6
  go_upto_region 8 with (fail)
  refine wp_region_lit ?_
  refine wpList_zeros rfl rfl rfl 50 33 9 rfl rfl rfl rfl rfl rfl zB 160 (by kernel_rfl) (by kernel_rfl) rfl (by kernel_rfl) rfl rfl ?_
  refine wpList_nil ?_
  have T8 : Blk w (w7.alloc (.cells zB 50)) w7.heap.size 50 zB := Blk.new h7.bel.size _ (by decide)
  have b8 : Below w7.heap.size w7 (w7.alloc (.cells zB 50)) := (Below.refl _ _).alloc (Nat.le_refl _) _
  have nAT := blk_ne A7 (Nat.le_refl _)
  generalize w7.alloc (.cells zB 50) = w8 at T8 b8 ⊢
  have h8 := h7.below b8
  have S8 := S7.below b8
  have N8 := N7.below b8
  have A8 := A7.below b8
  generalize w7.heap.size = TL at T8 nAT ⊢
  rw [zB_bl] at A8 T8
  have R8 : Rows2 w w8 AB TL (fun _ => false) (fun _ => false) := ⟨A8, T8, nAT⟩
  have Q0 : Rd w w8 b SB AB TL len 0 pn _ _ _ _ _ _ _ _ _ := ⟨h8, S8, N8, R8, gi_zero, Nat.le_refl _, ph_zero len⟩
  clear b8 h7 S7 N7 A7 A8 T8 nAT h8 S8 N8 R8
  go_wp2
  go_loopw [7, 10] (fun va vi wr => ∃ i : Nat, i ≤ 600 ∧ vi = .int .i64 i ∧ ∃ pn s jb pp x l v ow f g, va = .pointer (some ⟨pn, 0, none⟩) ∧ Rd w wr b SB AB TL len i pn s jb pp x l v ow f g) (fun _ vi _ => 600 - (intOf vi).toNat)
  case atStart => exact ⟨0, Nat.zero_le _, rfl, pn, _, _, _, _, _, _, _, _, _, rfl, Q0⟩
  case round =>
    obtain ⟨i, hi, rfl, pn, s, jb, pp, x, l, v, ow, f, g, rfl, q⟩ := hrel
    clear Q0
    by_cases hi6 : i < 600
    case pos =>
      obtain ⟨ov1, ov2, ov3⟩ := over_b len
      by_cases hjn : i < len ∧ i < 300
      case pos =>
        obtain ⟨hj1, hj2⟩ := hjn
        obtain ⟨c, off, rfl, hcb, hcell⟩ := hl.resolve_left (by omega)
        obtain ⟨hcj, hy1, hy2⟩ := hcell i hj1
        have hcj' : wr.cell? ⟨c, off + i, none⟩ = some (.int .i64 (z i)) := (q.hand.bel.cell hcb).trans hcj
        obtain ⟨k, hk, hk64⟩ : ∃ k : Nat, kd (z i) 64 = k ∧ k < 64 := kd_nat (z i) 64 (by decide)
        obtain ⟨zj, hzj⟩ : ∃ zj, z i = zj := ⟨_, rfl⟩
        rw [hzj] at hy1 hy2 hcj' hk
        clear hcell hcj hzj
        have hno : ¬ over len ≤ i := fun h => ov3 i h ⟨hj1, hj2⟩
        obtain ⟨jj, hjj, hjj4⟩ : ∃ jj : Nat, (k : Int) % 4 = (jj : Int) ∧ jj < 4 := ⟨k % 4, by omega, by omega⟩
        have hturn : over len ≤ i → i % 4 = jj := fun h => absurd h hno
        by_cases h3 : jj = 3
        case pos =>
          have c3 : ((jj : Int) == 3) = true := by simp [h3]
          have ht3 : over len ≤ i → i % 4 = 3 := fun h => by rw [← h3]; exact hturn h
          clear h3
          obtain ⟨l', v', ow', g', D⟩ := q.gi.took (by have := q.vi; omega) q.hand.rng
          have ok1 := q.gi.nok
          have vle := D.vle
          have vi := q.vi
          have ph' := q.ph.took q.gi ht3 D
          have N1 := q.nx
          obtain ⟨x', hx⟩ : ∃ x', x.next s = x' := ⟨_, rfl⟩
          obtain ⟨s', hs⟩ : ∃ s', x.mem s = s' := ⟨_, rfl⟩
          rw [hx] at D ph'
          rw [hs] at D ph'
          obtain ⟨va, hva⟩ : ∃ v, x'.cell = v := ⟨_, rfl⟩
          obtain ⟨vc, hvc⟩ : ∃ v, x'.count = v := ⟨_, rfl⟩
          have sp1 := q.sp
          have rw1 := q.rows
          have hd1 := q.hand
          rcases hd : (x'.pc == 0) with _ | _
          · skip
            have x0 : x'.pc ≠ 0 := by simpa using hd
            have e1 := D.untold x0
            have gi' := D.gi
            rw [keepN_some x0] at gi' ph'
            rw [e1] at gi'
            clear D
            go_wp2_with (first
              | (go_at_call 12; refine (cKind _ zj 64 hy1 hy2 (by decide)).mono ?_; rintro e wk ⟨rfl, hwk⟩; rw [hwk, hk]; clear hwk wk)
              | (go_at_call 13; refine (oNext hd1 N1 ok1 (by omega)).mono ?_; rintro e v1 ⟨rfl, T1, P2, o1⟩; rw [hx] at P2 ⊢; rw [hs] at T1; rw [hd]; have S1 := sp1.oth1 o1 N1 (by decide); have R1 := rw1.oth1 o1 N1 (by decide))
              | (go_at_call 14; refine (oResult P2).mono ?_; rintro e v2 ⟨rfl, hb2⟩; rw [hva, hvc]; have T2 := T1.below hb2; have P3 := P2.below hb2; have S2 := S1.below hb2; have R2 := R1.below hb2; clear hb2))
            go_roundw
            case rel => exact ⟨i + 1, by omega, by go_num, pn, s', jb, pp, x', l', v', ow', f, g, rfl, ⟨T2.mono (by omega), S2, P3, R2, gi', by omega, ph'⟩⟩
            case measure => simp [intOf] <;> omega
          · have x0 : x'.pc = 0 := by simpa using hd
            have gi' := D.gi
            rw [keepN_new x0] at gi' ph'
            have hT := D.told x0
            clear D
            rcases hT with ⟨t1, t2⟩ | ⟨cn, t1, t2, t3, t4, t5⟩
            · rw [t2] at gi'
              have ca : va = 0 := by rw [← hva]; exact t1
              subst ca
              clear t1 t2
              go_wp2_with (first
                | (go_at_call 12; refine (cKind _ zj 64 hy1 hy2 (by decide)).mono ?_; rintro e wk ⟨rfl, hwk⟩; rw [hwk, hk]; clear hwk wk)
                | (go_at_call 13; refine (oNext hd1 N1 ok1 (by omega)).mono ?_; rintro e v1 ⟨rfl, T1, P2, o1⟩; rw [hx] at P2 ⊢; rw [hs] at T1; rw [hd]; have S1 := sp1.oth1 o1 N1 (by decide); have R1 := rw1.oth1 o1 N1 (by decide))
                | (go_at_call 14; refine (oResult P2).mono ?_; rintro e v2 ⟨rfl, hb2⟩; rw [hva, hvc]; have T2 := T1.below hb2; have P3 := P2.below hb2; have S2 := S1.below hb2; have R2 := R1.below hb2; clear hb2)
                | (go_at_call 10; refine (cNewNext _).mono ?_; rintro e v4 ⟨rfl, hM⟩; have M := made_of hM; have T4 := T2.below M.bel; have S4 := S2.below M.bel; have R4 := R2.below M.bel; have N4 := M.blk' T2.bel.size (by decide); obtain ⟨pm, hpm⟩ : ∃ p, v2.heap.size = p := ⟨_, rfl⟩; rw [hpm] at N4 ⊢; clear hpm M hM))
              go_roundw
              case rel => exact ⟨i + 1, by omega, by go_num, pm, s', jb, pp, NextS.new, l', v', ow', f, g, rfl, ⟨T4.mono (by omega), S4, N4, R4, gi', by omega, ph'⟩⟩
              case measure => simp [intOf] <;> omega
            · rw [t5] at gi'
              have ca : va = (cn : Int) := by rw [← hva]; exact t1
              subst ca
              clear t1 t5
              have n0 : ((cn : Int) != 0) = true := by simp; omega
              have b1 : decide ((cn : Int) < 96) = false := by simp; omega
              have b2 : decide ((cn : Int) ≥ 160) = false := by simp; omega
              have b3 : (0 : Int) ≤ (cn : Int) ∧ (cn : Int) < 160 := by omega
              go_wp2_with (first
                | (go_at_call 12; refine (cKind _ zj 64 hy1 hy2 (by decide)).mono ?_; rintro e wk ⟨rfl, hwk⟩; rw [hwk, hk]; clear hwk wk)
                | (go_at_call 13; refine (oNext hd1 N1 ok1 (by omega)).mono ?_; rintro e v1 ⟨rfl, T1, P2, o1⟩; rw [hx] at P2 ⊢; rw [hs] at T1; rw [hd]; have S1 := sp1.oth1 o1 N1 (by decide); have R1 := rw1.oth1 o1 N1 (by decide))
                | (go_at_call 14; refine (oResult P2).mono ?_; rintro e v2 ⟨rfl, hb2⟩; rw [hva, hvc]; have T2 := T1.below hb2; have P3 := P2.below hb2; have S2 := S1.below hb2; have R2 := R1.below hb2; clear hb2; obtain ⟨tc, tf⟩ := R2.ct t3; rw [t4] at tc)
                | (go_at_call 10; have TT := T2.set R2.t cn (.bool true); have SS := S2.oth1 (Oth.set v2 TL cn (.bool true) (by simp : TL ∈ [TL])) R2.t (by decide); have RR := R2.setT cn; generalize v2.setCell ⟨TL, cn, none⟩ (.bool true) = v3 at TT SS RR ⊢; refine (cNewNext v3).mono ?_; rintro e v4 ⟨rfl, hM⟩; have M := made_of hM; have T4 := TT.below M.bel; have S4 := SS.below M.bel; have R4 := RR.below M.bel; have N4 := M.blk' TT.bel.size (by decide); obtain ⟨pm, hpm⟩ : ∃ p, v3.heap.size = p := ⟨_, rfl⟩; rw [hpm] at N4 ⊢; clear hpm M hM))
              go_roundw
              case rel => exact ⟨i + 1, by omega, by go_num, pm, s', jb, pp, NextS.new, l', v', ow', f, _, rfl, ⟨T4.mono (by omega), S4, N4, R4, gi', by omega, ph'⟩⟩
              case measure => simp [intOf] <;> omega
        case neg =>
          have c3 : ((jj : Int) == 3) = false := by simp; omega
          have hj3 : jj < 3 := by omega
          have hjI : (0 : Int) ≤ (jj : Int) ∧ (jj : Int) < 3 := by omega
          clear h3 hjj4
          obtain ⟨sc1, sf1⟩ := q.sp.cell hj3
          rcases hjb : jb jj with _ | u
          · rw [sc_none hjb] at sc1
            obtain ⟨a, ha, ha1⟩ : ∃ a : Nat, 96 + 4 * ((k : Int) / 4 % 16) = (a : Int) ∧ a < 160 := ⟨96 + 4 * (k / 4 % 16), by omega, by omega⟩
            have hda : Hdr (a : Int) := ⟨by omega, by omega, by omega⟩
            have haI : (0 : Int) ≤ (a : Int) ∧ (a : Int) < 160 := by omega
            have gb := q.gi.begin hj3 hjb hda
            have eb : upd jb jj (some (ShadeS.new (a : Int) 1)) jj = some (ShadeS.new (a : Int) 1) := upd_same _ _ _
            obtain ⟨un, hun⟩ : ∃ u, ShadeS.new (a : Int) 1 = u := ⟨_, rfl⟩
            have oku := ShadeS.ok_new (a : Int) 1
            rw [hun] at gb eb oku
            obtain ⟨l', v', ow', D⟩ := gb.shade (by have := q.vi; omega) hj3 eb
            have vle := D.vle
            have vi := q.vi
            have ph' := q.ph.begin ⟨hj1, hj2⟩ hj3 D
            have gi' := D.gi
            rw [upd_upd] at gi'
            clear D gb eb
            obtain ⟨u', hu⟩ : ∃ u', un.next s = u' := ⟨_, rfl⟩
            obtain ⟨s', hs⟩ : ∃ s', un.mem s = s' := ⟨_, rfl⟩
            rw [hu] at gi' ph'
            rw [hs] at gi' ph'
            have hs0 := q.hand.bel.size
            have sp1 := q.sp
            have rw1 := q.rows
            have hd1 := q.hand
            have N1 := q.nx
            go_wp2_with (first
              | (go_at_call 12; refine (cKind _ zj 64 hy1 hy2 (by decide)).mono ?_; rintro e wk ⟨rfl, hwk⟩; rw [hwk, hk]; clear hwk wk)
              | (go_at_call 16; refine (cNewShade (a : Int) 1 _).mono ?_; rintro e w6 ⟨rfl, M⟩; rw [hun] at M; obtain ⟨p, hp⟩ : ∃ p, wr.heap.size = p := ⟨_, rfl⟩; rw [hp]; have S0 := sp1.below M.bel; obtain ⟨sc2, sf2⟩ := S0.cell hj3; rw [sc_none hjb] at sc2; obtain ⟨cB, hB, _, _⟩ := S0.sb; have S2 : Sp w (w6.setCell ⟨SB, jj, none⟩ (.pointer (some ⟨p, 0, none⟩))) SB (upd jb jj (some un)) (upd pp jj p) := sp1.start hj3 hjb hs0 hp M; have oB : Oth [SB] w6 (w6.setCell ⟨SB, jj, none⟩ (.pointer (some ⟨p, 0, none⟩))) := (Oth.set _ _ _ _ (by simp)); have h6 := (hd1.below M.bel).set hB jj (.pointer (some ⟨p, 0, none⟩)); have N6 := (N1.below M.bel).oth oB (hB.off (N1.below M.bel) (by decide)); have R6 := (rw1.below M.bel).oth1 oB hB (by decide); obtain ⟨ac, af⟩ := R6.ca ha1; have oA : Oth [AB] (w6.setCell ⟨SB, jj, none⟩ (.pointer (some ⟨p, 0, none⟩))) ((w6.setCell ⟨SB, jj, none⟩ (.pointer (some ⟨p, 0, none⟩))).setCell ⟨AB, a, none⟩ (.bool true)) := (Oth.set _ _ _ _ (by simp)); have S7 := S2.oth1 oA R6.a (by decide); have h7 := h6.set R6.a a (.bool true); have N7 := N6.oth oA (R6.a.off N6 (by decide)); have R7 := R6.setA a; have sc3 : ((w6.setCell ⟨SB, jj, none⟩ (.pointer (some ⟨p, 0, none⟩))).setCell ⟨AB, a, none⟩ (.bool true)).cell? ⟨SB, jj, none⟩ = some (.pointer (some ⟨p, 0, none⟩)) := ((S7.cell hj3).1.trans (by rw [sc_some (upd_same jb jj _), upd_same])); clear hp M))
            generalize (w6.setCell ⟨SB, jj, none⟩ (.pointer (some ⟨p, 0, none⟩))).setCell ⟨AB, a, none⟩ (.bool true) = w8 at S7 h7 N7 R7 sc3 ⊢
            obtain ⟨jb8, hjb8⟩ : ∃ f, upd jb jj (some un) = f := ⟨_, rfl⟩
            obtain ⟨pp8, hpp8⟩ : ∃ f, upd pp jj p = f := ⟨_, rfl⟩
            have e8 : jb8 jj = some un := by rw [← hjb8]; exact upd_same _ _ _
            have ep8 : pp8 jj = p := by rw [← hpp8]; exact upd_same _ _ _
            have eu8 : ∀ o, upd jb8 jj o = upd jb jj o := fun o => by rw [← hjb8]; exact upd_upd _ _ _ _
            rw [hjb8, hpp8] at S7
            rw [← ep8] at sc3 ⊢
            clear hjb8 hpp8 ep8
            have X1 := S7.mach jj hj3 un e8
            rcases hd : (u'.pc == 0) with _ | _
            · have x0 : u'.pc ≠ 0 := by simpa using hd
              rw [keepS_some x0] at gi' ph'
              go_wp2_with (go_at_call 18; refine (oShade h7 X1 oku (by omega)).mono ?_; rintro e v1 ⟨rfl, T1, X2, o1⟩; rw [hu] at X2 ⊢; rw [hs] at T1; rw [hd]; have S8 := S7.step hj3 e8 o1 X2; have R8 := R7.oth1 o1 X1 (by decide); have N8 := N7.oth o1 (X1.off N7 (by decide)); obtain ⟨sc9, sf9⟩ := S8.cell hj3; obtain ⟨cB9, hB9, _, _⟩ := S8.sb)
              go_roundw
              case rel => exact ⟨i + 1, by omega, by go_num, pn, s', _, pp8, x, l', v', ow', _, g, rfl, ⟨T1.mono (by omega), (by have := S8; rw [eu8] at this; exact this), N8, R8, gi', by omega, ph'⟩⟩
              case measure => simp [intOf] <;> omega
            · have x0 : u'.pc = 0 := by simpa using hd
              rw [keepS_none x0] at gi' ph'
              go_wp2_with (go_at_call 18; refine (oShade h7 X1 oku (by omega)).mono ?_; rintro e v1 ⟨rfl, T1, X2, o1⟩; rw [hu] at X2 ⊢; rw [hs] at T1; rw [hd]; have S8 := S7.step hj3 e8 o1 X2; have R8 := R7.oth1 o1 X1 (by decide); have N8 := N7.oth o1 (X1.off N7 (by decide)); obtain ⟨sc9, sf9⟩ := S8.cell hj3; obtain ⟨cB9, hB9, _, _⟩ := S8.sb)
              go_roundw
              case rel => exact ⟨i + 1, by omega, by go_num, pn, s', _, pp8, x, l', v', ow', _, g, rfl, ⟨(T1.set hB9 jj (.pointer none)).mono (by omega), (by have := S8.clear hj3; rw [upd_upd, eu8] at this; exact this), N8.oth (Oth.set _ _ _ _ (by simp : SB ∈ [SB])) (hB9.off N8 (by decide)), R8.oth1 (Oth.set _ _ _ _ (by simp : SB ∈ [SB])) hB9 (by decide), gi', by omega, ph'⟩⟩
              case measure => simp [intOf] <;> omega
          · skip
            rw [sc_some hjb] at sc1
            obtain ⟨shu, oku⟩ := q.gi.sh jj hj3 u hjb
            obtain ⟨l', v', ow', D⟩ := q.gi.shade (by have := q.vi; omega) hj3 hjb
            have vle := D.vle
            have vi := q.vi
            have ph' := q.ph.shade q.gi hturn hj3 hjb D
            have gi' := D.gi
            clear D shu
            have X1 := q.sp.mach jj hj3 u hjb
            obtain ⟨u', hu⟩ : ∃ u', u.next s = u' := ⟨_, rfl⟩
            obtain ⟨s', hs⟩ : ∃ s', u.mem s = s' := ⟨_, rfl⟩
            rw [hu] at gi' ph'
            rw [hs] at gi' ph'
            have sp1 := q.sp
            have rw1 := q.rows
            have hd1 := q.hand
            have N1 := q.nx
            rcases hd : (u'.pc == 0) with _ | _
            · have x0 : u'.pc ≠ 0 := by simpa using hd
              rw [keepS_some x0] at gi' ph'
              go_wp2_with (first
                | (go_at_call 12; refine (cKind _ zj 64 hy1 hy2 (by decide)).mono ?_; rintro e wk ⟨rfl, hwk⟩; rw [hwk, hk]; clear hwk wk)
                | (go_at_call 18; refine (oShade hd1 X1 oku (by omega)).mono ?_; rintro e v1 ⟨rfl, T1, X2, o1⟩; rw [hu] at X2 ⊢; rw [hs] at T1; rw [hd]; have S1 := sp1.step hj3 hjb o1 X2; have R1 := rw1.oth1 o1 X1 (by decide); have N2 := N1.oth o1 (X1.off N1 (by decide)); obtain ⟨sc2, sf2⟩ := S1.cell hj3; obtain ⟨cB, hB, _, _⟩ := S1.sb))
              go_roundw
              case rel => exact ⟨i + 1, by omega, by go_num, pn, s', _, pp, x, l', v', ow', f, g, rfl, ⟨T1.mono (by omega), S1, N2, R1, gi', by omega, ph'⟩⟩
              case measure => simp [intOf] <;> omega
            · have x0 : u'.pc = 0 := by simpa using hd
              rw [keepS_none x0] at gi' ph'
              go_wp2_with (first
                | (go_at_call 12; refine (cKind _ zj 64 hy1 hy2 (by decide)).mono ?_; rintro e wk ⟨rfl, hwk⟩; rw [hwk, hk]; clear hwk wk)
                | (go_at_call 18; refine (oShade hd1 X1 oku (by omega)).mono ?_; rintro e v1 ⟨rfl, T1, X2, o1⟩; rw [hu] at X2 ⊢; rw [hs] at T1; rw [hd]; have S1 := sp1.step hj3 hjb o1 X2; have R1 := rw1.oth1 o1 X1 (by decide); have N2 := N1.oth o1 (X1.off N1 (by decide)); obtain ⟨sc2, sf2⟩ := S1.cell hj3; obtain ⟨cB, hB, _, _⟩ := S1.sb))
              go_roundw
              case rel => exact ⟨i + 1, by omega, by go_num, pn, s', _, pp, x, l', v', ow', f, g, rfl, ⟨(T1.set hB jj (.pointer none)).mono (by omega), (by have := S1.clear hj3; rw [upd_upd] at this; exact this), N2.oth (Oth.set _ _ _ _ (by simp : SB ∈ [SB])) (hB.off N2 (by decide)), R1.oth1 (Oth.set _ _ _ _ (by simp : SB ∈ [SB])) hB (by decide), gi', by omega, ph'⟩⟩
              case measure => simp [intOf] <;> omega
      case neg =>
        obtain ⟨jj, hjj, hjj4⟩ : ∃ jj : Nat, (i : Int) % 4 = (jj : Int) ∧ jj < 4 := ⟨i % 4, by omega, by omega⟩
        have hturn : over len ≤ i → i % 4 = jj := fun _ => by omega
        have hm4 : (jj : Int) % 4 = (jj : Int) := by omega
        by_cases hil : i < len
        · have hi3 : ¬ i < 300 := fun h => hjn ⟨hil, h⟩
          clear hjn
          by_cases h3 : jj = 3
          case pos =>
            have c3 : ((jj : Int) == 3) = true := by simp [h3]
            have ht3 : over len ≤ i → i % 4 = 3 := fun h => by rw [← h3]; exact hturn h
            clear h3
            obtain ⟨l', v', ow', g', D⟩ := q.gi.took (by have := q.vi; omega) q.hand.rng
            have ok1 := q.gi.nok
            have vle := D.vle
            have vi := q.vi
            have ph' := q.ph.took q.gi ht3 D
            have N1 := q.nx
            obtain ⟨x', hx⟩ : ∃ x', x.next s = x' := ⟨_, rfl⟩
            obtain ⟨s', hs⟩ : ∃ s', x.mem s = s' := ⟨_, rfl⟩
            rw [hx] at D ph'
            rw [hs] at D ph'
            obtain ⟨va, hva⟩ : ∃ v, x'.cell = v := ⟨_, rfl⟩
            obtain ⟨vc, hvc⟩ : ∃ v, x'.count = v := ⟨_, rfl⟩
            have sp1 := q.sp
            have rw1 := q.rows
            have hd1 := q.hand
            rcases hd : (x'.pc == 0) with _ | _
            · skip
              have x0 : x'.pc ≠ 0 := by simpa using hd
              have e1 := D.untold x0
              have gi' := D.gi
              rw [keepN_some x0] at gi' ph'
              rw [e1] at gi'
              clear D
              go_wp2_with (first
                | (go_at_call 13; refine (oNext hd1 N1 ok1 (by omega)).mono ?_; rintro e v1 ⟨rfl, T1, P2, o1⟩; rw [hx] at P2 ⊢; rw [hs] at T1; rw [hd]; have S1 := sp1.oth1 o1 N1 (by decide); have R1 := rw1.oth1 o1 N1 (by decide))
                | (go_at_call 14; refine (oResult P2).mono ?_; rintro e v2 ⟨rfl, hb2⟩; rw [hva, hvc]; have T2 := T1.below hb2; have P3 := P2.below hb2; have S2 := S1.below hb2; have R2 := R1.below hb2; clear hb2))
              go_roundw
              case rel => exact ⟨i + 1, by omega, by go_num, pn, s', jb, pp, x', l', v', ow', f, g, rfl, ⟨T2.mono (by omega), S2, P3, R2, gi', by omega, ph'⟩⟩
              case measure => simp [intOf] <;> omega
            · have x0 : x'.pc = 0 := by simpa using hd
              have gi' := D.gi
              rw [keepN_new x0] at gi' ph'
              have hT := D.told x0
              clear D
              rcases hT with ⟨t1, t2⟩ | ⟨cn, t1, t2, t3, t4, t5⟩
              · rw [t2] at gi'
                have ca : va = 0 := by rw [← hva]; exact t1
                subst ca
                clear t1 t2
                go_wp2_with (first
                  | (go_at_call 13; refine (oNext hd1 N1 ok1 (by omega)).mono ?_; rintro e v1 ⟨rfl, T1, P2, o1⟩; rw [hx] at P2 ⊢; rw [hs] at T1; rw [hd]; have S1 := sp1.oth1 o1 N1 (by decide); have R1 := rw1.oth1 o1 N1 (by decide))
                  | (go_at_call 14; refine (oResult P2).mono ?_; rintro e v2 ⟨rfl, hb2⟩; rw [hva, hvc]; have T2 := T1.below hb2; have P3 := P2.below hb2; have S2 := S1.below hb2; have R2 := R1.below hb2; clear hb2)
                  | (go_at_call 10; refine (cNewNext _).mono ?_; rintro e v4 ⟨rfl, hM⟩; have M := made_of hM; have T4 := T2.below M.bel; have S4 := S2.below M.bel; have R4 := R2.below M.bel; have N4 := M.blk' T2.bel.size (by decide); obtain ⟨pm, hpm⟩ : ∃ p, v2.heap.size = p := ⟨_, rfl⟩; rw [hpm] at N4 ⊢; clear hpm M hM))
                go_roundw
                case rel => exact ⟨i + 1, by omega, by go_num, pm, s', jb, pp, NextS.new, l', v', ow', f, g, rfl, ⟨T4.mono (by omega), S4, N4, R4, gi', by omega, ph'⟩⟩
                case measure => simp [intOf] <;> omega
              · rw [t5] at gi'
                have ca : va = (cn : Int) := by rw [← hva]; exact t1
                subst ca
                clear t1 t5
                have n0 : ((cn : Int) != 0) = true := by simp; omega
                have b1 : decide ((cn : Int) < 96) = false := by simp; omega
                have b2 : decide ((cn : Int) ≥ 160) = false := by simp; omega
                have b3 : (0 : Int) ≤ (cn : Int) ∧ (cn : Int) < 160 := by omega
                go_wp2_with (first
                  | (go_at_call 13; refine (oNext hd1 N1 ok1 (by omega)).mono ?_; rintro e v1 ⟨rfl, T1, P2, o1⟩; rw [hx] at P2 ⊢; rw [hs] at T1; rw [hd]; have S1 := sp1.oth1 o1 N1 (by decide); have R1 := rw1.oth1 o1 N1 (by decide))
                  | (go_at_call 14; refine (oResult P2).mono ?_; rintro e v2 ⟨rfl, hb2⟩; rw [hva, hvc]; have T2 := T1.below hb2; have P3 := P2.below hb2; have S2 := S1.below hb2; have R2 := R1.below hb2; clear hb2; obtain ⟨tc, tf⟩ := R2.ct t3; rw [t4] at tc)
                  | (go_at_call 10; have TT := T2.set R2.t cn (.bool true); have SS := S2.oth1 (Oth.set v2 TL cn (.bool true) (by simp : TL ∈ [TL])) R2.t (by decide); have RR := R2.setT cn; generalize v2.setCell ⟨TL, cn, none⟩ (.bool true) = v3 at TT SS RR ⊢; refine (cNewNext v3).mono ?_; rintro e v4 ⟨rfl, hM⟩; have M := made_of hM; have T4 := TT.below M.bel; have S4 := SS.below M.bel; have R4 := RR.below M.bel; have N4 := M.blk' TT.bel.size (by decide); obtain ⟨pm, hpm⟩ : ∃ p, v3.heap.size = p := ⟨_, rfl⟩; rw [hpm] at N4 ⊢; clear hpm M hM))
                go_roundw
                case rel => exact ⟨i + 1, by omega, by go_num, pm, s', jb, pp, NextS.new, l', v', ow', f, _, rfl, ⟨T4.mono (by omega), S4, N4, R4, gi', by omega, ph'⟩⟩
                case measure => simp [intOf] <;> omega
          case neg =>
            have c3 : ((jj : Int) == 3) = false := by simp; omega
            have hj3 : jj < 3 := by omega
            have hjI : (0 : Int) ≤ (jj : Int) ∧ (jj : Int) < 3 := by omega
            clear h3 hjj4
            obtain ⟨sc1, sf1⟩ := q.sp.cell hj3
            rcases hjb : jb jj with _ | u
            · rw [sc_none hjb] at sc1
              have ph' := q.ph.idle q.gi (k := jj) (by omega) hj3 hjb
              go_wp2
              go_roundw
              case rel => exact ⟨i + 1, by omega, by go_num, pn, s, jb, pp, x, l, v, ow, f, g, rfl, ⟨q.hand.mono (by omega), q.sp, q.nx, q.rows, q.gi, by have := q.vi; omega, ph'⟩⟩
              case measure => simp [intOf] <;> omega
            · skip
              rw [sc_some hjb] at sc1
              obtain ⟨shu, oku⟩ := q.gi.sh jj hj3 u hjb
              obtain ⟨l', v', ow', D⟩ := q.gi.shade (by have := q.vi; omega) hj3 hjb
              have vle := D.vle
              have vi := q.vi
              have ph' := q.ph.shade q.gi hturn hj3 hjb D
              have gi' := D.gi
              clear D shu
              have X1 := q.sp.mach jj hj3 u hjb
              obtain ⟨u', hu⟩ : ∃ u', u.next s = u' := ⟨_, rfl⟩
              obtain ⟨s', hs⟩ : ∃ s', u.mem s = s' := ⟨_, rfl⟩
              rw [hu] at gi' ph'
              rw [hs] at gi' ph'
              have sp1 := q.sp
              have rw1 := q.rows
              have hd1 := q.hand
              have N1 := q.nx
              rcases hd : (u'.pc == 0) with _ | _
              · have x0 : u'.pc ≠ 0 := by simpa using hd
                rw [keepS_some x0] at gi' ph'
                go_wp2_with (first
                  | (go_at_call 18; refine (oShade hd1 X1 oku (by omega)).mono ?_; rintro e v1 ⟨rfl, T1, X2, o1⟩; rw [hu] at X2 ⊢; rw [hs] at T1; rw [hd]; have S1 := sp1.step hj3 hjb o1 X2; have R1 := rw1.oth1 o1 X1 (by decide); have N2 := N1.oth o1 (X1.off N1 (by decide)); obtain ⟨sc2, sf2⟩ := S1.cell hj3; obtain ⟨cB, hB, _, _⟩ := S1.sb))
                go_roundw
                case rel => exact ⟨i + 1, by omega, by go_num, pn, s', _, pp, x, l', v', ow', f, g, rfl, ⟨T1.mono (by omega), S1, N2, R1, gi', by omega, ph'⟩⟩
                case measure => simp [intOf] <;> omega
              · have x0 : u'.pc = 0 := by simpa using hd
                rw [keepS_none x0] at gi' ph'
                go_wp2_with (first
                  | (go_at_call 18; refine (oShade hd1 X1 oku (by omega)).mono ?_; rintro e v1 ⟨rfl, T1, X2, o1⟩; rw [hu] at X2 ⊢; rw [hs] at T1; rw [hd]; have S1 := sp1.step hj3 hjb o1 X2; have R1 := rw1.oth1 o1 X1 (by decide); have N2 := N1.oth o1 (X1.off N1 (by decide)); obtain ⟨sc2, sf2⟩ := S1.cell hj3; obtain ⟨cB, hB, _, _⟩ := S1.sb))
                go_roundw
                case rel => exact ⟨i + 1, by omega, by go_num, pn, s', _, pp, x, l', v', ow', f, g, rfl, ⟨(T1.set hB jj (.pointer none)).mono (by omega), (by have := S1.clear hj3; rw [upd_upd] at this; exact this), N2.oth (Oth.set _ _ _ _ (by simp : SB ∈ [SB])) (hB.off N2 (by decide)), R1.oth1 (Oth.set _ _ _ _ (by simp : SB ∈ [SB])) hB (by decide), gi', by omega, ph'⟩⟩
                case measure => simp [intOf] <;> omega
        · skip
          clear hjn
          by_cases h3 : jj = 3
          case pos =>
            have c3 : ((jj : Int) == 3) = true := by simp [h3]
            have ht3 : over len ≤ i → i % 4 = 3 := fun h => by rw [← h3]; exact hturn h
            clear h3
            obtain ⟨l', v', ow', g', D⟩ := q.gi.took (by have := q.vi; omega) q.hand.rng
            have ok1 := q.gi.nok
            have vle := D.vle
            have vi := q.vi
            have ph' := q.ph.took q.gi ht3 D
            have N1 := q.nx
            obtain ⟨x', hx⟩ : ∃ x', x.next s = x' := ⟨_, rfl⟩
            obtain ⟨s', hs⟩ : ∃ s', x.mem s = s' := ⟨_, rfl⟩
            rw [hx] at D ph'
            rw [hs] at D ph'
            obtain ⟨va, hva⟩ : ∃ v, x'.cell = v := ⟨_, rfl⟩
            obtain ⟨vc, hvc⟩ : ∃ v, x'.count = v := ⟨_, rfl⟩
            have sp1 := q.sp
            have rw1 := q.rows
            have hd1 := q.hand
            rcases hd : (x'.pc == 0) with _ | _
            · skip
              have x0 : x'.pc ≠ 0 := by simpa using hd
              have e1 := D.untold x0
              have gi' := D.gi
              rw [keepN_some x0] at gi' ph'
              rw [e1] at gi'
              clear D
              go_wp2_with (first
                | (go_at_call 13; refine (oNext hd1 N1 ok1 (by omega)).mono ?_; rintro e v1 ⟨rfl, T1, P2, o1⟩; rw [hx] at P2 ⊢; rw [hs] at T1; rw [hd]; have S1 := sp1.oth1 o1 N1 (by decide); have R1 := rw1.oth1 o1 N1 (by decide))
                | (go_at_call 14; refine (oResult P2).mono ?_; rintro e v2 ⟨rfl, hb2⟩; rw [hva, hvc]; have T2 := T1.below hb2; have P3 := P2.below hb2; have S2 := S1.below hb2; have R2 := R1.below hb2; clear hb2))
              go_roundw
              case rel => exact ⟨i + 1, by omega, by go_num, pn, s', jb, pp, x', l', v', ow', f, g, rfl, ⟨T2.mono (by omega), S2, P3, R2, gi', by omega, ph'⟩⟩
              case measure => simp [intOf] <;> omega
            · have x0 : x'.pc = 0 := by simpa using hd
              have gi' := D.gi
              rw [keepN_new x0] at gi' ph'
              have hT := D.told x0
              clear D
              rcases hT with ⟨t1, t2⟩ | ⟨cn, t1, t2, t3, t4, t5⟩
              · rw [t2] at gi'
                have ca : va = 0 := by rw [← hva]; exact t1
                subst ca
                clear t1 t2
                go_wp2_with (first
                  | (go_at_call 13; refine (oNext hd1 N1 ok1 (by omega)).mono ?_; rintro e v1 ⟨rfl, T1, P2, o1⟩; rw [hx] at P2 ⊢; rw [hs] at T1; rw [hd]; have S1 := sp1.oth1 o1 N1 (by decide); have R1 := rw1.oth1 o1 N1 (by decide))
                  | (go_at_call 14; refine (oResult P2).mono ?_; rintro e v2 ⟨rfl, hb2⟩; rw [hva, hvc]; have T2 := T1.below hb2; have P3 := P2.below hb2; have S2 := S1.below hb2; have R2 := R1.below hb2; clear hb2)
                  | (go_at_call 10; refine (cNewNext _).mono ?_; rintro e v4 ⟨rfl, hM⟩; have M := made_of hM; have T4 := T2.below M.bel; have S4 := S2.below M.bel; have R4 := R2.below M.bel; have N4 := M.blk' T2.bel.size (by decide); obtain ⟨pm, hpm⟩ : ∃ p, v2.heap.size = p := ⟨_, rfl⟩; rw [hpm] at N4 ⊢; clear hpm M hM))
                go_roundw
                case rel => exact ⟨i + 1, by omega, by go_num, pm, s', jb, pp, NextS.new, l', v', ow', f, g, rfl, ⟨T4.mono (by omega), S4, N4, R4, gi', by omega, ph'⟩⟩
                case measure => simp [intOf] <;> omega
              · rw [t5] at gi'
                have ca : va = (cn : Int) := by rw [← hva]; exact t1
                subst ca
                clear t1 t5
                have n0 : ((cn : Int) != 0) = true := by simp; omega
                have b1 : decide ((cn : Int) < 96) = false := by simp; omega
                have b2 : decide ((cn : Int) ≥ 160) = false := by simp; omega
                have b3 : (0 : Int) ≤ (cn : Int) ∧ (cn : Int) < 160 := by omega
                go_wp2_with (first
                  | (go_at_call 13; refine (oNext hd1 N1 ok1 (by omega)).mono ?_; rintro e v1 ⟨rfl, T1, P2, o1⟩; rw [hx] at P2 ⊢; rw [hs] at T1; rw [hd]; have S1 := sp1.oth1 o1 N1 (by decide); have R1 := rw1.oth1 o1 N1 (by decide))
                  | (go_at_call 14; refine (oResult P2).mono ?_; rintro e v2 ⟨rfl, hb2⟩; rw [hva, hvc]; have T2 := T1.below hb2; have P3 := P2.below hb2; have S2 := S1.below hb2; have R2 := R1.below hb2; clear hb2; obtain ⟨tc, tf⟩ := R2.ct t3; rw [t4] at tc)
                  | (go_at_call 10; have TT := T2.set R2.t cn (.bool true); have SS := S2.oth1 (Oth.set v2 TL cn (.bool true) (by simp : TL ∈ [TL])) R2.t (by decide); have RR := R2.setT cn; generalize v2.setCell ⟨TL, cn, none⟩ (.bool true) = v3 at TT SS RR ⊢; refine (cNewNext v3).mono ?_; rintro e v4 ⟨rfl, hM⟩; have M := made_of hM; have T4 := TT.below M.bel; have S4 := SS.below M.bel; have R4 := RR.below M.bel; have N4 := M.blk' TT.bel.size (by decide); obtain ⟨pm, hpm⟩ : ∃ p, v3.heap.size = p := ⟨_, rfl⟩; rw [hpm] at N4 ⊢; clear hpm M hM))
                go_roundw
                case rel => exact ⟨i + 1, by omega, by go_num, pm, s', jb, pp, NextS.new, l', v', ow', f, _, rfl, ⟨T4.mono (by omega), S4, N4, R4, gi', by omega, ph'⟩⟩
                case measure => simp [intOf] <;> omega
          case neg =>
            have c3 : ((jj : Int) == 3) = false := by simp; omega
            have hj3 : jj < 3 := by omega
            have hjI : (0 : Int) ≤ (jj : Int) ∧ (jj : Int) < 3 := by omega
            clear h3 hjj4
            obtain ⟨sc1, sf1⟩ := q.sp.cell hj3
            rcases hjb : jb jj with _ | u
            · rw [sc_none hjb] at sc1
              have ph' := q.ph.idle q.gi (k := jj) (by omega) hj3 hjb
              go_wp2
              go_roundw
              case rel => exact ⟨i + 1, by omega, by go_num, pn, s, jb, pp, x, l, v, ow, f, g, rfl, ⟨q.hand.mono (by omega), q.sp, q.nx, q.rows, q.gi, by have := q.vi; omega, ph'⟩⟩
              case measure => simp [intOf] <;> omega
            · skip
              rw [sc_some hjb] at sc1
              obtain ⟨shu, oku⟩ := q.gi.sh jj hj3 u hjb
              obtain ⟨l', v', ow', D⟩ := q.gi.shade (by have := q.vi; omega) hj3 hjb
              have vle := D.vle
              have vi := q.vi
              have ph' := q.ph.shade q.gi hturn hj3 hjb D
              have gi' := D.gi
              clear D shu
              have X1 := q.sp.mach jj hj3 u hjb
              obtain ⟨u', hu⟩ : ∃ u', u.next s = u' := ⟨_, rfl⟩
              obtain ⟨s', hs⟩ : ∃ s', u.mem s = s' := ⟨_, rfl⟩
              rw [hu] at gi' ph'
              rw [hs] at gi' ph'
              have sp1 := q.sp
              have rw1 := q.rows
              have hd1 := q.hand
              have N1 := q.nx
              rcases hd : (u'.pc == 0) with _ | _
              · have x0 : u'.pc ≠ 0 := by simpa using hd
                rw [keepS_some x0] at gi' ph'
                go_wp2_with (first
                  | (go_at_call 18; refine (oShade hd1 X1 oku (by omega)).mono ?_; rintro e v1 ⟨rfl, T1, X2, o1⟩; rw [hu] at X2 ⊢; rw [hs] at T1; rw [hd]; have S1 := sp1.step hj3 hjb o1 X2; have R1 := rw1.oth1 o1 X1 (by decide); have N2 := N1.oth o1 (X1.off N1 (by decide)); obtain ⟨sc2, sf2⟩ := S1.cell hj3; obtain ⟨cB, hB, _, _⟩ := S1.sb))
                go_roundw
                case rel => exact ⟨i + 1, by omega, by go_num, pn, s', _, pp, x, l', v', ow', f, g, rfl, ⟨T1.mono (by omega), S1, N2, R1, gi', by omega, ph'⟩⟩
                case measure => simp [intOf] <;> omega
              · have x0 : u'.pc = 0 := by simpa using hd
                rw [keepS_none x0] at gi' ph'
                go_wp2_with (first
                  | (go_at_call 18; refine (oShade hd1 X1 oku (by omega)).mono ?_; rintro e v1 ⟨rfl, T1, X2, o1⟩; rw [hu] at X2 ⊢; rw [hs] at T1; rw [hd]; have S1 := sp1.step hj3 hjb o1 X2; have R1 := rw1.oth1 o1 X1 (by decide); have N2 := N1.oth o1 (X1.off N1 (by decide)); obtain ⟨sc2, sf2⟩ := S1.cell hj3; obtain ⟨cB, hB, _, _⟩ := S1.sb))
                go_roundw
                case rel => exact ⟨i + 1, by omega, by go_num, pn, s', _, pp, x, l', v', ow', f, g, rfl, ⟨(T1.set hB jj (.pointer none)).mono (by omega), (by have := S1.clear hj3; rw [upd_upd] at this; exact this), N2.oth (Oth.set _ _ _ _ (by simp : SB ∈ [SB])) (hB.off N2 (by decide)), R1.oth1 (Oth.set _ _ _ _ (by simp : SB ∈ [SB])) hB (by decide), gi', by omega, ph'⟩⟩
                case measure => simp [intOf] <;> omega
    case neg =>
      obtain ⟨ov1, ov2, ov3⟩ := over_b len
      have he : i = 600 := by omega
      have fg := (q.ph.lv (by omega)).end_ q.gi (by omega) (by omega)
      have tz := q.gi.co.t
      have rw1 := q.rows
      have hd1 := q.hand
      clear q he
      go_wp2
      go_loopw [18] (fun va wr => ∃ a : Nat, a ≤ 160 ∧ va = .int .i64 a ∧ Hand w wr b s (32 + i) ∧ Rows2 w wr AB TL f g) (fun va _ => 160 - (intOf va).toNat)
      case atStart => exact ⟨0, Nat.zero_le _, rfl, hd1, rw1⟩
      case round =>
        obtain ⟨a, ha, rfl, q1, q2⟩ := hrel
        clear hd1 rw1
        by_cases ha6 : a < 160
        case pos =>
          obtain ⟨c1, f1⟩ := q2.ca ha6
          obtain ⟨c2, f2⟩ := q2.ct ha6
          rw [← fg a ha6] at c2
          obtain ⟨d, hd⟩ : ∃ d, f a = d := ⟨_, rfl⟩
          rw [hd] at c1 c2
          have nb := neB d
          have haI : (0 : Int) ≤ (a : Int) ∧ (a : Int) < 160 := by omega
          go_wp2
          go_quiet (fail)
          go_wp2
          go_roundw
          case rel => exact ⟨a + 1, by omega, by go_num, q1.drewN _, q2.below (S.bdr (Below.refl _ _) _)⟩
          case measure => simp [intOf] <;> omega
        case neg =>
          go_wp2_with (go_at_call 21; refine (hTraps q1).mono ?_; rintro e wx ⟨rfl, hwx⟩; rw [hwx, tz]; clear hwx wx)
          go_ret
          exact ⟨rfl, q1.bel⟩
end Go.Proofs.YtkgmfnllhjedpaaDoor

