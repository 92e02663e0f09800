/-
  The walk of the law on who owns a cell.
-/
import Derived.Test.YteclgafdflmioaaDoorOw2
import Derived.Test.YteclgafdflmioaaDoorWo
import Derived.Test.YteclgafdflmioaaDoorZa
import Derived.Test.YteclgafdflmioaaDoorOi
import Derived.Test.YteclgafdflmioaaDoorOe
import Derived.Deep.Cut
namespace Go.Proofs.YteclgafdflmioaaDoor
set_option linter.unusedVariables false
set_option linter.unusedSimpArgs false
set_option maxRecDepth 100000
open Go.ChangeShapes Go.WideShapes Go.RowKit
set_option maxHeartbeats 8000000 in
theorem wListOwn (n : Int) (ao : Option Addr) (len cap : Nat) (z : Nat → Int) (hn : -9223372036854775808 ≤ n) (hn' : n ≤ 9223372036854775807) (w : World) (W : H.Wid w) (hlen : CameI w ao len z) (hln63 : len ≤ 9223372036854775807) :
    Calls Tryd.prog 4 #[.int .i64 n, .slice ao len cap] w fun e w' => e = .returned (.bool true) ∧ Below w.heap.size w w' := by
  obtain ⟨m, hm, hm13⟩ : ∃ m : Nat, kd n 13 = m ∧ m < 13 := kd_nat n 13 (by decide)
  have hm12 : m ≤ 12 := by omega
  have hI := inv_start hm12
  obtain ⟨P, hP1, hP2, hP3⟩ : ∃ P : Nat, P ≤ len ∧ P ≤ 200 ∧ (P = len ∨ P = 200) := by
    rcases Nat.le_total len 200 with h | h
    · exact ⟨len, Nat.le_refl _, h, .inl rfl⟩
    · exact ⟨200, h, Nat.le_refl _, .inr rfl⟩
  go_enter Tryd.func4, Tryd.ntmps4
  go_upto_region 6 with (first
    | (go_at_call 7; refine (cShown w W).mono ?_; rintro e w1 ⟨rfl, hb1⟩)
    | (go_at_call 9; refine (cKind _ n 13 hn hn' (by decide)).mono ?_; rintro e w2 ⟨rfl, hw2⟩; rw [hw2, hm]; clear hw2 w2)
    | (go_at_call 8; refine (cLaid m (by omega) w1 (W.on hb1)).mono ?_; rintro e w3 ⟨b, rfl, h3⟩; have h3' := h3.lift hb1 W; clear h3))
  refine wp_region_lit ?_
  refine wpList_zeros rfl rfl rfl 40 41 8 rfl rfl rfl rfl rfl rfl #[.pointer none, .pointer none, .pointer none, .pointer none] 4 (by kernel_rfl) (by kernel_rfl) rfl (by kernel_rfl) (by kernel_rfl) (by kernel_rfl) ?_
  refine wpList_nil ?_
  have BPB : Blk w (w3.alloc (.cells #[.pointer none, .pointer none, .pointer none, .pointer none] 40)) w3.heap.size 40 #[.pointer none, .pointer none, .pointer none, .pointer none] := Blk.new h3'.bel.size _ (by decide)
  have hX := h3'.alloc (.cells #[.pointer none, .pointer none, .pointer none, .pointer none] 40)
  generalize w3.alloc (.cells #[.pointer none, .pointer none, .pointer none, .pointer none] 40) = wP at BPB hX ⊢
  generalize w3.heap.size = PB at BPB ⊢
  go_upto_region 7 with (fail)
  refine wp_region_lit ?_
  refine wpList_zeros rfl rfl rfl 41 42 9 rfl rfl rfl rfl rfl rfl #[.pointer none, .pointer none, .pointer none, .pointer none] 4 (by kernel_rfl) (by kernel_rfl) rfl (by kernel_rfl) (by kernel_rfl) (by kernel_rfl) ?_
  refine wpList_nil ?_
  have BQB : Blk w (wP.alloc (.cells #[.pointer none, .pointer none, .pointer none, .pointer none] 41)) wP.heap.size 41 #[.pointer none, .pointer none, .pointer none, .pointer none] := Blk.new hX.bel.size _ (by decide)
  replace hX := hX.alloc (.cells #[.pointer none, .pointer none, .pointer none, .pointer none] 41)
  replace BPB := BPB.below (bal1 (.cells #[.pointer none, .pointer none, .pointer none, .pointer none] 41))
  generalize wP.alloc (.cells #[.pointer none, .pointer none, .pointer none, .pointer none] 41) = wQ at BPB BQB hX ⊢
  generalize wP.heap.size = QB at BQB ⊢
  go_upto_region 8 with (fail)
  refine wp_region_lit ?_
  refine wpList_zeros rfl rfl rfl 42 43 10 rfl rfl rfl rfl rfl rfl #[.slice none 0 0, .slice none 0 0, .slice none 0 0, .slice none 0 0] 4 (by kernel_rfl) (by kernel_rfl) rfl (by kernel_rfl) (by kernel_rfl) (by kernel_rfl) ?_
  refine wpList_nil ?_
  have BHB : Blk w (wQ.alloc (.cells #[.slice none 0 0, .slice none 0 0, .slice none 0 0, .slice none 0 0] 42)) wQ.heap.size 42 #[.slice none 0 0, .slice none 0 0, .slice none 0 0, .slice none 0 0] := Blk.new hX.bel.size _ (by decide)
  replace hX := hX.alloc (.cells #[.slice none 0 0, .slice none 0 0, .slice none 0 0, .slice none 0 0] 42)
  replace BPB := BPB.below (bal1 (.cells #[.slice none 0 0, .slice none 0 0, .slice none 0 0, .slice none 0 0] 42))
  replace BQB := BQB.below (bal1 (.cells #[.slice none 0 0, .slice none 0 0, .slice none 0 0, .slice none 0 0] 42))
  generalize wQ.alloc (.cells #[.slice none 0 0, .slice none 0 0, .slice none 0 0, .slice none 0 0] 42) = wH at BPB BQB BHB hX ⊢
  generalize wQ.heap.size = HB at BHB ⊢
  have hC := crew_zero BPB BQB BHB
  clear BPB BQB BHB h3' hb1
  go_wp2
  go_loopw [11] (fun i wr => ∃ j : Nat, j ≤ P + 400 ∧ i = .int .i64 j ∧ ∃ s l v jb mp vh hs, Hand w wr b s (100 + j) ∧ Inv m s l v jb hs ∧ v ≤ 12 + j ∧ Crew w wr PB QB HB jb mp vh hs j ∧ (9223372036854775407 < len → j = 0 ∧ ∀ k, k < 4 → jb k = .idle) ∧ (P ≤ j → Live P j s jb)) (fun i _ => P + 400 - (intOf i).toNat)
  case atStart => exact ⟨0, Nat.zero_le _, rfl, _, _, _, _, _, _, _, hX.mono (by omega), hI, by omega, hC, fun _ => ⟨rfl, fun _ _ => rfl⟩, fun h => by have e : P = 0 := (by omega); rw [e]; exact live_start _ _ _⟩
  case round =>
    obtain ⟨j, hj, rfl, s, l, v, jb, mp, vh, hs, H, I, hv, C, hbig, Lv⟩ := hrel
    clear hX hI hC
    by_cases hgo : j < P + 400 ∧ len ≤ 9223372036854775407
    · obtain ⟨hj4, hl4⟩ := hgo
      clear hbig
      by_cases hA : j < P
      · have hj1 : j < len := by omega
        have hj2 : j < 200 := by omega
        obtain ⟨cc, off, rfl, hcb, hcell⟩ := hlen.resolve_left (by omega)
        obtain ⟨hcj, hz1, hz2⟩ := hcell j hj1
        have hcj' : wr.cell? ⟨cc, off + j, none⟩ = some (.int .i64 (z j)) := (H.bel.cell hcb).trans hcj
        obtain ⟨q, hq, hq8⟩ : ∃ q : Nat, kd (z j) 8 = q ∧ q < 8 := kd_nat (z j) 8 (by decide)
        obtain ⟨kk, hkk, hk4⟩ : ∃ kk : Nat, (q : Int) % 4 = (kk : Int) ∧ kk < 4 := ⟨q % 4, by omega, by omega⟩
        have hk0 : (0 : Int) ≤ (kk : Int) := by omega
        have hk4' : (kk : Int) < 4 := by omega
        clear hcell hcj
        have hk : kk < 4 := by omega
        rcases hjb : jb (kk) with _ | x | x
        · have cp0 : wr.cell? ⟨PB, kk, none⟩ = some (.pointer none) := (C.cp hk).trans (by rw [hjb]; rfl)
          have cq0 : wr.cell? ⟨QB, kk, none⟩ = some (.pointer none) := (C.cq hk).trans (by rw [hjb]; rfl)
          obtain ⟨ao', cp', hvh, hgr⟩ := (C.row _ hk).slice
          have ch0 : wr.cell? ⟨HB, kk, none⟩ = some (.slice ao' (hs (kk)).length cp') := (C.ch hk).trans (by rw [hvh])
          have fp0 := C.fp (kk)
          have fq0 := C.fq (kk)
          have fh0 := C.fh (kk)
          by_cases hpp : q < 4
          · have hq4 : decide ((q : Int) < 4) = true := by simp; omega
            have ok := PopS.ok_new 3
            have E := (I.newPop hk hjb).popStep hm12 hk (set4_self _ _ _) (by omega)
            obtain ⟨l', v', hv', h160, E⟩ := E
            obtain ⟨x', hx⟩ : ∃ x', (PopS.new 3).next s = x' := ⟨_, rfl⟩
            obtain ⟨s', hs'⟩ : ∃ s', (PopS.new 3).mem s = s' := ⟨_, rfl⟩
            have ok' := ok.next H.rng
            rw [hx] at E ok'
            rw [hs'] at E
            rcases E with ⟨hd, ha, I', hp⟩ | ⟨hd, ha, I', hp⟩ | ⟨hd, ha, I', hp⟩
            · as_aux_lemma =>
                go_wp2_with (first
                  | (go_at_call 9; refine (cKind _ (z j) 8 hz1 hz2 (by decide)).mono ?_; rintro e w6 ⟨rfl, hw6⟩; rw [hw6, hq]; clear hw6 w6)
                  | (go_at_call 14; refine (cNewPop 3 wr).mono ?_; rintro e wn ⟨rfl, hwn⟩; have Hn : Hand w wn b s (100 + j) := (hwn ▸ H.alloc _); have Bn : Blk w wn wr.heap.size 79 (PopS.new 3).cells := (by rw [hwn]; exact Blk.new H.bel.size _ (by decide)); have Cn : Crew w wn PB QB HB jb mp vh hs j := (by rw [hwn]; exact C.below (bal1 _)); have frn := C.fresh (Nat.le_refl _); obtain ⟨pn, hpn⟩ : ∃ p, wr.heap.size = p := ⟨_, rfl⟩; rw [hpn] at Bn frn ⊢; clear hpn hwn; have cpn : wn.cell? ⟨PB, kk, none⟩ = some (.pointer none) := ((Cn.cp hk).trans (by rw [hjb]; rfl)); have fpn := Cn.fp (kk); have Cm := Cn.popNew hk hjb Bn frn; have Hm := Cn.setP Hn (kk) (ptr pn); have HMm : Blk w (wn.setCell ⟨PB, kk, none⟩ (ptr pn)) pn 79 (PopS.new 3).cells := (by have := Cm.mach _ hk; simp only [set4_self] at this; exact this))
                  | (go_at_call 16; refine (oPop Hm HMm ok (by omega)).mono ?_; rintro e w1 ⟨rfl, H1, M1, o1⟩; rw [hx] at M1 ⊢; rw [hs'] at H1; rw [hd]; have C1 := Cm.step hk (by simp only [set4_self, hjb]; simp) (by first | exact o1 | (simp only [set4_self]; exact o1)) (y := .pop x') (by first | exact M1 | (simp only [set4_self]; exact M1)) (by simp only [set4_self, hjb]; rfl) (by simp only [set4_self, hjb]; rfl); have cp1 : w1.cell? ⟨PB, kk, none⟩ = some (.pointer (some ⟨pn, 0, none⟩)) := ((C1.cp hk).trans (by simp only [set4_self]; rfl)))
                  | (go_at_call 17; refine (oResult M1 ok').mono ?_; rintro e w2 ⟨rfl, hb2⟩; rw [ha]; have H2 := H1.below hb2; have C2 := C1.below hb2; have cp2 : w2.cell? ⟨PB, kk, none⟩ = some (.pointer (some ⟨pn, 0, none⟩)) := ((C2.cp hk).trans (by simp only [set4_self]; rfl)); have fp2 := C2.fp (kk); have ch2 := C2.ch hk; have fh2 := C2.fh (kk); clear hb2 o1))
                rw [set4_set4] at C2
                rw [set4_set4] at I' hp
                go_roundw
                case rel => exact ⟨j + 1, by omega, by go_num, s', l', v', _, (set4 mp (kk) _), vh, hs, H2, I', by omega, C2.mono (by omega), fun h => by omega, (fun hPj => by have e : P = j + 1 := (by omega); rw [e]; exact live_start _ _ _)⟩
                case measure => simp [intOf]; omega
            · as_aux_lemma =>
                go_wp2_with (first
                  | (go_at_call 9; refine (cKind _ (z j) 8 hz1 hz2 (by decide)).mono ?_; rintro e w6 ⟨rfl, hw6⟩; rw [hw6, hq]; clear hw6 w6)
                  | (go_at_call 14; refine (cNewPop 3 wr).mono ?_; rintro e wn ⟨rfl, hwn⟩; have Hn : Hand w wn b s (100 + j) := (hwn ▸ H.alloc _); have Bn : Blk w wn wr.heap.size 79 (PopS.new 3).cells := (by rw [hwn]; exact Blk.new H.bel.size _ (by decide)); have Cn : Crew w wn PB QB HB jb mp vh hs j := (by rw [hwn]; exact C.below (bal1 _)); have frn := C.fresh (Nat.le_refl _); obtain ⟨pn, hpn⟩ : ∃ p, wr.heap.size = p := ⟨_, rfl⟩; rw [hpn] at Bn frn ⊢; clear hpn hwn; have cpn : wn.cell? ⟨PB, kk, none⟩ = some (.pointer none) := ((Cn.cp hk).trans (by rw [hjb]; rfl)); have fpn := Cn.fp (kk); have Cm := Cn.popNew hk hjb Bn frn; have Hm := Cn.setP Hn (kk) (ptr pn); have HMm : Blk w (wn.setCell ⟨PB, kk, none⟩ (ptr pn)) pn 79 (PopS.new 3).cells := (by have := Cm.mach _ hk; simp only [set4_self] at this; exact this))
                  | (go_at_call 16; refine (oPop Hm HMm ok (by omega)).mono ?_; rintro e w1 ⟨rfl, H1, M1, o1⟩; rw [hx] at M1 ⊢; rw [hs'] at H1; rw [hd]; have C1 := Cm.step hk (by simp only [set4_self, hjb]; simp) (by first | exact o1 | (simp only [set4_self]; exact o1)) (y := .pop x') (by first | exact M1 | (simp only [set4_self]; exact M1)) (by simp only [set4_self, hjb]; rfl) (by simp only [set4_self, hjb]; rfl); have cp1 : w1.cell? ⟨PB, kk, none⟩ = some (.pointer (some ⟨pn, 0, none⟩)) := ((C1.cp hk).trans (by simp only [set4_self]; rfl)))
                  | (go_at_call 17; refine (oResult M1 ok').mono ?_; rintro e w2 ⟨rfl, hb2⟩; rw [ha]; have H2 := H1.below hb2; have C2 := C1.below hb2; have cp2 : w2.cell? ⟨PB, kk, none⟩ = some (.pointer (some ⟨pn, 0, none⟩)) := ((C2.cp hk).trans (by simp only [set4_self]; rfl)); have fp2 := C2.fp (kk); have ch2 := C2.ch hk; have fh2 := C2.fh (kk); clear hb2 o1))
                have C3 := C2.popNil hk (set4_self _ _ _)
                have H3 := C2.setP H2 (kk) (.pointer none)
                rw [set4_set4] at C3
                rw [set4_set4] at C3
                rw [set4_set4] at I' hp
                go_roundw
                case rel => exact ⟨j + 1, by omega, by go_num, s', l', v', _, (set4 mp (kk) _), vh, hs, H3, I', by omega, C3.mono (by omega), fun h => by omega, (fun hPj => by have e : P = j + 1 := (by omega); rw [e]; exact live_start _ _ _)⟩
                case measure => simp [intOf]; omega
            · exact absurd (hx ▸ pop_new_at s) ha
          · have hq4 : decide ((q : Int) < 4) = false := by simp; omega
            rcases hhs : hs (kk) with _ | ⟨a, _ | ⟨c, r⟩⟩
            · rw [hhs, List.length_nil] at ch0
              have ok := PopS.ok_new 3
              have E := (I.newPop hk hjb).popStep hm12 hk (set4_self _ _ _) (by omega)
              obtain ⟨l', v', hv', h160, E⟩ := E
              obtain ⟨x', hx⟩ : ∃ x', (PopS.new 3).next s = x' := ⟨_, rfl⟩
              obtain ⟨s', hs'⟩ : ∃ s', (PopS.new 3).mem s = s' := ⟨_, rfl⟩
              have ok' := ok.next H.rng
              rw [hx] at E ok'
              rw [hs'] at E
              rcases E with ⟨hd, ha, I', hp⟩ | ⟨hd, ha, I', hp⟩ | ⟨hd, ha, I', hp⟩
              · as_aux_lemma =>
                  go_wp2_with (first
                    | (go_at_call 9; refine (cKind _ (z j) 8 hz1 hz2 (by decide)).mono ?_; rintro e w6 ⟨rfl, hw6⟩; rw [hw6, hq]; clear hw6 w6)
                    | (go_at_call 14; refine (cNewPop 3 wr).mono ?_; rintro e wn ⟨rfl, hwn⟩; have Hn : Hand w wn b s (100 + j) := (hwn ▸ H.alloc _); have Bn : Blk w wn wr.heap.size 79 (PopS.new 3).cells := (by rw [hwn]; exact Blk.new H.bel.size _ (by decide)); have Cn : Crew w wn PB QB HB jb mp vh hs j := (by rw [hwn]; exact C.below (bal1 _)); have frn := C.fresh (Nat.le_refl _); obtain ⟨pn, hpn⟩ : ∃ p, wr.heap.size = p := ⟨_, rfl⟩; rw [hpn] at Bn frn ⊢; clear hpn hwn; have cpn : wn.cell? ⟨PB, kk, none⟩ = some (.pointer none) := ((Cn.cp hk).trans (by rw [hjb]; rfl)); have fpn := Cn.fp (kk); have Cm := Cn.popNew hk hjb Bn frn; have Hm := Cn.setP Hn (kk) (ptr pn); have HMm : Blk w (wn.setCell ⟨PB, kk, none⟩ (ptr pn)) pn 79 (PopS.new 3).cells := (by have := Cm.mach _ hk; simp only [set4_self] at this; exact this))
                    | (go_at_call 16; refine (oPop Hm HMm ok (by omega)).mono ?_; rintro e w1 ⟨rfl, H1, M1, o1⟩; rw [hx] at M1 ⊢; rw [hs'] at H1; rw [hd]; have C1 := Cm.step hk (by simp only [set4_self, hjb]; simp) (by first | exact o1 | (simp only [set4_self]; exact o1)) (y := .pop x') (by first | exact M1 | (simp only [set4_self]; exact M1)) (by simp only [set4_self, hjb]; rfl) (by simp only [set4_self, hjb]; rfl); have cp1 : w1.cell? ⟨PB, kk, none⟩ = some (.pointer (some ⟨pn, 0, none⟩)) := ((C1.cp hk).trans (by simp only [set4_self]; rfl)))
                    | (go_at_call 17; refine (oResult M1 ok').mono ?_; rintro e w2 ⟨rfl, hb2⟩; rw [ha]; have H2 := H1.below hb2; have C2 := C1.below hb2; have cp2 : w2.cell? ⟨PB, kk, none⟩ = some (.pointer (some ⟨pn, 0, none⟩)) := ((C2.cp hk).trans (by simp only [set4_self]; rfl)); have fp2 := C2.fp (kk); have ch2 := C2.ch hk; have fh2 := C2.fh (kk); clear hb2 o1))
                  rw [set4_set4] at C2
                  rw [set4_set4] at I' hp
                  go_roundw
                  case rel => exact ⟨j + 1, by omega, by go_num, s', l', v', _, (set4 mp (kk) _), vh, hs, H2, I', by omega, C2.mono (by omega), fun h => by omega, (fun hPj => by have e : P = j + 1 := (by omega); rw [e]; exact live_start _ _ _)⟩
                  case measure => simp [intOf]; omega
              · as_aux_lemma =>
                  go_wp2_with (first
                    | (go_at_call 9; refine (cKind _ (z j) 8 hz1 hz2 (by decide)).mono ?_; rintro e w6 ⟨rfl, hw6⟩; rw [hw6, hq]; clear hw6 w6)
                    | (go_at_call 14; refine (cNewPop 3 wr).mono ?_; rintro e wn ⟨rfl, hwn⟩; have Hn : Hand w wn b s (100 + j) := (hwn ▸ H.alloc _); have Bn : Blk w wn wr.heap.size 79 (PopS.new 3).cells := (by rw [hwn]; exact Blk.new H.bel.size _ (by decide)); have Cn : Crew w wn PB QB HB jb mp vh hs j := (by rw [hwn]; exact C.below (bal1 _)); have frn := C.fresh (Nat.le_refl _); obtain ⟨pn, hpn⟩ : ∃ p, wr.heap.size = p := ⟨_, rfl⟩; rw [hpn] at Bn frn ⊢; clear hpn hwn; have cpn : wn.cell? ⟨PB, kk, none⟩ = some (.pointer none) := ((Cn.cp hk).trans (by rw [hjb]; rfl)); have fpn := Cn.fp (kk); have Cm := Cn.popNew hk hjb Bn frn; have Hm := Cn.setP Hn (kk) (ptr pn); have HMm : Blk w (wn.setCell ⟨PB, kk, none⟩ (ptr pn)) pn 79 (PopS.new 3).cells := (by have := Cm.mach _ hk; simp only [set4_self] at this; exact this))
                    | (go_at_call 16; refine (oPop Hm HMm ok (by omega)).mono ?_; rintro e w1 ⟨rfl, H1, M1, o1⟩; rw [hx] at M1 ⊢; rw [hs'] at H1; rw [hd]; have C1 := Cm.step hk (by simp only [set4_self, hjb]; simp) (by first | exact o1 | (simp only [set4_self]; exact o1)) (y := .pop x') (by first | exact M1 | (simp only [set4_self]; exact M1)) (by simp only [set4_self, hjb]; rfl) (by simp only [set4_self, hjb]; rfl); have cp1 : w1.cell? ⟨PB, kk, none⟩ = some (.pointer (some ⟨pn, 0, none⟩)) := ((C1.cp hk).trans (by simp only [set4_self]; rfl)))
                    | (go_at_call 17; refine (oResult M1 ok').mono ?_; rintro e w2 ⟨rfl, hb2⟩; rw [ha]; have H2 := H1.below hb2; have C2 := C1.below hb2; have cp2 : w2.cell? ⟨PB, kk, none⟩ = some (.pointer (some ⟨pn, 0, none⟩)) := ((C2.cp hk).trans (by simp only [set4_self]; rfl)); have fp2 := C2.fp (kk); have ch2 := C2.ch hk; have fh2 := C2.fh (kk); clear hb2 o1))
                  have C3 := C2.popNil hk (set4_self _ _ _)
                  have H3 := C2.setP H2 (kk) (.pointer none)
                  rw [set4_set4] at C3
                  rw [set4_set4] at C3
                  rw [set4_set4] at I' hp
                  go_roundw
                  case rel => exact ⟨j + 1, by omega, by go_num, s', l', v', _, (set4 mp (kk) _), vh, hs, H3, I', by omega, C3.mono (by omega), fun h => by omega, (fun hPj => by have e : P = j + 1 := (by omega); rw [e]; exact live_start _ _ _)⟩
                  case measure => simp [intOf]; omega
              · exact absurd (hx ▸ pop_new_at s) ha
            · rw [hhs] at ch0 hvh hgr
              have Rk := C.row _ hk
              rw [hhs] at Rk
              obtain ⟨g, rfl⟩ := hgr (by simp)
              have lcp := row_cap (hvh ▸ Rk)
              have hlnk := C.len _ hk
              rw [hhs] at hlnk
              simp only [List.length_cons, List.length_nil, Nat.zero_add] at ch0 lcp hlnk hvh
              have ca : wr.cell? ⟨g, 0, none⟩ = some (.int .i64 a) := RowI.cell (l := a :: []) (hvh ▸ Rk) (j := 0) rfl
              have ok := PushS.ok_new 3 a a 0
              have INew := I.newPush hk hjb hhs
              have E := INew.pushStep hm12 hk (set4_self _ _ _) (by omega)
              obtain ⟨i0, hi, hz0, hz1', hz2'⟩ := info_parts infoInt
              obtain ⟨l', v', hv', h160, E⟩ := E
              obtain ⟨x', hx⟩ : ∃ x', (PushS.new 3 a a 0).next s = x' := ⟨_, rfl⟩
              obtain ⟨s', hs'⟩ : ∃ s', (PushS.new 3 a a 0).mem s = s' := ⟨_, rfl⟩
              have ok' := ok.next H.rng
              rw [hx] at E ok'
              rw [hs'] at E
              rcases E with ⟨hd, I', hp⟩ | ⟨hd, I', hp⟩
              rotate_left
              · exact absurd (hx ▸ hd) (by simp [PushS.next, PushS.new])
              rw [set4_set4] at I'
              go_wp2_with (first
                | (go_at_call 9; refine (cKind _ (z j) 8 hz1 hz2 (by decide)).mono ?_; rintro e w6 ⟨rfl, hw6⟩; rw [hw6, hq]; clear hw6 w6))
              have S0 : wr.drew.cell? ⟨HB, kk, none⟩ = some (.slice (some ⟨g, 0, none⟩) 1 cp') ∧ wr.drew.cell? ⟨g, 0, none⟩ = some (.int .i64 a) := ⟨ch0, ca⟩
              obtain ⟨cqB, hQB⟩ := C.qb
              have nHQ : HB ≠ QB := by obtain ⟨c', hHB⟩ := C.hb; exact hHB.ne hQB (by decide)
              have ngQ : g ≠ QB := (C.row _ hk).bne hQB (by decide) g (by rw [hvh]; rfl)
              go_region_held3 (fun w' => w'.cell? ⟨HB, kk, none⟩ = some (.slice (some ⟨g, 0, none⟩) 1 cp') ∧ w'.cell? ⟨g, 0, none⟩ = some (.int .i64 a)) (first | assumption | exact S0 | exact S2)
                ((go_at_call 15; refine (cNewPush 3 a a 0 _).mono ?_; rintro e wn ⟨rfl, hwn⟩; have Hn : Hand w wn b s (100 + j) := (hwn ▸ H.drew.alloc _); have Bn : Blk w wn wr.drew.heap.size 82 (PushS.new 3 a a 0).cells := (by rw [hwn]; exact Blk.new H.drew.bel.size _ (by decide)); have Cn : Crew w wn PB QB HB jb mp vh hs j := (by rw [hwn]; exact (C.below (Below.refl _ _).drew).below (bal1 _)); have frn := (C.below (Below.refl _ _).drew).fresh (Nat.le_refl _); obtain ⟨pn, hpn⟩ : ∃ p, wr.drew.heap.size = p := ⟨_, rfl⟩; rw [hpn] at Bn frn ⊢; clear hpn; have S1 : wn.cell? ⟨HB, kk, none⟩ = some (.slice (some ⟨g, 0, none⟩) 1 cp') ∧ wn.cell? ⟨g, 0, none⟩ = some (.int .i64 a) := (by rw [hwn]; exact ⟨((bal1 _).cell (by obtain ⟨c', hHB⟩ := C.hb; exact hHB.lt)).trans ch0, ((bal1 _).cell ((C.row _ hk).lt g (by rw [hvh]; rfl))).trans ca⟩); clear hwn; have cqn : wn.cell? ⟨QB, kk, none⟩ = some (.pointer none) := ((Cn.cq hk).trans (by rw [hjb]; rfl)); have fqn := Cn.fq (kk); have C2 := Cn.pushNew hk hjb Bn frn; have H2 := Cn.setQ Hn (kk) (.pointer (some ⟨pn, 0, none⟩)); have M2 : Blk w (wn.setCell ⟨QB, kk, none⟩ (.pointer (some ⟨pn, 0, none⟩))) pn 82 (PushS.new 3 a a 0).cells := (by have := C2.mach _ hk; simp only [set4_self] at this; exact this); have S2 : (wn.setCell ⟨QB, kk, none⟩ (.pointer (some ⟨pn, 0, none⟩))).cell? ⟨HB, kk, none⟩ = some (.slice (some ⟨g, 0, none⟩) 1 cp') ∧ (wn.setCell ⟨QB, kk, none⟩ (.pointer (some ⟨pn, 0, none⟩))).cell? ⟨g, 0, none⟩ = some (.int .i64 a) := ⟨(World.cell?_of_block (a := ⟨HB, kk, none⟩) (Below.heap_setCell _ _ _ _ nHQ)).trans S1.1, (World.cell?_of_block (a := ⟨g, 0, none⟩) (Below.heap_setCell _ _ _ _ ngQ)).trans S1.2⟩))
              change Crew w (wn.setCell ⟨QB, kk, none⟩ (.pointer (some ⟨pn, 0, none⟩))) PB QB HB _ _ vh hs j at C2
              obtain ⟨ch2, ca2⟩ := S2
              generalize wn.setCell ⟨QB, kk, none⟩ (.pointer (some ⟨pn, 0, none⟩)) = w2 at C2 H2 M2 ch2 ca2 ⊢
              have fh2 := C2.fh (kk)
              have lHB : HB < w2.heap.size := by obtain ⟨c', hHB⟩ := C2.hb; exact hHB.lt
              have lg : g < w2.heap.size := (C2.row _ hk).lt g (by rw [hvh]; rfl)
              clear S0 S1 C Cn Hn
              rcases Nat.lt_or_ge 1 cp' with hcp | hcp
              · as_aux_lemma =>
                  have hcp' : (cp' == 1) = false := by simp; omega
                  go_wp2_with (first
                    | (at_builtin; refine wpList_append_none _ rfl _ _ 22 rfl 3 i0 Tryd.underlying22 hi (some ⟨w2.heap.size, 0, none⟩) 0 0 (Nat.le_refl _) _ _ rfl rfl ?_; have R4 : RowI w (w2.alloc (.cells #[] 3)) (.slice (some ⟨w2.heap.size, 0, none⟩) 0 0) [] := ⟨row_empty _ _ rfl, fun k hk' => (by simp [Value.ownBlock] at hk'; have := H2.bel.size; omega)⟩; have C5 := C2.hasSet hk (Oth.alloc _ _ _) R4 (fun g' hg' => .inr (by simp [Value.ownBlock] at hg'; omega)) (Nat.le_refl j) (by simp); rw [World.setCell_alloc_past _ _ _ _ lHB] at C5; have H5 := (C2.setH H2 (kk) (.slice (some ⟨w2.heap.size, 0, none⟩) 0 0)).alloc (.cells #[] 3); have M5 : Blk w ((w2.setCell ⟨HB, kk, none⟩ (.slice (some ⟨w2.heap.size, 0, none⟩) 0 0)).alloc (.cells #[] 3)) pn 82 (PushS.new 3 a a 0).cells := (by have := C5.mach _ hk; simp only [set4_self] at this; exact this); have cp5 : ((w2.setCell ⟨HB, kk, none⟩ (.slice (some ⟨w2.heap.size, 0, none⟩) 0 0)).alloc (.cells #[] 3)).cell? ⟨PB, kk, none⟩ = some (.pointer none) := (C5.cp hk).trans (by simp only [set4_self]; rfl); have cq5 : ((w2.setCell ⟨HB, kk, none⟩ (.slice (some ⟨w2.heap.size, 0, none⟩) 0 0)).alloc (.cells #[] 3)).cell? ⟨QB, kk, none⟩ = some (.pointer (some ⟨pn, 0, none⟩)) := (C5.cq hk).trans (by simp only [set4_self]; rfl))
                    | (go_at_call 18; refine (oPush H5 M5 ok (by omega)).mono ?_; rintro e w1 ⟨rfl, H1, M1, o1⟩; rw [hx] at M1 ⊢; rw [hs'] at H1; rw [hd]; have C1 := C5.step hk (by simp only [set4_self, hjb]; simp) (by first | exact o1 | (simp only [set4_self]; exact o1)) (y := .push x') (by first | exact M1 | (simp only [set4_self]; exact M1)) (by simp only [set4_self, hjb]; rfl) (by simp only [set4_self, hjb]; rfl); have cq1 : w1.cell? ⟨QB, kk, none⟩ = some (.pointer (some ⟨pn, 0, none⟩)) := ((C1.cq hk).trans (by simp only [set4_self]; rfl)); have fq1 := C1.fq (kk); clear o1))
                  rw [set4_set4] at C1
                  go_roundw
                  case rel => exact ⟨j + 1, by omega, by go_num, s', l', v', _, (set4 mp (kk) pn), _, (set4 hs (kk) []), H1, I', by omega, C1.mono (by omega), fun h => by omega, (fun hPj => by have e : P = j + 1 := (by omega); rw [e]; exact live_start _ _ _)⟩
                  case measure => simp [intOf]; omega
              · as_aux_lemma =>
                  obtain rfl : cp' = 1 := by omega
                  go_wp2_with (first
                    | (at_builtin; refine wpList_append_none _ rfl _ _ 22 rfl 3 i0 Tryd.underlying22 hi (some ⟨w2.heap.size, 0, none⟩) 0 0 (Nat.le_refl _) _ _ rfl rfl ?_; have R4 : RowI w (w2.alloc (.cells #[] 3)) (.slice (some ⟨w2.heap.size, 0, none⟩) 0 0) [] := ⟨row_empty _ _ rfl, fun k hk' => (by simp [Value.ownBlock] at hk'; have := H2.bel.size; omega)⟩; have C5 := C2.hasSet hk (Oth.alloc _ _ _) R4 (fun g' hg' => .inr (by simp [Value.ownBlock] at hg'; omega)) (Nat.le_refl j) (by simp); rw [World.setCell_alloc_past _ _ _ _ lHB] at C5; have H5 := (C2.setH H2 (kk) (.slice (some ⟨w2.heap.size, 0, none⟩) 0 0)).alloc (.cells #[] 3); have M5 : Blk w ((w2.setCell ⟨HB, kk, none⟩ (.slice (some ⟨w2.heap.size, 0, none⟩) 0 0)).alloc (.cells #[] 3)) pn 82 (PushS.new 3 a a 0).cells := (by have := C5.mach _ hk; simp only [set4_self] at this; exact this); have cp5 : ((w2.setCell ⟨HB, kk, none⟩ (.slice (some ⟨w2.heap.size, 0, none⟩) 0 0)).alloc (.cells #[] 3)).cell? ⟨PB, kk, none⟩ = some (.pointer none) := (C5.cp hk).trans (by simp only [set4_self]; rfl); have cq5 : ((w2.setCell ⟨HB, kk, none⟩ (.slice (some ⟨w2.heap.size, 0, none⟩) 0 0)).alloc (.cells #[] 3)).cell? ⟨QB, kk, none⟩ = some (.pointer (some ⟨pn, 0, none⟩)) := (C5.cq hk).trans (by simp only [set4_self]; rfl))
                    | (go_at_call 18; refine (oPush H5 M5 ok (by omega)).mono ?_; rintro e w1 ⟨rfl, H1, M1, o1⟩; rw [hx] at M1 ⊢; rw [hs'] at H1; rw [hd]; have C1 := C5.step hk (by simp only [set4_self, hjb]; simp) (by first | exact o1 | (simp only [set4_self]; exact o1)) (y := .push x') (by first | exact M1 | (simp only [set4_self]; exact M1)) (by simp only [set4_self, hjb]; rfl) (by simp only [set4_self, hjb]; rfl); have cq1 : w1.cell? ⟨QB, kk, none⟩ = some (.pointer (some ⟨pn, 0, none⟩)) := ((C1.cq hk).trans (by simp only [set4_self]; rfl)); have fq1 := C1.fq (kk); clear o1))
                  rw [set4_set4] at C1
                  go_roundw
                  case rel => exact ⟨j + 1, by omega, by go_num, s', l', v', _, (set4 mp (kk) pn), _, (set4 hs (kk) []), H1, I', by omega, C1.mono (by omega), fun h => by omega, (fun hPj => by have e : P = j + 1 := (by omega); rw [e]; exact live_start _ _ _)⟩
                  case measure => simp [intOf]; omega
            · rw [hhs] at ch0 hvh hgr
              have Rk := C.row _ hk
              rw [hhs] at Rk
              obtain ⟨g, rfl⟩ := hgr (by simp)
              have lcp := row_cap (hvh ▸ Rk)
              have hlnk := C.len _ hk
              rw [hhs] at hlnk
              simp only [List.length_cons] at ch0 lcp hlnk hvh
              have ca : wr.cell? ⟨g, 0, none⟩ = some (.int .i64 a) := RowI.cell (l := a :: c :: r) (hvh ▸ Rk) (j := 0) rfl
              have ok := PushS.ok_new 3 a a 0
              have INew := I.newPush hk hjb hhs
              have E := INew.pushStep hm12 hk (set4_self _ _ _) (by omega)
              obtain ⟨i0, hi, hz0, hz1', hz2'⟩ := info_parts infoInt
              obtain ⟨l', v', hv', h160, E⟩ := E
              obtain ⟨x', hx⟩ : ∃ x', (PushS.new 3 a a 0).next s = x' := ⟨_, rfl⟩
              obtain ⟨s', hs'⟩ : ∃ s', (PushS.new 3 a a 0).mem s = s' := ⟨_, rfl⟩
              have ok' := ok.next H.rng
              rw [hx] at E ok'
              rw [hs'] at E
              rcases E with ⟨hd, I', hp⟩ | ⟨hd, I', hp⟩
              rotate_left
              · exact absurd (hx ▸ hd) (by simp [PushS.next, PushS.new])
              rw [set4_set4] at I'
              go_wp2_with (first
                | (go_at_call 9; refine (cKind _ (z j) 8 hz1 hz2 (by decide)).mono ?_; rintro e w6 ⟨rfl, hw6⟩; rw [hw6, hq]; clear hw6 w6))
              obtain ⟨ln, hln⟩ : ∃ ln : Nat, r.length + 1 + 1 = ln := ⟨_, rfl⟩
              rw [hln] at ch0
              have hl0 : (0 : Int) < (ln : Int) := by omega
              have hl1x : 0 < ln := by omega
              have hl2x : ln ≠ 0 := by omega
              have S0 : wr.drew.cell? ⟨HB, kk, none⟩ = some (.slice (some ⟨g, 0, none⟩) ln cp') ∧ wr.drew.cell? ⟨g, 0, none⟩ = some (.int .i64 a) := ⟨ch0, ca⟩
              obtain ⟨cqB, hQB⟩ := C.qb
              have nHQ : HB ≠ QB := by obtain ⟨c', hHB⟩ := C.hb; exact hHB.ne hQB (by decide)
              have ngQ : g ≠ QB := (C.row _ hk).bne hQB (by decide) g (by rw [hvh]; rfl)
              go_region_held3 (fun w' => w'.cell? ⟨HB, kk, none⟩ = some (.slice (some ⟨g, 0, none⟩) ln cp') ∧ w'.cell? ⟨g, 0, none⟩ = some (.int .i64 a)) (first | assumption | exact S0 | exact S2)
                ((go_at_call 15; refine (cNewPush 3 a a 0 _).mono ?_; rintro e wn ⟨rfl, hwn⟩; have Hn : Hand w wn b s (100 + j) := (hwn ▸ H.drew.alloc _); have Bn : Blk w wn wr.drew.heap.size 82 (PushS.new 3 a a 0).cells := (by rw [hwn]; exact Blk.new H.drew.bel.size _ (by decide)); have Cn : Crew w wn PB QB HB jb mp vh hs j := (by rw [hwn]; exact (C.below (Below.refl _ _).drew).below (bal1 _)); have frn := (C.below (Below.refl _ _).drew).fresh (Nat.le_refl _); obtain ⟨pn, hpn⟩ : ∃ p, wr.drew.heap.size = p := ⟨_, rfl⟩; rw [hpn] at Bn frn ⊢; clear hpn; have S1 : wn.cell? ⟨HB, kk, none⟩ = some (.slice (some ⟨g, 0, none⟩) ln cp') ∧ wn.cell? ⟨g, 0, none⟩ = some (.int .i64 a) := (by rw [hwn]; exact ⟨((bal1 _).cell (by obtain ⟨c', hHB⟩ := C.hb; exact hHB.lt)).trans ch0, ((bal1 _).cell ((C.row _ hk).lt g (by rw [hvh]; rfl))).trans ca⟩); clear hwn; have cqn : wn.cell? ⟨QB, kk, none⟩ = some (.pointer none) := ((Cn.cq hk).trans (by rw [hjb]; rfl)); have fqn := Cn.fq (kk); have C2 := Cn.pushNew hk hjb Bn frn; have H2 := Cn.setQ Hn (kk) (.pointer (some ⟨pn, 0, none⟩)); have M2 : Blk w (wn.setCell ⟨QB, kk, none⟩ (.pointer (some ⟨pn, 0, none⟩))) pn 82 (PushS.new 3 a a 0).cells := (by have := C2.mach _ hk; simp only [set4_self] at this; exact this); have S2 : (wn.setCell ⟨QB, kk, none⟩ (.pointer (some ⟨pn, 0, none⟩))).cell? ⟨HB, kk, none⟩ = some (.slice (some ⟨g, 0, none⟩) ln cp') ∧ (wn.setCell ⟨QB, kk, none⟩ (.pointer (some ⟨pn, 0, none⟩))).cell? ⟨g, 0, none⟩ = some (.int .i64 a) := ⟨(World.cell?_of_block (a := ⟨HB, kk, none⟩) (Below.heap_setCell _ _ _ _ nHQ)).trans S1.1, (World.cell?_of_block (a := ⟨g, 0, none⟩) (Below.heap_setCell _ _ _ _ ngQ)).trans S1.2⟩))
              change Crew w (wn.setCell ⟨QB, kk, none⟩ (.pointer (some ⟨pn, 0, none⟩))) PB QB HB _ _ vh hs j at C2
              obtain ⟨ch2, ca2⟩ := S2
              clear hl0 hl1x hl2x
              subst hln
              generalize wn.setCell ⟨QB, kk, none⟩ (.pointer (some ⟨pn, 0, none⟩)) = w2 at C2 H2 M2 ch2 ca2 ⊢
              have fh2 := C2.fh (kk)
              have lHB : HB < w2.heap.size := by obtain ⟨c', hHB⟩ := C2.hb; exact hHB.lt
              have lg : g < w2.heap.size := (C2.row _ hk).lt g (by rw [hvh]; rfl)
              clear S0 S1 C Cn Hn
              have Rk2 := C2.row _ hk
              rw [hhs, hvh] at Rk2
              have hl1 : (nums (c :: r)).length = (r.length + 1) * 1 := by rw [nums_length]; simp
              have HC : ∀ j u, (nums (c :: r))[j]? = some u → (w2.alloc (.cells #[] 3)).cell? ((⟨g, 1, none⟩ : Addr).add j) = some u := fun j u hu => by
                rw [Addr.add_lit, (bal1 (w := w2) _).cell lg]
                have hx : (nums (a :: c :: r))[1 + j]? = some u := by rw [Nat.add_comm]; exact hu
                simp only [nums, List.getElem?_map, Option.map_eq_some_iff] at hx
                obtain ⟨x, hx1, rfl⟩ := hx
                exact RowI.cell (l := a :: c :: r) Rk2 hx1
              as_aux_lemma =>
                go_wp2_with (first
                  | (at_builtin; refine wpList_append_mine _ rfl _ _ 22 rfl 3 i0 _ 1 8 Tryd.underlying22 hi hz0 hz1' hz2' rfl (by decide) (.slice (some ⟨w2.heap.size, 0, none⟩) 0 0) 0 [] rfl (row_empty w2 _ rfl) ⟨g, 1, none⟩ (r.length + 1) (cp' - 1) (nums (c :: r)) rfl hl1 HC (nums_one _) (by unfold maxLen; omega) (by omega) (by omega) ?_; intro g1 cp1' w3 hrow hgr' hn; rw [Nat.zero_add] at hrow ⊢; rw [List.nil_append] at hrow; have lg1 : w2.heap.size ≤ g1 := (by rcases hn with hn | hn; (simp [Value.ownBlock] at hn; omega); (simp at hn; omega)); have hb3 : Below w2.heap.size w2 w3 := ((bal1 _).grown hgr' (by simp) (fun k hk => by simp [Value.ownBlock] at hk; omega)); have R3 : RowI w w3 (.slice (some ⟨g1, 0, none⟩) (r.length + 1) cp1') (c :: r) := RowI.of_own hrow rfl rfl (Nat.le_trans H2.bel.size lg1); have C5 := C2.hasSet hk (Oth.below hb3) R3 (fun g' hg' => .inr (by simp [Value.ownBlock] at hg'; omega)) (Nat.le_refl j) (by simp only [List.length_cons]; omega); have H3 := H2.below hb3; have C3x := C2.below hb3; have ch3 : w3.cell? ⟨HB, kk, none⟩ = some (.slice (some ⟨g, 0, none⟩) (r.length + 1 + 1) cp') := ((C3x.ch hk).trans (by rw [hvh])); have fh3 := C3x.fh (kk); have H5 := C3x.setH H3 (kk) (.slice (some ⟨g1, 0, none⟩) (r.length + 1) cp1'); have M5 : Blk w (w3.setCell ⟨HB, kk, none⟩ (.slice (some ⟨g1, 0, none⟩) (r.length + 1) cp1')) pn 82 (PushS.new 3 a a 0).cells := (by have := C5.mach _ hk; simp only [set4_self] at this; exact this); have cp5 : (w3.setCell ⟨HB, kk, none⟩ (.slice (some ⟨g1, 0, none⟩) (r.length + 1) cp1')).cell? ⟨PB, kk, none⟩ = some (.pointer none) := (C5.cp hk).trans (by simp only [set4_self]; rfl); have cq5 : (w3.setCell ⟨HB, kk, none⟩ (.slice (some ⟨g1, 0, none⟩) (r.length + 1) cp1')).cell? ⟨QB, kk, none⟩ = some (.pointer (some ⟨pn, 0, none⟩)) := (C5.cq hk).trans (by simp only [set4_self]; rfl); clear hrow hgr' hn)
                  | (go_at_call 18; refine (oPush H5 M5 ok (by omega)).mono ?_; rintro e w1 ⟨rfl, H1, M1, o1⟩; rw [hx] at M1 ⊢; rw [hs'] at H1; rw [hd]; have C1 := C5.step hk (by simp only [set4_self, hjb]; simp) (by first | exact o1 | (simp only [set4_self]; exact o1)) (y := .push x') (by first | exact M1 | (simp only [set4_self]; exact M1)) (by simp only [set4_self, hjb]; rfl) (by simp only [set4_self, hjb]; rfl); have cq1 : w1.cell? ⟨QB, kk, none⟩ = some (.pointer (some ⟨pn, 0, none⟩)) := ((C1.cq hk).trans (by simp only [set4_self]; rfl)); have fq1 := C1.fq (kk); clear o1))
                rw [set4_set4] at C1
                go_roundw
                case rel => exact ⟨j + 1, by omega, by go_num, s', l', v', _, (set4 mp (kk) pn), _, (set4 hs (kk) (c :: r)), H1, I', by omega, C1.mono (by omega), fun h => by omega, (fun hPj => by have e : P = j + 1 := (by omega); rw [e]; exact live_start _ _ _)⟩
                case measure => simp [intOf]; omega
        · have cp0 : wr.cell? ⟨PB, kk, none⟩ = some (.pointer (some ⟨mp (kk), 0, none⟩)) := (C.cp hk).trans (by rw [hjb]; rfl)
          have cq0 : wr.cell? ⟨QB, kk, none⟩ = some (.pointer none) := (C.cq hk).trans (by rw [hjb]; rfl)
          have J := I.job _ hk
          rw [hjb] at J
          have ok : x.Ok := J.2.1
          have HM : Blk w wr (mp (kk)) 79 x.cells := by have := C.mach _ hk; rw [hjb] at this; exact this
          clear J
          have E := I.popStep hm12 hk hjb (by omega)
          obtain ⟨l', v', hv', h160, E⟩ := E
          obtain ⟨x', hx⟩ : ∃ x', x.next s = x' := ⟨_, rfl⟩
          obtain ⟨s', hs'⟩ : ∃ s', x.mem s = s' := ⟨_, rfl⟩
          have ok' := ok.next H.rng
          rw [hx] at E ok'
          rw [hs'] at E
          rcases E with ⟨hd, ha, I', hp⟩ | ⟨hd, ha, I', hp⟩ | ⟨hd, ha, I', hp⟩
          · as_aux_lemma =>
              go_wp2_with (first
                | (go_at_call 9; refine (cKind _ (z j) 8 hz1 hz2 (by decide)).mono ?_; rintro e w6 ⟨rfl, hw6⟩; rw [hw6, hq]; clear hw6 w6)
                | (go_at_call 16; refine (oPop H HM ok (by omega)).mono ?_; rintro e w1 ⟨rfl, H1, M1, o1⟩; rw [hx] at M1 ⊢; rw [hs'] at H1; rw [hd]; have C1 := C.step hk (by simp only [set4_self, hjb]; simp) (by first | exact o1 | (simp only [set4_self]; exact o1)) (y := .pop x') (by first | exact M1 | (simp only [set4_self]; exact M1)) (by simp only [set4_self, hjb]; rfl) (by simp only [set4_self, hjb]; rfl); have cp1 : w1.cell? ⟨PB, kk, none⟩ = some (.pointer (some ⟨mp (kk), 0, none⟩)) := ((C1.cp hk).trans (by simp only [set4_self]; rfl)))
                | (go_at_call 17; refine (oResult M1 ok').mono ?_; rintro e w2 ⟨rfl, hb2⟩; rw [ha]; have H2 := H1.below hb2; have C2 := C1.below hb2; have cp2 : w2.cell? ⟨PB, kk, none⟩ = some (.pointer (some ⟨mp (kk), 0, none⟩)) := ((C2.cp hk).trans (by simp only [set4_self]; rfl)); have fp2 := C2.fp (kk); have ch2 := C2.ch hk; have fh2 := C2.fh (kk); clear hb2 o1))
              go_roundw
              case rel => exact ⟨j + 1, by omega, by go_num, s', l', v', _, mp, vh, hs, H2, I', by omega, C2.mono (by omega), fun h => by omega, (fun hPj => by have e : P = j + 1 := (by omega); rw [e]; exact live_start _ _ _)⟩
              case measure => simp [intOf]; omega
          · as_aux_lemma =>
              go_wp2_with (first
                | (go_at_call 9; refine (cKind _ (z j) 8 hz1 hz2 (by decide)).mono ?_; rintro e w6 ⟨rfl, hw6⟩; rw [hw6, hq]; clear hw6 w6)
                | (go_at_call 16; refine (oPop H HM ok (by omega)).mono ?_; rintro e w1 ⟨rfl, H1, M1, o1⟩; rw [hx] at M1 ⊢; rw [hs'] at H1; rw [hd]; have C1 := C.step hk (by simp only [set4_self, hjb]; simp) (by first | exact o1 | (simp only [set4_self]; exact o1)) (y := .pop x') (by first | exact M1 | (simp only [set4_self]; exact M1)) (by simp only [set4_self, hjb]; rfl) (by simp only [set4_self, hjb]; rfl); have cp1 : w1.cell? ⟨PB, kk, none⟩ = some (.pointer (some ⟨mp (kk), 0, none⟩)) := ((C1.cp hk).trans (by simp only [set4_self]; rfl)))
                | (go_at_call 17; refine (oResult M1 ok').mono ?_; rintro e w2 ⟨rfl, hb2⟩; rw [ha]; have H2 := H1.below hb2; have C2 := C1.below hb2; have cp2 : w2.cell? ⟨PB, kk, none⟩ = some (.pointer (some ⟨mp (kk), 0, none⟩)) := ((C2.cp hk).trans (by simp only [set4_self]; rfl)); have fp2 := C2.fp (kk); have ch2 := C2.ch hk; have fh2 := C2.fh (kk); clear hb2 o1))
              have C3 := C2.popNil hk (set4_self _ _ _)
              have H3 := C2.setP H2 (kk) (.pointer none)
              rw [set4_set4] at C3
              go_roundw
              case rel => exact ⟨j + 1, by omega, by go_num, s', l', v', _, mp, vh, hs, H3, I', by omega, C3.mono (by omega), fun h => by omega, (fun hPj => by have e : P = j + 1 := (by omega); rw [e]; exact live_start _ _ _)⟩
              case measure => simp [intOf]; omega
          · as_aux_lemma =>
              obtain ⟨i0, hi, hz0, hz1', hz2'⟩ := info_parts infoInt
              obtain ⟨va, hva⟩ : ∃ v, x'.at_ = v := ⟨_, rfl⟩
              rw [hva] at ha I'
              have ha' : (va != 0) = true := by simpa using ha
              obtain ⟨ao', cp', hvh, _⟩ := (C.row _ hk).slice
              have hlnk := C.len _ hk
              go_wp2_with (first
                | (go_at_call 9; refine (cKind _ (z j) 8 hz1 hz2 (by decide)).mono ?_; rintro e w6 ⟨rfl, hw6⟩; rw [hw6, hq]; clear hw6 w6)
                | (go_at_call 16; refine (oPop H HM ok (by omega)).mono ?_; rintro e w1 ⟨rfl, H1, M1, o1⟩; rw [hx] at M1 ⊢; rw [hs'] at H1; rw [hd]; have C1 := C.step hk (by simp only [set4_self, hjb]; simp) (by first | exact o1 | (simp only [set4_self]; exact o1)) (y := .pop x') (by first | exact M1 | (simp only [set4_self]; exact M1)) (by simp only [set4_self, hjb]; rfl) (by simp only [set4_self, hjb]; rfl); have cp1 : w1.cell? ⟨PB, kk, none⟩ = some (.pointer (some ⟨mp (kk), 0, none⟩)) := ((C1.cp hk).trans (by simp only [set4_self]; rfl)))
                | (go_at_call 17; refine (oResult M1 ok').mono ?_; rintro e w2 ⟨rfl, hb2⟩; rw [hva]; have H2 := H1.below hb2; have C2 := C1.below hb2; have cp2 : w2.cell? ⟨PB, kk, none⟩ = some (.pointer (some ⟨mp (kk), 0, none⟩)) := ((C2.cp hk).trans (by simp only [set4_self]; rfl)); have fp2 := C2.fp (kk); have ch2 : w2.cell? ⟨HB, kk, none⟩ = some (.slice ao' (hs (kk)).length cp') := (C2.ch hk).trans (by rw [hvh]); have fh2 := C2.fh (kk); clear hb2 o1)
                | (at_builtin; refine wpList_append_mine _ rfl _ _ 22 rfl 3 i0 _ 1 8 Tryd.underlying22 hi hz0 hz1' hz2' rfl (by decide) (.slice ao' (hs (kk)).length cp') (hs (kk)).length (nums (hs (kk))) rfl (by rw [← hvh]; exact (C2.row _ hk).row.alloc _) ⟨w2.heap.size, 0, none⟩ 1 1 [.int .i64 va] rfl rfl (new1 _ _ rfl _ _) (by intro u hu; simp at hu; rw [hu]; rfl) (by unfold maxLen; omega) (by omega) (by decide) ?_; intro g1 cp1' w4 hrow hgr hn; have K4 : Kept (vh (kk)).ownBlock.toList w2 w4 := ((Kept.alloc _ _ _).trans (Kept.grown (vh (kk)).ownBlock.toList hgr (fun k hk => by rw [← hvh] at hk; simp [hk])) (fun k hk => .inl hk)); have rk := C2.row _ hk; have hF : ∀ k ∈ (vh (kk)).ownBlock.toList, w.heap.size ≤ k ∧ ∃ cs T fz, T ∉ MTs ∧ w2.heap[k]? = some (.cells cs T fz) := (fun k hk => by have hk' : (vh (kk)).ownBlock = some k := (by simpa using hk); obtain ⟨cr, hc⟩ := rk.blk hk'; exact ⟨rk.old k hk', cr, _, _, by decide, hc⟩); have H4 := H2.kept K4 hF; have o4 : Oth (vh (kk)).ownBlock.toList w2 w4 := Oth.kept K4; have lg1 : (vh (kk)).ownBlock = some g1 ∨ w2.heap.size ≤ g1 := (by rw [← hvh] at hn; exact hn.imp id (fun h' => Nat.le_trans (by simp) h')); have R4 : RowI w w4 (.slice (some ⟨g1, 0, none⟩) ((hs (kk)).length + 1) cp1') (hs (kk) ++ [va]) := RowI.of_own hrow (by simp) (by rw [nums_append]; rfl) (lg1.elim (fun h' => rk.old g1 h') (fun h' => Nat.le_trans H2.bel.size h')); have C5 := C2.hasSet hk o4 R4 (fun g hg => by simp [Value.ownBlock] at hg; subst hg; exact lg1) (Nat.le_succ j) (by have := C2.len _ hk; simp; omega); obtain ⟨chx, hHB⟩ := C2.hb; have hHB4 := hHB.oth o4 (fun hm => rk.bne hHB (by decide) HB (by simpa using hm) rfl); have m4 : w4.cell? ⟨HB, kk, none⟩ = some (.slice ao' (hs (kk)).length cp') := ((hHB4.cell _).trans ((hHB.cell _).symm.trans ch2)); have mf4 := hHB4.free (kk); have H5 := H4.set hHB4 (kk) (.slice (some ⟨g1, 0, none⟩) ((hs (kk)).length + 1) cp1'); have cp5 : (w4.setCell ⟨HB, kk, none⟩ (.slice (some ⟨g1, 0, none⟩) ((hs (kk)).length + 1) cp1')).cell? ⟨PB, kk, none⟩ = some (.pointer (some ⟨mp (kk), 0, none⟩)) := ((C5.cp hk).trans (by simp only [set4_self]; rfl)); have fp5 := C5.fp (kk); clear hrow hgr hn))
              have C6 := C5.popNil hk (set4_self _ _ _)
              have H6 := C5.setP H5 (kk) (.pointer none)
              rw [set4_set4] at C6
              go_roundw
              case rel => exact ⟨j + 1, by omega, by go_num, s', l', v', _, mp, _, (set4 hs (kk) (hs (kk) ++ [va])), H6, I', by omega, C6.mono (by omega), fun h => by omega, (fun hPj => by have e : P = j + 1 := (by omega); rw [e]; exact live_start _ _ _)⟩
              case measure => simp [intOf]; omega
        · have cp0 : wr.cell? ⟨PB, kk, none⟩ = some (.pointer none) := (C.cp hk).trans (by rw [hjb]; rfl)
          have cq0 : wr.cell? ⟨QB, kk, none⟩ = some (.pointer (some ⟨mp (kk), 0, none⟩)) := (C.cq hk).trans (by rw [hjb]; rfl)
          have J := I.job _ hk
          rw [hjb] at J
          have ok : x.Ok := J.2.1
          have HM : Blk w wr (mp (kk)) 82 x.cells := by have := C.mach _ hk; rw [hjb] at this; exact this
          clear J
          have E := I.pushStep hm12 hk hjb (by omega)
          obtain ⟨l', v', hv', h160, E⟩ := E
          obtain ⟨x', hx⟩ : ∃ x', x.next s = x' := ⟨_, rfl⟩
          obtain ⟨s', hs'⟩ : ∃ s', x.mem s = s' := ⟨_, rfl⟩
          have ok' := ok.next H.rng
          rw [hx] at E ok'
          rw [hs'] at E
          rcases E with ⟨hd, I', hp⟩ | ⟨hd, I', hp⟩
          · as_aux_lemma =>
              go_wp2_with (first
                | (go_at_call 9; refine (cKind _ (z j) 8 hz1 hz2 (by decide)).mono ?_; rintro e w6 ⟨rfl, hw6⟩; rw [hw6, hq]; clear hw6 w6)
                | (go_at_call 18; refine (oPush H HM ok (by omega)).mono ?_; rintro e w1 ⟨rfl, H1, M1, o1⟩; rw [hx] at M1 ⊢; rw [hs'] at H1; rw [hd]; have C1 := C.step hk (by simp only [set4_self, hjb]; simp) (by first | exact o1 | (simp only [set4_self]; exact o1)) (y := .push x') (by first | exact M1 | (simp only [set4_self]; exact M1)) (by simp only [set4_self, hjb]; rfl) (by simp only [set4_self, hjb]; rfl); have cq1 : w1.cell? ⟨QB, kk, none⟩ = some (.pointer (some ⟨mp (kk), 0, none⟩)) := ((C1.cq hk).trans (by simp only [set4_self]; rfl)); have fq1 := C1.fq (kk); clear o1))
              go_roundw
              case rel => exact ⟨j + 1, by omega, by go_num, s', l', v', _, mp, vh, hs, H1, I', by omega, C1.mono (by omega), fun h => by omega, (fun hPj => by have e : P = j + 1 := (by omega); rw [e]; exact live_start _ _ _)⟩
              case measure => simp [intOf]; omega
          · as_aux_lemma =>
              go_wp2_with (first
                | (go_at_call 9; refine (cKind _ (z j) 8 hz1 hz2 (by decide)).mono ?_; rintro e w6 ⟨rfl, hw6⟩; rw [hw6, hq]; clear hw6 w6)
                | (go_at_call 18; refine (oPush H HM ok (by omega)).mono ?_; rintro e w1 ⟨rfl, H1, M1, o1⟩; rw [hx] at M1 ⊢; rw [hs'] at H1; rw [hd]; have C1 := C.step hk (by simp only [set4_self, hjb]; simp) (by first | exact o1 | (simp only [set4_self]; exact o1)) (y := .push x') (by first | exact M1 | (simp only [set4_self]; exact M1)) (by simp only [set4_self, hjb]; rfl) (by simp only [set4_self, hjb]; rfl); have cq1 : w1.cell? ⟨QB, kk, none⟩ = some (.pointer (some ⟨mp (kk), 0, none⟩)) := ((C1.cq hk).trans (by simp only [set4_self]; rfl)); have fq1 := C1.fq (kk); clear o1))
              have C3 := C1.pushNil hk (set4_self _ _ _)
              have H3 := C1.setQ H1 (kk) (.pointer none)
              rw [set4_set4] at C3
              go_roundw
              case rel => exact ⟨j + 1, by omega, by go_num, s', l', v', _, mp, vh, hs, H3, I', by omega, C3.mono (by omega), fun h => by omega, (fun hPj => by have e : P = j + 1 := (by omega); rw [e]; exact live_start _ _ _)⟩
              case measure => simp [intOf]; omega
      · by_cases hj1 : j < len
        · have hj2 : ¬ j < 200 := by omega
          have hk : j % 4 < 4 := by omega
          rcases hjb : jb (j % 4) with _ | x | x
          · as_aux_lemma =>
              have cp0 : wr.cell? ⟨PB, j % 4, none⟩ = some (.pointer none) := (C.cp hk).trans (by rw [hjb]; rfl)
              have cq0 : wr.cell? ⟨QB, j % 4, none⟩ = some (.pointer none) := (C.cq hk).trans (by rw [hjb]; rfl)
              go_wp2
              go_roundw
              case rel => exact ⟨j + 1, by omega, by go_num, s, l, v, jb, mp, vh, hs, H.mono (by omega), I, by omega, C.mono (by omega), fun h => by omega, fun _ => live_idle (by omega) (Lv (by omega)) hjb⟩
              case measure => simp [intOf]; omega
          · have cp0 : wr.cell? ⟨PB, j % 4, none⟩ = some (.pointer (some ⟨mp (j % 4), 0, none⟩)) := (C.cp hk).trans (by rw [hjb]; rfl)
            have cq0 : wr.cell? ⟨QB, j % 4, none⟩ = some (.pointer none) := (C.cq hk).trans (by rw [hjb]; rfl)
            have J := I.job _ hk
            rw [hjb] at J
            have ok : x.Ok := J.2.1
            have HM : Blk w wr (mp (j % 4)) 79 x.cells := by have := C.mach _ hk; rw [hjb] at this; exact this
            clear J
            have E := I.popStep hm12 hk hjb (by omega)
            obtain ⟨l', v', hv', h160, E⟩ := E
            obtain ⟨x', hx⟩ : ∃ x', x.next s = x' := ⟨_, rfl⟩
            obtain ⟨s', hs'⟩ : ∃ s', x.mem s = s' := ⟨_, rfl⟩
            have ok' := ok.next H.rng
            rw [hx] at E ok'
            rw [hs'] at E
            rcases E with ⟨hd, ha, I', hp⟩ | ⟨hd, ha, I', hp⟩ | ⟨hd, ha, I', hp⟩
            · as_aux_lemma =>
                go_wp2_with (first
                  | (go_at_call 16; refine (oPop H HM ok (by omega)).mono ?_; rintro e w1 ⟨rfl, H1, M1, o1⟩; rw [hx] at M1 ⊢; rw [hs'] at H1; rw [hd]; have C1 := C.step hk (by simp only [set4_self, hjb]; simp) (by first | exact o1 | (simp only [set4_self]; exact o1)) (y := .pop x') (by first | exact M1 | (simp only [set4_self]; exact M1)) (by simp only [set4_self, hjb]; rfl) (by simp only [set4_self, hjb]; rfl); have cp1 : w1.cell? ⟨PB, j % 4, none⟩ = some (.pointer (some ⟨mp (j % 4), 0, none⟩)) := ((C1.cp hk).trans (by simp only [set4_self]; rfl)))
                  | (go_at_call 17; refine (oResult M1 ok').mono ?_; rintro e w2 ⟨rfl, hb2⟩; rw [ha]; have H2 := H1.below hb2; have C2 := C1.below hb2; have cp2 : w2.cell? ⟨PB, j % 4, none⟩ = some (.pointer (some ⟨mp (j % 4), 0, none⟩)) := ((C2.cp hk).trans (by simp only [set4_self]; rfl)); have fp2 := C2.fp (j % 4); have ch2 := C2.ch hk; have fh2 := C2.fh (j % 4); clear hb2 o1))
                go_roundw
                case rel => exact ⟨j + 1, by omega, by go_num, s', l', v', _, mp, vh, hs, H2, I', by omega, C2.mono (by omega), fun h => by omega, (fun _ => live_step (by omega) (Lv (by omega)) hp)⟩
                case measure => simp [intOf]; omega
            · as_aux_lemma =>
                go_wp2_with (first
                  | (go_at_call 16; refine (oPop H HM ok (by omega)).mono ?_; rintro e w1 ⟨rfl, H1, M1, o1⟩; rw [hx] at M1 ⊢; rw [hs'] at H1; rw [hd]; have C1 := C.step hk (by simp only [set4_self, hjb]; simp) (by first | exact o1 | (simp only [set4_self]; exact o1)) (y := .pop x') (by first | exact M1 | (simp only [set4_self]; exact M1)) (by simp only [set4_self, hjb]; rfl) (by simp only [set4_self, hjb]; rfl); have cp1 : w1.cell? ⟨PB, j % 4, none⟩ = some (.pointer (some ⟨mp (j % 4), 0, none⟩)) := ((C1.cp hk).trans (by simp only [set4_self]; rfl)))
                  | (go_at_call 17; refine (oResult M1 ok').mono ?_; rintro e w2 ⟨rfl, hb2⟩; rw [ha]; have H2 := H1.below hb2; have C2 := C1.below hb2; have cp2 : w2.cell? ⟨PB, j % 4, none⟩ = some (.pointer (some ⟨mp (j % 4), 0, none⟩)) := ((C2.cp hk).trans (by simp only [set4_self]; rfl)); have fp2 := C2.fp (j % 4); have ch2 := C2.ch hk; have fh2 := C2.fh (j % 4); clear hb2 o1))
                have C3 := C2.popNil hk (set4_self _ _ _)
                have H3 := C2.setP H2 (j % 4) (.pointer none)
                rw [set4_set4] at C3
                go_roundw
                case rel => exact ⟨j + 1, by omega, by go_num, s', l', v', _, mp, vh, hs, H3, I', by omega, C3.mono (by omega), fun h => by omega, (fun _ => live_step (by omega) (Lv (by omega)) hp)⟩
                case measure => simp [intOf]; omega
            · as_aux_lemma =>
                obtain ⟨i0, hi, hz0, hz1', hz2'⟩ := info_parts infoInt
                obtain ⟨va, hva⟩ : ∃ v, x'.at_ = v := ⟨_, rfl⟩
                rw [hva] at ha I'
                have ha' : (va != 0) = true := by simpa using ha
                obtain ⟨ao', cp', hvh, _⟩ := (C.row _ hk).slice
                have hlnk := C.len _ hk
                go_wp2_with (first
                  | (go_at_call 16; refine (oPop H HM ok (by omega)).mono ?_; rintro e w1 ⟨rfl, H1, M1, o1⟩; rw [hx] at M1 ⊢; rw [hs'] at H1; rw [hd]; have C1 := C.step hk (by simp only [set4_self, hjb]; simp) (by first | exact o1 | (simp only [set4_self]; exact o1)) (y := .pop x') (by first | exact M1 | (simp only [set4_self]; exact M1)) (by simp only [set4_self, hjb]; rfl) (by simp only [set4_self, hjb]; rfl); have cp1 : w1.cell? ⟨PB, j % 4, none⟩ = some (.pointer (some ⟨mp (j % 4), 0, none⟩)) := ((C1.cp hk).trans (by simp only [set4_self]; rfl)))
                  | (go_at_call 17; refine (oResult M1 ok').mono ?_; rintro e w2 ⟨rfl, hb2⟩; rw [hva]; have H2 := H1.below hb2; have C2 := C1.below hb2; have cp2 : w2.cell? ⟨PB, j % 4, none⟩ = some (.pointer (some ⟨mp (j % 4), 0, none⟩)) := ((C2.cp hk).trans (by simp only [set4_self]; rfl)); have fp2 := C2.fp (j % 4); have ch2 : w2.cell? ⟨HB, j % 4, none⟩ = some (.slice ao' (hs (j % 4)).length cp') := (C2.ch hk).trans (by rw [hvh]); have fh2 := C2.fh (j % 4); clear hb2 o1)
                  | (at_builtin; refine wpList_append_mine _ rfl _ _ 22 rfl 3 i0 _ 1 8 Tryd.underlying22 hi hz0 hz1' hz2' rfl (by decide) (.slice ao' (hs (j % 4)).length cp') (hs (j % 4)).length (nums (hs (j % 4))) rfl (by rw [← hvh]; exact (C2.row _ hk).row.alloc _) ⟨w2.heap.size, 0, none⟩ 1 1 [.int .i64 va] rfl rfl (new1 _ _ rfl _ _) (by intro u hu; simp at hu; rw [hu]; rfl) (by unfold maxLen; omega) (by omega) (by decide) ?_; intro g1 cp1' w4 hrow hgr hn; have K4 : Kept (vh (j % 4)).ownBlock.toList w2 w4 := ((Kept.alloc _ _ _).trans (Kept.grown (vh (j % 4)).ownBlock.toList hgr (fun k hk => by rw [← hvh] at hk; simp [hk])) (fun k hk => .inl hk)); have rk := C2.row _ hk; have hF : ∀ k ∈ (vh (j % 4)).ownBlock.toList, w.heap.size ≤ k ∧ ∃ cs T fz, T ∉ MTs ∧ w2.heap[k]? = some (.cells cs T fz) := (fun k hk => by have hk' : (vh (j % 4)).ownBlock = some k := (by simpa using hk); obtain ⟨cr, hc⟩ := rk.blk hk'; exact ⟨rk.old k hk', cr, _, _, by decide, hc⟩); have H4 := H2.kept K4 hF; have o4 : Oth (vh (j % 4)).ownBlock.toList w2 w4 := Oth.kept K4; have lg1 : (vh (j % 4)).ownBlock = some g1 ∨ w2.heap.size ≤ g1 := (by rw [← hvh] at hn; exact hn.imp id (fun h' => Nat.le_trans (by simp) h')); have R4 : RowI w w4 (.slice (some ⟨g1, 0, none⟩) ((hs (j % 4)).length + 1) cp1') (hs (j % 4) ++ [va]) := RowI.of_own hrow (by simp) (by rw [nums_append]; rfl) (lg1.elim (fun h' => rk.old g1 h') (fun h' => Nat.le_trans H2.bel.size h')); have C5 := C2.hasSet hk o4 R4 (fun g hg => by simp [Value.ownBlock] at hg; subst hg; exact lg1) (Nat.le_succ j) (by have := C2.len _ hk; simp; omega); obtain ⟨chx, hHB⟩ := C2.hb; have hHB4 := hHB.oth o4 (fun hm => rk.bne hHB (by decide) HB (by simpa using hm) rfl); have m4 : w4.cell? ⟨HB, j % 4, none⟩ = some (.slice ao' (hs (j % 4)).length cp') := ((hHB4.cell _).trans ((hHB.cell _).symm.trans ch2)); have mf4 := hHB4.free (j % 4); have H5 := H4.set hHB4 (j % 4) (.slice (some ⟨g1, 0, none⟩) ((hs (j % 4)).length + 1) cp1'); have cp5 : (w4.setCell ⟨HB, j % 4, none⟩ (.slice (some ⟨g1, 0, none⟩) ((hs (j % 4)).length + 1) cp1')).cell? ⟨PB, j % 4, none⟩ = some (.pointer (some ⟨mp (j % 4), 0, none⟩)) := ((C5.cp hk).trans (by simp only [set4_self]; rfl)); have fp5 := C5.fp (j % 4); clear hrow hgr hn))
                have C6 := C5.popNil hk (set4_self _ _ _)
                have H6 := C5.setP H5 (j % 4) (.pointer none)
                rw [set4_set4] at C6
                go_roundw
                case rel => exact ⟨j + 1, by omega, by go_num, s', l', v', _, mp, _, (set4 hs (j % 4) (hs (j % 4) ++ [va])), H6, I', by omega, C6.mono (by omega), fun h => by omega, (fun _ => live_step (by omega) (Lv (by omega)) hp)⟩
                case measure => simp [intOf]; omega
          · have cp0 : wr.cell? ⟨PB, j % 4, none⟩ = some (.pointer none) := (C.cp hk).trans (by rw [hjb]; rfl)
            have cq0 : wr.cell? ⟨QB, j % 4, none⟩ = some (.pointer (some ⟨mp (j % 4), 0, none⟩)) := (C.cq hk).trans (by rw [hjb]; rfl)
            have J := I.job _ hk
            rw [hjb] at J
            have ok : x.Ok := J.2.1
            have HM : Blk w wr (mp (j % 4)) 82 x.cells := by have := C.mach _ hk; rw [hjb] at this; exact this
            clear J
            have E := I.pushStep hm12 hk hjb (by omega)
            obtain ⟨l', v', hv', h160, E⟩ := E
            obtain ⟨x', hx⟩ : ∃ x', x.next s = x' := ⟨_, rfl⟩
            obtain ⟨s', hs'⟩ : ∃ s', x.mem s = s' := ⟨_, rfl⟩
            have ok' := ok.next H.rng
            rw [hx] at E ok'
            rw [hs'] at E
            rcases E with ⟨hd, I', hp⟩ | ⟨hd, I', hp⟩
            · as_aux_lemma =>
                go_wp2_with (first
                  | (go_at_call 18; refine (oPush H HM ok (by omega)).mono ?_; rintro e w1 ⟨rfl, H1, M1, o1⟩; rw [hx] at M1 ⊢; rw [hs'] at H1; rw [hd]; have C1 := C.step hk (by simp only [set4_self, hjb]; simp) (by first | exact o1 | (simp only [set4_self]; exact o1)) (y := .push x') (by first | exact M1 | (simp only [set4_self]; exact M1)) (by simp only [set4_self, hjb]; rfl) (by simp only [set4_self, hjb]; rfl); have cq1 : w1.cell? ⟨QB, j % 4, none⟩ = some (.pointer (some ⟨mp (j % 4), 0, none⟩)) := ((C1.cq hk).trans (by simp only [set4_self]; rfl)); have fq1 := C1.fq (j % 4); clear o1))
                go_roundw
                case rel => exact ⟨j + 1, by omega, by go_num, s', l', v', _, mp, vh, hs, H1, I', by omega, C1.mono (by omega), fun h => by omega, (fun _ => live_step (by omega) (Lv (by omega)) hp)⟩
                case measure => simp [intOf]; omega
            · as_aux_lemma =>
                go_wp2_with (first
                  | (go_at_call 18; refine (oPush H HM ok (by omega)).mono ?_; rintro e w1 ⟨rfl, H1, M1, o1⟩; rw [hx] at M1 ⊢; rw [hs'] at H1; rw [hd]; have C1 := C.step hk (by simp only [set4_self, hjb]; simp) (by first | exact o1 | (simp only [set4_self]; exact o1)) (y := .push x') (by first | exact M1 | (simp only [set4_self]; exact M1)) (by simp only [set4_self, hjb]; rfl) (by simp only [set4_self, hjb]; rfl); have cq1 : w1.cell? ⟨QB, j % 4, none⟩ = some (.pointer (some ⟨mp (j % 4), 0, none⟩)) := ((C1.cq hk).trans (by simp only [set4_self]; rfl)); have fq1 := C1.fq (j % 4); clear o1))
                have C3 := C1.pushNil hk (set4_self _ _ _)
                have H3 := C1.setQ H1 (j % 4) (.pointer none)
                rw [set4_set4] at C3
                go_roundw
                case rel => exact ⟨j + 1, by omega, by go_num, s', l', v', _, mp, vh, hs, H3, I', by omega, C3.mono (by omega), fun h => by omega, (fun _ => live_step (by omega) (Lv (by omega)) hp)⟩
                case measure => simp [intOf]; omega
        · have hk : j % 4 < 4 := by omega
          rcases hjb : jb (j % 4) with _ | x | x
          · as_aux_lemma =>
              have cp0 : wr.cell? ⟨PB, j % 4, none⟩ = some (.pointer none) := (C.cp hk).trans (by rw [hjb]; rfl)
              have cq0 : wr.cell? ⟨QB, j % 4, none⟩ = some (.pointer none) := (C.cq hk).trans (by rw [hjb]; rfl)
              go_wp2
              go_roundw
              case rel => exact ⟨j + 1, by omega, by go_num, s, l, v, jb, mp, vh, hs, H.mono (by omega), I, by omega, C.mono (by omega), fun h => by omega, fun _ => live_idle (by omega) (Lv (by omega)) hjb⟩
              case measure => simp [intOf]; omega
          · have cp0 : wr.cell? ⟨PB, j % 4, none⟩ = some (.pointer (some ⟨mp (j % 4), 0, none⟩)) := (C.cp hk).trans (by rw [hjb]; rfl)
            have cq0 : wr.cell? ⟨QB, j % 4, none⟩ = some (.pointer none) := (C.cq hk).trans (by rw [hjb]; rfl)
            have J := I.job _ hk
            rw [hjb] at J
            have ok : x.Ok := J.2.1
            have HM : Blk w wr (mp (j % 4)) 79 x.cells := by have := C.mach _ hk; rw [hjb] at this; exact this
            clear J
            have E := I.popStep hm12 hk hjb (by omega)
            obtain ⟨l', v', hv', h160, E⟩ := E
            obtain ⟨x', hx⟩ : ∃ x', x.next s = x' := ⟨_, rfl⟩
            obtain ⟨s', hs'⟩ : ∃ s', x.mem s = s' := ⟨_, rfl⟩
            have ok' := ok.next H.rng
            rw [hx] at E ok'
            rw [hs'] at E
            rcases E with ⟨hd, ha, I', hp⟩ | ⟨hd, ha, I', hp⟩ | ⟨hd, ha, I', hp⟩
            · as_aux_lemma =>
                go_wp2_with (first
                  | (go_at_call 16; refine (oPop H HM ok (by omega)).mono ?_; rintro e w1 ⟨rfl, H1, M1, o1⟩; rw [hx] at M1 ⊢; rw [hs'] at H1; rw [hd]; have C1 := C.step hk (by simp only [set4_self, hjb]; simp) (by first | exact o1 | (simp only [set4_self]; exact o1)) (y := .pop x') (by first | exact M1 | (simp only [set4_self]; exact M1)) (by simp only [set4_self, hjb]; rfl) (by simp only [set4_self, hjb]; rfl); have cp1 : w1.cell? ⟨PB, j % 4, none⟩ = some (.pointer (some ⟨mp (j % 4), 0, none⟩)) := ((C1.cp hk).trans (by simp only [set4_self]; rfl)))
                  | (go_at_call 17; refine (oResult M1 ok').mono ?_; rintro e w2 ⟨rfl, hb2⟩; rw [ha]; have H2 := H1.below hb2; have C2 := C1.below hb2; have cp2 : w2.cell? ⟨PB, j % 4, none⟩ = some (.pointer (some ⟨mp (j % 4), 0, none⟩)) := ((C2.cp hk).trans (by simp only [set4_self]; rfl)); have fp2 := C2.fp (j % 4); have ch2 := C2.ch hk; have fh2 := C2.fh (j % 4); clear hb2 o1))
                go_roundw
                case rel => exact ⟨j + 1, by omega, by go_num, s', l', v', _, mp, vh, hs, H2, I', by omega, C2.mono (by omega), fun h => by omega, (fun _ => live_step (by omega) (Lv (by omega)) hp)⟩
                case measure => simp [intOf]; omega
            · as_aux_lemma =>
                go_wp2_with (first
                  | (go_at_call 16; refine (oPop H HM ok (by omega)).mono ?_; rintro e w1 ⟨rfl, H1, M1, o1⟩; rw [hx] at M1 ⊢; rw [hs'] at H1; rw [hd]; have C1 := C.step hk (by simp only [set4_self, hjb]; simp) (by first | exact o1 | (simp only [set4_self]; exact o1)) (y := .pop x') (by first | exact M1 | (simp only [set4_self]; exact M1)) (by simp only [set4_self, hjb]; rfl) (by simp only [set4_self, hjb]; rfl); have cp1 : w1.cell? ⟨PB, j % 4, none⟩ = some (.pointer (some ⟨mp (j % 4), 0, none⟩)) := ((C1.cp hk).trans (by simp only [set4_self]; rfl)))
                  | (go_at_call 17; refine (oResult M1 ok').mono ?_; rintro e w2 ⟨rfl, hb2⟩; rw [ha]; have H2 := H1.below hb2; have C2 := C1.below hb2; have cp2 : w2.cell? ⟨PB, j % 4, none⟩ = some (.pointer (some ⟨mp (j % 4), 0, none⟩)) := ((C2.cp hk).trans (by simp only [set4_self]; rfl)); have fp2 := C2.fp (j % 4); have ch2 := C2.ch hk; have fh2 := C2.fh (j % 4); clear hb2 o1))
                have C3 := C2.popNil hk (set4_self _ _ _)
                have H3 := C2.setP H2 (j % 4) (.pointer none)
                rw [set4_set4] at C3
                go_roundw
                case rel => exact ⟨j + 1, by omega, by go_num, s', l', v', _, mp, vh, hs, H3, I', by omega, C3.mono (by omega), fun h => by omega, (fun _ => live_step (by omega) (Lv (by omega)) hp)⟩
                case measure => simp [intOf]; omega
            · as_aux_lemma =>
                obtain ⟨i0, hi, hz0, hz1', hz2'⟩ := info_parts infoInt
                obtain ⟨va, hva⟩ : ∃ v, x'.at_ = v := ⟨_, rfl⟩
                rw [hva] at ha I'
                have ha' : (va != 0) = true := by simpa using ha
                obtain ⟨ao', cp', hvh, _⟩ := (C.row _ hk).slice
                have hlnk := C.len _ hk
                go_wp2_with (first
                  | (go_at_call 16; refine (oPop H HM ok (by omega)).mono ?_; rintro e w1 ⟨rfl, H1, M1, o1⟩; rw [hx] at M1 ⊢; rw [hs'] at H1; rw [hd]; have C1 := C.step hk (by simp only [set4_self, hjb]; simp) (by first | exact o1 | (simp only [set4_self]; exact o1)) (y := .pop x') (by first | exact M1 | (simp only [set4_self]; exact M1)) (by simp only [set4_self, hjb]; rfl) (by simp only [set4_self, hjb]; rfl); have cp1 : w1.cell? ⟨PB, j % 4, none⟩ = some (.pointer (some ⟨mp (j % 4), 0, none⟩)) := ((C1.cp hk).trans (by simp only [set4_self]; rfl)))
                  | (go_at_call 17; refine (oResult M1 ok').mono ?_; rintro e w2 ⟨rfl, hb2⟩; rw [hva]; have H2 := H1.below hb2; have C2 := C1.below hb2; have cp2 : w2.cell? ⟨PB, j % 4, none⟩ = some (.pointer (some ⟨mp (j % 4), 0, none⟩)) := ((C2.cp hk).trans (by simp only [set4_self]; rfl)); have fp2 := C2.fp (j % 4); have ch2 : w2.cell? ⟨HB, j % 4, none⟩ = some (.slice ao' (hs (j % 4)).length cp') := (C2.ch hk).trans (by rw [hvh]); have fh2 := C2.fh (j % 4); clear hb2 o1)
                  | (at_builtin; refine wpList_append_mine _ rfl _ _ 22 rfl 3 i0 _ 1 8 Tryd.underlying22 hi hz0 hz1' hz2' rfl (by decide) (.slice ao' (hs (j % 4)).length cp') (hs (j % 4)).length (nums (hs (j % 4))) rfl (by rw [← hvh]; exact (C2.row _ hk).row.alloc _) ⟨w2.heap.size, 0, none⟩ 1 1 [.int .i64 va] rfl rfl (new1 _ _ rfl _ _) (by intro u hu; simp at hu; rw [hu]; rfl) (by unfold maxLen; omega) (by omega) (by decide) ?_; intro g1 cp1' w4 hrow hgr hn; have K4 : Kept (vh (j % 4)).ownBlock.toList w2 w4 := ((Kept.alloc _ _ _).trans (Kept.grown (vh (j % 4)).ownBlock.toList hgr (fun k hk => by rw [← hvh] at hk; simp [hk])) (fun k hk => .inl hk)); have rk := C2.row _ hk; have hF : ∀ k ∈ (vh (j % 4)).ownBlock.toList, w.heap.size ≤ k ∧ ∃ cs T fz, T ∉ MTs ∧ w2.heap[k]? = some (.cells cs T fz) := (fun k hk => by have hk' : (vh (j % 4)).ownBlock = some k := (by simpa using hk); obtain ⟨cr, hc⟩ := rk.blk hk'; exact ⟨rk.old k hk', cr, _, _, by decide, hc⟩); have H4 := H2.kept K4 hF; have o4 : Oth (vh (j % 4)).ownBlock.toList w2 w4 := Oth.kept K4; have lg1 : (vh (j % 4)).ownBlock = some g1 ∨ w2.heap.size ≤ g1 := (by rw [← hvh] at hn; exact hn.imp id (fun h' => Nat.le_trans (by simp) h')); have R4 : RowI w w4 (.slice (some ⟨g1, 0, none⟩) ((hs (j % 4)).length + 1) cp1') (hs (j % 4) ++ [va]) := RowI.of_own hrow (by simp) (by rw [nums_append]; rfl) (lg1.elim (fun h' => rk.old g1 h') (fun h' => Nat.le_trans H2.bel.size h')); have C5 := C2.hasSet hk o4 R4 (fun g hg => by simp [Value.ownBlock] at hg; subst hg; exact lg1) (Nat.le_succ j) (by have := C2.len _ hk; simp; omega); obtain ⟨chx, hHB⟩ := C2.hb; have hHB4 := hHB.oth o4 (fun hm => rk.bne hHB (by decide) HB (by simpa using hm) rfl); have m4 : w4.cell? ⟨HB, j % 4, none⟩ = some (.slice ao' (hs (j % 4)).length cp') := ((hHB4.cell _).trans ((hHB.cell _).symm.trans ch2)); have mf4 := hHB4.free (j % 4); have H5 := H4.set hHB4 (j % 4) (.slice (some ⟨g1, 0, none⟩) ((hs (j % 4)).length + 1) cp1'); have cp5 : (w4.setCell ⟨HB, j % 4, none⟩ (.slice (some ⟨g1, 0, none⟩) ((hs (j % 4)).length + 1) cp1')).cell? ⟨PB, j % 4, none⟩ = some (.pointer (some ⟨mp (j % 4), 0, none⟩)) := ((C5.cp hk).trans (by simp only [set4_self]; rfl)); have fp5 := C5.fp (j % 4); clear hrow hgr hn))
                have C6 := C5.popNil hk (set4_self _ _ _)
                have H6 := C5.setP H5 (j % 4) (.pointer none)
                rw [set4_set4] at C6
                go_roundw
                case rel => exact ⟨j + 1, by omega, by go_num, s', l', v', _, mp, _, (set4 hs (j % 4) (hs (j % 4) ++ [va])), H6, I', by omega, C6.mono (by omega), fun h => by omega, (fun _ => live_step (by omega) (Lv (by omega)) hp)⟩
                case measure => simp [intOf]; omega
          · have cp0 : wr.cell? ⟨PB, j % 4, none⟩ = some (.pointer none) := (C.cp hk).trans (by rw [hjb]; rfl)
            have cq0 : wr.cell? ⟨QB, j % 4, none⟩ = some (.pointer (some ⟨mp (j % 4), 0, none⟩)) := (C.cq hk).trans (by rw [hjb]; rfl)
            have J := I.job _ hk
            rw [hjb] at J
            have ok : x.Ok := J.2.1
            have HM : Blk w wr (mp (j % 4)) 82 x.cells := by have := C.mach _ hk; rw [hjb] at this; exact this
            clear J
            have E := I.pushStep hm12 hk hjb (by omega)
            obtain ⟨l', v', hv', h160, E⟩ := E
            obtain ⟨x', hx⟩ : ∃ x', x.next s = x' := ⟨_, rfl⟩
            obtain ⟨s', hs'⟩ : ∃ s', x.mem s = s' := ⟨_, rfl⟩
            have ok' := ok.next H.rng
            rw [hx] at E ok'
            rw [hs'] at E
            rcases E with ⟨hd, I', hp⟩ | ⟨hd, I', hp⟩
            · as_aux_lemma =>
                go_wp2_with (first
                  | (go_at_call 18; refine (oPush H HM ok (by omega)).mono ?_; rintro e w1 ⟨rfl, H1, M1, o1⟩; rw [hx] at M1 ⊢; rw [hs'] at H1; rw [hd]; have C1 := C.step hk (by simp only [set4_self, hjb]; simp) (by first | exact o1 | (simp only [set4_self]; exact o1)) (y := .push x') (by first | exact M1 | (simp only [set4_self]; exact M1)) (by simp only [set4_self, hjb]; rfl) (by simp only [set4_self, hjb]; rfl); have cq1 : w1.cell? ⟨QB, j % 4, none⟩ = some (.pointer (some ⟨mp (j % 4), 0, none⟩)) := ((C1.cq hk).trans (by simp only [set4_self]; rfl)); have fq1 := C1.fq (j % 4); clear o1))
                go_roundw
                case rel => exact ⟨j + 1, by omega, by go_num, s', l', v', _, mp, vh, hs, H1, I', by omega, C1.mono (by omega), fun h => by omega, (fun _ => live_step (by omega) (Lv (by omega)) hp)⟩
                case measure => simp [intOf]; omega
            · as_aux_lemma =>
                go_wp2_with (first
                  | (go_at_call 18; refine (oPush H HM ok (by omega)).mono ?_; rintro e w1 ⟨rfl, H1, M1, o1⟩; rw [hx] at M1 ⊢; rw [hs'] at H1; rw [hd]; have C1 := C.step hk (by simp only [set4_self, hjb]; simp) (by first | exact o1 | (simp only [set4_self]; exact o1)) (y := .push x') (by first | exact M1 | (simp only [set4_self]; exact M1)) (by simp only [set4_self, hjb]; rfl) (by simp only [set4_self, hjb]; rfl); have cq1 : w1.cell? ⟨QB, j % 4, none⟩ = some (.pointer (some ⟨mp (j % 4), 0, none⟩)) := ((C1.cq hk).trans (by simp only [set4_self]; rfl)); have fq1 := C1.fq (j % 4); clear o1))
                have C3 := C1.pushNil hk (set4_self _ _ _)
                have H3 := C1.setQ H1 (j % 4) (.pointer none)
                rw [set4_set4] at C3
                go_roundw
                case rel => exact ⟨j + 1, by omega, by go_num, s', l', v', _, mp, vh, hs, H3, I', by omega, C3.mono (by omega), fun h => by omega, (fun _ => live_step (by omega) (Lv (by omega)) hp)⟩
                case measure => simp [intOf]; omega
    · by_cases hb9 : 9223372036854775407 < len
      · obtain ⟨hj0, hid⟩ := hbig hb9
        obtain ⟨wl, hwl⟩ : ∃ wl, IntKind.i64.wrap ((len : Int) + 400) = wl := ⟨_, rfl⟩
        have hneg : decide ((j : Int) < wl) = false := by
          have e : wl = (len : Int) + 400 - 18446744073709551616 := by rw [← hwl, IntKind.wrap_i64]; omega
          simp; omega
        have hj600 : j ≤ 600 := by omega
        clear hb9 hln63 hj0 hgo
        as_aux_lemma =>
          have hN := all_nodup I hid
          have hLn := all_length I hid
          obtain ⟨L, hL⟩ : ∃ L, pre hs 4 ++ l = L := ⟨_, rfl⟩
          have hmem : ∀ a, a ∈ L → a ∈ cel 0 m := fun a ha => (all_mem I hid).1 (hL ▸ ha)
          have hmem' : ∀ a, a ∈ cel 0 m → a ∈ L := fun a ha => hL ▸ (all_mem I hid).2 ha
          have hpl : (pre hs 4).length + l.length = m := by rw [← List.length_append]; exact hLn
          have hget : ∀ k i : Nat, k < 4 → i < (hs k).length → L[(pre hs k).length + i]? = (hs k)[i]? := fun k i hk hi => hL ▸ pre_get hk hi
          have hget4 : ∀ i : Nat, L[(pre hs 4).length + i]? = l[i]? := fun i => hL ▸ pre_rest
          have hll : l.length ≤ m := by omega
          rw [hL] at hN hLn
          have hidle := hid
          have hLst := I.lst
          have hTr := I.traps
          clear hL I Lv hbig hid
          go_upto_region 35 with (fail)
          refine wp_region_lit ?_
          refine wpList_zeros rfl rfl rfl 49 166 19 rfl rfl rfl rfl rfl rfl (marks 160 (memb [])) 160 (by kernel_rfl) (by kernel_rfl) (marks_size _ _) (by kernel_rfl) (by kernel_rfl) (by kernel_rfl) ?_
          refine wpList_nil ?_
          have BS : Blk w (wr.alloc (.cells (marks 160 (memb [])) 49)) wr.heap.size 49 (marks 160 (memb (L.take 0))) := Blk.new H.bel.size _ (by decide)
          have HS := H.alloc (.cells (marks 160 (memb [])) 49)
          have CS := C.below (bal1 (.cells (marks 160 (memb [])) 49))
          generalize wr.alloc (.cells (marks 160 (memb [])) 49) = wS at BS HS CS ⊢
          generalize wr.heap.size = SB at BS ⊢
          clear H C
          go_wp2
          go_loopw [20, 21] (fun fd kv wr => ∃ k : Nat, k ≤ 4 ∧ kv = .int .i64 k ∧ fd = .int .i64 ((pre hs k).length : Int) ∧ Hand w wr b s (100 + j) ∧ Crew w wr PB QB HB jb mp vh hs j ∧ Blk w wr SB 49 (marks 160 (memb (L.take ((pre hs k).length))))) (fun _ kv _ => 4 - (intOf kv).toNat)
          case atStart => exact ⟨0, Nat.zero_le _, rfl, rfl, HS, CS, BS⟩
          case round =>
            obtain ⟨k, hk5, rfl, rfl, H, C, B⟩ := hrel
            clear HS CS BS
            by_cases hk : k < 4
            case pos =>
              have hkb : decide ((k : Int) < 4) = true := by simp; omega
              have cp0 : wr.cell? ⟨PB, k, none⟩ = some (.pointer none) := (C.cp hk).trans (by rw [hidle k hk]; rfl)
              have cq0 : wr.cell? ⟨QB, k, none⟩ = some (.pointer none) := (C.cq hk).trans (by rw [hidle k hk]; rfl)
              obtain ⟨pk, hpk⟩ : ∃ pk, (pre hs k).length = pk := ⟨_, rfl⟩
              obtain ⟨ln, hln⟩ : ∃ ln, (hs k).length = ln := ⟨_, rfl⟩
              have hpk1 : (pre hs (k + 1)).length = pk + ln := by simp [pre, hpk, hln]
              have hlk := C.len k hk
              have hpkm : pk + ln ≤ 1000000 := by
                have h4 : (pre hs 4).length ≤ m := by omega
                have : (pre hs (k + 1)).length ≤ (pre hs 4).length := by
                  match k, hk with
                  | 0, _ => simp [pre]
                  | 1, _ => simp [pre]
                  | 2, _ => simp [pre]
                  | 3, _ => exact Nat.le_refl _
                omega
              rw [hpk] at B
              obtain ⟨ao', cp', hvh, hgr⟩ := (C.row k hk).slice
              rw [hln] at hvh hlk
              have ch0 : wr.cell? ⟨HB, k, none⟩ = some (.slice ao' ln cp') := (C.ch hk).trans (by rw [hvh])
              rw [hpk]
              go_wp2
              go_loopw [20, 22] (fun fd iv wr2 => ∃ i : Nat, i ≤ ln ∧ iv = .int .i64 i ∧ fd = .int .i64 ((pk + i : Nat) : Int) ∧ Hand w wr2 b s (100 + j) ∧ Crew w wr2 PB QB HB jb mp vh hs j ∧ Blk w wr2 SB 49 (marks 160 (memb (L.take (pk + i))))) (fun _ iv _ => ln - (intOf iv).toNat)
              case atStart => exact ⟨0, Nat.zero_le _, rfl, by simp, H, C, B⟩
              case round =>
                obtain ⟨i, hi5, rfl, rfl, H, C, B⟩ := hrel
                have ch1 : wr.cell? ⟨HB, k, none⟩ = some (.slice ao' ln cp') := (C.ch hk).trans (by rw [hvh])
                by_cases hi : i < ln
                case pos =>
                  obtain ⟨g, rfl⟩ := hgr (fun e => by rw [e] at hln; simp at hln; omega)
                  have hgi := hget k i hk (by omega)
                  rw [hpk] at hgi
                  obtain ⟨x, hx⟩ : ∃ x, (hs k)[i]? = some x := ⟨_, List.getElem?_eq_getElem (by omega)⟩
                  rw [hx] at hgi
                  obtain ⟨an, rfl, ha1, ha2⟩ := cel_nat hm12 (hmem x (List.mem_of_getElem? hgi))
                  have Rk := C.row k hk
                  rw [hvh, ← hln] at Rk
                  have cx : wr.cell? ⟨g, i, none⟩ = some (.int .i64 (an : Int)) := Rk.cell hx
                  have cs1 : wr.cell? ⟨SB, an, none⟩ = some (.bool false) := by rw [B.cell an, marks_at _ _ _ (by omega), memb_new hN hgi]
                  have fs1 := B.free an
                  have B' := B.set an (.bool true)
                  rw [marks_next hgi] at B'
                  have C' := C.setS B an (.bool true) (by decide)
                  have H' := H.set B an (.bool true)
                  clear Rk hgr
                  go_wp2
                  go_roundw
                  case rel => exact ⟨i + 1, by omega, by go_num, by go_num, H', C', B'⟩
                  case measure => simp [intOf]; omega
                case neg =>
                  have hil : pk + i = pk + ln := by omega
                  have hfd : ((pk + i : Nat) : Int) = ((pre hs (k + 1)).length : Int) := by rw [hpk1, hil]
                  have B' := B
                  rw [hil, ← hpk1] at B'
                  clear hil
                  go_wp2
                  go_roundw
                  case rel => exact ⟨k + 1, by omega, by go_num, by first | rw [← hfd] | (rw [← hfd]; go_num), H, C, B'⟩
                  case measure => simp [intOf]; omega
            case neg =>
              obtain ⟨pk, hpk⟩ : ∃ pk, (pre hs k).length = pk := ⟨_, rfl⟩
              have hpk4 : (pre hs 4).length = pk := by rw [show 4 = k by omega]; exact hpk
              rw [hpk] at B
              rw [hpk4] at hpl hget4
              rw [hpk]
              have hkb : decide ((k : Int) < 4) = false := by simp; omega
              clear hpk hpk4
              have k0 := PopS.ok_new 3
              clear C hget hidle
              go_wp2
              go_loopw [20, 24] (fun fd iv wr3 => ∃ i : Nat, i ≤ l.length ∧ iv = .int .i64 i ∧ fd = .int .i64 ((pk + i : Nat) : Int) ∧ ∃ s', Hand w wr3 b s' (800 + 3 * i) ∧ Lst s' (l.drop i) (v + i) ∧ s'.t = 0 ∧ Blk w wr3 SB 49 (marks 160 (memb (L.take (pk + i))))) (fun _ iv _ => l.length - (intOf iv).toNat)
              case atStart => exact ⟨0, Nat.zero_le _, rfl, by simp, s, H.mono (by omega), hLst, hTr, B⟩
              case round =>
                obtain ⟨i, hi5, rfl, rfl, s', H, q2, q3, B⟩ := hrel
                by_cases hi : i < l.length
                case pos =>
                  have hgi := hget4 i
                  obtain ⟨x, hx⟩ : ∃ x, l[i]? = some x := ⟨_, List.getElem?_eq_getElem hi⟩
                  rw [hx] at hgi
                  rw [drop_cons' hx] at q2
                  obtain ⟨an, rfl, ha1, ha2⟩ := cel_nat hm12 (hmem x (List.mem_of_getElem? hgi))
                  obtain ⟨x1, x2, x3, s1, s2, s3, e1, e2, e3, e4, e5, e6, p1, p2, p3, a1, a2, a3, _, q5, q6, _⟩ := pop_alone q2 (by omega) q3
                  have k1 := k0.next H.rng
                  rw [e1] at k1
                  have r1 := PopS.rng k0 H.rng
                  rw [e2] at r1
                  have k2 := k1.next r1
                  rw [e3] at k2
                  have r2 := PopS.rng k1 r1
                  rw [e4] at r2
                  have k3 := k2.next r2
                  rw [e5] at k3
                  have hib : decide ((i : Int) < 60) = true := by simp; omega
                  clear q2 r1 r2
                  go_wp2_with (go_at_call 14; refine (cNewPop 3 wr).mono ?_; rintro e w4 ⟨rfl, hw4⟩; have h4 : Hand w w4 b s' (800 + 3 * i) := (hw4 ▸ H.alloc _); have B4 : Blk w w4 wr.heap.size 79 (PopS.new 3).cells := (by rw [hw4]; exact Blk.new H.bel.size _ (by decide)); have S4 := B.below (hw4 ▸ bal1 (.cells (PopS.new 3).cells 79)); obtain ⟨p, hp⟩ : ∃ p, wr.heap.size = p := ⟨_, rfl⟩; rw [hp] at B4 ⊢; have nS : SB ∉ [p] := (by simp; exact S4.ne B4 (by decide)); clear hp hw4)
                  refine wp_loop_rounds 4 ?_
                  rw [rounds_succ]
                  go_wp2_with (go_at_call 16; refine (oPop h4 B4 k0 (by omega)).mono ?_; rintro e w5 ⟨rfl, h5, B5, o5⟩; rw [e1] at B5 ⊢; rw [e2] at h5; have S5 := S4.oth o5 nS)
                  rw [rounds_succ]
                  go_wp2_with (go_at_call 16; refine (oPop h5 B5 k1 (by omega)).mono ?_; rintro e w6 ⟨rfl, h6, B6, o6⟩; rw [e3] at B6 ⊢; rw [e4] at h6; have S6 := S5.oth o6 nS)
                  rw [rounds_succ]
                  go_wp2_with (go_at_call 16; refine (oPop h6 B6 k2 (by omega)).mono ?_; rintro e w7 ⟨rfl, h7, B7, o7⟩; rw [e5] at B7 ⊢; rw [e6] at h7; have S7 := S6.oth o7 nS)
                  rw [rounds_succ]
                  go_wp2_with (go_at_call 17; refine (oResult B7 k3).mono ?_; rintro e w8 ⟨rfl, hb8⟩; rw [a3]; have h8 := h7.below hb8; have S8 := S7.below hb8; clear hb8; have cs8 : w8.cell? ⟨SB, an, none⟩ = some (.bool false) := (by rw [S8.cell an, marks_at _ _ _ (by omega), memb_new hN hgi]); have fs8 := S8.free an)
                  have S9 := S8.set an (.bool true)
                  rw [marks_next hgi] at S9
                  have h9 := h8.set S8 an (.bool true)
                  go_roundw
                  case rel => exact ⟨i + 1, by omega, by go_num, by go_num, s3, h9, q5, q6, S9⟩
                  case measure => simp [intOf]; omega
                case neg =>
                  have he : l.drop i = [] := List.drop_eq_nil_of_le (by omega)
                  rw [he] at q2
                  obtain ⟨x1, e1, e2, p1, a1, a2, q5, q6⟩ := pop_none q2 q3
                  have k1 := k0.next H.rng
                  rw [e1] at k1
                  have hib : decide ((i : Int) < 60) = true := by simp; omega
                  clear q2 he
                  go_wp2_with (go_at_call 14; refine (cNewPop 3 wr).mono ?_; rintro e w4 ⟨rfl, hw4⟩; have h4 : Hand w w4 b s' (800 + 3 * i) := (hw4 ▸ H.alloc _); have B4 : Blk w w4 wr.heap.size 79 (PopS.new 3).cells := (by rw [hw4]; exact Blk.new H.bel.size _ (by decide)); have S4 := B.below (hw4 ▸ bal1 (.cells (PopS.new 3).cells 79)); obtain ⟨p, hp⟩ : ∃ p, wr.heap.size = p := ⟨_, rfl⟩; rw [hp] at B4 ⊢; have nS : SB ∉ [p] := (by simp; exact S4.ne B4 (by decide)); clear hp hw4)
                  refine wp_loop_rounds 4 ?_
                  rw [rounds_succ]
                  go_wp2_with (go_at_call 16; refine (oPop h4 B4 k0 (by omega)).mono ?_; rintro e w5 ⟨rfl, h5, B5, o5⟩; rw [e1] at B5 ⊢; rw [e2] at h5; have S5 := S4.oth o5 nS)
                  rw [rounds_succ]
                  go_wp2_with (go_at_call 16; refine (oPop0 h5 B5 p1).mono ?_; rintro e w6 ⟨rfl, hw6⟩; rw [hw6]; clear hw6 w6)
                  rw [rounds_succ]
                  go_wp2_with (go_at_call 16; refine (oPop0 h5 B5 p1).mono ?_; rintro e w6 ⟨rfl, hw6⟩; rw [hw6]; clear hw6 w6)
                  rw [rounds_succ]
                  go_wp2_with (go_at_call 17; refine (oResult B5 k1).mono ?_; rintro e w8 ⟨rfl, hb8⟩; rw [a1]; have h8 := h5.below hb8; have S8 := S5.below hb8; clear hb8)
                  clear h4 h5 B4 B5 S4 S5 H B
                  go_loopw [29] (fun iv wr4 => ∃ t : Nat, t ≤ m ∧ iv = .int .i64 t ∧ Hand w wr4 b (s'.load 3) (800 + 3 * i + 1) ∧ Blk w wr4 SB 49 (marks 160 (memb (L.take (pk + i))))) (fun iv _ => m - (intOf iv).toNat)
                  case atStart => exact ⟨0, Nat.zero_le _, rfl, h8, S8⟩
                  case round =>
                    obtain ⟨t, ht5, rfl, H, B⟩ := hrel
                    by_cases ht : t < m
                    case pos =>
                      obtain ⟨an, han⟩ : ∃ an : Nat, 96 + 4 * (t : Int) = (an : Int) := ⟨96 + 4 * t, by omega⟩
                      have hal : (an : Int) ∈ L := hmem' _ (cel_mem.2 ⟨t, by omega, by omega, by omega⟩)
                      have cs1 : wr.cell? ⟨SB, an, none⟩ = some (.bool true) := by rw [B.cell an, marks_at _ _ _ (by omega), memb_all (by omega) hal]
                      have ha1 : an < 160 := by omega
                      have ha0 : (0 : Int) ≤ (an : Int) := by omega
                      have ha2 : (an : Int) < 160 := by omega
                      go_wp2
                      go_roundw
                      case rel => exact ⟨t + 1, by omega, by go_num, H, B⟩
                      case measure => simp [intOf]; omega
                    case neg =>
                      have hfm : ((pk + i : Nat) : Int) = (m : Int) := by omega
                      go_wp2_with (go_at_call 19; refine (hTraps H).mono ?_; rintro e w9 ⟨rfl, hw9⟩; rw [hw9, q6]; clear hw9 w9)
                      all_goals go_ret
                      all_goals exact ⟨by simp [hfm], H.bel⟩
      · have hj9 : j = P + 400 := by omega
        have hj600 : j ≤ 600 := by omega
        have hid : ∀ k, k < 4 → jb k = .idle := live_end (hj9 ▸ Lv (by omega))
        by_cases hj8 : j < len + 400
        · have hj7 : ¬ j < 600 := by omega
          as_aux_lemma =>
            have hN := all_nodup I hid
            have hLn := all_length I hid
            obtain ⟨L, hL⟩ : ∃ L, pre hs 4 ++ l = L := ⟨_, rfl⟩
            have hmem : ∀ a, a ∈ L → a ∈ cel 0 m := fun a ha => (all_mem I hid).1 (hL ▸ ha)
            have hmem' : ∀ a, a ∈ cel 0 m → a ∈ L := fun a ha => hL ▸ (all_mem I hid).2 ha
            have hpl : (pre hs 4).length + l.length = m := by rw [← List.length_append]; exact hLn
            have hget : ∀ k i : Nat, k < 4 → i < (hs k).length → L[(pre hs k).length + i]? = (hs k)[i]? := fun k i hk hi => hL ▸ pre_get hk hi
            have hget4 : ∀ i : Nat, L[(pre hs 4).length + i]? = l[i]? := fun i => hL ▸ pre_rest
            have hll : l.length ≤ m := by omega
            rw [hL] at hN hLn
            have hidle := hid
            have hLst := I.lst
            have hTr := I.traps
            clear hL I Lv hbig hid
            go_upto_region 35 with (fail)
            refine wp_region_lit ?_
            refine wpList_zeros rfl rfl rfl 49 166 19 rfl rfl rfl rfl rfl rfl (marks 160 (memb [])) 160 (by kernel_rfl) (by kernel_rfl) (marks_size _ _) (by kernel_rfl) (by kernel_rfl) (by kernel_rfl) ?_
            refine wpList_nil ?_
            have BS : Blk w (wr.alloc (.cells (marks 160 (memb [])) 49)) wr.heap.size 49 (marks 160 (memb (L.take 0))) := Blk.new H.bel.size _ (by decide)
            have HS := H.alloc (.cells (marks 160 (memb [])) 49)
            have CS := C.below (bal1 (.cells (marks 160 (memb [])) 49))
            generalize wr.alloc (.cells (marks 160 (memb [])) 49) = wS at BS HS CS ⊢
            generalize wr.heap.size = SB at BS ⊢
            clear H C
            go_wp2
            go_loopw [20, 21] (fun fd kv wr => ∃ k : Nat, k ≤ 4 ∧ kv = .int .i64 k ∧ fd = .int .i64 ((pre hs k).length : Int) ∧ Hand w wr b s (100 + j) ∧ Crew w wr PB QB HB jb mp vh hs j ∧ Blk w wr SB 49 (marks 160 (memb (L.take ((pre hs k).length))))) (fun _ kv _ => 4 - (intOf kv).toNat)
            case atStart => exact ⟨0, Nat.zero_le _, rfl, rfl, HS, CS, BS⟩
            case round =>
              obtain ⟨k, hk5, rfl, rfl, H, C, B⟩ := hrel
              clear HS CS BS
              by_cases hk : k < 4
              case pos =>
                have hkb : decide ((k : Int) < 4) = true := by simp; omega
                have cp0 : wr.cell? ⟨PB, k, none⟩ = some (.pointer none) := (C.cp hk).trans (by rw [hidle k hk]; rfl)
                have cq0 : wr.cell? ⟨QB, k, none⟩ = some (.pointer none) := (C.cq hk).trans (by rw [hidle k hk]; rfl)
                obtain ⟨pk, hpk⟩ : ∃ pk, (pre hs k).length = pk := ⟨_, rfl⟩
                obtain ⟨ln, hln⟩ : ∃ ln, (hs k).length = ln := ⟨_, rfl⟩
                have hpk1 : (pre hs (k + 1)).length = pk + ln := by simp [pre, hpk, hln]
                have hlk := C.len k hk
                have hpkm : pk + ln ≤ 1000000 := by
                  have h4 : (pre hs 4).length ≤ m := by omega
                  have : (pre hs (k + 1)).length ≤ (pre hs 4).length := by
                    match k, hk with
                    | 0, _ => simp [pre]
                    | 1, _ => simp [pre]
                    | 2, _ => simp [pre]
                    | 3, _ => exact Nat.le_refl _
                  omega
                rw [hpk] at B
                obtain ⟨ao', cp', hvh, hgr⟩ := (C.row k hk).slice
                rw [hln] at hvh hlk
                have ch0 : wr.cell? ⟨HB, k, none⟩ = some (.slice ao' ln cp') := (C.ch hk).trans (by rw [hvh])
                rw [hpk]
                go_wp2
                go_loopw [20, 22] (fun fd iv wr2 => ∃ i : Nat, i ≤ ln ∧ iv = .int .i64 i ∧ fd = .int .i64 ((pk + i : Nat) : Int) ∧ Hand w wr2 b s (100 + j) ∧ Crew w wr2 PB QB HB jb mp vh hs j ∧ Blk w wr2 SB 49 (marks 160 (memb (L.take (pk + i))))) (fun _ iv _ => ln - (intOf iv).toNat)
                case atStart => exact ⟨0, Nat.zero_le _, rfl, by simp, H, C, B⟩
                case round =>
                  obtain ⟨i, hi5, rfl, rfl, H, C, B⟩ := hrel
                  have ch1 : wr.cell? ⟨HB, k, none⟩ = some (.slice ao' ln cp') := (C.ch hk).trans (by rw [hvh])
                  by_cases hi : i < ln
                  case pos =>
                    obtain ⟨g, rfl⟩ := hgr (fun e => by rw [e] at hln; simp at hln; omega)
                    have hgi := hget k i hk (by omega)
                    rw [hpk] at hgi
                    obtain ⟨x, hx⟩ : ∃ x, (hs k)[i]? = some x := ⟨_, List.getElem?_eq_getElem (by omega)⟩
                    rw [hx] at hgi
                    obtain ⟨an, rfl, ha1, ha2⟩ := cel_nat hm12 (hmem x (List.mem_of_getElem? hgi))
                    have Rk := C.row k hk
                    rw [hvh, ← hln] at Rk
                    have cx : wr.cell? ⟨g, i, none⟩ = some (.int .i64 (an : Int)) := Rk.cell hx
                    have cs1 : wr.cell? ⟨SB, an, none⟩ = some (.bool false) := by rw [B.cell an, marks_at _ _ _ (by omega), memb_new hN hgi]
                    have fs1 := B.free an
                    have B' := B.set an (.bool true)
                    rw [marks_next hgi] at B'
                    have C' := C.setS B an (.bool true) (by decide)
                    have H' := H.set B an (.bool true)
                    clear Rk hgr
                    go_wp2
                    go_roundw
                    case rel => exact ⟨i + 1, by omega, by go_num, by go_num, H', C', B'⟩
                    case measure => simp [intOf]; omega
                  case neg =>
                    have hil : pk + i = pk + ln := by omega
                    have hfd : ((pk + i : Nat) : Int) = ((pre hs (k + 1)).length : Int) := by rw [hpk1, hil]
                    have B' := B
                    rw [hil, ← hpk1] at B'
                    clear hil
                    go_wp2
                    go_roundw
                    case rel => exact ⟨k + 1, by omega, by go_num, by first | rw [← hfd] | (rw [← hfd]; go_num), H, C, B'⟩
                    case measure => simp [intOf]; omega
              case neg =>
                obtain ⟨pk, hpk⟩ : ∃ pk, (pre hs k).length = pk := ⟨_, rfl⟩
                have hpk4 : (pre hs 4).length = pk := by rw [show 4 = k by omega]; exact hpk
                rw [hpk] at B
                rw [hpk4] at hpl hget4
                rw [hpk]
                have hkb : decide ((k : Int) < 4) = false := by simp; omega
                clear hpk hpk4
                have k0 := PopS.ok_new 3
                clear C hget hidle
                go_wp2
                go_loopw [20, 24] (fun fd iv wr3 => ∃ i : Nat, i ≤ l.length ∧ iv = .int .i64 i ∧ fd = .int .i64 ((pk + i : Nat) : Int) ∧ ∃ s', Hand w wr3 b s' (800 + 3 * i) ∧ Lst s' (l.drop i) (v + i) ∧ s'.t = 0 ∧ Blk w wr3 SB 49 (marks 160 (memb (L.take (pk + i))))) (fun _ iv _ => l.length - (intOf iv).toNat)
                case atStart => exact ⟨0, Nat.zero_le _, rfl, by simp, s, H.mono (by omega), hLst, hTr, B⟩
                case round =>
                  obtain ⟨i, hi5, rfl, rfl, s', H, q2, q3, B⟩ := hrel
                  by_cases hi : i < l.length
                  case pos =>
                    have hgi := hget4 i
                    obtain ⟨x, hx⟩ : ∃ x, l[i]? = some x := ⟨_, List.getElem?_eq_getElem hi⟩
                    rw [hx] at hgi
                    rw [drop_cons' hx] at q2
                    obtain ⟨an, rfl, ha1, ha2⟩ := cel_nat hm12 (hmem x (List.mem_of_getElem? hgi))
                    obtain ⟨x1, x2, x3, s1, s2, s3, e1, e2, e3, e4, e5, e6, p1, p2, p3, a1, a2, a3, _, q5, q6, _⟩ := pop_alone q2 (by omega) q3
                    have k1 := k0.next H.rng
                    rw [e1] at k1
                    have r1 := PopS.rng k0 H.rng
                    rw [e2] at r1
                    have k2 := k1.next r1
                    rw [e3] at k2
                    have r2 := PopS.rng k1 r1
                    rw [e4] at r2
                    have k3 := k2.next r2
                    rw [e5] at k3
                    have hib : decide ((i : Int) < 60) = true := by simp; omega
                    clear q2 r1 r2
                    go_wp2_with (go_at_call 14; refine (cNewPop 3 wr).mono ?_; rintro e w4 ⟨rfl, hw4⟩; have h4 : Hand w w4 b s' (800 + 3 * i) := (hw4 ▸ H.alloc _); have B4 : Blk w w4 wr.heap.size 79 (PopS.new 3).cells := (by rw [hw4]; exact Blk.new H.bel.size _ (by decide)); have S4 := B.below (hw4 ▸ bal1 (.cells (PopS.new 3).cells 79)); obtain ⟨p, hp⟩ : ∃ p, wr.heap.size = p := ⟨_, rfl⟩; rw [hp] at B4 ⊢; have nS : SB ∉ [p] := (by simp; exact S4.ne B4 (by decide)); clear hp hw4)
                    refine wp_loop_rounds 4 ?_
                    rw [rounds_succ]
                    go_wp2_with (go_at_call 16; refine (oPop h4 B4 k0 (by omega)).mono ?_; rintro e w5 ⟨rfl, h5, B5, o5⟩; rw [e1] at B5 ⊢; rw [e2] at h5; have S5 := S4.oth o5 nS)
                    rw [rounds_succ]
                    go_wp2_with (go_at_call 16; refine (oPop h5 B5 k1 (by omega)).mono ?_; rintro e w6 ⟨rfl, h6, B6, o6⟩; rw [e3] at B6 ⊢; rw [e4] at h6; have S6 := S5.oth o6 nS)
                    rw [rounds_succ]
                    go_wp2_with (go_at_call 16; refine (oPop h6 B6 k2 (by omega)).mono ?_; rintro e w7 ⟨rfl, h7, B7, o7⟩; rw [e5] at B7 ⊢; rw [e6] at h7; have S7 := S6.oth o7 nS)
                    rw [rounds_succ]
                    go_wp2_with (go_at_call 17; refine (oResult B7 k3).mono ?_; rintro e w8 ⟨rfl, hb8⟩; rw [a3]; have h8 := h7.below hb8; have S8 := S7.below hb8; clear hb8; have cs8 : w8.cell? ⟨SB, an, none⟩ = some (.bool false) := (by rw [S8.cell an, marks_at _ _ _ (by omega), memb_new hN hgi]); have fs8 := S8.free an)
                    have S9 := S8.set an (.bool true)
                    rw [marks_next hgi] at S9
                    have h9 := h8.set S8 an (.bool true)
                    go_roundw
                    case rel => exact ⟨i + 1, by omega, by go_num, by go_num, s3, h9, q5, q6, S9⟩
                    case measure => simp [intOf]; omega
                  case neg =>
                    have he : l.drop i = [] := List.drop_eq_nil_of_le (by omega)
                    rw [he] at q2
                    obtain ⟨x1, e1, e2, p1, a1, a2, q5, q6⟩ := pop_none q2 q3
                    have k1 := k0.next H.rng
                    rw [e1] at k1
                    have hib : decide ((i : Int) < 60) = true := by simp; omega
                    clear q2 he
                    go_wp2_with (go_at_call 14; refine (cNewPop 3 wr).mono ?_; rintro e w4 ⟨rfl, hw4⟩; have h4 : Hand w w4 b s' (800 + 3 * i) := (hw4 ▸ H.alloc _); have B4 : Blk w w4 wr.heap.size 79 (PopS.new 3).cells := (by rw [hw4]; exact Blk.new H.bel.size _ (by decide)); have S4 := B.below (hw4 ▸ bal1 (.cells (PopS.new 3).cells 79)); obtain ⟨p, hp⟩ : ∃ p, wr.heap.size = p := ⟨_, rfl⟩; rw [hp] at B4 ⊢; have nS : SB ∉ [p] := (by simp; exact S4.ne B4 (by decide)); clear hp hw4)
                    refine wp_loop_rounds 4 ?_
                    rw [rounds_succ]
                    go_wp2_with (go_at_call 16; refine (oPop h4 B4 k0 (by omega)).mono ?_; rintro e w5 ⟨rfl, h5, B5, o5⟩; rw [e1] at B5 ⊢; rw [e2] at h5; have S5 := S4.oth o5 nS)
                    rw [rounds_succ]
                    go_wp2_with (go_at_call 16; refine (oPop0 h5 B5 p1).mono ?_; rintro e w6 ⟨rfl, hw6⟩; rw [hw6]; clear hw6 w6)
                    rw [rounds_succ]
                    go_wp2_with (go_at_call 16; refine (oPop0 h5 B5 p1).mono ?_; rintro e w6 ⟨rfl, hw6⟩; rw [hw6]; clear hw6 w6)
                    rw [rounds_succ]
                    go_wp2_with (go_at_call 17; refine (oResult B5 k1).mono ?_; rintro e w8 ⟨rfl, hb8⟩; rw [a1]; have h8 := h5.below hb8; have S8 := S5.below hb8; clear hb8)
                    clear h4 h5 B4 B5 S4 S5 H B
                    go_loopw [29] (fun iv wr4 => ∃ t : Nat, t ≤ m ∧ iv = .int .i64 t ∧ Hand w wr4 b (s'.load 3) (800 + 3 * i + 1) ∧ Blk w wr4 SB 49 (marks 160 (memb (L.take (pk + i))))) (fun iv _ => m - (intOf iv).toNat)
                    case atStart => exact ⟨0, Nat.zero_le _, rfl, h8, S8⟩
                    case round =>
                      obtain ⟨t, ht5, rfl, H, B⟩ := hrel
                      by_cases ht : t < m
                      case pos =>
                        obtain ⟨an, han⟩ : ∃ an : Nat, 96 + 4 * (t : Int) = (an : Int) := ⟨96 + 4 * t, by omega⟩
                        have hal : (an : Int) ∈ L := hmem' _ (cel_mem.2 ⟨t, by omega, by omega, by omega⟩)
                        have cs1 : wr.cell? ⟨SB, an, none⟩ = some (.bool true) := by rw [B.cell an, marks_at _ _ _ (by omega), memb_all (by omega) hal]
                        have ha1 : an < 160 := by omega
                        have ha0 : (0 : Int) ≤ (an : Int) := by omega
                        have ha2 : (an : Int) < 160 := by omega
                        go_wp2
                        go_roundw
                        case rel => exact ⟨t + 1, by omega, by go_num, H, B⟩
                        case measure => simp [intOf]; omega
                      case neg =>
                        have hfm : ((pk + i : Nat) : Int) = (m : Int) := by omega
                        go_wp2_with (go_at_call 19; refine (hTraps H).mono ?_; rintro e w9 ⟨rfl, hw9⟩; rw [hw9, q6]; clear hw9 w9)
                        all_goals go_ret
                        all_goals exact ⟨by simp [hfm], H.bel⟩
        · as_aux_lemma =>
            have hN := all_nodup I hid
            have hLn := all_length I hid
            obtain ⟨L, hL⟩ : ∃ L, pre hs 4 ++ l = L := ⟨_, rfl⟩
            have hmem : ∀ a, a ∈ L → a ∈ cel 0 m := fun a ha => (all_mem I hid).1 (hL ▸ ha)
            have hmem' : ∀ a, a ∈ cel 0 m → a ∈ L := fun a ha => hL ▸ (all_mem I hid).2 ha
            have hpl : (pre hs 4).length + l.length = m := by rw [← List.length_append]; exact hLn
            have hget : ∀ k i : Nat, k < 4 → i < (hs k).length → L[(pre hs k).length + i]? = (hs k)[i]? := fun k i hk hi => hL ▸ pre_get hk hi
            have hget4 : ∀ i : Nat, L[(pre hs 4).length + i]? = l[i]? := fun i => hL ▸ pre_rest
            have hll : l.length ≤ m := by omega
            rw [hL] at hN hLn
            have hidle := hid
            have hLst := I.lst
            have hTr := I.traps
            clear hL I Lv hbig hid
            go_upto_region 35 with (fail)
            refine wp_region_lit ?_
            refine wpList_zeros rfl rfl rfl 49 166 19 rfl rfl rfl rfl rfl rfl (marks 160 (memb [])) 160 (by kernel_rfl) (by kernel_rfl) (marks_size _ _) (by kernel_rfl) (by kernel_rfl) (by kernel_rfl) ?_
            refine wpList_nil ?_
            have BS : Blk w (wr.alloc (.cells (marks 160 (memb [])) 49)) wr.heap.size 49 (marks 160 (memb (L.take 0))) := Blk.new H.bel.size _ (by decide)
            have HS := H.alloc (.cells (marks 160 (memb [])) 49)
            have CS := C.below (bal1 (.cells (marks 160 (memb [])) 49))
            generalize wr.alloc (.cells (marks 160 (memb [])) 49) = wS at BS HS CS ⊢
            generalize wr.heap.size = SB at BS ⊢
            clear H C
            go_wp2
            go_loopw [20, 21] (fun fd kv wr => ∃ k : Nat, k ≤ 4 ∧ kv = .int .i64 k ∧ fd = .int .i64 ((pre hs k).length : Int) ∧ Hand w wr b s (100 + j) ∧ Crew w wr PB QB HB jb mp vh hs j ∧ Blk w wr SB 49 (marks 160 (memb (L.take ((pre hs k).length))))) (fun _ kv _ => 4 - (intOf kv).toNat)
            case atStart => exact ⟨0, Nat.zero_le _, rfl, rfl, HS, CS, BS⟩
            case round =>
              obtain ⟨k, hk5, rfl, rfl, H, C, B⟩ := hrel
              clear HS CS BS
              by_cases hk : k < 4
              case pos =>
                have hkb : decide ((k : Int) < 4) = true := by simp; omega
                have cp0 : wr.cell? ⟨PB, k, none⟩ = some (.pointer none) := (C.cp hk).trans (by rw [hidle k hk]; rfl)
                have cq0 : wr.cell? ⟨QB, k, none⟩ = some (.pointer none) := (C.cq hk).trans (by rw [hidle k hk]; rfl)
                obtain ⟨pk, hpk⟩ : ∃ pk, (pre hs k).length = pk := ⟨_, rfl⟩
                obtain ⟨ln, hln⟩ : ∃ ln, (hs k).length = ln := ⟨_, rfl⟩
                have hpk1 : (pre hs (k + 1)).length = pk + ln := by simp [pre, hpk, hln]
                have hlk := C.len k hk
                have hpkm : pk + ln ≤ 1000000 := by
                  have h4 : (pre hs 4).length ≤ m := by omega
                  have : (pre hs (k + 1)).length ≤ (pre hs 4).length := by
                    match k, hk with
                    | 0, _ => simp [pre]
                    | 1, _ => simp [pre]
                    | 2, _ => simp [pre]
                    | 3, _ => exact Nat.le_refl _
                  omega
                rw [hpk] at B
                obtain ⟨ao', cp', hvh, hgr⟩ := (C.row k hk).slice
                rw [hln] at hvh hlk
                have ch0 : wr.cell? ⟨HB, k, none⟩ = some (.slice ao' ln cp') := (C.ch hk).trans (by rw [hvh])
                rw [hpk]
                go_wp2
                go_loopw [20, 22] (fun fd iv wr2 => ∃ i : Nat, i ≤ ln ∧ iv = .int .i64 i ∧ fd = .int .i64 ((pk + i : Nat) : Int) ∧ Hand w wr2 b s (100 + j) ∧ Crew w wr2 PB QB HB jb mp vh hs j ∧ Blk w wr2 SB 49 (marks 160 (memb (L.take (pk + i))))) (fun _ iv _ => ln - (intOf iv).toNat)
                case atStart => exact ⟨0, Nat.zero_le _, rfl, by simp, H, C, B⟩
                case round =>
                  obtain ⟨i, hi5, rfl, rfl, H, C, B⟩ := hrel
                  have ch1 : wr.cell? ⟨HB, k, none⟩ = some (.slice ao' ln cp') := (C.ch hk).trans (by rw [hvh])
                  by_cases hi : i < ln
                  case pos =>
                    obtain ⟨g, rfl⟩ := hgr (fun e => by rw [e] at hln; simp at hln; omega)
                    have hgi := hget k i hk (by omega)
                    rw [hpk] at hgi
                    obtain ⟨x, hx⟩ : ∃ x, (hs k)[i]? = some x := ⟨_, List.getElem?_eq_getElem (by omega)⟩
                    rw [hx] at hgi
                    obtain ⟨an, rfl, ha1, ha2⟩ := cel_nat hm12 (hmem x (List.mem_of_getElem? hgi))
                    have Rk := C.row k hk
                    rw [hvh, ← hln] at Rk
                    have cx : wr.cell? ⟨g, i, none⟩ = some (.int .i64 (an : Int)) := Rk.cell hx
                    have cs1 : wr.cell? ⟨SB, an, none⟩ = some (.bool false) := by rw [B.cell an, marks_at _ _ _ (by omega), memb_new hN hgi]
                    have fs1 := B.free an
                    have B' := B.set an (.bool true)
                    rw [marks_next hgi] at B'
                    have C' := C.setS B an (.bool true) (by decide)
                    have H' := H.set B an (.bool true)
                    clear Rk hgr
                    go_wp2
                    go_roundw
                    case rel => exact ⟨i + 1, by omega, by go_num, by go_num, H', C', B'⟩
                    case measure => simp [intOf]; omega
                  case neg =>
                    have hil : pk + i = pk + ln := by omega
                    have hfd : ((pk + i : Nat) : Int) = ((pre hs (k + 1)).length : Int) := by rw [hpk1, hil]
                    have B' := B
                    rw [hil, ← hpk1] at B'
                    clear hil
                    go_wp2
                    go_roundw
                    case rel => exact ⟨k + 1, by omega, by go_num, by first | rw [← hfd] | (rw [← hfd]; go_num), H, C, B'⟩
                    case measure => simp [intOf]; omega
              case neg =>
                obtain ⟨pk, hpk⟩ : ∃ pk, (pre hs k).length = pk := ⟨_, rfl⟩
                have hpk4 : (pre hs 4).length = pk := by rw [show 4 = k by omega]; exact hpk
                rw [hpk] at B
                rw [hpk4] at hpl hget4
                rw [hpk]
                have hkb : decide ((k : Int) < 4) = false := by simp; omega
                clear hpk hpk4
                have k0 := PopS.ok_new 3
                clear C hget hidle
                go_wp2
                go_loopw [20, 24] (fun fd iv wr3 => ∃ i : Nat, i ≤ l.length ∧ iv = .int .i64 i ∧ fd = .int .i64 ((pk + i : Nat) : Int) ∧ ∃ s', Hand w wr3 b s' (800 + 3 * i) ∧ Lst s' (l.drop i) (v + i) ∧ s'.t = 0 ∧ Blk w wr3 SB 49 (marks 160 (memb (L.take (pk + i))))) (fun _ iv _ => l.length - (intOf iv).toNat)
                case atStart => exact ⟨0, Nat.zero_le _, rfl, by simp, s, H.mono (by omega), hLst, hTr, B⟩
                case round =>
                  obtain ⟨i, hi5, rfl, rfl, s', H, q2, q3, B⟩ := hrel
                  by_cases hi : i < l.length
                  case pos =>
                    have hgi := hget4 i
                    obtain ⟨x, hx⟩ : ∃ x, l[i]? = some x := ⟨_, List.getElem?_eq_getElem hi⟩
                    rw [hx] at hgi
                    rw [drop_cons' hx] at q2
                    obtain ⟨an, rfl, ha1, ha2⟩ := cel_nat hm12 (hmem x (List.mem_of_getElem? hgi))
                    obtain ⟨x1, x2, x3, s1, s2, s3, e1, e2, e3, e4, e5, e6, p1, p2, p3, a1, a2, a3, _, q5, q6, _⟩ := pop_alone q2 (by omega) q3
                    have k1 := k0.next H.rng
                    rw [e1] at k1
                    have r1 := PopS.rng k0 H.rng
                    rw [e2] at r1
                    have k2 := k1.next r1
                    rw [e3] at k2
                    have r2 := PopS.rng k1 r1
                    rw [e4] at r2
                    have k3 := k2.next r2
                    rw [e5] at k3
                    have hib : decide ((i : Int) < 60) = true := by simp; omega
                    clear q2 r1 r2
                    go_wp2_with (go_at_call 14; refine (cNewPop 3 wr).mono ?_; rintro e w4 ⟨rfl, hw4⟩; have h4 : Hand w w4 b s' (800 + 3 * i) := (hw4 ▸ H.alloc _); have B4 : Blk w w4 wr.heap.size 79 (PopS.new 3).cells := (by rw [hw4]; exact Blk.new H.bel.size _ (by decide)); have S4 := B.below (hw4 ▸ bal1 (.cells (PopS.new 3).cells 79)); obtain ⟨p, hp⟩ : ∃ p, wr.heap.size = p := ⟨_, rfl⟩; rw [hp] at B4 ⊢; have nS : SB ∉ [p] := (by simp; exact S4.ne B4 (by decide)); clear hp hw4)
                    refine wp_loop_rounds 4 ?_
                    rw [rounds_succ]
                    go_wp2_with (go_at_call 16; refine (oPop h4 B4 k0 (by omega)).mono ?_; rintro e w5 ⟨rfl, h5, B5, o5⟩; rw [e1] at B5 ⊢; rw [e2] at h5; have S5 := S4.oth o5 nS)
                    rw [rounds_succ]
                    go_wp2_with (go_at_call 16; refine (oPop h5 B5 k1 (by omega)).mono ?_; rintro e w6 ⟨rfl, h6, B6, o6⟩; rw [e3] at B6 ⊢; rw [e4] at h6; have S6 := S5.oth o6 nS)
                    rw [rounds_succ]
                    go_wp2_with (go_at_call 16; refine (oPop h6 B6 k2 (by omega)).mono ?_; rintro e w7 ⟨rfl, h7, B7, o7⟩; rw [e5] at B7 ⊢; rw [e6] at h7; have S7 := S6.oth o7 nS)
                    rw [rounds_succ]
                    go_wp2_with (go_at_call 17; refine (oResult B7 k3).mono ?_; rintro e w8 ⟨rfl, hb8⟩; rw [a3]; have h8 := h7.below hb8; have S8 := S7.below hb8; clear hb8; have cs8 : w8.cell? ⟨SB, an, none⟩ = some (.bool false) := (by rw [S8.cell an, marks_at _ _ _ (by omega), memb_new hN hgi]); have fs8 := S8.free an)
                    have S9 := S8.set an (.bool true)
                    rw [marks_next hgi] at S9
                    have h9 := h8.set S8 an (.bool true)
                    go_roundw
                    case rel => exact ⟨i + 1, by omega, by go_num, by go_num, s3, h9, q5, q6, S9⟩
                    case measure => simp [intOf]; omega
                  case neg =>
                    have he : l.drop i = [] := List.drop_eq_nil_of_le (by omega)
                    rw [he] at q2
                    obtain ⟨x1, e1, e2, p1, a1, a2, q5, q6⟩ := pop_none q2 q3
                    have k1 := k0.next H.rng
                    rw [e1] at k1
                    have hib : decide ((i : Int) < 60) = true := by simp; omega
                    clear q2 he
                    go_wp2_with (go_at_call 14; refine (cNewPop 3 wr).mono ?_; rintro e w4 ⟨rfl, hw4⟩; have h4 : Hand w w4 b s' (800 + 3 * i) := (hw4 ▸ H.alloc _); have B4 : Blk w w4 wr.heap.size 79 (PopS.new 3).cells := (by rw [hw4]; exact Blk.new H.bel.size _ (by decide)); have S4 := B.below (hw4 ▸ bal1 (.cells (PopS.new 3).cells 79)); obtain ⟨p, hp⟩ : ∃ p, wr.heap.size = p := ⟨_, rfl⟩; rw [hp] at B4 ⊢; have nS : SB ∉ [p] := (by simp; exact S4.ne B4 (by decide)); clear hp hw4)
                    refine wp_loop_rounds 4 ?_
                    rw [rounds_succ]
                    go_wp2_with (go_at_call 16; refine (oPop h4 B4 k0 (by omega)).mono ?_; rintro e w5 ⟨rfl, h5, B5, o5⟩; rw [e1] at B5 ⊢; rw [e2] at h5; have S5 := S4.oth o5 nS)
                    rw [rounds_succ]
                    go_wp2_with (go_at_call 16; refine (oPop0 h5 B5 p1).mono ?_; rintro e w6 ⟨rfl, hw6⟩; rw [hw6]; clear hw6 w6)
                    rw [rounds_succ]
                    go_wp2_with (go_at_call 16; refine (oPop0 h5 B5 p1).mono ?_; rintro e w6 ⟨rfl, hw6⟩; rw [hw6]; clear hw6 w6)
                    rw [rounds_succ]
                    go_wp2_with (go_at_call 17; refine (oResult B5 k1).mono ?_; rintro e w8 ⟨rfl, hb8⟩; rw [a1]; have h8 := h5.below hb8; have S8 := S5.below hb8; clear hb8)
                    clear h4 h5 B4 B5 S4 S5 H B
                    go_loopw [29] (fun iv wr4 => ∃ t : Nat, t ≤ m ∧ iv = .int .i64 t ∧ Hand w wr4 b (s'.load 3) (800 + 3 * i + 1) ∧ Blk w wr4 SB 49 (marks 160 (memb (L.take (pk + i))))) (fun iv _ => m - (intOf iv).toNat)
                    case atStart => exact ⟨0, Nat.zero_le _, rfl, h8, S8⟩
                    case round =>
                      obtain ⟨t, ht5, rfl, H, B⟩ := hrel
                      by_cases ht : t < m
                      case pos =>
                        obtain ⟨an, han⟩ : ∃ an : Nat, 96 + 4 * (t : Int) = (an : Int) := ⟨96 + 4 * t, by omega⟩
                        have hal : (an : Int) ∈ L := hmem' _ (cel_mem.2 ⟨t, by omega, by omega, by omega⟩)
                        have cs1 : wr.cell? ⟨SB, an, none⟩ = some (.bool true) := by rw [B.cell an, marks_at _ _ _ (by omega), memb_all (by omega) hal]
                        have ha1 : an < 160 := by omega
                        have ha0 : (0 : Int) ≤ (an : Int) := by omega
                        have ha2 : (an : Int) < 160 := by omega
                        go_wp2
                        go_roundw
                        case rel => exact ⟨t + 1, by omega, by go_num, H, B⟩
                        case measure => simp [intOf]; omega
                      case neg =>
                        have hfm : ((pk + i : Nat) : Int) = (m : Int) := by omega
                        go_wp2_with (go_at_call 19; refine (hTraps H).mono ?_; rintro e w9 ⟨rfl, hw9⟩; rw [hw9, q6]; clear hw9 w9)
                        all_goals go_ret
                        all_goals exact ⟨by simp [hfm], H.bel⟩
end Go.Proofs.YteclgafdflmioaaDoor
