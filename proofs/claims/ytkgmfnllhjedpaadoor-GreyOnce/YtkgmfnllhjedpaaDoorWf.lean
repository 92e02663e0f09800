/-
  The walk of the law on fields that stay.
-/
import Derived.Test.YtkgmfnllhjedpaaDoorGs
import Derived.Test.YtkgmfnllhjedpaaDoorG3
import Derived.Test.YtkgmfnllhjedpaaDoorWm
import Derived.Test.YtkgmfnllhjedpaaDoorOi
import Derived.Test.YtkgmfnllhjedpaaDoorOu
namespace Go.Proofs.YtkgmfnllhjedpaaDoor
set_option linter.unusedVariables false
set_option maxRecDepth 100000
open Go.ChangeShapes Go.WideShapes Go.RowKit
open S.Plain (t0 t1 tw nx)
open H.Plain (hw pS pC pN pM pG pT pL)

theorem laid_base : Base (laidSt 16) := ⟨laid_len, laid_one, fun a ha => by
  obtain ⟨i, hi, rfl⟩ : ∃ i : Nat, i < 16 ∧ a = 96 + 4 * (i : Int) := ⟨((a - 96) / 4).toNat, by obtain ⟨h1, h2, h3⟩ := ha; omega, by obtain ⟨h1, h2, h3⟩ := ha; omega⟩
  exact laid_objs i hi⟩
theorem hdr_of {k : Nat} (h : k < 16) : Hdr (96 + 4 * (k : Int)) := ⟨by omega, by omega, by omega⟩

set_option maxHeartbeats 8000000 in
theorem wGreyFields (ao : Option Addr) (len cap : Nat) (z : Nat → Int) (bo : Option Addr) (ken kap : Nat) (y : Nat → Int) (w : World) (W : H.Wid w) (hl : CameU w ao len z) (ho : CameI w bo ken y) :
    Calls Tryd.prog 7 #[.slice ao len cap, .slice bo ken kap] w fun e w' => e = .returned (.bool true) ∧ Below w.heap.size w w' := by
  go_enter Tryd.func7, Tryd.ntmps7
  go_wp2_with (first
    | (go_at_call 8; refine (cShown w W).mono ?_; rintro e w1 ⟨rfl, hb1⟩)
    | (go_at_call 9; refine (cLaid w1 (W.on hb1)).mono ?_; rintro e w2 ⟨b, yy, rfl, h2⟩; have h3 := h2.one.lift hb1 W; clear h2))
  go_loopw [8] (fun i wr => ∃ j : Nat, j ≤ 48 ∧ j ≤ len ∧ i = .int .i64 j ∧ ∃ s, Hand w wr b s (32 + j) ∧ Base s) (fun i _ => 48 - (intOf i).toNat)
  case atStart => exact ⟨0, Nat.zero_le _, Nat.zero_le _, rfl, _, h3, laid_base⟩
  case round =>
    obtain ⟨j, hj, hjl, rfl, s, q1, q2⟩ := hrel
    clear h3
    by_cases hjn : j < len ∧ j < 48
    case pos =>
      obtain ⟨hj1, hj2⟩ := hjn
      obtain ⟨c, off, rfl, hcb, hcell⟩ := hl.resolve_left (by omega)
      obtain ⟨hcj, hz⟩ := hcell j hj1
      have hcj' : wr.cell? ⟨c, off + j, none⟩ = some (.int .u64 (z j)) := (q1.bel.cell hcb).trans hcj
      obtain ⟨zj, hzj⟩ : ∃ zj, z j = zj := ⟨_, rfl⟩
      rw [hzj] at hz hcj'
      clear hcell hcj hzj
      obtain ⟨a, ha⟩ : ∃ a : Int, 97 + 4 * ((j : Int) / 3) + (j : Int) % 3 = a := ⟨_, rfl⟩
      have a1 : 97 ≤ a ∧ a < 160 ∧ a % 4 ≠ 0 := by omega
      have q3 : Base (s.store a zj) := q2.store ⟨by omega, by omega⟩ (by omega) (fun h => a1.2.2 h.2.2)
      clear a1
      go_wp2_with (go_at_call 25; refine (hStore q1 (by omega) a hz).mono ?_; rintro e w4 ⟨rfl, q4, _⟩)
      go_roundw
      case rel => exact ⟨j + 1, by omega, by omega, by go_num, _, q4, q3⟩
      case measure => simp [intOf]; omega
    case neg =>
      have key : ∀ v0 : Value, True := fun _ => trivial
      by_cases hj1 : j < len
      · have hj2 : ¬ j < 48 := fun h => hjn ⟨hj1, h⟩
        clear hjn hjl key
        go_wp2_with (go_at_call 27; refine (duoClone q1).mono ?_; rintro e w5 ⟨cc, rfl, D5⟩)
        have q6 := q2.tidy
        go_loopw [10] (fun i wr => ∃ k : Nat, k ≤ 30 ∧ k ≤ ken ∧ i = .int .i64 k ∧ ∃ s1, Duo w wr b cc s1 s (80 + 9 * k) ∧ Tidy s s1) (fun i _ => 30 - (intOf i).toNat)
        case atStart => exact ⟨0, Nat.zero_le _, Nat.zero_le _, rfl, _, D5.mono (by omega), q6⟩
        case round =>
          obtain ⟨k, hk, hkl, rfl, s1, D1, T1⟩ := hrel
          clear D5 q6
          by_cases hkn : k < ken ∧ k < 30
          case pos =>
            obtain ⟨hk1, hk2⟩ := hkn
            obtain ⟨c, off, rfl, hcb, hcell⟩ := ho.resolve_left (by omega)
            obtain ⟨hcj, hz1, hz2⟩ := hcell k hk1
            have hcj' : wr.cell? ⟨c, off + k, none⟩ = some (.int .i64 (y k)) := (D1.bel.cell hcb).trans hcj
            obtain ⟨m, hm, hm16⟩ : ∃ m : Nat, kd (y k) 16 = m ∧ m < 16 := kd_nat (y k) 16 (by decide)
            obtain ⟨yk, hyk⟩ : ∃ yk, y k = yk := ⟨_, rfl⟩
            rw [hyk] at hz1 hz2 hcj' hm
            clear hcell hcj hyk
            have ha := hdr_of hm16
            obtain ⟨a, hae⟩ : ∃ a : Int, 96 + 4 * (m : Int) = a := ⟨_, rfl⟩
            rw [hae] at ha
            have x0 := ShadeS.ok_new a 1
            have x0t := ShadeS.tidy_new (m := 1) ha
            have y0 := NextS.ok_new
            have y0t := NextS.tidy_new
            go_wp2_with (first
              | (go_at_call 12; refine (cKind _ yk 16 hz1 hz2 (by decide)).mono ?_; rintro e wk ⟨rfl, hwk⟩; rw [hwk, hm]; clear hwk wk)
              | (go_at_call 16; refine (cNewShade a 1 _).mono ?_; rintro e v1 ⟨rfl, M⟩; have E1 := D1.below M.bel; have X0 := M.blk' D1.bel.size (by decide); obtain ⟨pX, hpX⟩ : ∃ p, wr.heap.size = p := ⟨_, rfl⟩; rw [hpX] at X0 ⊢; clear hpX M)
              | (go_at_call 10; refine (cNewNext _).mono ?_; rintro e v2 ⟨rfl, hM⟩; have M := made_of hM; have E2 := E1.below M.bel; have X1 := X0.below M.bel; have N0 := M.blk' E1.bel.size (by decide); have n1 := blk_ne X0 (Nat.le_refl _); obtain ⟨pN_, hpN⟩ : ∃ p, v1.heap.size = p := ⟨_, rfl⟩; rw [hpN] at N0 n1 ⊢; clear hpN M hM X0 E1))
            refine wp_loop_rounds 6 ?_
            rw [rounds_succ]
            go_wp2_with (go_at_call 18; refine (dShade E2 X1 x0 (by omega) x0t T1).mono ?_; rintro e va0 ⟨xa0, sa0, rfl, Ea0, Xa0, oka0, tda0, Ta0, Oa0⟩; have Na0 := N0.oth Oa0 (by simpa using (Ne.symm n1)); obtain ⟨da0, hd⟩ : ∃ d, (xa0.pc == 0) = d := ⟨_, rfl⟩; rw [hd]; clear hd Oa0 E2 X1 N0 x0 x0t T1)
            rw [rounds_succ]
            go_wp2_with (go_at_call 18; refine (dShade Ea0 Xa0 oka0 (by omega) tda0 Ta0).mono ?_; rintro e va1 ⟨xa1, sa1, rfl, Ea1, Xa1, oka1, tda1, Ta1, Oa1⟩; have Na1 := Na0.oth Oa1 (by simpa using (Ne.symm n1)); obtain ⟨da1, hd⟩ : ∃ d, (xa1.pc == 0) = d := ⟨_, rfl⟩; rw [hd]; clear hd Oa1 Ea0 Xa0 Na0 oka0 tda0 Ta0)
            rw [rounds_succ]
            go_wp2_with (go_at_call 18; refine (dShade Ea1 Xa1 oka1 (by omega) tda1 Ta1).mono ?_; rintro e va2 ⟨xa2, sa2, rfl, Ea2, Xa2, oka2, tda2, Ta2, Oa2⟩; have Na2 := Na1.oth Oa2 (by simpa using (Ne.symm n1)); obtain ⟨da2, hd⟩ : ∃ d, (xa2.pc == 0) = d := ⟨_, rfl⟩; rw [hd]; clear hd Oa2 Ea1 Xa1 Na1 oka1 tda1 Ta1)
            rw [rounds_succ]
            go_wp2_with (go_at_call 18; refine (dShade Ea2 Xa2 oka2 (by omega) tda2 Ta2).mono ?_; rintro e va3 ⟨xa3, sa3, rfl, Ea3, Xa3, oka3, tda3, Ta3, Oa3⟩; have Na3 := Na2.oth Oa3 (by simpa using (Ne.symm n1)); obtain ⟨da3, hd⟩ : ∃ d, (xa3.pc == 0) = d := ⟨_, rfl⟩; rw [hd]; clear hd Oa3 Ea2 Xa2 Na2 oka2 tda2 Ta2)
            rw [rounds_succ]
            go_wp2_with (go_at_call 18; refine (dShade Ea3 Xa3 oka3 (by omega) tda3 Ta3).mono ?_; rintro e va4 ⟨xa4, sa4, rfl, Ea4, Xa4, oka4, tda4, Ta4, Oa4⟩; have Na4 := Na3.oth Oa4 (by simpa using (Ne.symm n1)); obtain ⟨da4, hd⟩ : ∃ d, (xa4.pc == 0) = d := ⟨_, rfl⟩; rw [hd]; clear hd Oa4 Ea3 Xa3 Na3 oka3 tda3 Ta3)
            rw [rounds_succ]
            by_cases hpar : k % 2 = 0
            · have hp2 : ((k : Int) % 2 == 0) = true := by simp; omega
              clear hpar
              go_wp2
              refine wp_loop_rounds 5 ?_
              rw [rounds_succ]
              go_wp2_with (go_at_call 13; refine (dNext Ea4 Na4 y0 (by omega) y0t Ta4).mono ?_; rintro e vb0 ⟨xb0, sb0, rfl, Eb0, Nb0, okb0, tdb0, Tb0, Ob0⟩; obtain ⟨db0, hd⟩ : ∃ d, (xb0.pc == 0) = d := ⟨_, rfl⟩; rw [hd]; clear hd Ob0 Ea4 Na4 y0 y0t Ta4)
              rw [rounds_succ]
              go_wp2_with (go_at_call 13; refine (dNext Eb0 Nb0 okb0 (by omega) tdb0 Tb0).mono ?_; rintro e vb1 ⟨xb1, sb1, rfl, Eb1, Nb1, okb1, tdb1, Tb1, Ob1⟩; obtain ⟨db1, hd⟩ : ∃ d, (xb1.pc == 0) = d := ⟨_, rfl⟩; rw [hd]; clear hd Ob1 Eb0 Nb0 okb0 tdb0 Tb0)
              rw [rounds_succ]
              go_wp2_with (go_at_call 13; refine (dNext Eb1 Nb1 okb1 (by omega) tdb1 Tb1).mono ?_; rintro e vb2 ⟨xb2, sb2, rfl, Eb2, Nb2, okb2, tdb2, Tb2, Ob2⟩; obtain ⟨db2, hd⟩ : ∃ d, (xb2.pc == 0) = d := ⟨_, rfl⟩; rw [hd]; clear hd Ob2 Eb1 Nb1 okb1 tdb1 Tb1)
              rw [rounds_succ]
              go_wp2_with (go_at_call 13; refine (dNext Eb2 Nb2 okb2 (by omega) tdb2 Tb2).mono ?_; rintro e vb3 ⟨xb3, sb3, rfl, Eb3, Nb3, okb3, tdb3, Tb3, Ob3⟩; obtain ⟨db3, hd⟩ : ∃ d, (xb3.pc == 0) = d := ⟨_, rfl⟩; rw [hd]; clear hd Ob3 Eb2 Nb2 okb2 tdb2 Tb2)
              rw [rounds_succ]
              go_wp2
              go_roundw
              case rel => exact ⟨k + 1, by omega, by omega, by go_num, _, (Eb3.mono (by omega)), Tb3⟩
              case measure => simp [intOf]; omega
            · have hp2 : ((k : Int) % 2 == 0) = false := by simp; omega
              clear hpar
              go_wp2
              refine wp_loop_rounds 1 ?_
              rw [rounds_succ]
              go_wp2
              go_roundw
              case rel => exact ⟨k + 1, by omega, by omega, by go_num, _, (Ea4.mono (by omega)), Ta4⟩
              case measure => simp [intOf]; omega
          case neg =>
            by_cases hk1 : k < ken
            · have hk2 : ¬ k < 30 := fun h => hkn ⟨hk1, h⟩
              clear hkn hkl
              go_wp2
              go_loopw [15] (fun i wr => ∃ a : Nat, a ≤ 160 ∧ i = .int .i64 a ∧ ∃ s2 s3, Duo w wr b cc s2 s3 (400 + 2 * a) ∧ s2.ws = s1.ws ∧ s3.ws = s.ws) (fun i _ => 160 - (intOf i).toNat)
              case atStart => exact ⟨0, Nat.zero_le _, rfl, _, _, D1.mono (by omega), rfl, rfl⟩
              case round =>
                obtain ⟨a, ha, rfl, s2, s3, R1, R2, R3⟩ := hrel
                clear D1
                by_cases ha6 : a < 160
                case pos =>
                  by_cases a1 : a = 1
                  · have c1 : ((a : Int) != 1) = false := by simp [a1]
                    clear a1
                    go_wp2
                    go_roundw
                    case rel => exact ⟨a + 1, by omega, by go_num, s2, s3, R1.mono (by omega), R2, R3⟩
                    case measure => simp [intOf]; omega
                  · have c1 : ((a : Int) != 1) = true := by simp; omega
                    by_cases ah : 96 ≤ a ∧ a % 4 = 0
                    · have c2 : decide ((a : Int) < 96) = false := by simp; omega
                      have c3 : ((a : Int) % 4 != 0) = false := by simp; omega
                      clear a1 ah
                      go_wp2
                      go_roundw
                      case rel => exact ⟨a + 1, by omega, by go_num, s2, s3, R1.mono (by omega), R2, R3⟩
                      case measure => simp [intOf]; omega
                    · have ge : s2.got a = s3.got a := by
                        have I : In (a : Int) := ⟨by omega, by omega⟩
                        have e := T1.same a I (by omega) (fun h => ah ⟨by have := h.1; omega, by have := h.2.2; omega⟩)
                        rw [I.got (by rw [R2]; exact T1.len), I.got (by rw [R3]; exact q2.len)]
                        simp only [St.word, R2, R3]
                        exact e
                      obtain ⟨g, hg⟩ : ∃ g, s3.got a = g := ⟨_, rfl⟩
                      rw [hg] at ge
                      by_cases al : a < 96
                      · have c2 : decide ((a : Int) < 96) = true := by simp; omega
                        clear a1 ah al
                        go_wp2_with (first
                          | (go_at_call_of 26 (Value.pointer (some ⟨cc, 0, none⟩)); refine (d2Load R4 (by omega) a).mono ?_; rintro e w9 ⟨rfl, R5, _⟩; rw [hg])
                          | (go_at_call_of 26 (Value.pointer (some ⟨b, 0, none⟩)); refine (d1Load R1 (by omega) a).mono ?_; rintro e w8 ⟨rfl, R4, _⟩; rw [ge]))
                        go_roundw
                        case rel => exact ⟨a + 1, by omega, by go_num, _, _, R5.mono (by omega), R2, R3⟩
                        case measure => simp [intOf]; omega
                      · have c2 : decide ((a : Int) < 96) = false := by simp; omega
                        have c3 : ((a : Int) % 4 != 0) = true := by simp; omega
                        clear a1 ah al
                        go_wp2_with (first
                          | (go_at_call_of 26 (Value.pointer (some ⟨cc, 0, none⟩)); refine (d2Load R4 (by omega) a).mono ?_; rintro e w9 ⟨rfl, R5, _⟩; rw [hg])
                          | (go_at_call_of 26 (Value.pointer (some ⟨b, 0, none⟩)); refine (d1Load R1 (by omega) a).mono ?_; rintro e w8 ⟨rfl, R4, _⟩; rw [ge]))
                        go_roundw
                        case rel => exact ⟨a + 1, by omega, by go_num, _, _, R5.mono (by omega), R2, R3⟩
                        case measure => simp [intOf]; omega
                case neg =>
                  go_wp2
                  go_ret
                  exact ⟨rfl, R1.bel⟩
            · skip
              clear hkn hkl
              go_wp2
              go_loopw [15] (fun i wr => ∃ a : Nat, a ≤ 160 ∧ i = .int .i64 a ∧ ∃ s2 s3, Duo w wr b cc s2 s3 (400 + 2 * a) ∧ s2.ws = s1.ws ∧ s3.ws = s.ws) (fun i _ => 160 - (intOf i).toNat)
              case atStart => exact ⟨0, Nat.zero_le _, rfl, _, _, D1.mono (by omega), rfl, rfl⟩
              case round =>
                obtain ⟨a, ha, rfl, s2, s3, R1, R2, R3⟩ := hrel
                clear D1
                by_cases ha6 : a < 160
                case pos =>
                  by_cases a1 : a = 1
                  · have c1 : ((a : Int) != 1) = false := by simp [a1]
                    clear a1
                    go_wp2
                    go_roundw
                    case rel => exact ⟨a + 1, by omega, by go_num, s2, s3, R1.mono (by omega), R2, R3⟩
                    case measure => simp [intOf]; omega
                  · have c1 : ((a : Int) != 1) = true := by simp; omega
                    by_cases ah : 96 ≤ a ∧ a % 4 = 0
                    · have c2 : decide ((a : Int) < 96) = false := by simp; omega
                      have c3 : ((a : Int) % 4 != 0) = false := by simp; omega
                      clear a1 ah
                      go_wp2
                      go_roundw
                      case rel => exact ⟨a + 1, by omega, by go_num, s2, s3, R1.mono (by omega), R2, R3⟩
                      case measure => simp [intOf]; omega
                    · have ge : s2.got a = s3.got a := by
                        have I : In (a : Int) := ⟨by omega, by omega⟩
                        have e := T1.same a I (by omega) (fun h => ah ⟨by have := h.1; omega, by have := h.2.2; omega⟩)
                        rw [I.got (by rw [R2]; exact T1.len), I.got (by rw [R3]; exact q2.len)]
                        simp only [St.word, R2, R3]
                        exact e
                      obtain ⟨g, hg⟩ : ∃ g, s3.got a = g := ⟨_, rfl⟩
                      rw [hg] at ge
                      by_cases al : a < 96
                      · have c2 : decide ((a : Int) < 96) = true := by simp; omega
                        clear a1 ah al
                        go_wp2_with (first
                          | (go_at_call_of 26 (Value.pointer (some ⟨cc, 0, none⟩)); refine (d2Load R4 (by omega) a).mono ?_; rintro e w9 ⟨rfl, R5, _⟩; rw [hg])
                          | (go_at_call_of 26 (Value.pointer (some ⟨b, 0, none⟩)); refine (d1Load R1 (by omega) a).mono ?_; rintro e w8 ⟨rfl, R4, _⟩; rw [ge]))
                        go_roundw
                        case rel => exact ⟨a + 1, by omega, by go_num, _, _, R5.mono (by omega), R2, R3⟩
                        case measure => simp [intOf]; omega
                      · have c2 : decide ((a : Int) < 96) = false := by simp; omega
                        have c3 : ((a : Int) % 4 != 0) = true := by simp; omega
                        clear a1 ah al
                        go_wp2_with (first
                          | (go_at_call_of 26 (Value.pointer (some ⟨cc, 0, none⟩)); refine (d2Load R4 (by omega) a).mono ?_; rintro e w9 ⟨rfl, R5, _⟩; rw [hg])
                          | (go_at_call_of 26 (Value.pointer (some ⟨b, 0, none⟩)); refine (d1Load R1 (by omega) a).mono ?_; rintro e w8 ⟨rfl, R4, _⟩; rw [ge]))
                        go_roundw
                        case rel => exact ⟨a + 1, by omega, by go_num, _, _, R5.mono (by omega), R2, R3⟩
                        case measure => simp [intOf]; omega
                case neg =>
                  go_wp2
                  go_ret
                  exact ⟨rfl, R1.bel⟩
      · clear hjn hjl key
        go_wp2_with (go_at_call 27; refine (duoClone q1).mono ?_; rintro e w5 ⟨cc, rfl, D5⟩)
        have q6 := q2.tidy
        go_loopw [10] (fun i wr => ∃ k : Nat, k ≤ 30 ∧ k ≤ ken ∧ i = .int .i64 k ∧ ∃ s1, Duo w wr b cc s1 s (80 + 9 * k) ∧ Tidy s s1) (fun i _ => 30 - (intOf i).toNat)
        case atStart => exact ⟨0, Nat.zero_le _, Nat.zero_le _, rfl, _, D5.mono (by omega), q6⟩
        case round =>
          obtain ⟨k, hk, hkl, rfl, s1, D1, T1⟩ := hrel
          clear D5 q6
          by_cases hkn : k < ken ∧ k < 30
          case pos =>
            obtain ⟨hk1, hk2⟩ := hkn
            obtain ⟨c, off, rfl, hcb, hcell⟩ := ho.resolve_left (by omega)
            obtain ⟨hcj, hz1, hz2⟩ := hcell k hk1
            have hcj' : wr.cell? ⟨c, off + k, none⟩ = some (.int .i64 (y k)) := (D1.bel.cell hcb).trans hcj
            obtain ⟨m, hm, hm16⟩ : ∃ m : Nat, kd (y k) 16 = m ∧ m < 16 := kd_nat (y k) 16 (by decide)
            obtain ⟨yk, hyk⟩ : ∃ yk, y k = yk := ⟨_, rfl⟩
            rw [hyk] at hz1 hz2 hcj' hm
            clear hcell hcj hyk
            have ha := hdr_of hm16
            obtain ⟨a, hae⟩ : ∃ a : Int, 96 + 4 * (m : Int) = a := ⟨_, rfl⟩
            rw [hae] at ha
            have x0 := ShadeS.ok_new a 1
            have x0t := ShadeS.tidy_new (m := 1) ha
            have y0 := NextS.ok_new
            have y0t := NextS.tidy_new
            go_wp2_with (first
              | (go_at_call 12; refine (cKind _ yk 16 hz1 hz2 (by decide)).mono ?_; rintro e wk ⟨rfl, hwk⟩; rw [hwk, hm]; clear hwk wk)
              | (go_at_call 16; refine (cNewShade a 1 _).mono ?_; rintro e v1 ⟨rfl, M⟩; have E1 := D1.below M.bel; have X0 := M.blk' D1.bel.size (by decide); obtain ⟨pX, hpX⟩ : ∃ p, wr.heap.size = p := ⟨_, rfl⟩; rw [hpX] at X0 ⊢; clear hpX M)
              | (go_at_call 10; refine (cNewNext _).mono ?_; rintro e v2 ⟨rfl, hM⟩; have M := made_of hM; have E2 := E1.below M.bel; have X1 := X0.below M.bel; have N0 := M.blk' E1.bel.size (by decide); have n1 := blk_ne X0 (Nat.le_refl _); obtain ⟨pN_, hpN⟩ : ∃ p, v1.heap.size = p := ⟨_, rfl⟩; rw [hpN] at N0 n1 ⊢; clear hpN M hM X0 E1))
            refine wp_loop_rounds 6 ?_
            rw [rounds_succ]
            go_wp2_with (go_at_call 18; refine (dShade E2 X1 x0 (by omega) x0t T1).mono ?_; rintro e va0 ⟨xa0, sa0, rfl, Ea0, Xa0, oka0, tda0, Ta0, Oa0⟩; have Na0 := N0.oth Oa0 (by simpa using (Ne.symm n1)); obtain ⟨da0, hd⟩ : ∃ d, (xa0.pc == 0) = d := ⟨_, rfl⟩; rw [hd]; clear hd Oa0 E2 X1 N0 x0 x0t T1)
            rw [rounds_succ]
            go_wp2_with (go_at_call 18; refine (dShade Ea0 Xa0 oka0 (by omega) tda0 Ta0).mono ?_; rintro e va1 ⟨xa1, sa1, rfl, Ea1, Xa1, oka1, tda1, Ta1, Oa1⟩; have Na1 := Na0.oth Oa1 (by simpa using (Ne.symm n1)); obtain ⟨da1, hd⟩ : ∃ d, (xa1.pc == 0) = d := ⟨_, rfl⟩; rw [hd]; clear hd Oa1 Ea0 Xa0 Na0 oka0 tda0 Ta0)
            rw [rounds_succ]
            go_wp2_with (go_at_call 18; refine (dShade Ea1 Xa1 oka1 (by omega) tda1 Ta1).mono ?_; rintro e va2 ⟨xa2, sa2, rfl, Ea2, Xa2, oka2, tda2, Ta2, Oa2⟩; have Na2 := Na1.oth Oa2 (by simpa using (Ne.symm n1)); obtain ⟨da2, hd⟩ : ∃ d, (xa2.pc == 0) = d := ⟨_, rfl⟩; rw [hd]; clear hd Oa2 Ea1 Xa1 Na1 oka1 tda1 Ta1)
            rw [rounds_succ]
            go_wp2_with (go_at_call 18; refine (dShade Ea2 Xa2 oka2 (by omega) tda2 Ta2).mono ?_; rintro e va3 ⟨xa3, sa3, rfl, Ea3, Xa3, oka3, tda3, Ta3, Oa3⟩; have Na3 := Na2.oth Oa3 (by simpa using (Ne.symm n1)); obtain ⟨da3, hd⟩ : ∃ d, (xa3.pc == 0) = d := ⟨_, rfl⟩; rw [hd]; clear hd Oa3 Ea2 Xa2 Na2 oka2 tda2 Ta2)
            rw [rounds_succ]
            go_wp2_with (go_at_call 18; refine (dShade Ea3 Xa3 oka3 (by omega) tda3 Ta3).mono ?_; rintro e va4 ⟨xa4, sa4, rfl, Ea4, Xa4, oka4, tda4, Ta4, Oa4⟩; have Na4 := Na3.oth Oa4 (by simpa using (Ne.symm n1)); obtain ⟨da4, hd⟩ : ∃ d, (xa4.pc == 0) = d := ⟨_, rfl⟩; rw [hd]; clear hd Oa4 Ea3 Xa3 Na3 oka3 tda3 Ta3)
            rw [rounds_succ]
            by_cases hpar : k % 2 = 0
            · have hp2 : ((k : Int) % 2 == 0) = true := by simp; omega
              clear hpar
              go_wp2
              refine wp_loop_rounds 5 ?_
              rw [rounds_succ]
              go_wp2_with (go_at_call 13; refine (dNext Ea4 Na4 y0 (by omega) y0t Ta4).mono ?_; rintro e vb0 ⟨xb0, sb0, rfl, Eb0, Nb0, okb0, tdb0, Tb0, Ob0⟩; obtain ⟨db0, hd⟩ : ∃ d, (xb0.pc == 0) = d := ⟨_, rfl⟩; rw [hd]; clear hd Ob0 Ea4 Na4 y0 y0t Ta4)
              rw [rounds_succ]
              go_wp2_with (go_at_call 13; refine (dNext Eb0 Nb0 okb0 (by omega) tdb0 Tb0).mono ?_; rintro e vb1 ⟨xb1, sb1, rfl, Eb1, Nb1, okb1, tdb1, Tb1, Ob1⟩; obtain ⟨db1, hd⟩ : ∃ d, (xb1.pc == 0) = d := ⟨_, rfl⟩; rw [hd]; clear hd Ob1 Eb0 Nb0 okb0 tdb0 Tb0)
              rw [rounds_succ]
              go_wp2_with (go_at_call 13; refine (dNext Eb1 Nb1 okb1 (by omega) tdb1 Tb1).mono ?_; rintro e vb2 ⟨xb2, sb2, rfl, Eb2, Nb2, okb2, tdb2, Tb2, Ob2⟩; obtain ⟨db2, hd⟩ : ∃ d, (xb2.pc == 0) = d := ⟨_, rfl⟩; rw [hd]; clear hd Ob2 Eb1 Nb1 okb1 tdb1 Tb1)
              rw [rounds_succ]
              go_wp2_with (go_at_call 13; refine (dNext Eb2 Nb2 okb2 (by omega) tdb2 Tb2).mono ?_; rintro e vb3 ⟨xb3, sb3, rfl, Eb3, Nb3, okb3, tdb3, Tb3, Ob3⟩; obtain ⟨db3, hd⟩ : ∃ d, (xb3.pc == 0) = d := ⟨_, rfl⟩; rw [hd]; clear hd Ob3 Eb2 Nb2 okb2 tdb2 Tb2)
              rw [rounds_succ]
              go_wp2
              go_roundw
              case rel => exact ⟨k + 1, by omega, by omega, by go_num, _, (Eb3.mono (by omega)), Tb3⟩
              case measure => simp [intOf]; omega
            · have hp2 : ((k : Int) % 2 == 0) = false := by simp; omega
              clear hpar
              go_wp2
              refine wp_loop_rounds 1 ?_
              rw [rounds_succ]
              go_wp2
              go_roundw
              case rel => exact ⟨k + 1, by omega, by omega, by go_num, _, (Ea4.mono (by omega)), Ta4⟩
              case measure => simp [intOf]; omega
          case neg =>
            by_cases hk1 : k < ken
            · have hk2 : ¬ k < 30 := fun h => hkn ⟨hk1, h⟩
              clear hkn hkl
              go_wp2
              go_loopw [15] (fun i wr => ∃ a : Nat, a ≤ 160 ∧ i = .int .i64 a ∧ ∃ s2 s3, Duo w wr b cc s2 s3 (400 + 2 * a) ∧ s2.ws = s1.ws ∧ s3.ws = s.ws) (fun i _ => 160 - (intOf i).toNat)
              case atStart => exact ⟨0, Nat.zero_le _, rfl, _, _, D1.mono (by omega), rfl, rfl⟩
              case round =>
                obtain ⟨a, ha, rfl, s2, s3, R1, R2, R3⟩ := hrel
                clear D1
                by_cases ha6 : a < 160
                case pos =>
                  by_cases a1 : a = 1
                  · have c1 : ((a : Int) != 1) = false := by simp [a1]
                    clear a1
                    go_wp2
                    go_roundw
                    case rel => exact ⟨a + 1, by omega, by go_num, s2, s3, R1.mono (by omega), R2, R3⟩
                    case measure => simp [intOf]; omega
                  · have c1 : ((a : Int) != 1) = true := by simp; omega
                    by_cases ah : 96 ≤ a ∧ a % 4 = 0
                    · have c2 : decide ((a : Int) < 96) = false := by simp; omega
                      have c3 : ((a : Int) % 4 != 0) = false := by simp; omega
                      clear a1 ah
                      go_wp2
                      go_roundw
                      case rel => exact ⟨a + 1, by omega, by go_num, s2, s3, R1.mono (by omega), R2, R3⟩
                      case measure => simp [intOf]; omega
                    · have ge : s2.got a = s3.got a := by
                        have I : In (a : Int) := ⟨by omega, by omega⟩
                        have e := T1.same a I (by omega) (fun h => ah ⟨by have := h.1; omega, by have := h.2.2; omega⟩)
                        rw [I.got (by rw [R2]; exact T1.len), I.got (by rw [R3]; exact q2.len)]
                        simp only [St.word, R2, R3]
                        exact e
                      obtain ⟨g, hg⟩ : ∃ g, s3.got a = g := ⟨_, rfl⟩
                      rw [hg] at ge
                      by_cases al : a < 96
                      · have c2 : decide ((a : Int) < 96) = true := by simp; omega
                        clear a1 ah al
                        go_wp2_with (first
                          | (go_at_call_of 26 (Value.pointer (some ⟨cc, 0, none⟩)); refine (d2Load R4 (by omega) a).mono ?_; rintro e w9 ⟨rfl, R5, _⟩; rw [hg])
                          | (go_at_call_of 26 (Value.pointer (some ⟨b, 0, none⟩)); refine (d1Load R1 (by omega) a).mono ?_; rintro e w8 ⟨rfl, R4, _⟩; rw [ge]))
                        go_roundw
                        case rel => exact ⟨a + 1, by omega, by go_num, _, _, R5.mono (by omega), R2, R3⟩
                        case measure => simp [intOf]; omega
                      · have c2 : decide ((a : Int) < 96) = false := by simp; omega
                        have c3 : ((a : Int) % 4 != 0) = true := by simp; omega
                        clear a1 ah al
                        go_wp2_with (first
                          | (go_at_call_of 26 (Value.pointer (some ⟨cc, 0, none⟩)); refine (d2Load R4 (by omega) a).mono ?_; rintro e w9 ⟨rfl, R5, _⟩; rw [hg])
                          | (go_at_call_of 26 (Value.pointer (some ⟨b, 0, none⟩)); refine (d1Load R1 (by omega) a).mono ?_; rintro e w8 ⟨rfl, R4, _⟩; rw [ge]))
                        go_roundw
                        case rel => exact ⟨a + 1, by omega, by go_num, _, _, R5.mono (by omega), R2, R3⟩
                        case measure => simp [intOf]; omega
                case neg =>
                  go_wp2
                  go_ret
                  exact ⟨rfl, R1.bel⟩
            · skip
              clear hkn hkl
              go_wp2
              go_loopw [15] (fun i wr => ∃ a : Nat, a ≤ 160 ∧ i = .int .i64 a ∧ ∃ s2 s3, Duo w wr b cc s2 s3 (400 + 2 * a) ∧ s2.ws = s1.ws ∧ s3.ws = s.ws) (fun i _ => 160 - (intOf i).toNat)
              case atStart => exact ⟨0, Nat.zero_le _, rfl, _, _, D1.mono (by omega), rfl, rfl⟩
              case round =>
                obtain ⟨a, ha, rfl, s2, s3, R1, R2, R3⟩ := hrel
                clear D1
                by_cases ha6 : a < 160
                case pos =>
                  by_cases a1 : a = 1
                  · have c1 : ((a : Int) != 1) = false := by simp [a1]
                    clear a1
                    go_wp2
                    go_roundw
                    case rel => exact ⟨a + 1, by omega, by go_num, s2, s3, R1.mono (by omega), R2, R3⟩
                    case measure => simp [intOf]; omega
                  · have c1 : ((a : Int) != 1) = true := by simp; omega
                    by_cases ah : 96 ≤ a ∧ a % 4 = 0
                    · have c2 : decide ((a : Int) < 96) = false := by simp; omega
                      have c3 : ((a : Int) % 4 != 0) = false := by simp; omega
                      clear a1 ah
                      go_wp2
                      go_roundw
                      case rel => exact ⟨a + 1, by omega, by go_num, s2, s3, R1.mono (by omega), R2, R3⟩
                      case measure => simp [intOf]; omega
                    · have ge : s2.got a = s3.got a := by
                        have I : In (a : Int) := ⟨by omega, by omega⟩
                        have e := T1.same a I (by omega) (fun h => ah ⟨by have := h.1; omega, by have := h.2.2; omega⟩)
                        rw [I.got (by rw [R2]; exact T1.len), I.got (by rw [R3]; exact q2.len)]
                        simp only [St.word, R2, R3]
                        exact e
                      obtain ⟨g, hg⟩ : ∃ g, s3.got a = g := ⟨_, rfl⟩
                      rw [hg] at ge
                      by_cases al : a < 96
                      · have c2 : decide ((a : Int) < 96) = true := by simp; omega
                        clear a1 ah al
                        go_wp2_with (first
                          | (go_at_call_of 26 (Value.pointer (some ⟨cc, 0, none⟩)); refine (d2Load R4 (by omega) a).mono ?_; rintro e w9 ⟨rfl, R5, _⟩; rw [hg])
                          | (go_at_call_of 26 (Value.pointer (some ⟨b, 0, none⟩)); refine (d1Load R1 (by omega) a).mono ?_; rintro e w8 ⟨rfl, R4, _⟩; rw [ge]))
                        go_roundw
                        case rel => exact ⟨a + 1, by omega, by go_num, _, _, R5.mono (by omega), R2, R3⟩
                        case measure => simp [intOf]; omega
                      · have c2 : decide ((a : Int) < 96) = false := by simp; omega
                        have c3 : ((a : Int) % 4 != 0) = true := by simp; omega
                        clear a1 ah al
                        go_wp2_with (first
                          | (go_at_call_of 26 (Value.pointer (some ⟨cc, 0, none⟩)); refine (d2Load R4 (by omega) a).mono ?_; rintro e w9 ⟨rfl, R5, _⟩; rw [hg])
                          | (go_at_call_of 26 (Value.pointer (some ⟨b, 0, none⟩)); refine (d1Load R1 (by omega) a).mono ?_; rintro e w8 ⟨rfl, R4, _⟩; rw [ge]))
                        go_roundw
                        case rel => exact ⟨a + 1, by omega, by go_num, _, _, R5.mono (by omega), R2, R3⟩
                        case measure => simp [intOf]; omega
                case neg =>
                  go_wp2
                  go_ret
                  exact ⟨rfl, R1.bel⟩
end Go.Proofs.YtkgmfnllhjedpaaDoor

