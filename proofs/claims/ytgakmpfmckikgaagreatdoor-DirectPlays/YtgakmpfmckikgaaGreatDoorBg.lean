/-
  A worker begins an access: program's and reference's machine are made.
-/
import Derived.Test.YtgakmpfmckikgaaGreatDoorRe
import Derived.Test.YtgakmpfmckikgaaGreatDoorOb
import Derived.Test.YtgakmpfmckikgaaGreatDoorDs3
import Derived.Test.YtgakmpfmckikgaaGreatDoorHand
import Derived.Deep.Cut
namespace Go.Proofs.YtgakmpfmckikgaaGreatDoor
set_option linter.unusedVariables false
set_option linter.unusedSimpArgs false
set_option maxRecDepth 100000
open Go.ChangeShapes Go.WideShapes Go.RowKit

def atP (q : Op7) : Int := if kd q.o 17 = 16 then 0 else 96 + 4 * kd q.o 17
def baseP (q : Op7) : Int := 96 + 4 * (kd q.o 17 % 16)
def rqP (q : Op7) (a f : Int) : Rq := ⟨1 + kd q.a 3, a, f, valP q.x, valP q.y⟩
def hwP (q : Op7) : Hw := ⟨kd q.b 16 % 2 == 1, kd q.b 16 / 2 % 2 == 1, kd q.b 16 / 4 % 2 == 1, kd q.b 16 / 8⟩
def enP (q : Op7) : En := ⟨kd q.b 16 % 5, kd q.b 16 / 8, 0⟩
section
variable {w0 w w' : World} {WB o : Nat} {TW : TypeId} {cs : Array Value}
/-- a store into a worker's block -/
theorem Blk.put (B : Blk w0 w WB TW cs) (i : Nat) (hi : i < cs.size) (v : Value) : ∃ cs', Blk w0 (w.setCell ⟨WB, i, none⟩ v) WB TW cs' ∧ cs'.size = cs.size ∧ cs'[i]? = some v ∧ ∀ j, j ≠ i → cs'[j]? = cs[j]? :=
  ⟨_, B.set i v, by simp, by simp [hi], fun j hj => by rw [Array.getElem?_setIfInBounds]; simp [Ne.symm hj]⟩
theorem Blk.any (B : Blk w0 w WB TW cs) (i : Nat) (hi : i < cs.size) : ∃ v, w.cell? ⟨WB, i, none⟩ = some v ∧ w.frozen? ⟨WB, i, none⟩ = false := ⟨cs[i], (B.cell i).trans (Array.getElem?_eq_getElem hi), B.free i⟩
/-- what a worker's six cells are behind it: of the kind k the machine at p, the reference's at p' -/
structure Six (cs cs' : Array Value) (o k p p' : Nat) : Prop where
  size : cs'.size = cs.size
  one : cs'[o + k]? = some (pt p)
  two : cs'[o + 3 + k]? = some (pt p')
  nil : ∀ j, j < 3 → j ≠ k → cs'[o + j]? = some (.pointer none)
  other : ∀ j, j < o ∨ o + 6 ≤ j → cs'[j]? = cs[j]?
structure Begun (w0 w w' : World) (WB : Nat) (TW : TypeId) (cs : Array Value) (o k : Nat) (T T' : TypeId) (x : Sx) (c : Array Value) : Prop where
  kept : Kept [WB] w w'
  it : ∃ p p' cs', Mx w0 w' p T x ∧ Blk w0 w' p' T' c ∧ Blk w0 w' WB TW cs' ∧ Six cs cs' o k p p' ∧ w.heap.size ≤ p ∧ w.heap.size ≤ p'
theorem six2 {o p p' : Nat} {cs c2 c3 c4 c7 c10 : Array Value} (ho : o + 6 ≤ cs.size) (s2 : c2.size = cs.size) (a2 : c2[o]? = some (.pointer none)) (t2 : ∀ j, j ≠ o → c2[j]? = cs[j]?)
    (s3 : c3.size = c2.size) (a3 : c3[o + 1]? = some (.pointer none)) (t3 : ∀ j, j ≠ o + 1 → c3[j]? = c2[j]?) (s4 : c4.size = c3.size) (a4 : c4[o + 2]? = some (.pointer none)) (t4 : ∀ j, j ≠ o + 2 → c4[j]? = c3[j]?)
    (s7 : c7.size = c4.size) {k : Nat} (hk : k < 3) (a7 : c7[o + k]? = some (pt p)) (t7 : ∀ j, j ≠ o + k → c7[j]? = c4[j]?) (s10 : c10.size = c7.size) (a10 : c10[o + 3 + k]? = some (pt p')) (t10 : ∀ j, j ≠ o + 3 + k → c10[j]? = c7[j]?) : Six cs c10 o k p p' := by
  refine ⟨by omega, (t10 _ (by omega)).trans a7, a10, fun j h1 h2 => ?_, fun j hj => ?_⟩
  · rw [t10 _ (by omega), t7 _ (by omega)]
    have : j = 0 ∨ j = 1 ∨ j = 2 := by omega
    rcases this with rfl | rfl | rfl
    · rw [t4 _ (by omega), t3 _ (by omega)]; exact a2
    · rw [t4 _ (by omega)]; exact a3
    · exact a4
  · rw [t10 _ (by omega), t7 _ (by omega), t4 _ (by omega), t3 _ (by omega), t2 _ (by omega)]
end
set_option maxHeartbeats 8000000 in
theorem cBegin {w0 w : World} {WB o : Nat} {TW : TypeId} {cs : Array Value} {q : Op7} (f : q.Fit) (B : Blk w0 w WB TW cs) (ho : o + 6 ≤ cs.size) (hTB : TW ∉ BTs) (hT1 : TW ≠ 47) (hT2 : TW ≠ 103 ∧ TW ≠ 104 ∧ TW ≠ 108) (hT3 : TW ≠ 85 ∧ TW ≠ 87 ∧ TW ≠ 89) :
    Calls Tryz.prog 7 #[.pointer (some ⟨WB, o, none⟩), .agg q.cells] w fun e w' => e = .returned (.bool true) ∧ (kd q.k 3 = 0 → Begun w0 w w' WB TW cs o 0 103 85 (Sx.new (baseP q + 1 + kd q.f 3) (rqP q (baseP q) (kd q.f 3)) (hwP q)) (RD.new (baseP q + 1 + kd q.f 3) (rqP q (baseP q) (kd q.f 3)) (hwP q)).cells) ∧ (kd q.k 3 = 1 → Begun w0 w w' WB TW cs o 1 104 87 (Sx.plain (rqP q (atP q) q.f) (enP q)) (RP.new (rqP q (atP q) q.f) (enP q)).cells) ∧ (kd q.k 3 = 2 → Begun w0 w w' WB TW cs o 2 108 89 (Sx.same (atP q) (valP q.y).n) (RS.new (atP q) (valP q.y).n).cells) := by
  have hs : w0.heap.size ≤ w.heap.size := Nat.le_trans B.old (Nat.le_of_lt B.lt)
  have k1 := kd_lt q.o 17 (by decide)
  have k2 := kd_lt q.b 16 (by decide)
  have k3 := kd_lt q.a 3 (by decide)
  have k4 := kd_lt q.f 3 (by decide)
  have hTR : TW ≠ 54 := fun e => hTB (by rw [e]; decide)
  have hTE : TW ≠ 59 := fun e => hTB (by rw [e]; decide)
  obtain ⟨ko, hko⟩ : ∃ v, kd q.o 17 = v := ⟨_, rfl⟩
  obtain ⟨kb, hkb⟩ : ∃ v, kd q.b 16 = v := ⟨_, rfl⟩
  obtain ⟨ka, hka⟩ : ∃ v, kd q.a 3 = v := ⟨_, rfl⟩
  obtain ⟨kf, hkf⟩ : ∃ v, kd q.f 3 = v := ⟨_, rfl⟩
  obtain ⟨vx, hvx⟩ : ∃ v, valP q.x = v := ⟨_, rfl⟩
  obtain ⟨vy, hvy⟩ : ∃ v, valP q.y = v := ⟨_, rfl⟩
  obtain ⟨fa, hfa⟩ : ∃ v, atP q = v := ⟨_, rfl⟩
  have hat : fa = if ko = 16 then 0 else 96 + 4 * ko := by rw [← hfa, atP, hko]
  rw [hko] at k1
  rw [hkb] at k2
  rw [hka] at k3
  rw [hkf] at k4
  simp only [baseP, rqP, hwP, enP, hko, hkb, hka, hkf, hvx, hvy, hfa]
  unfold Op7.cells
  go_enter Tryz.func7, Tryz.ntmps7
  go_upto_region 1 with (fail)
  have Kw1 : Kept [WB] w (w.alloc (.cells #[.int .i64 q.k, .int .i64 q.b, .int .i64 q.o, .int .i64 q.f, .int .i64 q.a, .int .i64 q.x.k, .int .i64 q.x.n, .int .i64 q.y.k, .int .i64 q.y.n] 47)) := Kept.alloc _ _ _
  have OB1 : Blk w0 (w.alloc (.cells #[.int .i64 q.k, .int .i64 q.b, .int .i64 q.o, .int .i64 q.f, .int .i64 q.a, .int .i64 q.x.k, .int .i64 q.x.n, .int .i64 q.y.k, .int .i64 q.y.n] 47)) w.heap.size 47 #[.int .i64 q.k, .int .i64 q.b, .int .i64 q.o, .int .i64 q.f, .int .i64 q.a, .int .i64 q.x.k, .int .i64 q.x.n, .int .i64 q.y.k, .int .i64 q.y.n] := Blk.new hs _ (by decide)
  have B1 := B.below ((Below.refl _ w).alloc (Nat.le_refl _) (.cells #[.int .i64 q.k, .int .i64 q.b, .int .i64 q.o, .int .i64 q.f, .int .i64 q.a, .int .i64 q.x.k, .int .i64 q.x.n, .int .i64 q.y.k, .int .i64 q.y.n] 47))
  have hsz : w.heap.size < (w.alloc (.cells #[.int .i64 q.k, .int .i64 q.b, .int .i64 q.o, .int .i64 q.f, .int .i64 q.a, .int .i64 q.x.k, .int .i64 q.x.n, .int .i64 q.y.k, .int .i64 q.y.n] 47)).heap.size := by simp
  generalize w.alloc (.cells #[.int .i64 q.k, .int .i64 q.b, .int .i64 q.o, .int .i64 q.f, .int .i64 q.a, .int .i64 q.x.k, .int .i64 q.x.n, .int .i64 q.y.k, .int .i64 q.y.n] 47) = w1 at Kw1 OB1 B1 hsz ⊢
  obtain ⟨ob, hob⟩ : ∃ ob, w.heap.size = ob := ⟨_, rfl⟩
  rw [hob] at OB1 hsz ⊢
  obtain ⟨x0, xc0, xf0⟩ := B1.any (o) (by omega)
  go_upto_region 2 with (fail)
  clear xc0 xf0
  obtain ⟨cs2, B2, szcs2, atcs2, otcs2⟩ := B1.put (o) (by omega) (.pointer none)
  have Kw2 : Kept [WB] w (w1.setCell ⟨WB, o, none⟩ (.pointer none)) := Kw1.trans (Kept.setCell [WB] _ _ _ (by simp)) (fun _ h => .inl h)
  have oow2 : Oth [WB] w1 (w1.setCell ⟨WB, o, none⟩ (.pointer none)) := Oth.set _ _ _ _ (by simp)
  have OB2 := OB1.oth oow2 (by simpa using OB1.ne B1 (Ne.symm hT1))
  clear oow2
  generalize w1.setCell ⟨WB, o, none⟩ (.pointer none) = w2 at B2 Kw2 OB2 ⊢
  obtain ⟨x1, xc1, xf1⟩ := B2.any (o + 1) (by omega)
  go_upto_region 3 with (fail)
  clear xc1 xf1
  obtain ⟨cs3, B3, szcs3, atcs3, otcs3⟩ := B2.put (o + 1) (by omega) (.pointer none)
  have Kw3 : Kept [WB] w (w2.setCell ⟨WB, o + 1, none⟩ (.pointer none)) := Kw2.trans (Kept.setCell [WB] _ _ _ (by simp)) (fun _ h => .inl h)
  have oow3 : Oth [WB] w2 (w2.setCell ⟨WB, o + 1, none⟩ (.pointer none)) := Oth.set _ _ _ _ (by simp)
  have OB3 := OB2.oth oow3 (by simpa using OB2.ne B2 (Ne.symm hT1))
  clear oow3
  generalize w2.setCell ⟨WB, o + 1, none⟩ (.pointer none) = w3 at B3 Kw3 OB3 ⊢
  obtain ⟨x2, xc2, xf2⟩ := B3.any (o + 2) (by omega)
  go_upto_region 4 with (fail)
  clear xc2 xf2
  obtain ⟨cs4, B4, szcs4, atcs4, otcs4⟩ := B3.put (o + 2) (by omega) (.pointer none)
  have Kw4 : Kept [WB] w (w3.setCell ⟨WB, o + 2, none⟩ (.pointer none)) := Kw3.trans (Kept.setCell [WB] _ _ _ (by simp)) (fun _ h => .inl h)
  have oow4 : Oth [WB] w3 (w3.setCell ⟨WB, o + 2, none⟩ (.pointer none)) := Oth.set _ _ _ _ (by simp)
  have OB4 := OB3.oth oow4 (by simpa using OB3.ne B3 (Ne.symm hT1))
  clear oow4
  generalize w3.setCell ⟨WB, o + 2, none⟩ (.pointer none) = w4 at B4 Kw4 OB4 ⊢
  have c0 : w4.cell? ⟨ob, 0, none⟩ = some (.int .i64 q.k) := OB4.cell 0
  have c1 : w4.cell? ⟨ob, 1, none⟩ = some (.int .i64 q.b) := OB4.cell 1
  have c2 : w4.cell? ⟨ob, 2, none⟩ = some (.int .i64 q.o) := OB4.cell 2
  have c3 : w4.cell? ⟨ob, 3, none⟩ = some (.int .i64 q.f) := OB4.cell 3
  have c4 : w4.cell? ⟨ob, 4, none⟩ = some (.int .i64 q.a) := OB4.cell 4
  have c5 : w4.cell? ⟨ob, 5, none⟩ = some (.int .i64 q.x.k) := OB4.cell 5
  have c6 : w4.cell? ⟨ob, 6, none⟩ = some (.int .i64 q.x.n) := OB4.cell 6
  have c7 : w4.cell? ⟨ob, 7, none⟩ = some (.int .i64 q.y.k) := OB4.cell 7
  have c8 : w4.cell? ⟨ob, 8, none⟩ = some (.int .i64 q.y.n) := OB4.cell 8
  have cl := OB4.lt
  have hsz4 : ob < w4.heap.size := OB4.lt
  have ew1 : IntKind.i64.wrap (1 + ka) = 1 + ka := by rw [IntKind.wrap_i64]; omega
  have hfa16 : ko = 16 ∧ fa = 0 ∨ ko ≠ 16 ∧ fa = 96 + 4 * ko := by rw [hat]; split; exact .inl ⟨by assumption, rfl⟩; exact .inr ⟨by assumption, rfl⟩
  clear hat
  go_upto_if 26 with (go_at_call 6; refine (cKind _ q.o 17 f.o.1 f.o.2 (by decide)).mono ?_; rintro e wk ⟨rfl, hwk⟩; rw [hwk, hko]; clear hwk wk)
  go_cut [6] from 27 (fun c wx => c = .int .i64 fa ∧ wx = w4)
  case first =>
    rcases hfa16 with ⟨h16, h16a⟩ | ⟨h16, h16a⟩
    · have d16 : (ko == 16) = true := by simpa using h16
      clear h16
      go_wp2
      go_meet
      case rel => exact ⟨by rw [h16a], rfl⟩
    · have d16 : (ko == 16) = false := by simpa using h16
      clear h16
      go_wp2
      go_meet
      case rel => exact ⟨by rw [h16a], rfl⟩
  case rest =>
    obtain ⟨hcu1, hcu2⟩ := hcut
    rw [hcu1, hcu2]
    clear hcu1 hcu2
    go_upto_region 9 with (go_at_call 6; refine (cKind _ q.b 16 f.b.1 f.b.2 (by decide)).mono ?_; rintro e wk ⟨rfl, hwk⟩; rw [hwk, hkb]; clear hwk wk)
    go_cut [8] from 30 (fun c wx => ∃ n8, c = pt n8 ∧ w4.heap.size ≤ n8 ∧ Blk w0 wx n8 54 #[.int .i64 (1 + ka), .int .i64 fa, .int .i64 kf, .int .i64 vx.k, .int .i64 vx.n, .int .i64 vy.k, .int .i64 vy.n] ∧ Below w4.heap.size w4 wx)
    case first =>
      have keep : ∀ w', Below w4.heap.size w4 w' → w'.cell? ⟨ob, 0, none⟩ = some (.int .i64 q.k) ∧ w'.cell? ⟨ob, 1, none⟩ = some (.int .i64 q.b) ∧ w'.cell? ⟨ob, 2, none⟩ = some (.int .i64 q.o) ∧ w'.cell? ⟨ob, 3, none⟩ = some (.int .i64 q.f) ∧ w'.cell? ⟨ob, 4, none⟩ = some (.int .i64 q.a) ∧ w'.cell? ⟨ob, 5, none⟩ = some (.int .i64 q.x.k) ∧ w'.cell? ⟨ob, 6, none⟩ = some (.int .i64 q.x.n) ∧ w'.cell? ⟨ob, 7, none⟩ = some (.int .i64 q.y.k) ∧ w'.cell? ⟨ob, 8, none⟩ = some (.int .i64 q.y.n) := fun w' hb => ⟨bcell hb cl c0, bcell hb cl c1, bcell hb cl c2, bcell hb cl c3, bcell hb cl c4, bcell hb cl c5, bcell hb cl c6, bcell hb cl c7, bcell hb cl c8⟩
      have hbd : Below w4.heap.size w4 w4.drew := (Below.refl _ _).drew
      have RD := keep _ hbd
      refine wp_region_noPanic ?_
      refine wp_region_held_drew (S := fun w' => w'.cell? ⟨ob, 0, none⟩ = some (.int .i64 q.k) ∧ w'.cell? ⟨ob, 1, none⟩ = some (.int .i64 q.b) ∧ w'.cell? ⟨ob, 2, none⟩ = some (.int .i64 q.o) ∧ w'.cell? ⟨ob, 3, none⟩ = some (.int .i64 q.f) ∧ w'.cell? ⟨ob, 4, none⟩ = some (.int .i64 q.a) ∧ w'.cell? ⟨ob, 5, none⟩ = some (.int .i64 q.x.k) ∧ w'.cell? ⟨ob, 6, none⟩ = some (.int .i64 q.x.n) ∧ w'.cell? ⟨ob, 7, none⟩ = some (.int .i64 q.y.k) ∧ w'.cell? ⟨ob, 8, none⟩ = some (.int .i64 q.y.n)) (by kernel_rfl) RD (fun hHeld => ?_)
      refine takeH (i := 0) 30 (.pointer (some ⟨ob, 4, none⟩)) rfl rfl (by kernel_rfl) (by kernel_rfl) (by kernel_rfl) (fun _ _ _ h => h) (by rfl) ?_ (by assumption) ?_
      · intro w hSw; (try dsimp only at hSw); go_simp
      simp only [List.setIfInBounds_toArray, List.set_cons_zero, List.set_cons_succ]
      refine takeH (i := 1) 31 (.int .i64 q.a) rfl rfl (by kernel_rfl) (by kernel_rfl) (by kernel_rfl) (fun _ _ _ h => h) (by rfl) ?_ (by assumption) ?_
      · intro w hSw; (try dsimp only at hSw); go_simp
      simp only [List.setIfInBounds_toArray, List.set_cons_zero, List.set_cons_succ]
      refine takeH (i := 4) 34 (.int .i64 fa) rfl rfl (by kernel_rfl) (by kernel_rfl) (by kernel_rfl) (fun _ _ _ h => h) (by rfl) ?_ (by assumption) ?_
      · intro w hSw; (try dsimp only at hSw); go_simp
      simp only [List.setIfInBounds_toArray, List.set_cons_zero, List.set_cons_succ]
      refine takeH (i := 5) 35 (.pointer (some ⟨ob, 3, none⟩)) rfl rfl (by kernel_rfl) (by kernel_rfl) (by kernel_rfl) (fun _ _ _ h => h) (by rfl) ?_ (by assumption) ?_
      · intro w hSw; (try dsimp only at hSw); go_simp
      simp only [List.setIfInBounds_toArray, List.set_cons_zero, List.set_cons_succ]
      refine takeH (i := 6) 36 (.int .i64 q.f) rfl rfl (by kernel_rfl) (by kernel_rfl) (by kernel_rfl) (fun _ _ _ h => h) (by rfl) ?_ (by assumption) ?_
      · intro w hSw; (try dsimp only at hSw); go_simp
      simp only [List.setIfInBounds_toArray, List.set_cons_zero, List.set_cons_succ]
      refine takeH (i := 8) 38 (.pointer (some ⟨ob, 5, none⟩)) rfl rfl (by kernel_rfl) (by kernel_rfl) (by kernel_rfl) (fun _ _ _ h => h) (by rfl) ?_ (by assumption) ?_
      · intro w hSw; (try dsimp only at hSw); go_simp
      simp only [List.setIfInBounds_toArray, List.set_cons_zero, List.set_cons_succ]
      refine takeH (i := 9) 39 (.agg #[.int .i64 q.x.k, .int .i64 q.x.n]) rfl rfl (by kernel_rfl) (by kernel_rfl) (by kernel_rfl) (fun _ _ _ h => h) (by rfl) ?_ (by assumption) ?_
      · intro w hSw; (try dsimp only at hSw); go_simp
      simp only [List.setIfInBounds_toArray, List.set_cons_zero, List.set_cons_succ]
      refine takeH (i := 11) 41 (.pointer (some ⟨ob, 7, none⟩)) rfl rfl (by kernel_rfl) (by kernel_rfl) (by kernel_rfl) (fun _ _ _ h => h) (by rfl) ?_ (by assumption) ?_
      · intro w hSw; (try dsimp only at hSw); go_simp
      simp only [List.setIfInBounds_toArray, List.set_cons_zero, List.set_cons_succ]
      refine takeH (i := 12) 42 (.agg #[.int .i64 q.y.k, .int .i64 q.y.n]) rfl rfl (by kernel_rfl) (by kernel_rfl) (by kernel_rfl) (fun _ _ _ h => h) (by rfl) ?_ (by assumption) ?_
      · intro w hSw; (try dsimp only at hSw); go_simp
      simp only [List.setIfInBounds_toArray, List.set_cons_zero, List.set_cons_succ]
      refine wpAnyH_ready (rs := [2, 15]) (by kernel_rfl) (by simp) ?_
      refine AllReadyH.cons rfl (fun K hK => ?_) (AllReadyH.cons rfl (fun K hK => ?_) AllReadyH.nil)
      · go_simp
        refine (cKind _ q.a 3 f.a.1 f.a.2 (by decide)).mono ?_
        rintro e wk ⟨rfl, hwk⟩
        rw [hwk, hka]
        clear hwk wk
        refine hK.out _ _ (keep _ hbd) (fun hHeld => ?_)
        clear hK K
        try simp only [Act.put, List.setIfInBounds_toArray, List.set_cons_zero, List.set_cons_succ]
        refine takeH (i := 3) 33 (.int .i64 (1 + ka)) rfl rfl (by kernel_rfl) (by kernel_rfl) (by kernel_rfl) (fun _ _ _ h => h) (by rfl) ?_ (by assumption) ?_
        · intro w hSw; (try dsimp only at hSw); go_simp
        simp only [List.setIfInBounds_toArray, List.set_cons_zero, List.set_cons_succ]
        refine wpAnyH_ready (rs := [7, 15]) (by kernel_rfl) (by simp) ?_
        refine AllReadyH.cons rfl (fun K hK => ?_) (AllReadyH.cons rfl (fun K hK => ?_) AllReadyH.nil)
        · go_simp
          refine (cKind _ q.f 3 f.f.1 f.f.2 (by decide)).mono ?_
          rintro e wk ⟨rfl, hwk⟩
          rw [hwk, hkf]
          clear hwk wk
          refine hK.out _ _ (keep _ hbd) (fun hHeld => ?_)
          clear hK K
          try simp only [Act.put, List.setIfInBounds_toArray, List.set_cons_zero, List.set_cons_succ]
          refine wpAnyH_ready (rs := [10, 15]) (by kernel_rfl) (by simp) ?_
          refine AllReadyH.cons rfl (fun K hK => ?_) (AllReadyH.cons rfl (fun K hK => ?_) AllReadyH.nil)
          · go_simp
            refine (cVal q.x f.x _).mono ?_
            rintro e w5 ⟨rfl, hbw5⟩
            rw [hvx]
            have hcw5 := bel_trans hbd hbw5
            refine hK.out _ _ (keep _ hcw5) (fun hHeld => ?_)
            clear hK K
            try simp only [Act.put, List.setIfInBounds_toArray, List.set_cons_zero, List.set_cons_succ]
            refine wpAnyH_ready (rs := [13, 15]) (by kernel_rfl) (by simp) ?_
            refine AllReadyH.cons rfl (fun K hK => ?_) (AllReadyH.cons rfl (fun K hK => ?_) AllReadyH.nil)
            · go_simp
              refine (cVal q.y f.y _).mono ?_
              rintro e w6 ⟨rfl, hbw6⟩
              rw [hvy]
              have hcw6 := bel_trans hcw5 hbw6
              refine hK.out _ _ (keep _ hcw6) (fun hHeld => ?_)
              clear hK K
              try simp only [Act.put, List.setIfInBounds_toArray, List.set_cons_zero, List.set_cons_succ]
              refine takeH (i := 14) 44 (.agg #[.int .i64 (1 + ka), .int .i64 fa, .int .i64 kf, .int .i64 vx.k, .int .i64 vx.n, .int .i64 vy.k, .int .i64 vy.n]) rfl rfl (by kernel_rfl) (by kernel_rfl) (by kernel_rfl) (fun _ _ _ h => h) (by rfl) ?_ (by assumption) ?_
              · intro w hSw; (try dsimp only at hSw); go_simp
              simp only [List.setIfInBounds_toArray, List.set_cons_zero, List.set_cons_succ]
              refine wpAnyH_ready (rs := [15]) (by kernel_rfl) (by simp) ?_
              refine AllReadyH.cons rfl (fun K hK => ?_) AllReadyH.nil
              go_simp
              refine hK.out _ _ (keep _ (hcw6.alloc hcw6.size (.cells #[.int .i64 0, .int .i64 0, .int .i64 0, .int .i64 0, .int .i64 0, .int .i64 0, .int .i64 0] 54))) (fun hHeld => ?_)
              clear hK K
              try simp only [Act.put, List.setIfInBounds_toArray, List.set_cons_zero, List.set_cons_succ]
              have hbx : Below w4.heap.size w4 (w6.alloc (.cells #[.int .i64 0, .int .i64 0, .int .i64 0, .int .i64 0, .int .i64 0, .int .i64 0, .int .i64 0] 54)) := hcw6.alloc hcw6.size (.cells #[.int .i64 0, .int .i64 0, .int .i64 0, .int .i64 0, .int .i64 0, .int .i64 0, .int .i64 0] 54)
              have b8 : (w6.alloc (.cells #[.int .i64 0, .int .i64 0, .int .i64 0, .int .i64 0, .int .i64 0, .int .i64 0, .int .i64 0] 54)).heap[w6.heap.size]? = some (.cells #[.int .i64 0, .int .i64 0, .int .i64 0, .int .i64 0, .int .i64 0, .int .i64 0, .int .i64 0] 54 (0, 0)) := heap_alloc_new _ _
              have ge8 : w4.heap.size ≤ w6.heap.size := hcw6.size
              generalize w6.alloc (.cells #[.int .i64 0, .int .i64 0, .int .i64 0, .int .i64 0, .int .i64 0, .int .i64 0, .int .i64 0] 54) = wx at hbx b8 ⊢
              have hHeld := keep _ hbx
              generalize w6.heap.size = n8 at b8 ge8 ⊢
              have d80 : wx.cell? ⟨n8, 0, none⟩ = some (.int .i64 0) := cell_of_row wx n8 0 _ _ _ b8
              have d81 : wx.cell? ⟨n8, 1, none⟩ = some (.int .i64 0) := cell_of_row wx n8 1 _ _ _ b8
              have d82 : wx.cell? ⟨n8, 2, none⟩ = some (.int .i64 0) := cell_of_row wx n8 2 _ _ _ b8
              have d83 : wx.cell? ⟨n8, 3, none⟩ = some (.int .i64 0) := cell_of_row wx n8 3 _ _ _ b8
              have d84 : wx.cell? ⟨n8, 4, none⟩ = some (.int .i64 0) := cell_of_row wx n8 4 _ _ _ b8
              have d85 : wx.cell? ⟨n8, 5, none⟩ = some (.int .i64 0) := cell_of_row wx n8 5 _ _ _ b8
              have d86 : wx.cell? ⟨n8, 6, none⟩ = some (.int .i64 0) := cell_of_row wx n8 6 _ _ _ b8
              have f8 : ∀ i, wx.frozen? ⟨n8, i, none⟩ = false := fun i => frozen_of_row wx _ _ _ _ b8
              refine wpAnyH_ready (rs := [16]) (by kernel_rfl) (by simp) ?_
              refine AllReadyH.cons rfl (fun K hK => ?_) AllReadyH.nil
              go_simp
              refine hK.out _ _ (keep _ (((((((hbx.setCell ge8 _).setCell ge8 _).setCell ge8 _).setCell ge8 _).setCell ge8 _).setCell ge8 _).setCell ge8 _)) (fun hHeld => ?_)
              clear hK K
              try simp only [Act.put, List.setIfInBounds_toArray, List.set_cons_zero, List.set_cons_succ]
              refine wpAnyH_done (by kernel_rfl) ?_ _
              refine NoPanic.normal ?_
              have hn0 : w0.heap.size ≤ n8 := Nat.le_trans (Nat.le_trans hs (by rw [hob]; exact Nat.le_of_lt hsz4)) ge8
              have RB0 : Blk w0 wx n8 54 #[.int .i64 0, .int .i64 0, .int .i64 0, .int .i64 0, .int .i64 0, .int .i64 0, .int .i64 0] := ⟨b8, hn0, by decide⟩
              have RB : Blk w0 (((((((wx.setCell ⟨n8, 0, none⟩ (.int .i64 (1 + ka))).setCell ⟨n8, 1, none⟩ (.int .i64 fa)).setCell ⟨n8, 2, none⟩ (.int .i64 kf)).setCell ⟨n8, 3, none⟩ (.int .i64 vx.k)).setCell ⟨n8, 4, none⟩ (.int .i64 vx.n)).setCell ⟨n8, 5, none⟩ (.int .i64 vy.k)).setCell ⟨n8, 6, none⟩ (.int .i64 vy.n)) n8 54 #[.int .i64 (1 + ka), .int .i64 fa, .int .i64 kf, .int .i64 vx.k, .int .i64 vx.n, .int .i64 vy.k, .int .i64 vy.n] := (((((((RB0.set 0 (.int .i64 (1 + ka))).set 1 (.int .i64 fa)).set 2 (.int .i64 kf)).set 3 (.int .i64 vx.k)).set 4 (.int .i64 vx.n)).set 5 (.int .i64 vy.k)).set 6 (.int .i64 vy.n))
              have hbz : Below w4.heap.size w4 (((((((wx.setCell ⟨n8, 0, none⟩ (.int .i64 (1 + ka))).setCell ⟨n8, 1, none⟩ (.int .i64 fa)).setCell ⟨n8, 2, none⟩ (.int .i64 kf)).setCell ⟨n8, 3, none⟩ (.int .i64 vx.k)).setCell ⟨n8, 4, none⟩ (.int .i64 vx.n)).setCell ⟨n8, 5, none⟩ (.int .i64 vy.k)).setCell ⟨n8, 6, none⟩ (.int .i64 vy.n)) := (((((((hbx.setCell ge8 _).setCell ge8 _).setCell ge8 _).setCell ge8 _).setCell ge8 _).setCell ge8 _).setCell ge8 _)
              generalize (((((((wx.setCell ⟨n8, 0, none⟩ (.int .i64 (1 + ka))).setCell ⟨n8, 1, none⟩ (.int .i64 fa)).setCell ⟨n8, 2, none⟩ (.int .i64 kf)).setCell ⟨n8, 3, none⟩ (.int .i64 vx.k)).setCell ⟨n8, 4, none⟩ (.int .i64 vx.n)).setCell ⟨n8, 5, none⟩ (.int .i64 vy.k)).setCell ⟨n8, 6, none⟩ (.int .i64 vy.n)) = wz at RB hbz ⊢
              clear RB0 d80 d81 d82 d83 d84 d85 d86 f8 hHeld
              go_wp2_with fail
              go_meet
              case rel => exact ⟨n8, rfl, ge8, RB, hbz⟩
            · go_simp
              refine hK.out _ _ (keep _ (hcw5.alloc hcw5.size (.cells #[.int .i64 0, .int .i64 0, .int .i64 0, .int .i64 0, .int .i64 0, .int .i64 0, .int .i64 0] 54))) (fun hHeld => ?_)
              clear hK K
              try simp only [Act.put, List.setIfInBounds_toArray, List.set_cons_zero, List.set_cons_succ]
              have hbx : Below w4.heap.size w4 (w5.alloc (.cells #[.int .i64 0, .int .i64 0, .int .i64 0, .int .i64 0, .int .i64 0, .int .i64 0, .int .i64 0] 54)) := hcw5.alloc hcw5.size (.cells #[.int .i64 0, .int .i64 0, .int .i64 0, .int .i64 0, .int .i64 0, .int .i64 0, .int .i64 0] 54)
              have b8 : (w5.alloc (.cells #[.int .i64 0, .int .i64 0, .int .i64 0, .int .i64 0, .int .i64 0, .int .i64 0, .int .i64 0] 54)).heap[w5.heap.size]? = some (.cells #[.int .i64 0, .int .i64 0, .int .i64 0, .int .i64 0, .int .i64 0, .int .i64 0, .int .i64 0] 54 (0, 0)) := heap_alloc_new _ _
              have ge8 : w4.heap.size ≤ w5.heap.size := hcw5.size
              generalize w5.alloc (.cells #[.int .i64 0, .int .i64 0, .int .i64 0, .int .i64 0, .int .i64 0, .int .i64 0, .int .i64 0] 54) = wx at hbx b8 ⊢
              have hHeld := keep _ hbx
              generalize w5.heap.size = n8 at b8 ge8 ⊢
              refine wpAnyH_ready (rs := [13]) (by kernel_rfl) (by simp) ?_
              refine AllReadyH.cons rfl (fun K hK => ?_) AllReadyH.nil
              go_simp
              refine (cVal q.y f.y _).mono ?_
              rintro e w6 ⟨rfl, hbw6⟩
              rw [hvy]
              have hcw6 := bel_trans hbx hbw6
              have b8 := (hbw6.block n8 (lt_of_block b8)).trans b8
              refine hK.out _ _ (keep _ hcw6) (fun hHeld => ?_)
              clear hK K
              try simp only [Act.put, List.setIfInBounds_toArray, List.set_cons_zero, List.set_cons_succ]
              refine takeH (i := 14) 44 (.agg #[.int .i64 (1 + ka), .int .i64 fa, .int .i64 kf, .int .i64 vx.k, .int .i64 vx.n, .int .i64 vy.k, .int .i64 vy.n]) rfl rfl (by kernel_rfl) (by kernel_rfl) (by kernel_rfl) (fun _ _ _ h => h) (by rfl) ?_ (by assumption) ?_
              · intro w hSw; (try dsimp only at hSw); go_simp
              simp only [List.setIfInBounds_toArray, List.set_cons_zero, List.set_cons_succ]
              have d80 : w6.cell? ⟨n8, 0, none⟩ = some (.int .i64 0) := cell_of_row w6 n8 0 _ _ _ b8
              have d81 : w6.cell? ⟨n8, 1, none⟩ = some (.int .i64 0) := cell_of_row w6 n8 1 _ _ _ b8
              have d82 : w6.cell? ⟨n8, 2, none⟩ = some (.int .i64 0) := cell_of_row w6 n8 2 _ _ _ b8
              have d83 : w6.cell? ⟨n8, 3, none⟩ = some (.int .i64 0) := cell_of_row w6 n8 3 _ _ _ b8
              have d84 : w6.cell? ⟨n8, 4, none⟩ = some (.int .i64 0) := cell_of_row w6 n8 4 _ _ _ b8
              have d85 : w6.cell? ⟨n8, 5, none⟩ = some (.int .i64 0) := cell_of_row w6 n8 5 _ _ _ b8
              have d86 : w6.cell? ⟨n8, 6, none⟩ = some (.int .i64 0) := cell_of_row w6 n8 6 _ _ _ b8
              have f8 : ∀ i, w6.frozen? ⟨n8, i, none⟩ = false := fun i => frozen_of_row w6 _ _ _ _ b8
              refine wpAnyH_ready (rs := [16]) (by kernel_rfl) (by simp) ?_
              refine AllReadyH.cons rfl (fun K hK => ?_) AllReadyH.nil
              go_simp
              refine hK.out _ _ (keep _ (((((((hcw6.setCell ge8 _).setCell ge8 _).setCell ge8 _).setCell ge8 _).setCell ge8 _).setCell ge8 _).setCell ge8 _)) (fun hHeld => ?_)
              clear hK K
              try simp only [Act.put, List.setIfInBounds_toArray, List.set_cons_zero, List.set_cons_succ]
              refine wpAnyH_done (by kernel_rfl) ?_ _
              refine NoPanic.normal ?_
              have hn0 : w0.heap.size ≤ n8 := Nat.le_trans (Nat.le_trans hs (by rw [hob]; exact Nat.le_of_lt hsz4)) ge8
              have RB0 : Blk w0 w6 n8 54 #[.int .i64 0, .int .i64 0, .int .i64 0, .int .i64 0, .int .i64 0, .int .i64 0, .int .i64 0] := ⟨b8, hn0, by decide⟩
              have RB : Blk w0 (((((((w6.setCell ⟨n8, 0, none⟩ (.int .i64 (1 + ka))).setCell ⟨n8, 1, none⟩ (.int .i64 fa)).setCell ⟨n8, 2, none⟩ (.int .i64 kf)).setCell ⟨n8, 3, none⟩ (.int .i64 vx.k)).setCell ⟨n8, 4, none⟩ (.int .i64 vx.n)).setCell ⟨n8, 5, none⟩ (.int .i64 vy.k)).setCell ⟨n8, 6, none⟩ (.int .i64 vy.n)) n8 54 #[.int .i64 (1 + ka), .int .i64 fa, .int .i64 kf, .int .i64 vx.k, .int .i64 vx.n, .int .i64 vy.k, .int .i64 vy.n] := (((((((RB0.set 0 (.int .i64 (1 + ka))).set 1 (.int .i64 fa)).set 2 (.int .i64 kf)).set 3 (.int .i64 vx.k)).set 4 (.int .i64 vx.n)).set 5 (.int .i64 vy.k)).set 6 (.int .i64 vy.n))
              have hbz : Below w4.heap.size w4 (((((((w6.setCell ⟨n8, 0, none⟩ (.int .i64 (1 + ka))).setCell ⟨n8, 1, none⟩ (.int .i64 fa)).setCell ⟨n8, 2, none⟩ (.int .i64 kf)).setCell ⟨n8, 3, none⟩ (.int .i64 vx.k)).setCell ⟨n8, 4, none⟩ (.int .i64 vx.n)).setCell ⟨n8, 5, none⟩ (.int .i64 vy.k)).setCell ⟨n8, 6, none⟩ (.int .i64 vy.n)) := (((((((hcw6.setCell ge8 _).setCell ge8 _).setCell ge8 _).setCell ge8 _).setCell ge8 _).setCell ge8 _).setCell ge8 _)
              generalize (((((((w6.setCell ⟨n8, 0, none⟩ (.int .i64 (1 + ka))).setCell ⟨n8, 1, none⟩ (.int .i64 fa)).setCell ⟨n8, 2, none⟩ (.int .i64 kf)).setCell ⟨n8, 3, none⟩ (.int .i64 vx.k)).setCell ⟨n8, 4, none⟩ (.int .i64 vx.n)).setCell ⟨n8, 5, none⟩ (.int .i64 vy.k)).setCell ⟨n8, 6, none⟩ (.int .i64 vy.n)) = wz at RB hbz ⊢
              clear RB0 d80 d81 d82 d83 d84 d85 d86 f8 hHeld
              go_wp2_with fail
              go_meet
              case rel => exact ⟨n8, rfl, ge8, RB, hbz⟩
          · go_simp
            refine hK.out _ _ (keep _ (hbd.alloc hbd.size (.cells #[.int .i64 0, .int .i64 0, .int .i64 0, .int .i64 0, .int .i64 0, .int .i64 0, .int .i64 0] 54))) (fun hHeld => ?_)
            clear hK K
            try simp only [Act.put, List.setIfInBounds_toArray, List.set_cons_zero, List.set_cons_succ]
            have hbx : Below w4.heap.size w4 (w4.alloc (.cells #[.int .i64 0, .int .i64 0, .int .i64 0, .int .i64 0, .int .i64 0, .int .i64 0, .int .i64 0] 54)).drew := ((Below.refl _ w4).alloc (Nat.le_refl _) (.cells #[.int .i64 0, .int .i64 0, .int .i64 0, .int .i64 0, .int .i64 0, .int .i64 0, .int .i64 0] 54)).drew
            have b8 : (w4.alloc (.cells #[.int .i64 0, .int .i64 0, .int .i64 0, .int .i64 0, .int .i64 0, .int .i64 0, .int .i64 0] 54)).drew.heap[w4.heap.size]? = some (.cells #[.int .i64 0, .int .i64 0, .int .i64 0, .int .i64 0, .int .i64 0, .int .i64 0, .int .i64 0] 54 (0, 0)) := heap_alloc_new _ _
            generalize (w4.alloc (.cells #[.int .i64 0, .int .i64 0, .int .i64 0, .int .i64 0, .int .i64 0, .int .i64 0, .int .i64 0] 54)).drew = wx at hbx b8 ⊢
            have hHeld := keep _ hbx
            obtain ⟨n8, hn8⟩ : ∃ n8, w4.heap.size = n8 := ⟨_, rfl⟩
            rw [hn8] at b8 ⊢
            have ge8 : w4.heap.size ≤ n8 := Nat.le_of_eq hn8
            clear hn8
            refine wpAnyH_ready (rs := [10]) (by kernel_rfl) (by simp) ?_
            refine AllReadyH.cons rfl (fun K hK => ?_) AllReadyH.nil
            go_simp
            refine (cVal q.x f.x _).mono ?_
            rintro e w5 ⟨rfl, hbw5⟩
            rw [hvx]
            have hcw5 := bel_trans hbx hbw5
            have b8 := (hbw5.block n8 (lt_of_block b8)).trans b8
            refine hK.out _ _ (keep _ hcw5) (fun hHeld => ?_)
            clear hK K
            try simp only [Act.put, List.setIfInBounds_toArray, List.set_cons_zero, List.set_cons_succ]
            refine wpAnyH_ready (rs := [13]) (by kernel_rfl) (by simp) ?_
            refine AllReadyH.cons rfl (fun K hK => ?_) AllReadyH.nil
            go_simp
            refine (cVal q.y f.y _).mono ?_
            rintro e w6 ⟨rfl, hbw6⟩
            rw [hvy]
            have hcw6 := bel_trans hcw5 hbw6
            have b8 := (hbw6.block n8 (lt_of_block b8)).trans b8
            refine hK.out _ _ (keep _ hcw6) (fun hHeld => ?_)
            clear hK K
            try simp only [Act.put, List.setIfInBounds_toArray, List.set_cons_zero, List.set_cons_succ]
            refine takeH (i := 14) 44 (.agg #[.int .i64 (1 + ka), .int .i64 fa, .int .i64 kf, .int .i64 vx.k, .int .i64 vx.n, .int .i64 vy.k, .int .i64 vy.n]) rfl rfl (by kernel_rfl) (by kernel_rfl) (by kernel_rfl) (fun _ _ _ h => h) (by rfl) ?_ (by assumption) ?_
            · intro w hSw; (try dsimp only at hSw); go_simp
            simp only [List.setIfInBounds_toArray, List.set_cons_zero, List.set_cons_succ]
            have d80 : w6.cell? ⟨n8, 0, none⟩ = some (.int .i64 0) := cell_of_row w6 n8 0 _ _ _ b8
            have d81 : w6.cell? ⟨n8, 1, none⟩ = some (.int .i64 0) := cell_of_row w6 n8 1 _ _ _ b8
            have d82 : w6.cell? ⟨n8, 2, none⟩ = some (.int .i64 0) := cell_of_row w6 n8 2 _ _ _ b8
            have d83 : w6.cell? ⟨n8, 3, none⟩ = some (.int .i64 0) := cell_of_row w6 n8 3 _ _ _ b8
            have d84 : w6.cell? ⟨n8, 4, none⟩ = some (.int .i64 0) := cell_of_row w6 n8 4 _ _ _ b8
            have d85 : w6.cell? ⟨n8, 5, none⟩ = some (.int .i64 0) := cell_of_row w6 n8 5 _ _ _ b8
            have d86 : w6.cell? ⟨n8, 6, none⟩ = some (.int .i64 0) := cell_of_row w6 n8 6 _ _ _ b8
            have f8 : ∀ i, w6.frozen? ⟨n8, i, none⟩ = false := fun i => frozen_of_row w6 _ _ _ _ b8
            refine wpAnyH_ready (rs := [16]) (by kernel_rfl) (by simp) ?_
            refine AllReadyH.cons rfl (fun K hK => ?_) AllReadyH.nil
            go_simp
            refine hK.out _ _ (keep _ (((((((hcw6.setCell ge8 _).setCell ge8 _).setCell ge8 _).setCell ge8 _).setCell ge8 _).setCell ge8 _).setCell ge8 _)) (fun hHeld => ?_)
            clear hK K
            try simp only [Act.put, List.setIfInBounds_toArray, List.set_cons_zero, List.set_cons_succ]
            refine wpAnyH_done (by kernel_rfl) ?_ _
            refine NoPanic.normal ?_
            have hn0 : w0.heap.size ≤ n8 := Nat.le_trans (Nat.le_trans hs (by rw [hob]; exact Nat.le_of_lt hsz4)) ge8
            have RB0 : Blk w0 w6 n8 54 #[.int .i64 0, .int .i64 0, .int .i64 0, .int .i64 0, .int .i64 0, .int .i64 0, .int .i64 0] := ⟨b8, hn0, by decide⟩
            have RB : Blk w0 (((((((w6.setCell ⟨n8, 0, none⟩ (.int .i64 (1 + ka))).setCell ⟨n8, 1, none⟩ (.int .i64 fa)).setCell ⟨n8, 2, none⟩ (.int .i64 kf)).setCell ⟨n8, 3, none⟩ (.int .i64 vx.k)).setCell ⟨n8, 4, none⟩ (.int .i64 vx.n)).setCell ⟨n8, 5, none⟩ (.int .i64 vy.k)).setCell ⟨n8, 6, none⟩ (.int .i64 vy.n)) n8 54 #[.int .i64 (1 + ka), .int .i64 fa, .int .i64 kf, .int .i64 vx.k, .int .i64 vx.n, .int .i64 vy.k, .int .i64 vy.n] := (((((((RB0.set 0 (.int .i64 (1 + ka))).set 1 (.int .i64 fa)).set 2 (.int .i64 kf)).set 3 (.int .i64 vx.k)).set 4 (.int .i64 vx.n)).set 5 (.int .i64 vy.k)).set 6 (.int .i64 vy.n))
            have hbz : Below w4.heap.size w4 (((((((w6.setCell ⟨n8, 0, none⟩ (.int .i64 (1 + ka))).setCell ⟨n8, 1, none⟩ (.int .i64 fa)).setCell ⟨n8, 2, none⟩ (.int .i64 kf)).setCell ⟨n8, 3, none⟩ (.int .i64 vx.k)).setCell ⟨n8, 4, none⟩ (.int .i64 vx.n)).setCell ⟨n8, 5, none⟩ (.int .i64 vy.k)).setCell ⟨n8, 6, none⟩ (.int .i64 vy.n)) := (((((((hcw6.setCell ge8 _).setCell ge8 _).setCell ge8 _).setCell ge8 _).setCell ge8 _).setCell ge8 _).setCell ge8 _)
            generalize (((((((w6.setCell ⟨n8, 0, none⟩ (.int .i64 (1 + ka))).setCell ⟨n8, 1, none⟩ (.int .i64 fa)).setCell ⟨n8, 2, none⟩ (.int .i64 kf)).setCell ⟨n8, 3, none⟩ (.int .i64 vx.k)).setCell ⟨n8, 4, none⟩ (.int .i64 vx.n)).setCell ⟨n8, 5, none⟩ (.int .i64 vy.k)).setCell ⟨n8, 6, none⟩ (.int .i64 vy.n)) = wz at RB hbz ⊢
            clear RB0 d80 d81 d82 d83 d84 d85 d86 f8 hHeld
            go_wp2_with fail
            go_meet
            case rel => exact ⟨n8, rfl, ge8, RB, hbz⟩
        · go_simp
          refine hK.out _ _ (keep _ (hbd.alloc hbd.size (.cells #[.int .i64 0, .int .i64 0, .int .i64 0, .int .i64 0, .int .i64 0, .int .i64 0, .int .i64 0] 54))) (fun hHeld => ?_)
          clear hK K
          try simp only [Act.put, List.setIfInBounds_toArray, List.set_cons_zero, List.set_cons_succ]
          have hbx : Below w4.heap.size w4 (w4.alloc (.cells #[.int .i64 0, .int .i64 0, .int .i64 0, .int .i64 0, .int .i64 0, .int .i64 0, .int .i64 0] 54)).drew := ((Below.refl _ w4).alloc (Nat.le_refl _) (.cells #[.int .i64 0, .int .i64 0, .int .i64 0, .int .i64 0, .int .i64 0, .int .i64 0, .int .i64 0] 54)).drew
          have b8 : (w4.alloc (.cells #[.int .i64 0, .int .i64 0, .int .i64 0, .int .i64 0, .int .i64 0, .int .i64 0, .int .i64 0] 54)).drew.heap[w4.heap.size]? = some (.cells #[.int .i64 0, .int .i64 0, .int .i64 0, .int .i64 0, .int .i64 0, .int .i64 0, .int .i64 0] 54 (0, 0)) := heap_alloc_new _ _
          generalize (w4.alloc (.cells #[.int .i64 0, .int .i64 0, .int .i64 0, .int .i64 0, .int .i64 0, .int .i64 0, .int .i64 0] 54)).drew = wx at hbx b8 ⊢
          have hHeld := keep _ hbx
          obtain ⟨n8, hn8⟩ : ∃ n8, w4.heap.size = n8 := ⟨_, rfl⟩
          rw [hn8] at b8 ⊢
          have ge8 : w4.heap.size ≤ n8 := Nat.le_of_eq hn8
          clear hn8
          refine wpAnyH_ready (rs := [7]) (by kernel_rfl) (by simp) ?_
          refine AllReadyH.cons rfl (fun K hK => ?_) AllReadyH.nil
          go_simp
          refine (cKind _ q.f 3 f.f.1 f.f.2 (by decide)).mono ?_
          rintro e wk ⟨rfl, hwk⟩
          rw [hwk, hkf]
          clear hwk wk
          refine hK.out _ _ (keep _ hbx) (fun hHeld => ?_)
          clear hK K
          try simp only [Act.put, List.setIfInBounds_toArray, List.set_cons_zero, List.set_cons_succ]
          refine wpAnyH_ready (rs := [10]) (by kernel_rfl) (by simp) ?_
          refine AllReadyH.cons rfl (fun K hK => ?_) AllReadyH.nil
          go_simp
          refine (cVal q.x f.x _).mono ?_
          rintro e w5 ⟨rfl, hbw5⟩
          rw [hvx]
          have hcw5 := bel_trans hbx hbw5
          have b8 := (hbw5.block n8 (lt_of_block b8)).trans b8
          refine hK.out _ _ (keep _ hcw5) (fun hHeld => ?_)
          clear hK K
          try simp only [Act.put, List.setIfInBounds_toArray, List.set_cons_zero, List.set_cons_succ]
          refine wpAnyH_ready (rs := [13]) (by kernel_rfl) (by simp) ?_
          refine AllReadyH.cons rfl (fun K hK => ?_) AllReadyH.nil
          go_simp
          refine (cVal q.y f.y _).mono ?_
          rintro e w6 ⟨rfl, hbw6⟩
          rw [hvy]
          have hcw6 := bel_trans hcw5 hbw6
          have b8 := (hbw6.block n8 (lt_of_block b8)).trans b8
          refine hK.out _ _ (keep _ hcw6) (fun hHeld => ?_)
          clear hK K
          try simp only [Act.put, List.setIfInBounds_toArray, List.set_cons_zero, List.set_cons_succ]
          refine takeH (i := 14) 44 (.agg #[.int .i64 (1 + ka), .int .i64 fa, .int .i64 kf, .int .i64 vx.k, .int .i64 vx.n, .int .i64 vy.k, .int .i64 vy.n]) rfl rfl (by kernel_rfl) (by kernel_rfl) (by kernel_rfl) (fun _ _ _ h => h) (by rfl) ?_ (by assumption) ?_
          · intro w hSw; (try dsimp only at hSw); go_simp
          simp only [List.setIfInBounds_toArray, List.set_cons_zero, List.set_cons_succ]
          have d80 : w6.cell? ⟨n8, 0, none⟩ = some (.int .i64 0) := cell_of_row w6 n8 0 _ _ _ b8
          have d81 : w6.cell? ⟨n8, 1, none⟩ = some (.int .i64 0) := cell_of_row w6 n8 1 _ _ _ b8
          have d82 : w6.cell? ⟨n8, 2, none⟩ = some (.int .i64 0) := cell_of_row w6 n8 2 _ _ _ b8
          have d83 : w6.cell? ⟨n8, 3, none⟩ = some (.int .i64 0) := cell_of_row w6 n8 3 _ _ _ b8
          have d84 : w6.cell? ⟨n8, 4, none⟩ = some (.int .i64 0) := cell_of_row w6 n8 4 _ _ _ b8
          have d85 : w6.cell? ⟨n8, 5, none⟩ = some (.int .i64 0) := cell_of_row w6 n8 5 _ _ _ b8
          have d86 : w6.cell? ⟨n8, 6, none⟩ = some (.int .i64 0) := cell_of_row w6 n8 6 _ _ _ b8
          have f8 : ∀ i, w6.frozen? ⟨n8, i, none⟩ = false := fun i => frozen_of_row w6 _ _ _ _ b8
          refine wpAnyH_ready (rs := [16]) (by kernel_rfl) (by simp) ?_
          refine AllReadyH.cons rfl (fun K hK => ?_) AllReadyH.nil
          go_simp
          refine hK.out _ _ (keep _ (((((((hcw6.setCell ge8 _).setCell ge8 _).setCell ge8 _).setCell ge8 _).setCell ge8 _).setCell ge8 _).setCell ge8 _)) (fun hHeld => ?_)
          clear hK K
          try simp only [Act.put, List.setIfInBounds_toArray, List.set_cons_zero, List.set_cons_succ]
          refine wpAnyH_done (by kernel_rfl) ?_ _
          refine NoPanic.normal ?_
          have hn0 : w0.heap.size ≤ n8 := Nat.le_trans (Nat.le_trans hs (by rw [hob]; exact Nat.le_of_lt hsz4)) ge8
          have RB0 : Blk w0 w6 n8 54 #[.int .i64 0, .int .i64 0, .int .i64 0, .int .i64 0, .int .i64 0, .int .i64 0, .int .i64 0] := ⟨b8, hn0, by decide⟩
          have RB : Blk w0 (((((((w6.setCell ⟨n8, 0, none⟩ (.int .i64 (1 + ka))).setCell ⟨n8, 1, none⟩ (.int .i64 fa)).setCell ⟨n8, 2, none⟩ (.int .i64 kf)).setCell ⟨n8, 3, none⟩ (.int .i64 vx.k)).setCell ⟨n8, 4, none⟩ (.int .i64 vx.n)).setCell ⟨n8, 5, none⟩ (.int .i64 vy.k)).setCell ⟨n8, 6, none⟩ (.int .i64 vy.n)) n8 54 #[.int .i64 (1 + ka), .int .i64 fa, .int .i64 kf, .int .i64 vx.k, .int .i64 vx.n, .int .i64 vy.k, .int .i64 vy.n] := (((((((RB0.set 0 (.int .i64 (1 + ka))).set 1 (.int .i64 fa)).set 2 (.int .i64 kf)).set 3 (.int .i64 vx.k)).set 4 (.int .i64 vx.n)).set 5 (.int .i64 vy.k)).set 6 (.int .i64 vy.n))
          have hbz : Below w4.heap.size w4 (((((((w6.setCell ⟨n8, 0, none⟩ (.int .i64 (1 + ka))).setCell ⟨n8, 1, none⟩ (.int .i64 fa)).setCell ⟨n8, 2, none⟩ (.int .i64 kf)).setCell ⟨n8, 3, none⟩ (.int .i64 vx.k)).setCell ⟨n8, 4, none⟩ (.int .i64 vx.n)).setCell ⟨n8, 5, none⟩ (.int .i64 vy.k)).setCell ⟨n8, 6, none⟩ (.int .i64 vy.n)) := (((((((hcw6.setCell ge8 _).setCell ge8 _).setCell ge8 _).setCell ge8 _).setCell ge8 _).setCell ge8 _).setCell ge8 _)
          generalize (((((((w6.setCell ⟨n8, 0, none⟩ (.int .i64 (1 + ka))).setCell ⟨n8, 1, none⟩ (.int .i64 fa)).setCell ⟨n8, 2, none⟩ (.int .i64 kf)).setCell ⟨n8, 3, none⟩ (.int .i64 vx.k)).setCell ⟨n8, 4, none⟩ (.int .i64 vx.n)).setCell ⟨n8, 5, none⟩ (.int .i64 vy.k)).setCell ⟨n8, 6, none⟩ (.int .i64 vy.n)) = wz at RB hbz ⊢
          clear RB0 d80 d81 d82 d83 d84 d85 d86 f8 hHeld
          go_wp2_with fail
          go_meet
          case rel => exact ⟨n8, rfl, ge8, RB, hbz⟩
      · go_simp
        refine hK.out _ _ (keep _ (hbd.alloc hbd.size (.cells #[.int .i64 0, .int .i64 0, .int .i64 0, .int .i64 0, .int .i64 0, .int .i64 0, .int .i64 0] 54))) (fun hHeld => ?_)
        clear hK K
        try simp only [Act.put, List.setIfInBounds_toArray, List.set_cons_zero, List.set_cons_succ]
        have hbx : Below w4.heap.size w4 (w4.alloc (.cells #[.int .i64 0, .int .i64 0, .int .i64 0, .int .i64 0, .int .i64 0, .int .i64 0, .int .i64 0] 54)).drew := ((Below.refl _ w4).alloc (Nat.le_refl _) (.cells #[.int .i64 0, .int .i64 0, .int .i64 0, .int .i64 0, .int .i64 0, .int .i64 0, .int .i64 0] 54)).drew
        have b8 : (w4.alloc (.cells #[.int .i64 0, .int .i64 0, .int .i64 0, .int .i64 0, .int .i64 0, .int .i64 0, .int .i64 0] 54)).drew.heap[w4.heap.size]? = some (.cells #[.int .i64 0, .int .i64 0, .int .i64 0, .int .i64 0, .int .i64 0, .int .i64 0, .int .i64 0] 54 (0, 0)) := heap_alloc_new _ _
        generalize (w4.alloc (.cells #[.int .i64 0, .int .i64 0, .int .i64 0, .int .i64 0, .int .i64 0, .int .i64 0, .int .i64 0] 54)).drew = wx at hbx b8 ⊢
        have hHeld := keep _ hbx
        obtain ⟨n8, hn8⟩ : ∃ n8, w4.heap.size = n8 := ⟨_, rfl⟩
        rw [hn8] at b8 ⊢
        have ge8 : w4.heap.size ≤ n8 := Nat.le_of_eq hn8
        clear hn8
        refine wpAnyH_ready (rs := [2]) (by kernel_rfl) (by simp) ?_
        refine AllReadyH.cons rfl (fun K hK => ?_) AllReadyH.nil
        go_simp
        refine (cKind _ q.a 3 f.a.1 f.a.2 (by decide)).mono ?_
        rintro e wk ⟨rfl, hwk⟩
        rw [hwk, hka]
        clear hwk wk
        refine hK.out _ _ (keep _ hbx) (fun hHeld => ?_)
        clear hK K
        try simp only [Act.put, List.setIfInBounds_toArray, List.set_cons_zero, List.set_cons_succ]
        refine takeH (i := 3) 33 (.int .i64 (1 + ka)) rfl rfl (by kernel_rfl) (by kernel_rfl) (by kernel_rfl) (fun _ _ _ h => h) (by rfl) ?_ (by assumption) ?_
        · intro w hSw; (try dsimp only at hSw); go_simp
        simp only [List.setIfInBounds_toArray, List.set_cons_zero, List.set_cons_succ]
        refine wpAnyH_ready (rs := [7]) (by kernel_rfl) (by simp) ?_
        refine AllReadyH.cons rfl (fun K hK => ?_) AllReadyH.nil
        go_simp
        refine (cKind _ q.f 3 f.f.1 f.f.2 (by decide)).mono ?_
        rintro e wk ⟨rfl, hwk⟩
        rw [hwk, hkf]
        clear hwk wk
        refine hK.out _ _ (keep _ hbx) (fun hHeld => ?_)
        clear hK K
        try simp only [Act.put, List.setIfInBounds_toArray, List.set_cons_zero, List.set_cons_succ]
        refine wpAnyH_ready (rs := [10]) (by kernel_rfl) (by simp) ?_
        refine AllReadyH.cons rfl (fun K hK => ?_) AllReadyH.nil
        go_simp
        refine (cVal q.x f.x _).mono ?_
        rintro e w5 ⟨rfl, hbw5⟩
        rw [hvx]
        have hcw5 := bel_trans hbx hbw5
        have b8 := (hbw5.block n8 (lt_of_block b8)).trans b8
        refine hK.out _ _ (keep _ hcw5) (fun hHeld => ?_)
        clear hK K
        try simp only [Act.put, List.setIfInBounds_toArray, List.set_cons_zero, List.set_cons_succ]
        refine wpAnyH_ready (rs := [13]) (by kernel_rfl) (by simp) ?_
        refine AllReadyH.cons rfl (fun K hK => ?_) AllReadyH.nil
        go_simp
        refine (cVal q.y f.y _).mono ?_
        rintro e w6 ⟨rfl, hbw6⟩
        rw [hvy]
        have hcw6 := bel_trans hcw5 hbw6
        have b8 := (hbw6.block n8 (lt_of_block b8)).trans b8
        refine hK.out _ _ (keep _ hcw6) (fun hHeld => ?_)
        clear hK K
        try simp only [Act.put, List.setIfInBounds_toArray, List.set_cons_zero, List.set_cons_succ]
        refine takeH (i := 14) 44 (.agg #[.int .i64 (1 + ka), .int .i64 fa, .int .i64 kf, .int .i64 vx.k, .int .i64 vx.n, .int .i64 vy.k, .int .i64 vy.n]) rfl rfl (by kernel_rfl) (by kernel_rfl) (by kernel_rfl) (fun _ _ _ h => h) (by rfl) ?_ (by assumption) ?_
        · intro w hSw; (try dsimp only at hSw); go_simp
        simp only [List.setIfInBounds_toArray, List.set_cons_zero, List.set_cons_succ]
        have d80 : w6.cell? ⟨n8, 0, none⟩ = some (.int .i64 0) := cell_of_row w6 n8 0 _ _ _ b8
        have d81 : w6.cell? ⟨n8, 1, none⟩ = some (.int .i64 0) := cell_of_row w6 n8 1 _ _ _ b8
        have d82 : w6.cell? ⟨n8, 2, none⟩ = some (.int .i64 0) := cell_of_row w6 n8 2 _ _ _ b8
        have d83 : w6.cell? ⟨n8, 3, none⟩ = some (.int .i64 0) := cell_of_row w6 n8 3 _ _ _ b8
        have d84 : w6.cell? ⟨n8, 4, none⟩ = some (.int .i64 0) := cell_of_row w6 n8 4 _ _ _ b8
        have d85 : w6.cell? ⟨n8, 5, none⟩ = some (.int .i64 0) := cell_of_row w6 n8 5 _ _ _ b8
        have d86 : w6.cell? ⟨n8, 6, none⟩ = some (.int .i64 0) := cell_of_row w6 n8 6 _ _ _ b8
        have f8 : ∀ i, w6.frozen? ⟨n8, i, none⟩ = false := fun i => frozen_of_row w6 _ _ _ _ b8
        refine wpAnyH_ready (rs := [16]) (by kernel_rfl) (by simp) ?_
        refine AllReadyH.cons rfl (fun K hK => ?_) AllReadyH.nil
        go_simp
        refine hK.out _ _ (keep _ (((((((hcw6.setCell ge8 _).setCell ge8 _).setCell ge8 _).setCell ge8 _).setCell ge8 _).setCell ge8 _).setCell ge8 _)) (fun hHeld => ?_)
        clear hK K
        try simp only [Act.put, List.setIfInBounds_toArray, List.set_cons_zero, List.set_cons_succ]
        refine wpAnyH_done (by kernel_rfl) ?_ _
        refine NoPanic.normal ?_
        have hn0 : w0.heap.size ≤ n8 := Nat.le_trans (Nat.le_trans hs (by rw [hob]; exact Nat.le_of_lt hsz4)) ge8
        have RB0 : Blk w0 w6 n8 54 #[.int .i64 0, .int .i64 0, .int .i64 0, .int .i64 0, .int .i64 0, .int .i64 0, .int .i64 0] := ⟨b8, hn0, by decide⟩
        have RB : Blk w0 (((((((w6.setCell ⟨n8, 0, none⟩ (.int .i64 (1 + ka))).setCell ⟨n8, 1, none⟩ (.int .i64 fa)).setCell ⟨n8, 2, none⟩ (.int .i64 kf)).setCell ⟨n8, 3, none⟩ (.int .i64 vx.k)).setCell ⟨n8, 4, none⟩ (.int .i64 vx.n)).setCell ⟨n8, 5, none⟩ (.int .i64 vy.k)).setCell ⟨n8, 6, none⟩ (.int .i64 vy.n)) n8 54 #[.int .i64 (1 + ka), .int .i64 fa, .int .i64 kf, .int .i64 vx.k, .int .i64 vx.n, .int .i64 vy.k, .int .i64 vy.n] := (((((((RB0.set 0 (.int .i64 (1 + ka))).set 1 (.int .i64 fa)).set 2 (.int .i64 kf)).set 3 (.int .i64 vx.k)).set 4 (.int .i64 vx.n)).set 5 (.int .i64 vy.k)).set 6 (.int .i64 vy.n))
        have hbz : Below w4.heap.size w4 (((((((w6.setCell ⟨n8, 0, none⟩ (.int .i64 (1 + ka))).setCell ⟨n8, 1, none⟩ (.int .i64 fa)).setCell ⟨n8, 2, none⟩ (.int .i64 kf)).setCell ⟨n8, 3, none⟩ (.int .i64 vx.k)).setCell ⟨n8, 4, none⟩ (.int .i64 vx.n)).setCell ⟨n8, 5, none⟩ (.int .i64 vy.k)).setCell ⟨n8, 6, none⟩ (.int .i64 vy.n)) := (((((((hcw6.setCell ge8 _).setCell ge8 _).setCell ge8 _).setCell ge8 _).setCell ge8 _).setCell ge8 _).setCell ge8 _)
        generalize (((((((w6.setCell ⟨n8, 0, none⟩ (.int .i64 (1 + ka))).setCell ⟨n8, 1, none⟩ (.int .i64 fa)).setCell ⟨n8, 2, none⟩ (.int .i64 kf)).setCell ⟨n8, 3, none⟩ (.int .i64 vx.k)).setCell ⟨n8, 4, none⟩ (.int .i64 vx.n)).setCell ⟨n8, 5, none⟩ (.int .i64 vy.k)).setCell ⟨n8, 6, none⟩ (.int .i64 vy.n)) = wz at RB hbz ⊢
        clear RB0 d80 d81 d82 d83 d84 d85 d86 f8 hHeld
        go_wp2_with fail
        go_meet
        case rel => exact ⟨n8, rfl, ge8, RB, hbz⟩
    case rest =>
      obtain ⟨n8, rfl, ge8, RB, hbz⟩ := hcut
      have nz8 : w.heap.size ≤ n8 := Nat.le_trans Kw4.size ge8
      generalize wc = wz at RB hbz ⊢
      have h3 : kd q.k 3 = 0 ∨ kd q.k 3 = 1 ∨ kd q.k 3 = 2 := by have := kd_lt q.k 3 (by decide); omega
      rcases h3 with hkind | hkind | hkind
      · skip
        have Kz : Kept [WB] w wz := Kw4.trans (Kept.of_below hbz) (fun _ h => .inl h)
        have Bz := B4.below hbz
        have OBz := OB4.below hbz
        have y0 : wz.cell? ⟨ob, 0, none⟩ = some (.int .i64 q.k) := OBz.cell 0
        have y1 : wz.cell? ⟨ob, 1, none⟩ = some (.int .i64 q.b) := OBz.cell 1
        have y2 : wz.cell? ⟨ob, 2, none⟩ = some (.int .i64 q.o) := OBz.cell 2
        have y3 : wz.cell? ⟨ob, 3, none⟩ = some (.int .i64 q.f) := OBz.cell 3
        have y4 : wz.cell? ⟨ob, 4, none⟩ = some (.int .i64 q.a) := OBz.cell 4
        have y5 : wz.cell? ⟨ob, 5, none⟩ = some (.int .i64 q.x.k) := OBz.cell 5
        have y6 : wz.cell? ⟨ob, 6, none⟩ = some (.int .i64 q.x.n) := OBz.cell 6
        have y7 : wz.cell? ⟨ob, 7, none⟩ = some (.int .i64 q.y.k) := OBz.cell 7
        have y8 : wz.cell? ⟨ob, 8, none⟩ = some (.int .i64 q.y.n) := OBz.cell 8
        have yl := OBz.lt
        have rl := RB.lt
        have r0 : wz.cell? ⟨n8, 0, none⟩ = some (.int .i64 (1 + ka)) := RB.cell 0
        have r1 : wz.cell? ⟨n8, 1, none⟩ = some (.int .i64 fa) := RB.cell 1
        have r2 : wz.cell? ⟨n8, 2, none⟩ = some (.int .i64 kf) := RB.cell 2
        have r3 : wz.cell? ⟨n8, 3, none⟩ = some (.int .i64 vx.k) := RB.cell 3
        have r4 : wz.cell? ⟨n8, 4, none⟩ = some (.int .i64 vx.n) := RB.cell 4
        have r5 : wz.cell? ⟨n8, 5, none⟩ = some (.int .i64 vy.k) := RB.cell 5
        have r6 : wz.cell? ⟨n8, 6, none⟩ = some (.int .i64 vy.n) := RB.cell 6
        clear c0 c1 c2 c3 c4 c5 c6 c7 c8 cl
        have rf : ∀ i, wz.frozen? ⟨n8, i, none⟩ = false := fun i => RB.free i
        go_upto_region 13 with (go_at_call_of 6 (Value.int IntKind.i64 q.k); refine (cKind _ q.k 3 f.k.1 f.k.2 (by decide)).mono ?_; rintro e wk ⟨rfl, hwk⟩; rw [hwk, hkind]; clear hwk wk)
        have oo8 : Oth [n8] wz (wz.setCell ⟨n8, 1, none⟩ (.int .i64 (96 + 4 * (ko % 16)))) := Oth.set _ _ _ _ (by simp)
        have By := Bz.oth oo8 (by simpa using Bz.ne RB hTR)
        have RBy : Blk w0 (wz.setCell ⟨n8, 1, none⟩ (.int .i64 (96 + 4 * (ko % 16)))) n8 54 #[.int .i64 (1 + ka), .int .i64 (96 + 4 * (ko % 16)), .int .i64 kf, .int .i64 vx.k, .int .i64 vx.n, .int .i64 vy.k, .int .i64 vy.n] := RB.set 1 _
        have Kwy : Kept [WB] w (wz.setCell ⟨n8, 1, none⟩ (.int .i64 (96 + 4 * (ko % 16)))) := Kz.trans (Kept.setCell [n8] _ _ _ (by simp)) (fun k h => .inr (by simp at h; omega))
        clear oo8 r0 r1 r2 r3 r4 r5 r6 rl rf
        generalize wz.setCell ⟨n8, 1, none⟩ (.int .i64 (96 + 4 * (ko % 16))) = wy at By RBy Kwy ⊢
        have hsy : w0.heap.size ≤ wy.heap.size := Nat.le_trans By.old (Nat.le_of_lt By.lt)
        have r0 : wy.cell? ⟨n8, 0, none⟩ = some (.int .i64 (1 + ka)) := RBy.cell 0
        have r1 : wy.cell? ⟨n8, 1, none⟩ = some (.int .i64 (96 + 4 * (ko % 16))) := RBy.cell 1
        have r2 : wy.cell? ⟨n8, 2, none⟩ = some (.int .i64 kf) := RBy.cell 2
        have r3 : wy.cell? ⟨n8, 3, none⟩ = some (.int .i64 vx.k) := RBy.cell 3
        have r4 : wy.cell? ⟨n8, 4, none⟩ = some (.int .i64 vx.n) := RBy.cell 4
        have r5 : wy.cell? ⟨n8, 5, none⟩ = some (.int .i64 vy.k) := RBy.cell 5
        have r6 : wy.cell? ⟨n8, 6, none⟩ = some (.int .i64 vy.n) := RBy.cell 6
        have rl := RBy.lt
        go_upto_region 14 with (go_at_call 10; refine (cNewDirect (96 + 4 * (ko % 16)) ⟨1 + ka, (96 + 4 * (ko % 16)), kf, vx, vy⟩ ⟨kb % 2 == 1, kb / 2 % 2 == 1, kb / 4 % 2 == 1, kb / 8⟩ _ (by omega) (by omega) (by simp only; omega) (by simp only; omega)).mono ?_; rintro e w6 ⟨p, rfl, M⟩; have B6 := By.below M.bel; obtain ⟨x6, xc6, xf6⟩ := B6.any (o) (by omega))
        clear xc6 xf6
        have hs5 : w0.heap.size ≤ wy.heap.size := Nat.le_trans By.old (Nat.le_of_lt By.lt)
        have X6 : Mx w0 w6 p 103 (Sx.new ((96 + 4 * (ko % 16)) + 1 + kf) ⟨1 + ka, (96 + 4 * (ko % 16)), kf, vx, vy⟩ ⟨kb % 2 == 1, kb / 2 % 2 == 1, kb / 4 % 2 == 1, kb / 8⟩) := M.mx hs5 (by decide) (by decide) (Sx.ok_new _ _ _)
        have RB6 := RBy.below M.bel
        have Kw6 := Kwy.trans (Kept.of_below M.bel) (fun _ h => .inl h)
        have np : w.heap.size ≤ p := Nat.le_trans Kwy.size M.new
        clear M
        clear r0 r1 r2 r3 r4 r5 r6 rl
        obtain ⟨cs7, B7, szcs7, atcs7, otcs7⟩ := B6.put (o) (by omega) (pt p)
        have Kw7 : Kept [WB] w (w6.setCell ⟨WB, o, none⟩ (pt p)) := Kw6.trans (Kept.setCell [WB] _ _ _ (by simp)) (fun _ h => .inl h)
        have oow7 : Oth [WB] w6 (w6.setCell ⟨WB, o, none⟩ (pt p)) := Oth.set _ _ _ _ (by simp)
        have RB7 := RB6.oth oow7 (by simpa using RB6.ne B6 (Ne.symm hTR))
        obtain ⟨vvX7, bbX7⟩ := X6.blk
        have X7 := X6.oth1 oow7 B6 hTB (bbX7.ne B6 (Ne.symm hT2.1))
        clear bbX7
        clear oow7
        generalize w6.setCell ⟨WB, o, none⟩ (pt p) = w7 at B7 Kw7 RB7 X7 ⊢
        have r0 : w7.cell? ⟨n8, 0, none⟩ = some (.int .i64 (1 + ka)) := RB7.cell 0
        have r1 : w7.cell? ⟨n8, 1, none⟩ = some (.int .i64 (96 + 4 * (ko % 16))) := RB7.cell 1
        have r2 : w7.cell? ⟨n8, 2, none⟩ = some (.int .i64 kf) := RB7.cell 2
        have r3 : w7.cell? ⟨n8, 3, none⟩ = some (.int .i64 vx.k) := RB7.cell 3
        have r4 : w7.cell? ⟨n8, 4, none⟩ = some (.int .i64 vx.n) := RB7.cell 4
        have r5 : w7.cell? ⟨n8, 5, none⟩ = some (.int .i64 vy.k) := RB7.cell 5
        have r6 : w7.cell? ⟨n8, 6, none⟩ = some (.int .i64 vy.n) := RB7.cell 6
        have rl := RB7.lt
        go_upto_region 15 with (go_at_call 27; refine (rNewDirect (96 + 4 * (ko % 16)) ⟨1 + ka, (96 + 4 * (ko % 16)), kf, vx, vy⟩ ⟨kb % 2 == 1, kb / 2 % 2 == 1, kb / 4 % 2 == 1, kb / 8⟩ _ (by omega) (by omega) (by simp only; omega) (by simp only; omega) (by simp only; omega)).mono ?_; rintro e w9 ⟨p', rfl, M⟩; have B9 := B7.below M.bel; obtain ⟨x9, xc9, xf9⟩ := B9.any (o + 3) (by omega))
        clear xc9 xf9
        have hs8 : w0.heap.size ≤ w7.heap.size := Nat.le_trans B7.old (Nat.le_of_lt B7.lt)
        have RX9 : Blk w0 w9 p' 85 (RD.new ((96 + 4 * (ko % 16)) + 1 + kf) ⟨1 + ka, (96 + 4 * (ko % 16)), kf, vx, vy⟩ ⟨kb % 2 == 1, kb / 2 % 2 == 1, kb / 4 % 2 == 1, kb / 8⟩).cells := M.blk' hs8 (by decide)
        have X9 := X7.below M.bel
        have Kw9 := Kw7.trans (Kept.of_below M.bel) (fun _ h => .inl h)
        have np' : w.heap.size ≤ p' := Nat.le_trans Kw7.size M.new
        clear M
        clear r0 r1 r2 r3 r4 r5 r6 rl
        obtain ⟨cs10, B10, szcs10, atcs10, otcs10⟩ := B9.put (o + 3) (by omega) (pt p')
        have Kw10 : Kept [WB] w (w9.setCell ⟨WB, o + 3, none⟩ (pt p')) := Kw9.trans (Kept.setCell [WB] _ _ _ (by simp)) (fun _ h => .inl h)
        have oow10 : Oth [WB] w9 (w9.setCell ⟨WB, o + 3, none⟩ (pt p')) := Oth.set _ _ _ _ (by simp)
        have RX10 := RX9.oth oow10 (by simpa using RX9.ne B9 (Ne.symm hT3.1))
        obtain ⟨vvX10, bbX10⟩ := X9.blk
        have X10 := X9.oth1 oow10 B9 hTB (bbX10.ne B9 (Ne.symm hT2.1))
        clear bbX10
        clear oow10
        generalize w9.setCell ⟨WB, o + 3, none⟩ (pt p') = w10 at B10 Kw10 RX10 X10 ⊢
        have c2 : w10.cell? ⟨WB, o, none⟩ = some (pt p) := (B10.cell _).trans ((otcs10 _ (by omega)).trans atcs7)
        go_wp2
        go_ret
        exact ⟨rfl, fun _ => ⟨Kw10, p, p', cs10, X10, RX10, B10, six2 ho szcs2 atcs2 otcs2 szcs3 atcs3 otcs3 szcs4 atcs4 otcs4 szcs7 (k := 0) (by decide) atcs7 otcs7 szcs10 atcs10 otcs10, np, np'⟩, fun h => absurd (hkind.symm.trans h) (by decide), fun h => absurd (hkind.symm.trans h) (by decide)⟩
      · skip
        have Kz : Kept [WB] w wz := Kw4.trans (Kept.of_below hbz) (fun _ h => .inl h)
        have Bz := B4.below hbz
        have OBz := OB4.below hbz
        have y0 : wz.cell? ⟨ob, 0, none⟩ = some (.int .i64 q.k) := OBz.cell 0
        have y1 : wz.cell? ⟨ob, 1, none⟩ = some (.int .i64 q.b) := OBz.cell 1
        have y2 : wz.cell? ⟨ob, 2, none⟩ = some (.int .i64 q.o) := OBz.cell 2
        have y3 : wz.cell? ⟨ob, 3, none⟩ = some (.int .i64 q.f) := OBz.cell 3
        have y4 : wz.cell? ⟨ob, 4, none⟩ = some (.int .i64 q.a) := OBz.cell 4
        have y5 : wz.cell? ⟨ob, 5, none⟩ = some (.int .i64 q.x.k) := OBz.cell 5
        have y6 : wz.cell? ⟨ob, 6, none⟩ = some (.int .i64 q.x.n) := OBz.cell 6
        have y7 : wz.cell? ⟨ob, 7, none⟩ = some (.int .i64 q.y.k) := OBz.cell 7
        have y8 : wz.cell? ⟨ob, 8, none⟩ = some (.int .i64 q.y.n) := OBz.cell 8
        have yl := OBz.lt
        have rl := RB.lt
        have r0 : wz.cell? ⟨n8, 0, none⟩ = some (.int .i64 (1 + ka)) := RB.cell 0
        have r1 : wz.cell? ⟨n8, 1, none⟩ = some (.int .i64 fa) := RB.cell 1
        have r2 : wz.cell? ⟨n8, 2, none⟩ = some (.int .i64 kf) := RB.cell 2
        have r3 : wz.cell? ⟨n8, 3, none⟩ = some (.int .i64 vx.k) := RB.cell 3
        have r4 : wz.cell? ⟨n8, 4, none⟩ = some (.int .i64 vx.n) := RB.cell 4
        have r5 : wz.cell? ⟨n8, 5, none⟩ = some (.int .i64 vy.k) := RB.cell 5
        have r6 : wz.cell? ⟨n8, 6, none⟩ = some (.int .i64 vy.n) := RB.cell 6
        clear c0 c1 c2 c3 c4 c5 c6 c7 c8 cl
        have rf : ∀ i, wz.frozen? ⟨n8, i, none⟩ = false := fun i => RB.free i
        go_upto_region 18 with (go_at_call_of 6 (Value.int IntKind.i64 q.k); refine (cKind _ q.k 3 f.k.1 f.k.2 (by decide)).mono ?_; rintro e wk ⟨rfl, hwk⟩; rw [hwk, hkind]; clear hwk wk)
        have oo8 : Oth [n8] wz (wz.setCell ⟨n8, 2, none⟩ (.int .i64 q.f)) := Oth.set _ _ _ _ (by simp)
        have By := Bz.oth oo8 (by simpa using Bz.ne RB hTR)
        have RBy : Blk w0 (wz.setCell ⟨n8, 2, none⟩ (.int .i64 q.f)) n8 54 #[.int .i64 (1 + ka), .int .i64 fa, .int .i64 q.f, .int .i64 vx.k, .int .i64 vx.n, .int .i64 vy.k, .int .i64 vy.n] := RB.set 2 _
        have Kwy : Kept [WB] w (wz.setCell ⟨n8, 2, none⟩ (.int .i64 q.f)) := Kz.trans (Kept.setCell [n8] _ _ _ (by simp)) (fun k h => .inr (by simp at h; omega))
        clear oo8 r0 r1 r2 r3 r4 r5 r6 rl rf
        generalize wz.setCell ⟨n8, 2, none⟩ (.int .i64 q.f) = wy at By RBy Kwy ⊢
        have hsy : w0.heap.size ≤ wy.heap.size := Nat.le_trans By.old (Nat.le_of_lt By.lt)
        go_upto_region 19 with (fail)
        have EBq : Blk w0 (wy.alloc (.cells #[.int .i64 (kb % 5), .int .i64 (kb / 8), .int .i64 0] 59)) wy.heap.size 59 #[.int .i64 (kb % 5), .int .i64 (kb / 8), .int .i64 0] := Blk.new hsy _ (by decide)
        have hbq : Below wy.heap.size wy (wy.alloc (.cells #[.int .i64 (kb % 5), .int .i64 (kb / 8), .int .i64 0] 59)) := (Below.refl _ wy).alloc (Nat.le_refl _) _
        have Bq := By.below hbq
        have RBq := RBy.below hbq
        have Kwq : Kept [WB] w (wy.alloc (.cells #[.int .i64 (kb % 5), .int .i64 (kb / 8), .int .i64 0] 59)) := Kwy.trans (Kept.of_below hbq) (fun _ h => .inl h)
        clear hbq
        generalize wy.alloc (.cells #[.int .i64 (kb % 5), .int .i64 (kb / 8), .int .i64 0] 59) = wq at EBq Bq RBq Kwq ⊢
        generalize wy.heap.size = ne at EBq ⊢
        have r0 : wq.cell? ⟨n8, 0, none⟩ = some (.int .i64 (1 + ka)) := RBq.cell 0
        have r1 : wq.cell? ⟨n8, 1, none⟩ = some (.int .i64 fa) := RBq.cell 1
        have r2 : wq.cell? ⟨n8, 2, none⟩ = some (.int .i64 q.f) := RBq.cell 2
        have r3 : wq.cell? ⟨n8, 3, none⟩ = some (.int .i64 vx.k) := RBq.cell 3
        have r4 : wq.cell? ⟨n8, 4, none⟩ = some (.int .i64 vx.n) := RBq.cell 4
        have r5 : wq.cell? ⟨n8, 5, none⟩ = some (.int .i64 vy.k) := RBq.cell 5
        have r6 : wq.cell? ⟨n8, 6, none⟩ = some (.int .i64 vy.n) := RBq.cell 6
        have rl := RBq.lt
        have e0 : wq.cell? ⟨ne, 0, none⟩ = some (.int .i64 (kb % 5)) := EBq.cell 0
        have e1 : wq.cell? ⟨ne, 1, none⟩ = some (.int .i64 (kb / 8)) := EBq.cell 1
        have e2 : wq.cell? ⟨ne, 2, none⟩ = some (.int .i64 0) := EBq.cell 2
        have el := EBq.lt
        go_upto_region 20 with (go_at_call 11; refine (cNewPlain ⟨1 + ka, fa, q.f, vx, vy⟩ ⟨kb % 5, kb / 8, 0⟩ _).mono ?_; rintro e w6 ⟨p, rfl, M⟩; have B6 := Bq.below M.bel; obtain ⟨x6, xc6, xf6⟩ := B6.any (o + 1) (by omega))
        clear xc6 xf6
        have hs5 : w0.heap.size ≤ wq.heap.size := Nat.le_trans Bq.old (Nat.le_of_lt Bq.lt)
        have X6 : Mx w0 w6 p 104 (Sx.plain ⟨1 + ka, fa, q.f, vx, vy⟩ ⟨kb % 5, kb / 8, 0⟩) := M.mx hs5 (by decide) (by decide) (Sx.ok_plain _ (by simp only; omega) (by simp only; omega))
        have RB6 := RBq.below M.bel
        have EB6 := EBq.below M.bel
        have Kw6 := Kwq.trans (Kept.of_below M.bel) (fun _ h => .inl h)
        have np : w.heap.size ≤ p := Nat.le_trans Kwq.size M.new
        clear M
        clear r0 r1 r2 r3 r4 r5 r6 rl e0 e1 e2 el
        obtain ⟨cs7, B7, szcs7, atcs7, otcs7⟩ := B6.put (o + 1) (by omega) (pt p)
        have Kw7 : Kept [WB] w (w6.setCell ⟨WB, o + 1, none⟩ (pt p)) := Kw6.trans (Kept.setCell [WB] _ _ _ (by simp)) (fun _ h => .inl h)
        have oow7 : Oth [WB] w6 (w6.setCell ⟨WB, o + 1, none⟩ (pt p)) := Oth.set _ _ _ _ (by simp)
        have RB7 := RB6.oth oow7 (by simpa using RB6.ne B6 (Ne.symm hTR))
        have EB7 := EB6.oth oow7 (by simpa using EB6.ne B6 (Ne.symm hTE))
        obtain ⟨vvX7, bbX7⟩ := X6.blk
        have X7 := X6.oth1 oow7 B6 hTB (bbX7.ne B6 (Ne.symm hT2.2.1))
        clear bbX7
        clear oow7
        generalize w6.setCell ⟨WB, o + 1, none⟩ (pt p) = w7 at B7 Kw7 RB7 EB7 X7 ⊢
        have r0 : w7.cell? ⟨n8, 0, none⟩ = some (.int .i64 (1 + ka)) := RB7.cell 0
        have r1 : w7.cell? ⟨n8, 1, none⟩ = some (.int .i64 fa) := RB7.cell 1
        have r2 : w7.cell? ⟨n8, 2, none⟩ = some (.int .i64 q.f) := RB7.cell 2
        have r3 : w7.cell? ⟨n8, 3, none⟩ = some (.int .i64 vx.k) := RB7.cell 3
        have r4 : w7.cell? ⟨n8, 4, none⟩ = some (.int .i64 vx.n) := RB7.cell 4
        have r5 : w7.cell? ⟨n8, 5, none⟩ = some (.int .i64 vy.k) := RB7.cell 5
        have r6 : w7.cell? ⟨n8, 6, none⟩ = some (.int .i64 vy.n) := RB7.cell 6
        have rl := RB7.lt
        have e0 : w7.cell? ⟨ne, 0, none⟩ = some (.int .i64 (kb % 5)) := EB7.cell 0
        have e1 : w7.cell? ⟨ne, 1, none⟩ = some (.int .i64 (kb / 8)) := EB7.cell 1
        have e2 : w7.cell? ⟨ne, 2, none⟩ = some (.int .i64 0) := EB7.cell 2
        have el := EB7.lt
        go_upto_region 21 with (go_at_call 28; refine (rNewPlain ⟨1 + ka, fa, q.f, vx, vy⟩ ⟨kb % 5, kb / 8, 0⟩ _).mono ?_; rintro e w9 ⟨p', rfl, M⟩; have B9 := B7.below M.bel; obtain ⟨x9, xc9, xf9⟩ := B9.any (o + 4) (by omega))
        clear xc9 xf9
        have hs8 : w0.heap.size ≤ w7.heap.size := Nat.le_trans B7.old (Nat.le_of_lt B7.lt)
        have RX9 : Blk w0 w9 p' 87 (RP.new ⟨1 + ka, fa, q.f, vx, vy⟩ ⟨kb % 5, kb / 8, 0⟩).cells := M.blk' hs8 (by decide)
        have X9 := X7.below M.bel
        have Kw9 := Kw7.trans (Kept.of_below M.bel) (fun _ h => .inl h)
        have np' : w.heap.size ≤ p' := Nat.le_trans Kw7.size M.new
        clear M
        clear r0 r1 r2 r3 r4 r5 r6 rl e0 e1 e2 el
        obtain ⟨cs10, B10, szcs10, atcs10, otcs10⟩ := B9.put (o + 4) (by omega) (pt p')
        have Kw10 : Kept [WB] w (w9.setCell ⟨WB, o + 4, none⟩ (pt p')) := Kw9.trans (Kept.setCell [WB] _ _ _ (by simp)) (fun _ h => .inl h)
        have oow10 : Oth [WB] w9 (w9.setCell ⟨WB, o + 4, none⟩ (pt p')) := Oth.set _ _ _ _ (by simp)
        have RX10 := RX9.oth oow10 (by simpa using RX9.ne B9 (Ne.symm hT3.2.1))
        obtain ⟨vvX10, bbX10⟩ := X9.blk
        have X10 := X9.oth1 oow10 B9 hTB (bbX10.ne B9 (Ne.symm hT2.2.1))
        clear bbX10
        clear oow10
        generalize w9.setCell ⟨WB, o + 4, none⟩ (pt p') = w10 at B10 Kw10 RX10 X10 ⊢
        have c2 : w10.cell? ⟨WB, o + 1, none⟩ = some (pt p) := (B10.cell _).trans ((otcs10 _ (by omega)).trans atcs7)
        go_wp2
        go_ret
        exact ⟨rfl, fun h => absurd (hkind.symm.trans h) (by decide), fun _ => ⟨Kw10, p, p', cs10, X10, RX10, B10, six2 ho szcs2 atcs2 otcs2 szcs3 atcs3 otcs3 szcs4 atcs4 otcs4 szcs7 (k := 1) (by decide) atcs7 otcs7 szcs10 atcs10 otcs10, np, np'⟩, fun h => absurd (hkind.symm.trans h) (by decide)⟩
      · skip
        have Kz : Kept [WB] w wz := Kw4.trans (Kept.of_below hbz) (fun _ h => .inl h)
        have Bz := B4.below hbz
        have OBz := OB4.below hbz
        have y0 : wz.cell? ⟨ob, 0, none⟩ = some (.int .i64 q.k) := OBz.cell 0
        have y1 : wz.cell? ⟨ob, 1, none⟩ = some (.int .i64 q.b) := OBz.cell 1
        have y2 : wz.cell? ⟨ob, 2, none⟩ = some (.int .i64 q.o) := OBz.cell 2
        have y3 : wz.cell? ⟨ob, 3, none⟩ = some (.int .i64 q.f) := OBz.cell 3
        have y4 : wz.cell? ⟨ob, 4, none⟩ = some (.int .i64 q.a) := OBz.cell 4
        have y5 : wz.cell? ⟨ob, 5, none⟩ = some (.int .i64 q.x.k) := OBz.cell 5
        have y6 : wz.cell? ⟨ob, 6, none⟩ = some (.int .i64 q.x.n) := OBz.cell 6
        have y7 : wz.cell? ⟨ob, 7, none⟩ = some (.int .i64 q.y.k) := OBz.cell 7
        have y8 : wz.cell? ⟨ob, 8, none⟩ = some (.int .i64 q.y.n) := OBz.cell 8
        have yl := OBz.lt
        have rl := RB.lt
        have r0 : wz.cell? ⟨n8, 0, none⟩ = some (.int .i64 (1 + ka)) := RB.cell 0
        have r1 : wz.cell? ⟨n8, 1, none⟩ = some (.int .i64 fa) := RB.cell 1
        have r2 : wz.cell? ⟨n8, 2, none⟩ = some (.int .i64 kf) := RB.cell 2
        have r3 : wz.cell? ⟨n8, 3, none⟩ = some (.int .i64 vx.k) := RB.cell 3
        have r4 : wz.cell? ⟨n8, 4, none⟩ = some (.int .i64 vx.n) := RB.cell 4
        have r5 : wz.cell? ⟨n8, 5, none⟩ = some (.int .i64 vy.k) := RB.cell 5
        have r6 : wz.cell? ⟨n8, 6, none⟩ = some (.int .i64 vy.n) := RB.cell 6
        clear c0 c1 c2 c3 c4 c5 c6 c7 c8 cl
        have fv := fVal1
        go_upto_region 22 with (go_at_call_of 6 (Value.int IntKind.i64 q.k); refine (cKind _ q.k 3 f.k.1 f.k.2 (by decide)).mono ?_; rintro e wk ⟨rfl, hwk⟩; rw [hwk, hkind]; clear hwk wk)
        go_upto_region 23 with (first
          | (go_at_call 25; refine (cVal q.y f.y _).mono ?_; rintro e w5 ⟨rfl, hb5⟩; rw [hvy]; have B5 := Bz.below hb5)
          | (go_at_call 12; refine (cNewSame fa vy.n _).mono ?_; rintro e w6 ⟨p, rfl, M⟩; have B6 := B5.below M.bel; obtain ⟨x6, xc6, xf6⟩ := B6.any (o + 2) (by omega)))
        clear xc6 xf6
        have hs5 : w0.heap.size ≤ w5.heap.size := Nat.le_trans B5.old (Nat.le_of_lt B5.lt)
        have X6 : Mx w0 w6 p 108 (Sx.same fa vy.n) := M.mx hs5 (by decide) (by decide) (Sx.ok_same _ _)
        have OB6 := (OBz.below hb5).below M.bel
        have Kw5 := Kz.trans (Kept.of_below hb5) (fun _ h => .inl h)
        have Kw6 := Kw5.trans (Kept.of_below M.bel) (fun _ h => .inl h)
        have np : w.heap.size ≤ p := Nat.le_trans Kw5.size M.new
        clear M
        obtain ⟨cs7, B7, szcs7, atcs7, otcs7⟩ := B6.put (o + 2) (by omega) (pt p)
        have Kw7 : Kept [WB] w (w6.setCell ⟨WB, o + 2, none⟩ (pt p)) := Kw6.trans (Kept.setCell [WB] _ _ _ (by simp)) (fun _ h => .inl h)
        have oow7 : Oth [WB] w6 (w6.setCell ⟨WB, o + 2, none⟩ (pt p)) := Oth.set _ _ _ _ (by simp)
        have OB7 := OB6.oth oow7 (by simpa using OB6.ne B6 (Ne.symm hT1))
        obtain ⟨vvX7, bbX7⟩ := X6.blk
        have X7 := X6.oth1 oow7 B6 hTB (bbX7.ne B6 (Ne.symm hT2.2.2))
        clear bbX7
        clear oow7
        generalize w6.setCell ⟨WB, o + 2, none⟩ (pt p) = w7 at B7 Kw7 OB7 X7 ⊢
        clear y0 y1 y2 y3 y4 y5 y6 y7 y8 yl
        have z0 : w7.cell? ⟨ob, 0, none⟩ = some (.int .i64 q.k) := OB7.cell 0
        have z1 : w7.cell? ⟨ob, 1, none⟩ = some (.int .i64 q.b) := OB7.cell 1
        have z2 : w7.cell? ⟨ob, 2, none⟩ = some (.int .i64 q.o) := OB7.cell 2
        have z3 : w7.cell? ⟨ob, 3, none⟩ = some (.int .i64 q.f) := OB7.cell 3
        have z4 : w7.cell? ⟨ob, 4, none⟩ = some (.int .i64 q.a) := OB7.cell 4
        have z5 : w7.cell? ⟨ob, 5, none⟩ = some (.int .i64 q.x.k) := OB7.cell 5
        have z6 : w7.cell? ⟨ob, 6, none⟩ = some (.int .i64 q.x.n) := OB7.cell 6
        have z7 : w7.cell? ⟨ob, 7, none⟩ = some (.int .i64 q.y.k) := OB7.cell 7
        have z8 : w7.cell? ⟨ob, 8, none⟩ = some (.int .i64 q.y.n) := OB7.cell 8
        have zl := OB7.lt
        go_upto_region 24 with (first
          | (go_at_call 25; refine (cVal q.y f.y _).mono ?_; rintro e w8 ⟨rfl, hb8⟩; rw [hvy]; have B8 := B7.below hb8)
          | (go_at_call 29; refine (rNewSame fa vy.n _).mono ?_; rintro e w9 ⟨p', rfl, M⟩; have B9 := B8.below M.bel; obtain ⟨x9, xc9, xf9⟩ := B9.any (o + 5) (by omega)))
        clear xc9 xf9
        have hs8 : w0.heap.size ≤ w8.heap.size := Nat.le_trans B8.old (Nat.le_of_lt B8.lt)
        have RX9 : Blk w0 w9 p' 89 (RS.new fa vy.n).cells := M.blk' hs8 (by decide)
        have X9 := (X7.below hb8).below M.bel
        have Kw8 := Kw7.trans (Kept.of_below hb8) (fun _ h => .inl h)
        have Kw9 := Kw8.trans (Kept.of_below M.bel) (fun _ h => .inl h)
        have np' : w.heap.size ≤ p' := Nat.le_trans Kw8.size M.new
        clear M
        obtain ⟨cs10, B10, szcs10, atcs10, otcs10⟩ := B9.put (o + 5) (by omega) (pt p')
        have Kw10 : Kept [WB] w (w9.setCell ⟨WB, o + 5, none⟩ (pt p')) := Kw9.trans (Kept.setCell [WB] _ _ _ (by simp)) (fun _ h => .inl h)
        have oow10 : Oth [WB] w9 (w9.setCell ⟨WB, o + 5, none⟩ (pt p')) := Oth.set _ _ _ _ (by simp)
        have RX10 := RX9.oth oow10 (by simpa using RX9.ne B9 (Ne.symm hT3.2.2))
        obtain ⟨vvX10, bbX10⟩ := X9.blk
        have X10 := X9.oth1 oow10 B9 hTB (bbX10.ne B9 (Ne.symm hT2.2.2))
        clear bbX10
        clear oow10
        generalize w9.setCell ⟨WB, o + 5, none⟩ (pt p') = w10 at B10 Kw10 RX10 X10 ⊢
        have c2 : w10.cell? ⟨WB, o + 2, none⟩ = some (pt p) := (B10.cell _).trans ((otcs10 _ (by omega)).trans atcs7)
        go_wp2
        go_ret
        exact ⟨rfl, fun h => absurd (hkind.symm.trans h) (by decide), fun h => absurd (hkind.symm.trans h) (by decide), fun _ => ⟨Kw10, p, p', cs10, X10, RX10, B10, six2 ho szcs2 atcs2 otcs2 szcs3 atcs3 otcs3 szcs4 atcs4 otcs4 szcs7 (k := 2) (by decide) atcs7 otcs7 szcs10 atcs10 otcs10, np, np'⟩⟩
end Go.Proofs.YtgakmpfmckikgaaGreatDoor
