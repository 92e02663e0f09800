/-
  The walk of StoplessSwaps.
-/
import Derived.Test.YtpcoldpphihfmaaGreatDoorVsh
import Derived.Test.YtpcoldpphihfmaaGreatDoorVmv
import Derived.Test.YtpcoldpphihfmaaGreatDoorW1
import Derived.Deep.Cut
namespace Go.Proofs.YtpcoldpphihfmaaGreatDoor
set_option linter.unusedVariables false
set_option linter.unusedSimpArgs false
set_option maxRecDepth 100000
open Go.ChangeShapes Go.WideShapes Go.RowKit
open H.Plain (hw pS pC pN pM pG pT pL mv)

theorem bneT (w : World) : (binOp .neq 4 (.bool true) (.bool false)).run Tryz.prog w = .ok (.bool true) w := by kernel_rfl
theorem bneF (w : World) : (binOp .neq 4 (.bool false) (.bool true)).run Tryz.prog w = .ok (.bool true) w := by kernel_rfl
def rqS (u v : Vl) : Rq := ⟨3, 96, 0, u, v⟩
theorem SG.ok {old : Nat → Vl} {q0 q1 : Wq} {x0 x1 : Cw} {m : Mo} {s : St} {r0 r1 : Nat} (G : SG old q0 q1 x0 x1 m s r0 r1) : m.Ok := by
  rcases G with h | h | h
  · obtain ⟨g, O, M, _⟩ := h; exact M.ok
  · obtain ⟨g, v, O, hv, M, _⟩ := h; exact M.ok
  · obtain ⟨g, v, O, hv, M, _⟩ := h; exact M.ok
theorem sg_start {old : Nat → Vl} {q0 q1 : Wq} {s : St} {g : Nat → Int} {m : Mo} (O : Ob s g old) (M : Km g m) : SG old q0 q1 (.hd q0) (.hd q1) m s 24 24 :=
  .inl ⟨g, O, M, rfl, rfl, rfl, rfl, by simp only [Rk, rk]; rw [if_neg (fun h => by simp [mis] at h)]; decide, by simp only [Rk, rk]; rw [if_neg (fun h => by simp [mis] at h)]; decide⟩
/-- how many steps are left, against when they come -/
def Jq (k r j : Nat) : Prop := r = 0 ∨ 3 * r + j + ((k + 3 - j % 3) % 3) ≤ 164
theorem Jq.own {k r r' j : Nat} (h : Jq k r j) (hk : j % 3 = k) (hr : r' = r - 1) : Jq k r' (j + 1) := by
  unfold Jq at *
  omega
theorem Jq.other {k r j : Nat} (h : Jq k r j) (hk : j % 3 ≠ k) (hk3 : k < 3) : Jq k r (j + 1) := by
  unfold Jq at *
  omega
theorem Jq.start {k r : Nat} (hr : r ≤ 24) (hk : k < 2) : Jq k r 90 := by
  unfold Jq
  omega
set_option maxHeartbeats 8000000 in
theorem wStoplessSwaps (av : Option Addr) (ll cv' : Nat) (zl : Nat → Vl) (v1 v2 : Vl) (ap : Option Addr) (lp cp' : Nat) (zp : Nat → Int) (w : World) (L : Laid w) (hc : ll ≤ cv') (hc2 : cv' ≤ maxLen) (cv : CameV w av ll zl) (fi1 : v1.Fit) (fi2 : v2.Fit) (ci : CameI w ap lp zp) :
    Calls Tryz.prog 6 #[.slice av ll cv', .agg #[.int .i64 v1.k, .int .i64 v1.n, .int .i64 v2.k, .int .i64 v2.n], .slice ap lp cp'] w fun e w' => e = .returned (.bool true) ∧ Below w.heap.size w w' := by
  have GA := good_valP v1
  have GB := good_valP v2
  obtain ⟨a, ha⟩ : ∃ v, valP v1 = v := ⟨_, rfl⟩
  obtain ⟨b', hb'⟩ : ∃ v, valP v2 = v := ⟨_, rfl⟩
  rw [ha] at GA
  rw [hb'] at GB
  obtain ⟨W, Bw⟩ := L
  have a0 : Below w.heap.size w (w.alloc (.cells #[.int .i64 v1.k, .int .i64 v1.n, .int .i64 v2.k, .int .i64 v2.n] 81)) := (Below.refl _ _).alloc (Nat.le_refl _) _
  have X0 : Blk w (w.alloc (.cells #[.int .i64 v1.k, .int .i64 v1.n, .int .i64 v2.k, .int .i64 v2.n] 81)) w.heap.size 81 #[.int .i64 v1.k, .int .i64 v1.n, .int .i64 v2.k, .int .i64 v2.n] := Blk.new (Nat.le_refl _) _ (by decide)
  go_enter Tryz.func6, Tryz.ntmps6
  go_upto_region 1 with (fail)
  obtain ⟨ob, hob⟩ : ∃ q, w.heap.size = q := ⟨_, rfl⟩
  rw [hob] at X0 ⊢
  generalize hwx : w.alloc _ = wa at a0 X0 ⊢
  clear hwx hob
  have La : Laid wa := ⟨W.on a0, Bw.on a0⟩
  go_upto_region 2 with (go_at_call 9; refine (cShown _ La).mono ?_; rintro e w1 ⟨rfl, hb1⟩; have X1 := X0.below hb1; have b1 := a0.trans (hb1.mono a0.size))
  have bw1 := (La.1.on hb1)
  go_cut [8] from 24 (fun c wx => (∃ cl, c = .bool cl) ∧ wx = w1)
  case first =>
    rcases Nat.eq_zero_or_pos lp with hlp | hlp
    · have hl0 : (lp : Int) = 0 := by omega
      go_wp2
      go_meet
      case rel => exact ⟨⟨_, rfl⟩, rfl⟩
    · have hl0 : (0 : Int) < (lp : Int) := by omega
      have ci1 := ci.on b1
      obtain ⟨vb, off, rfl, hvb, hz⟩ : ∃ b off, ap = some ⟨b, off, none⟩ ∧ b < w1.heap.size ∧ ∀ j, j < lp → w1.cell? ⟨b, off + j, none⟩ = some (.int .i64 (zp j)) ∧ -9223372036854775808 ≤ zp j ∧ zp j ≤ 9223372036854775807 := ci1.resolve_left (by omega)
      obtain ⟨dz, z0, z1⟩ := hz 0 hlp
      obtain ⟨zj, hzj⟩ : ∃ zj, zp 0 = zj := ⟨_, rfl⟩
      rw [hzj, Nat.add_zero] at dz
      clear hz hzj ci1
      go_wp2
      go_meet
      case rel => exact ⟨⟨_, rfl⟩, rfl⟩
  obtain ⟨⟨cl, hcl⟩, hcw⟩ := hcut
  rw [hcl, hcw]
  clear hcl hcw wc bw1
  go_upto_region 4 with (go_at_call 27; refine (cGoing _ hc hc2 cl).mono ?_; rintro e w2 ⟨sa, ls, cs, zs, rfl, cis, hzs, hb2⟩; have X2 := X1.below hb2; have b2 := b1.trans (hb2.mono b1.size); obtain ⟨m, hm⟩ : ∃ m, min ll 3 = m := ⟨_, rfl⟩; obtain ⟨md, hmd⟩ : ∃ md : Int, (if cl = true then 7 else 6) = md := ⟨_, rfl⟩; rw [hm, hmd])
  have a3 : Below w2.heap.size w2 ((w2.alloc (.cells #[.int .i64 3, .slice sa ls cs, .slice av m cv'] 25)).alloc (.cells #[.int .i64 md, .int .i64 0, .int .i64 0] 51)) := by go_grown
  have G3 : Blk w ((w2.alloc (.cells #[.int .i64 3, .slice sa ls cs, .slice av m cv'] 25)).alloc (.cells #[.int .i64 md, .int .i64 0, .int .i64 0] 51)) w2.heap.size 25 #[.int .i64 3, .slice sa ls cs, .slice av m cv'] := (Blk.new b2.size _ (by decide)).below (by go_grown)
  have E3 : Blk w ((w2.alloc (.cells #[.int .i64 3, .slice sa ls cs, .slice av m cv'] 25)).alloc (.cells #[.int .i64 md, .int .i64 0, .int .i64 0] 51)) (w2.heap.size + 1) 51 #[.int .i64 md, .int .i64 0, .int .i64 0] := (by have q := Blk.new (w0 := w) (w := w2.alloc (.cells #[.int .i64 3, .slice sa ls cs, .slice av m cv'] 25)) (T := 51) (by have := b2.size; simp; omega) #[.int .i64 md, .int .i64 0, .int .i64 0] (by decide); simpa using q)
  have X3 := X2.below a3
  have b3 := b2.trans (a3.mono b2.size)
  obtain ⟨gb, hgb⟩ : ∃ q, w2.heap.size = q := ⟨_, rfl⟩
  obtain ⟨eb, heb⟩ : ∃ q, w2.heap.size + 1 = q := ⟨_, rfl⟩
  rw [hgb] at G3
  rw [heb] at E3
  rw [heb, hgb]
  have cis3 := cis.on a3
  generalize (w2.alloc (.cells #[.int .i64 3, .slice sa ls cs, .slice av m cv'] 25)).alloc (.cells #[.int .i64 md, .int .i64 0, .int .i64 0] 51) = w3 at G3 E3 X3 b3 cis3 ⊢
  have W3 := W.on b3
  have B3 := Bw.on b3
  have cv3 : CameV w3 av m zl := (cv.on b3).min (by omega)
  have ci3 := ci.on b3
  clear hgb heb a3 X2 X1 X0 b1 b2 a0 hb1 hb2 La cis hm
  have g0 : w3.cell? ⟨gb, 0, none⟩ = some (.int .i64 3) := G3.cell 0
  have g1 : w3.cell? ⟨gb, 1, none⟩ = some (.slice sa ls cs) := G3.cell 1
  have g2 : w3.cell? ⟨gb, 2, none⟩ = some (.slice av m cv') := G3.cell 2
  have gl_ := G3.lt
  have ev0 : w3.cell? ⟨eb, 0, none⟩ = some (.int .i64 md) := E3.cell 0
  have ev1 : w3.cell? ⟨eb, 1, none⟩ = some (.int .i64 0) := E3.cell 1
  have ev2 : w3.cell? ⟨eb, 2, none⟩ = some (.int .i64 0) := E3.cell 2
  have evl := E3.lt
  have X3l := X3.lt
  obtain ⟨old, hold⟩ : ∃ q, fldP m zl = q := ⟨_, rfl⟩
  obtain ⟨stt, hstt⟩ : ∃ q, stP ls zs = q := ⟨_, rfl⟩
  have go : ∀ k, (old k).Good := fun k => hold ▸ good_fld _ _ k
  have gs : ∀ k, 0 ≤ stt k ∧ stt k < 5 := fun k => hstt ▸ st_rng _ _ k
  go_upto_region 5 with (go_at_call 10; refine (cLaid w3 W3 cis3 cv3 (by decide) (by decide)).mono ?_; rintro e w4 ⟨b, y, s, s2, rfl, h4, ews, M⟩; rw [show kd 3 6 = 3 by decide, hold, hstt] at M; have O := ob_gl M go gs; have er0 : w4.cell? ⟨eb, 0, none⟩ = some (.int .i64 md) := (h4.bel.cell evl).trans ev0; have er1 : w4.cell? ⟨eb, 1, none⟩ = some (.int .i64 0) := (h4.bel.cell evl).trans ev1; have er2 : w4.cell? ⟨eb, 2, none⟩ = some (.int .i64 0) := (h4.bel.cell evl).trans ev2; have erl : eb < w4.heap.size := Nat.lt_of_lt_of_le evl h4.bel.size)
  have E3x := E3
  clear g0 g1 g2 gl_ G3 E3
  have hSl : s2.ws.length = 160 := by rw [← ews]; exact M.len
  have hW := fun (k : Nat) (hk : k < 3) => word_gl M ews hk
  obtain ⟨u, hu0⟩ : ∃ u, old 0 = u := ⟨_, rfl⟩
  have GU : u.Good := hu0 ▸ go 0
  obtain ⟨q0, hq0⟩ : ∃ q : Wq, q = ⟨rqS u a, !cl, false⟩ := ⟨_, rfl⟩
  obtain ⟨q1, hq1⟩ : ∃ q : Wq, q = ⟨rqS u b', !cl, false⟩ := ⟨_, rfl⟩
  have A0 : Abt q0 0 := hq0 ▸ ⟨rfl, rfl, by decide, .inr (.inr rfl), GU, GA, rfl⟩
  have A1 : Abt q1 0 := hq1 ▸ ⟨rfl, rfl, by decide, .inr (.inr rfl), GU, GB, rfl⟩
  have okq0 : (Cw.hd q0).Ok := hq0 ▸ ⟨.inr (.inr rfl), by simp [rqS], by simp [rqS], by simp [rqS], by simp [rqS]⟩
  have okq1 : (Cw.hd q1).Ok := hq1 ▸ ⟨.inr (.inr rfl), by simp [rqS], by simp [rqS], by simp [rqS], by simp [rqS]⟩
  have enew0 : Cw.new (rqS u a) ⟨md, 0, 0⟩ = .hd q0 := by rw [← hmd, hq0]; cases cl <;> simp [Cw.new, rqS]
  have enew1 : Cw.new (rqS u b') ⟨md, 0, 0⟩ = .hd q1 := by rw [← hmd, hq1]; cases cl <;> simp [Cw.new, rqS]
  have y00 : q0.r.y = a := by rw [hq0]; rfl
  have y10 : q1.r.y = b' := by rw [hq1]; rfl
  have mkB (na : a ≠ u) (nb : b' ≠ u) : Both old q0 q1 := ⟨A0, A1, by rw [hq0]; rfl, by rw [hq1]; rfl, by rw [hq0, hu0]; rfl, by rw [hq1, hu0]; rfl, by rw [y00, hu0]; exact na, by rw [y10, hu0]; exact nb⟩
  have G0 : SG old q0 q1 (.hd q0) (.hd q1) ⟨0, 0, !cl, 0⟩ s 24 24 := sg_start O (km_start _ _)
  obtain ⟨uw, huw⟩ : ∃ uw, gl 3 old stt (1 + 0) = uw := ⟨_, rfl⟩
  have hwd : s2.word ((97 : Nat) : Int) = uw := by rw [show ((97 : Nat) : Int) = 97 + ((0 : Nat) : Int) by omega, hW 0 (by decide), huw]
  have hu : Vl.of uw = u := by rw [← huw, of_gl (by decide) (go 0), hu0]
  have hkk : F.Plain.kind uw = u.k := congrArg Vl.k hu
  have hnn : F.Plain.num uw = u.n := congrArg Vl.n hu
  have hU : U64 uw := by rw [← hwd]; exact h4.rng2.word _
  obtain ⟨g, cp, seen⟩ := h4.seen
  have c0 := seen.c0
  rw [hSl] at c0
  have c1 := seen.at hSl 97 (by omega)
  rw [hwd] at c1
  have ly := seen.ly
  have lg := seen.lg
  have X4 := X3.below h4.bel
  have T0 := X4
  have E4 := E3x.below h4.bel
  go_upto_region 8 with (go_at_call 30; refine (F.rOf uw hU.1 hU.2 _).mono ?_; rintro e w5 ⟨rfl, hw5⟩; rw [hkk, hnn] at hw5 ⊢; have hb5 : Below w4.heap.size w4 w5 := (by rw [hw5]; go_grown); have h5 := h4.below hb5; have X5 := X4.below hb5; have E5 := E4.below hb5; clear hw5 hb5)
  have BU6b : Below w5.heap.size w5 (w5.alloc (.cells #[.int .i64 u.k, .int .i64 u.n] 38)) := (Below.refl _ _).alloc (Nat.le_refl _) _
  have BU6 : Blk w3 (w5.alloc (.cells #[.int .i64 u.k, .int .i64 u.n] 38)) w5.heap.size 38 #[.int .i64 u.k, .int .i64 u.n] := Blk.new h5.bel.size _ (by decide)
  have h6 := h5.below BU6b
  have X6 := X5.below BU6b
  have E6 := E5.below BU6b
  generalize w5.alloc (.cells #[.int .i64 u.k, .int .i64 u.n] 38) = w6 at BU6 h6 X6 E6 ⊢
  generalize w5.heap.size = ub at BU6 ⊢
  clear BU6b
  clear c0 c1 ly lg seen X5 X4 E5 E4 h5 T0 er0 er1 er2 erl
  have t0 : w6.cell? ⟨ob, 0, none⟩ = some (.int .i64 v1.k) := X6.cell 0
  have t1 : w6.cell? ⟨ob, 1, none⟩ = some (.int .i64 v1.n) := X6.cell 1
  have xl := X6.lt
  go_upto_region 9 with (go_at_call 28; refine (cVal v1 fi1 _).mono ?_; rintro e w7 ⟨rfl, hb7⟩; rw [ha]; have h7 := h6.below hb7; have X7 := X6.below hb7; have E7 := E6.below hb7; have BU7 := BU6.below hb7; clear hb7)
  have BA8b : Below w7.heap.size w7 (w7.alloc (.cells #[.int .i64 a.k, .int .i64 a.n] 38)) := (Below.refl _ _).alloc (Nat.le_refl _) _
  have BA8 : Blk w3 (w7.alloc (.cells #[.int .i64 a.k, .int .i64 a.n] 38)) w7.heap.size 38 #[.int .i64 a.k, .int .i64 a.n] := Blk.new h7.bel.size _ (by decide)
  have h8 := h7.below BA8b
  have X8 := X7.below BA8b
  have E8 := E7.below BA8b
  have BU8 := BU7.below BA8b
  generalize w7.alloc (.cells #[.int .i64 a.k, .int .i64 a.n] 38) = w8 at BA8 h8 X8 E8 BU8 ⊢
  generalize w7.heap.size = ab at BA8 ⊢
  clear BA8b
  clear t0 t1 xl X7 X6 E7 E6 h7 h6 BU7 BU6
  have t2 : w8.cell? ⟨ob, 2, none⟩ = some (.int .i64 v2.k) := X8.cell 2
  have t3 : w8.cell? ⟨ob, 3, none⟩ = some (.int .i64 v2.n) := X8.cell 3
  have xl := X8.lt
  go_upto_region 10 with (go_at_call 28; refine (cVal v2 fi2 _).mono ?_; rintro e w9 ⟨rfl, hb9⟩; rw [hb']; have h9 := h8.below hb9; have E9 := E8.below hb9; have BU9 := BU8.below hb9; have BA9 := BA8.below hb9; clear hb9)
  have BB10b : Below w9.heap.size w9 (w9.alloc (.cells #[.int .i64 b'.k, .int .i64 b'.n] 38)) := (Below.refl _ _).alloc (Nat.le_refl _) _
  have BB10 : Blk w3 (w9.alloc (.cells #[.int .i64 b'.k, .int .i64 b'.n] 38)) w9.heap.size 38 #[.int .i64 b'.k, .int .i64 b'.n] := Blk.new h9.bel.size _ (by decide)
  have h10 := h9.below BB10b
  have E10 := E9.below BB10b
  have BU10 := BU9.below BB10b
  have BA10 := BA9.below BB10b
  generalize w9.alloc (.cells #[.int .i64 b'.k, .int .i64 b'.n] 38) = w10 at BB10 h10 E10 BU10 BA10 ⊢
  generalize w9.heap.size = bb at BB10 ⊢
  clear BB10b
  clear t2 t3 xl X8 E9 E8 h9 h8 BU9 BU8 BA9 BA8
  have cu0 : w10.cell? ⟨ub, 0, none⟩ = some (.int .i64 u.k) := BU10.cell 0
  have cu1 : w10.cell? ⟨ub, 1, none⟩ = some (.int .i64 u.n) := BU10.cell 1
  have cul := BU10.lt
  have ca0 : w10.cell? ⟨ab, 0, none⟩ = some (.int .i64 a.k) := BA10.cell 0
  have ca1 : w10.cell? ⟨ab, 1, none⟩ = some (.int .i64 a.n) := BA10.cell 1
  have cal := BA10.lt
  have cb0 : w10.cell? ⟨bb, 0, none⟩ = some (.int .i64 b'.k) := BB10.cell 0
  have cb1 : w10.cell? ⟨bb, 1, none⟩ = some (.int .i64 b'.n) := BB10.cell 1
  have cbl := BB10.lt
  by_cases na : a = u
  · have q1 := eqVal_t na
    clear na mkB G0
    go_wp2
    go_ret
    exact ⟨rfl, b3.trans (h10.bel.mono b3.size)⟩
  have q1 := eqVal_f na
  by_cases nb : b' = u
  · have q2 := eqVal_t nb
    clear na nb mkB G0
    go_wp2
    go_ret
    exact ⟨rfl, b3.trans (h10.bel.mono b3.size)⟩
  have q2 := eqVal_f nb
  have BO := mkB na nb
  clear na nb mkB
  go_upto_region 13 with (fail)
  have X11b : Below w10.heap.size w10 (w10.alloc (.cells #[.pointer none, .pointer none] 82)) := (Below.refl _ _).alloc (Nat.le_refl _) _
  have X11 : Blk w3 (w10.alloc (.cells #[.pointer none, .pointer none] 82)) w10.heap.size 82 #[.pointer none, .pointer none] := Blk.new h10.bel.size _ (by decide)
  have h11 := h10.below X11b
  have E11 := E10.below X11b
  have BU11 := BU10.below X11b
  have BA11 := BA10.below X11b
  have BB11 := BB10.below X11b
  generalize w10.alloc (.cells #[.pointer none, .pointer none] 82) = w11 at X11 h11 E11 BU11 BA11 BB11 ⊢
  generalize w10.heap.size = xb at X11 ⊢
  clear X11b
  clear q1 q2 cu0 cu1 cul ca0 ca1 cal cb0 cb1 cbl E10 h10 BU10 BA10 BB10
  have cu0 : w11.cell? ⟨ub, 0, none⟩ = some (.int .i64 u.k) := BU11.cell 0
  have cu1 : w11.cell? ⟨ub, 1, none⟩ = some (.int .i64 u.n) := BU11.cell 1
  have cul := BU11.lt
  have ca0 : w11.cell? ⟨ab, 0, none⟩ = some (.int .i64 a.k) := BA11.cell 0
  have ca1 : w11.cell? ⟨ab, 1, none⟩ = some (.int .i64 a.n) := BA11.cell 1
  have cal := BA11.lt
  have xl := X11.lt
  have er0 : w11.cell? ⟨eb, 0, none⟩ = some (.int .i64 md) := E11.cell 0
  have er1 : w11.cell? ⟨eb, 1, none⟩ = some (.int .i64 0) := E11.cell 1
  have er2 : w11.cell? ⟨eb, 2, none⟩ = some (.int .i64 0) := E11.cell 2
  have erl := E11.lt
  go_upto_region 14 with (go_at_call 15; refine (cNewC (rqS u a) ⟨md, 0, 0⟩ _).mono ?_; rintro e w12 ⟨p0, rfl, Mn⟩; rw [enew0] at Mn; have hm := h11.below Mn.bel; have Em := E11.below Mn.bel; have BUm := BU11.below Mn.bel; have BAm := BA11.below Mn.bel; have BBm := BB11.below Mn.bel; have Xm := X11.below Mn.bel; have Mk : Cm w3 w12 p0 (.hd q0) := Mn.cm h11.bel.size okq0 B3; have xz : w12.cell? ⟨xb, 0, none⟩ = some (.pointer none) := Xm.cell 0; have xzf := Xm.free 0; have xzl := Xm.lt; clear Mn)
  have oX : Oth [xb] w12 (w12.setCell ⟨xb, 0, none⟩ (pt p0)) := Oth.set _ _ _ _ (by simp)
  have KX : Kept [xb] w12 (w12.setCell ⟨xb, 0, none⟩ (pt p0)) := Kept.setCell [xb] w12 ⟨xb, 0, none⟩ (pt p0) (by simp)
  have X13 : Blk w3 (w12.setCell ⟨xb, 0, none⟩ (pt p0)) xb 82 #[pt p0, .pointer none] := Xm.set 0 (pt p0)
  have h13 := to_twoB hm KX Xm
  obtain ⟨vk, Bk⟩ := Mk.blk
  have P13 := Mk.oth1 oX Xm (by decide) (Bk.ne Xm (by decide))
  have BU13 := BUm.oth oX (by simpa using BUm.ne Xm (by decide))
  have BA13 := BAm.oth oX (by simpa using BAm.ne Xm (by decide))
  have BB13 := BBm.oth oX (by simpa using BBm.ne Xm (by decide))
  have E13 := Em.oth oX (by simpa using fun e => absurd Xm.old (by rw [← e]; exact Nat.not_le_of_lt evl))
  clear xz xzf xzl oX KX Bk Mk xl er0 er1 er2 erl cu0 cu1 cul ca0 ca1 cal hm Em BUm BAm BBm Xm h11 E11 BU11 BA11 BB11 X11
  generalize w12.setCell ⟨xb, 0, none⟩ (pt p0) = w13 at X13 h13 P13 E13 BU13 BA13 BB13 ⊢
  have cu0 : w13.cell? ⟨ub, 0, none⟩ = some (.int .i64 u.k) := BU13.cell 0
  have cu1 : w13.cell? ⟨ub, 1, none⟩ = some (.int .i64 u.n) := BU13.cell 1
  have cul := BU13.lt
  have ca0 : w13.cell? ⟨bb, 0, none⟩ = some (.int .i64 b'.k) := BB13.cell 0
  have ca1 : w13.cell? ⟨bb, 1, none⟩ = some (.int .i64 b'.n) := BB13.cell 1
  have cal := BB13.lt
  have xl := X13.lt
  have er0 : w13.cell? ⟨eb, 0, none⟩ = some (.int .i64 md) := E13.cell 0
  have er1 : w13.cell? ⟨eb, 1, none⟩ = some (.int .i64 0) := E13.cell 1
  have er2 : w13.cell? ⟨eb, 2, none⟩ = some (.int .i64 0) := E13.cell 2
  have erl := E13.lt
  go_upto_region 15 with (go_at_call 15; refine (cNewC (rqS u b') ⟨md, 0, 0⟩ _).mono ?_; rintro e w14 ⟨p1, rfl, Mn⟩; rw [enew1] at Mn; have hm := h13.below Mn.bel; have Em := E13.below Mn.bel; have BUm := BU13.below Mn.bel; have BAm := BA13.below Mn.bel; have BBm := BB13.below Mn.bel; have Xm := X13.below Mn.bel; have Pm := P13.below Mn.bel; have Mk : Cm w3 w14 p1 (.hd q1) := Mn.cm h13.bel.size okq1 B3; have npq : p0 ≠ p1 := (by have := P13.lt; have := Mn.new; omega); have xz : w14.cell? ⟨xb, 1, none⟩ = some (.pointer none) := Xm.cell 1; have xzf := Xm.free 1; have xzl := Xm.lt; clear Mn)
  have oX : Oth [xb] w14 (w14.setCell ⟨xb, 1, none⟩ (pt p1)) := Oth.set _ _ _ _ (by simp)
  have KX : Kept [xb] w14 (w14.setCell ⟨xb, 1, none⟩ (pt p1)) := Kept.setCell [xb] w14 ⟨xb, 1, none⟩ (pt p1) (by simp)
  have X15 : Blk w3 (w14.setCell ⟨xb, 1, none⟩ (pt p1)) xb 82 #[pt p0, pt p1] := Xm.set 1 (pt p1)
  have h15 := to_twoB hm KX Xm
  obtain ⟨vk, Bk⟩ := Mk.blk
  have Q15 := Mk.oth1 oX Xm (by decide) (Bk.ne Xm (by decide))
  obtain ⟨vj, Bj⟩ := Pm.blk
  have P15 := Pm.oth1 oX Xm (by decide) (Bj.ne Xm (by decide))
  have BU15 := BUm.oth oX (by simpa using BUm.ne Xm (by decide))
  have BA15 := BAm.oth oX (by simpa using BAm.ne Xm (by decide))
  have BB15 := BBm.oth oX (by simpa using BBm.ne Xm (by decide))
  have E15 := Em.oth oX (by simpa using fun e => absurd Xm.old (by rw [← e]; exact Nat.not_le_of_lt evl))
  clear xz xzf xzl oX KX Bk Mk xl er0 er1 er2 erl cu0 cu1 cul ca0 ca1 cal hm Em BUm BAm BBm Xm Pm h13 E13 BU13 BA13 BB13 X13 P13 Bj
  generalize w14.setCell ⟨xb, 1, none⟩ (pt p1) = w15 at X15 h15 P15 E15 BU15 BA15 BB15 Q15 ⊢
  have xc0 : w15.cell? ⟨xb, 0, none⟩ = some (pt p0) := X15.cell 0
  have xc1 : w15.cell? ⟨xb, 1, none⟩ = some (pt p1) := X15.cell 1
  have xl := X15.lt
  go_upto_region 18 with (fail)
  have C16b : Below w15.heap.size w15 (w15.alloc (.cells #[.int .i64 0, .int .i64 0, .bool (!cl), .int .u64 0] 70)) := (Below.refl _ _).alloc (Nat.le_refl _) _
  have C16 : Blk w3 (w15.alloc (.cells #[.int .i64 0, .int .i64 0, .bool (!cl), .int .u64 0] 70)) w15.heap.size 70 #[.int .i64 0, .int .i64 0, .bool (!cl), .int .u64 0] := Blk.new h15.bel.size _ (by decide)
  have h16 := h15.below C16b
  have X16 := X15.below C16b
  have P16 := P15.below C16b
  have Q16 := Q15.below C16b
  have BA16 := BA15.below C16b
  have BB16 := BB15.below C16b
  generalize w15.alloc (.cells #[.int .i64 0, .int .i64 0, .bool (!cl), .int .u64 0] 70) = w16 at C16 h16 X16 P16 Q16 BA16 BB16 ⊢
  generalize w15.heap.size = qm at C16 ⊢
  clear C16b
  clear xc0 xc1 xl X15 h15 P15 Q15 BA15 BB15 E15 BU15
  have C16 : Blk w3 w16 qm 70 (Mo.mk 0 0 (!cl) 0).cells := C16
  go_wp2_with (fail)
  go_loopw [18] (fun i wr => ∃ j : Nat, j ≤ 240 ∧ i = .int .i64 j ∧ ∃ x0 x1 m s r0 r1, SG old q0 q1 x0 x1 m s r0 r1 ∧ r0 ≤ 24 ∧ r1 ≤ 24 ∧ (90 ≤ j → Jq 0 r0 j ∧ Jq 1 r1 j) ∧ Two w3 wr b y s s2 (50 + j) ∧ Cm w3 wr p0 x0 ∧ Cm w3 wr p1 x1 ∧ Blk w3 wr xb 82 #[pt p0, pt p1] ∧ Blk w3 wr ab 38 #[.int .i64 a.k, .int .i64 a.n] ∧ Blk w3 wr bb 38 #[.int .i64 b'.k, .int .i64 b'.n] ∧ Blk w3 wr qm 70 m.cells) (fun i _ => 240 - (intOf i).toNat)
  case atStart => exact ⟨0, Nat.zero_le _, rfl, _, _, ⟨0, 0, !cl, 0⟩, s, 24, 24, G0, Nat.le_refl _, Nat.le_refl _, fun h => by omega, h16, P16, Q16, X16, BA16, BB16, C16⟩
  case round =>
    clear h16 P16 Q16 X16 BA16 BB16 C16 G0
    obtain ⟨j, hj, rfl, x0, x1, m, s, r0, r1, GG, hr0, hr1, hJ, k1, k2, k3, k5, k6, k7, k8⟩ := hrel
    by_cases hj8 : j < 240
    case pos =>
      have hji : (j : Int) < 240 := by omega
      have xc0 : wr.cell? ⟨xb, 0, none⟩ = some (pt p0) := k5.cell 0
      have xc1 : wr.cell? ⟨xb, 1, none⟩ = some (pt p1) := k5.cell 1
      have xl := k5.lt
      obtain ⟨vp, Bp⟩ := k2.blk
      obtain ⟨vq, Bq⟩ := k3.blk
      by_cases hA : j < lp
      · by_cases hB : j < 90
        · have ci1 := ci3.on k1.bel
          obtain ⟨vb, off, rfl, hvb, hz⟩ : ∃ b off, ap = some ⟨b, off, none⟩ ∧ b < wr.heap.size ∧ ∀ j, j < lp → wr.cell? ⟨b, off + j, none⟩ = some (.int .i64 (zp j)) ∧ -9223372036854775808 ≤ zp j ∧ zp j ≤ 9223372036854775807 := ci1.resolve_left (by omega)
          obtain ⟨dz, z0, z1⟩ := hz j hA
          obtain ⟨zj, hzj⟩ : ∃ zj, zp j = zj := ⟨_, rfl⟩
          rw [hzj] at dz z0 z1
          clear hz hzj ci1
          have hAi : (j : Int) < (lp : Int) := by omega
          have hBi : (j : Int) < 90 := by omega
          have kk := kd_lt zj 3 (by decide)
          obtain ⟨kz, hkz⟩ : ∃ kz, kd zj 3 = kz := ⟨_, rfl⟩
          rw [hkz] at kk
          rcases (show kz = 0 ∨ kz = 1 ∨ kz = 2 by omega) with rfl | rfl | rfl
          · have JJ : 90 ≤ j + 1 → Jq 0 (r0 - 1) (j + 1) ∧ Jq 1 r1 (j + 1) := fun h => by
              rcases Nat.lt_or_ge j 90 with h90 | h90
              · obtain rfl : j = 89 := by omega
                exact ⟨Jq.start (by omega) (by omega), Jq.start (by omega) (by omega)⟩
              · have hm' := (show j % 3 = 0 by omega)
                exact ⟨(hJ h90).1.own (by omega) rfl, (hJ h90).2.other (by omega) (by omega)⟩
            go_wp2_with (first
              | (go_at_call 19; refine (tC k1 k2 (by omega)).mono ?_; rintro e w20 ⟨rfl, t1, t2, o20⟩; have t3 := k3.oth1 o20 Bp (by decide) (Ne.symm npq); have t5 := k5.oth o20 (by simpa using k5.ne Bp (by decide)); have t6 := k6.oth o20 (by simpa using k6.ne Bp (by decide)); have t7 := k7.oth o20 (by simpa using k7.ne Bp (by decide)); have t8 := k8.oth o20 (by simpa using k8.ne Bp (by decide)))
              | (go_at_call 11; refine (cKind _ zj 3 z0 z1 (by decide)).mono ?_; rintro e wk ⟨rfl, hwk⟩; rw [hwk, hkz]; clear hwk wk))
            go_roundw
            case rel => exact ⟨j + 1, by omega, by go_num, _, _, _, _, r0 - 1, r1, GG.sx BO, by omega, hr1, JJ, t1, t2, t3, t5, t6, t7, t8⟩
            case measure => simp [intOf]; omega
          · have JJ : 90 ≤ j + 1 → Jq 0 r0 (j + 1) ∧ Jq 1 (r1 - 1) (j + 1) := fun h => by
              rcases Nat.lt_or_ge j 90 with h90 | h90
              · obtain rfl : j = 89 := by omega
                exact ⟨Jq.start (by omega) (by omega), Jq.start (by omega) (by omega)⟩
              · have hm' := (show j % 3 = 1 by omega)
                exact ⟨(hJ h90).1.other (by omega) (by omega), (hJ h90).2.own (by omega) rfl⟩
            go_wp2_with (first
              | (go_at_call 19; refine (tC k1 k3 (by omega)).mono ?_; rintro e w20 ⟨rfl, t1, t2, o20⟩; have t3 := k2.oth1 o20 Bq (by decide) npq; have t5 := k5.oth o20 (by simpa using k5.ne Bq (by decide)); have t6 := k6.oth o20 (by simpa using k6.ne Bq (by decide)); have t7 := k7.oth o20 (by simpa using k7.ne Bq (by decide)); have t8 := k8.oth o20 (by simpa using k8.ne Bq (by decide)))
              | (go_at_call 11; refine (cKind _ zj 3 z0 z1 (by decide)).mono ?_; rintro e wk ⟨rfl, hwk⟩; rw [hwk, hkz]; clear hwk wk))
            go_roundw
            case rel => exact ⟨j + 1, by omega, by go_num, _, _, _, _, r0, r1 - 1, (GG.flip.sx BO.flip).flip, hr0, by omega, JJ, t1, t3, t2, t5, t6, t7, t8⟩
            case measure => simp [intOf]; omega
          · have JJ : 90 ≤ j + 1 → Jq 0 r0 (j + 1) ∧ Jq 1 r1 (j + 1) := fun h => by
              rcases Nat.lt_or_ge j 90 with h90 | h90
              · obtain rfl : j = 89 := by omega
                exact ⟨Jq.start (by omega) (by omega), Jq.start (by omega) (by omega)⟩
              · have hm' := (show j % 3 = 2 by omega)
                exact ⟨(hJ h90).1.other (by omega) (by omega), (hJ h90).2.other (by omega) (by omega)⟩
            go_wp2_with (first
              | (go_at_call 29; refine (tMv k1 k8 GG.ok (by omega)).mono ?_; rintro e w20 ⟨⟨dd, rfl⟩, t1, t2, o20⟩; have u2 := k2.oth1 o20 k8 (by decide) (Bp.ne k8 (by decide)); have u3 := k3.oth1 o20 k8 (by decide) (Bq.ne k8 (by decide)); have t5 := k5.oth o20 (by simpa using k5.ne k8 (by decide)); have t6 := k6.oth o20 (by simpa using k6.ne k8 (by decide)); have t7 := k7.oth o20 (by simpa using k7.ne k8 (by decide)))
              | (go_at_call 11; refine (cKind _ zj 3 z0 z1 (by decide)).mono ?_; rintro e wk ⟨rfl, hwk⟩; rw [hwk, hkz]; clear hwk wk))
            go_roundw
            case rel => exact ⟨j + 1, by omega, by go_num, _, _, _, _, r0, r1, GG.sm k1.rng1, hr0, hr1, JJ, t1, u2, u3, t5, t6, t7, t2⟩
            case measure => simp [intOf]; omega
        · have hAi : (j : Int) < (lp : Int) := by omega
          have hBi : ¬ (j : Int) < 90 := by omega
          rcases (show j % 3 = 0 ∨ j % 3 = 1 ∨ j % 3 = 2 by omega) with hm | hm | hm
          · have hmi : (j : Int) % 3 = 0 := by omega
            have JJ : 90 ≤ j + 1 → Jq 0 (r0 - 1) (j + 1) ∧ Jq 1 r1 (j + 1) := fun h => by
              rcases Nat.lt_or_ge j 90 with h90 | h90
              · obtain rfl : j = 89 := by omega
                exact ⟨Jq.start (by omega) (by omega), Jq.start (by omega) (by omega)⟩
              · have hm' := hm
                exact ⟨(hJ h90).1.own (by omega) rfl, (hJ h90).2.other (by omega) (by omega)⟩
            go_wp2_with (first
              | (go_at_call 19; refine (tC k1 k2 (by omega)).mono ?_; rintro e w20 ⟨rfl, t1, t2, o20⟩; have t3 := k3.oth1 o20 Bp (by decide) (Ne.symm npq); have t5 := k5.oth o20 (by simpa using k5.ne Bp (by decide)); have t6 := k6.oth o20 (by simpa using k6.ne Bp (by decide)); have t7 := k7.oth o20 (by simpa using k7.ne Bp (by decide)); have t8 := k8.oth o20 (by simpa using k8.ne Bp (by decide))))
            go_roundw
            case rel => exact ⟨j + 1, by omega, by go_num, _, _, _, _, r0 - 1, r1, GG.sx BO, by omega, hr1, JJ, t1, t2, t3, t5, t6, t7, t8⟩
            case measure => simp [intOf]; omega
          · have hmi : (j : Int) % 3 = 1 := by omega
            have JJ : 90 ≤ j + 1 → Jq 0 r0 (j + 1) ∧ Jq 1 (r1 - 1) (j + 1) := fun h => by
              rcases Nat.lt_or_ge j 90 with h90 | h90
              · obtain rfl : j = 89 := by omega
                exact ⟨Jq.start (by omega) (by omega), Jq.start (by omega) (by omega)⟩
              · have hm' := hm
                exact ⟨(hJ h90).1.other (by omega) (by omega), (hJ h90).2.own (by omega) rfl⟩
            go_wp2_with (first
              | (go_at_call 19; refine (tC k1 k3 (by omega)).mono ?_; rintro e w20 ⟨rfl, t1, t2, o20⟩; have t3 := k2.oth1 o20 Bq (by decide) npq; have t5 := k5.oth o20 (by simpa using k5.ne Bq (by decide)); have t6 := k6.oth o20 (by simpa using k6.ne Bq (by decide)); have t7 := k7.oth o20 (by simpa using k7.ne Bq (by decide)); have t8 := k8.oth o20 (by simpa using k8.ne Bq (by decide))))
            go_roundw
            case rel => exact ⟨j + 1, by omega, by go_num, _, _, _, _, r0, r1 - 1, (GG.flip.sx BO.flip).flip, hr0, by omega, JJ, t1, t3, t2, t5, t6, t7, t8⟩
            case measure => simp [intOf]; omega
          · have hmi : (j : Int) % 3 = 2 := by omega
            have JJ : 90 ≤ j + 1 → Jq 0 r0 (j + 1) ∧ Jq 1 r1 (j + 1) := fun h => by
              rcases Nat.lt_or_ge j 90 with h90 | h90
              · obtain rfl : j = 89 := by omega
                exact ⟨Jq.start (by omega) (by omega), Jq.start (by omega) (by omega)⟩
              · have hm' := hm
                exact ⟨(hJ h90).1.other (by omega) (by omega), (hJ h90).2.other (by omega) (by omega)⟩
            go_wp2_with (first
              | (go_at_call 29; refine (tMv k1 k8 GG.ok (by omega)).mono ?_; rintro e w20 ⟨⟨dd, rfl⟩, t1, t2, o20⟩; have u2 := k2.oth1 o20 k8 (by decide) (Bp.ne k8 (by decide)); have u3 := k3.oth1 o20 k8 (by decide) (Bq.ne k8 (by decide)); have t5 := k5.oth o20 (by simpa using k5.ne k8 (by decide)); have t6 := k6.oth o20 (by simpa using k6.ne k8 (by decide)); have t7 := k7.oth o20 (by simpa using k7.ne k8 (by decide))))
            go_roundw
            case rel => exact ⟨j + 1, by omega, by go_num, _, _, _, _, r0, r1, GG.sm k1.rng1, hr0, hr1, JJ, t1, u2, u3, t5, t6, t7, t2⟩
            case measure => simp [intOf]; omega
      · have hAi : ¬ (j : Int) < (lp : Int) := by omega
        rcases (show j % 3 = 0 ∨ j % 3 = 1 ∨ j % 3 = 2 by omega) with hm | hm | hm
        · have hmi : (j : Int) % 3 = 0 := by omega
          have JJ : 90 ≤ j + 1 → Jq 0 (r0 - 1) (j + 1) ∧ Jq 1 r1 (j + 1) := fun h => by
            rcases Nat.lt_or_ge j 90 with h90 | h90
            · obtain rfl : j = 89 := by omega
              exact ⟨Jq.start (by omega) (by omega), Jq.start (by omega) (by omega)⟩
            · have hm' := hm
              exact ⟨(hJ h90).1.own (by omega) rfl, (hJ h90).2.other (by omega) (by omega)⟩
          go_wp2_with (first
            | (go_at_call 19; refine (tC k1 k2 (by omega)).mono ?_; rintro e w20 ⟨rfl, t1, t2, o20⟩; have t3 := k3.oth1 o20 Bp (by decide) (Ne.symm npq); have t5 := k5.oth o20 (by simpa using k5.ne Bp (by decide)); have t6 := k6.oth o20 (by simpa using k6.ne Bp (by decide)); have t7 := k7.oth o20 (by simpa using k7.ne Bp (by decide)); have t8 := k8.oth o20 (by simpa using k8.ne Bp (by decide))))
          go_roundw
          case rel => exact ⟨j + 1, by omega, by go_num, _, _, _, _, r0 - 1, r1, GG.sx BO, by omega, hr1, JJ, t1, t2, t3, t5, t6, t7, t8⟩
          case measure => simp [intOf]; omega
        · have hmi : (j : Int) % 3 = 1 := by omega
          have JJ : 90 ≤ j + 1 → Jq 0 r0 (j + 1) ∧ Jq 1 (r1 - 1) (j + 1) := fun h => by
            rcases Nat.lt_or_ge j 90 with h90 | h90
            · obtain rfl : j = 89 := by omega
              exact ⟨Jq.start (by omega) (by omega), Jq.start (by omega) (by omega)⟩
            · have hm' := hm
              exact ⟨(hJ h90).1.other (by omega) (by omega), (hJ h90).2.own (by omega) rfl⟩
          go_wp2_with (first
            | (go_at_call 19; refine (tC k1 k3 (by omega)).mono ?_; rintro e w20 ⟨rfl, t1, t2, o20⟩; have t3 := k2.oth1 o20 Bq (by decide) npq; have t5 := k5.oth o20 (by simpa using k5.ne Bq (by decide)); have t6 := k6.oth o20 (by simpa using k6.ne Bq (by decide)); have t7 := k7.oth o20 (by simpa using k7.ne Bq (by decide)); have t8 := k8.oth o20 (by simpa using k8.ne Bq (by decide))))
          go_roundw
          case rel => exact ⟨j + 1, by omega, by go_num, _, _, _, _, r0, r1 - 1, (GG.flip.sx BO.flip).flip, hr0, by omega, JJ, t1, t3, t2, t5, t6, t7, t8⟩
          case measure => simp [intOf]; omega
        · have hmi : (j : Int) % 3 = 2 := by omega
          have JJ : 90 ≤ j + 1 → Jq 0 r0 (j + 1) ∧ Jq 1 r1 (j + 1) := fun h => by
            rcases Nat.lt_or_ge j 90 with h90 | h90
            · obtain rfl : j = 89 := by omega
              exact ⟨Jq.start (by omega) (by omega), Jq.start (by omega) (by omega)⟩
            · have hm' := hm
              exact ⟨(hJ h90).1.other (by omega) (by omega), (hJ h90).2.other (by omega) (by omega)⟩
          go_wp2_with (first
            | (go_at_call 29; refine (tMv k1 k8 GG.ok (by omega)).mono ?_; rintro e w20 ⟨⟨dd, rfl⟩, t1, t2, o20⟩; have u2 := k2.oth1 o20 k8 (by decide) (Bp.ne k8 (by decide)); have u3 := k3.oth1 o20 k8 (by decide) (Bq.ne k8 (by decide)); have t5 := k5.oth o20 (by simpa using k5.ne k8 (by decide)); have t6 := k6.oth o20 (by simpa using k6.ne k8 (by decide)); have t7 := k7.oth o20 (by simpa using k7.ne k8 (by decide))))
          go_roundw
          case rel => exact ⟨j + 1, by omega, by go_num, _, _, _, _, r0, r1, GG.sm k1.rng1, hr0, hr1, JJ, t1, u2, u3, t5, t6, t7, t2⟩
          case measure => simp [intOf]; omega
    case neg =>
      obtain rfl : j = 240 := by omega
      have hji : ¬ ((240 : Nat) : Int) < 240 := by omega
      have xc0 : wr.cell? ⟨xb, 0, none⟩ = some (pt p0) := k5.cell 0
      have xl := k5.lt
      obtain ⟨J0, J1⟩ := hJ (by omega)
      obtain rfl : r0 = 0 := by unfold Jq at J0; omega
      obtain rfl : r1 = 0 := by unfold Jq at J1; omega
      have FF := GG.fin
      rw [y00, y10] at FF
      obtain ⟨nv, vv, Fg, F0⟩ : ∃ nv vv, ((∃ g, Ob s g vv) ∧ vv 0 = nv) ∧ (x0.o.y = true ∧ x1.o.y = false ∧ nv = a ∨ x0.o.y = false ∧ x1.o.y = true ∧ nv = b') := by
        rcases FF with ⟨e0, ⟨bt, e1⟩, g, v, Og, hv⟩ | ⟨e0, ⟨bt, e1⟩, g, v, Og, hv⟩
        · exact ⟨_, v, ⟨⟨g, Og⟩, rfl⟩, .inl ⟨by rw [e0]; simp only [Cw.wrote, Cw.o, BO.o0]; rfl, by rw [e1]; rfl, hv⟩⟩
        · exact ⟨_, v, ⟨⟨g, Og⟩, rfl⟩, .inr ⟨by rw [e1]; rfl, by rw [e0]; simp only [Cw.wrote, Cw.o, BO.o1]; rfl, hv⟩⟩
      obtain ⟨Ax, hnv⟩ := Fg
      clear FF J0 J1 hJ GG BO hj8 hr0 hr1 k8
      go_upto_region 28 with (go_at_call 22; refine (cCResult k2).mono ?_; rintro e w21 ⟨rfl, hb21⟩; unfold Ou.val; have l1 := k1.below hb21; have l3 := k3.below hb21; have l5 := k5.below hb21; have l6 := k6.below hb21; have l7 := k7.below hb21; clear hb21)
      have OAb : Below w21.heap.size w21 (w21.alloc (.cells #[.int .i64 x0.o.c, .int .i64 x0.o.v.k, .int .i64 x0.o.v.n, .bool x0.o.y] 60)) := (Below.refl _ _).alloc (Nat.le_refl _) _
      have OA : Blk w3 (w21.alloc (.cells #[.int .i64 x0.o.c, .int .i64 x0.o.v.k, .int .i64 x0.o.v.n, .bool x0.o.y] 60)) w21.heap.size 60 #[.int .i64 x0.o.c, .int .i64 x0.o.v.k, .int .i64 x0.o.v.n, .bool x0.o.y] := Blk.new l1.bel.size _ (by decide)
      have m1 := l1.below OAb
      have m3 := l3.below OAb
      have m5 := l5.below OAb
      have m6 := l6.below OAb
      have m7 := l7.below OAb
      generalize w21.alloc (.cells #[.int .i64 x0.o.c, .int .i64 x0.o.v.k, .int .i64 x0.o.v.n, .bool x0.o.y] 60) = w22 at OA m1 m3 m5 m6 m7 ⊢
      generalize w21.heap.size = oa at OA ⊢
      clear OAb
      clear k1 k2 k3 k5 k6 k7 l1 l3 l5 l6 l7 xc0 xl
      have xc1 : w22.cell? ⟨xb, 1, none⟩ = some (pt p1) := m5.cell 1
      have xl := m5.lt
      go_upto_region 29 with (go_at_call 22; refine (cCResult m3).mono ?_; rintro e w23 ⟨rfl, hb23⟩; unfold Ou.val; have n1 := m1.below hb23; have n6 := m6.below hb23; have n7 := m7.below hb23; have nO := OA.below hb23; clear hb23)
      have OBb : Below w23.heap.size w23 (w23.alloc (.cells #[.int .i64 x1.o.c, .int .i64 x1.o.v.k, .int .i64 x1.o.v.n, .bool x1.o.y] 60)) := (Below.refl _ _).alloc (Nat.le_refl _) _
      have OB : Blk w3 (w23.alloc (.cells #[.int .i64 x1.o.c, .int .i64 x1.o.v.k, .int .i64 x1.o.v.n, .bool x1.o.y] 60)) w23.heap.size 60 #[.int .i64 x1.o.c, .int .i64 x1.o.v.k, .int .i64 x1.o.v.n, .bool x1.o.y] := Blk.new n1.bel.size _ (by decide)
      have r1 := n1.below OBb
      have r6 := n6.below OBb
      have r7 := n7.below OBb
      have rO := nO.below OBb
      generalize w23.alloc (.cells #[.int .i64 x1.o.c, .int .i64 x1.o.v.k, .int .i64 x1.o.v.n, .bool x1.o.y] 60) = w24 at OB r1 r6 r7 rO ⊢
      generalize w23.heap.size = oc at OB ⊢
      clear OBb
      clear m1 m3 m5 m6 m7 n1 n6 n7 nO OA xc1 xl
      go_upto_region 30 with (go_at_call 31; refine (cNow (k := 0) r1 B3 Ax (by omega) (by omega)).mono ?_; rintro e w25 ⟨rfl, s', H25, A25, o25⟩; rw [hnv]; have s6 := r6.oth o25 (by simp); have s7 := r7.oth o25 (by simp); have sO := rO.oth o25 (by simp); have sP := OB.oth o25 (by simp); clear o25)
      have BNb : Below w25.heap.size w25 (w25.alloc (.cells #[.int .i64 nv.k, .int .i64 nv.n] 38)) := (Below.refl _ _).alloc (Nat.le_refl _) _
      have BN : Blk w3 (w25.alloc (.cells #[.int .i64 nv.k, .int .i64 nv.n] 38)) w25.heap.size 38 #[.int .i64 nv.k, .int .i64 nv.n] := Blk.new H25.bel.size _ (by decide)
      have H27 := H25.below BNb
      have y6 := s6.below BNb
      have y7 := s7.below BNb
      have yO := sO.below BNb
      have yP := sP.below BNb
      generalize w25.alloc (.cells #[.int .i64 nv.k, .int .i64 nv.n] 38) = w27 at BN H27 y6 y7 yO yP ⊢
      generalize w25.heap.size = nb2 at BN ⊢
      clear BNb
      clear r1 r6 r7 rO OB H25 s6 s7 sO sP
      have d0 : w27.cell? ⟨oa, 3, none⟩ = some (.bool x0.o.y) := yO.cell 3
      have d0l := yO.lt
      have d1 : w27.cell? ⟨oc, 3, none⟩ = some (.bool x1.o.y) := yP.cell 3
      have d1l := yP.lt
      have cn0 : w27.cell? ⟨nb2, 0, none⟩ = some (.int .i64 nv.k) := BN.cell 0
      have cn1 : w27.cell? ⟨nb2, 1, none⟩ = some (.int .i64 nv.n) := BN.cell 1
      have cnl := BN.lt
      have ca0 : w27.cell? ⟨ab, 0, none⟩ = some (.int .i64 a.k) := y6.cell 0
      have ca1 : w27.cell? ⟨ab, 1, none⟩ = some (.int .i64 a.n) := y6.cell 1
      have cal := y6.lt
      have cb0 : w27.cell? ⟨bb, 0, none⟩ = some (.int .i64 b'.k) := y7.cell 0
      have cb1 : w27.cell? ⟨bb, 1, none⟩ = some (.int .i64 b'.n) := y7.cell 1
      have cbl := y7.lt
      rcases F0 with ⟨F1, F2, F3⟩ | ⟨F1, F2, F3⟩
      · rw [F1] at d0
        rw [F2] at d1
        have e1 := eqVal_t F3
        have b1 := bneT
        clear F1 F2 F3 hnv Ax
        go_wp2
        go_ret
        exact ⟨rfl, b3.trans (H27.bel.mono b3.size)⟩
      · rw [F1] at d0
        rw [F2] at d1
        have e1 := eqVal_t F3
        have b1 := bneF
        clear F1 F2 F3 hnv Ax
        go_wp2
        go_ret
        exact ⟨rfl, b3.trans (H27.bel.mono b3.size)⟩
end Go.Proofs.YtpcoldpphihfmaaGreatDoor
