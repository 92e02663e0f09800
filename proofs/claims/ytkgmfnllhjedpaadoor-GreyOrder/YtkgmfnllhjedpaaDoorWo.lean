/-
  The walk of the law on the order of one thread.
-/
import Derived.Test.YtkgmfnllhjedpaaDoorWf
import Derived.Test.YtkgmfnllhjedpaaDoorGh
import Derived.Test.YtkgmfnllhjedpaaDoorRw
import Derived.Test.YtkgmfnllhjedpaaDoorZa
import Derived.Deep.Cut
namespace Go.Proofs.YtkgmfnllhjedpaaDoor
set_option linter.unusedVariables false
set_option maxRecDepth 100000
open Go.ChangeShapes Go.WideShapes Go.RowKit
open S.Plain (t0 t1 tw nx)
open H.Plain (hw pS pC pN pM pG pT pL)

theorem laid_gl : GL (laidSt 16) [] 0 ∧ White (laidSt 16) [] := ⟨⟨laid_len, laid_t, by rw [laid_one]; rfl, trivial, fun _ h => by simp at h, List.nodup_nil⟩, fun a ha _ => laid_base.objs a ha⟩
theorem bl_zero : #[.bool false, .bool false, .bool false, .bool false, .bool false, .bool false, .bool false, .bool false, .bool false, .bool false, .bool false, .bool false, .bool false, .bool false, .bool false, .bool false] = bl 16 (fun _ => false) := rfl
/-- what the law has of its own: the row of what was shaded, and which were seen -/
structure Kit (w0 w : World) (v : Value) (R : List Int) (B : Nat) (f : Nat → Bool) : Prop where
  row : RowI w0 w v R
  blk : Blk w0 w B 60 (bl 16 f)
  iff : ∀ k, k < 16 → (f k = true ↔ 96 + 4 * (k : Int) ∈ R)
theorem Kit.oth {w0 w w' : World} {v : Value} {R : List Int} {B : Nat} {f : Nat → Bool} {F : List Nat} (h : Kit w0 w v R B f) (o : Oth F w w') (hF : ∀ k ∈ F, ∃ cs T fz, T ∉ [3, 60] ∧ w.heap[k]? = some (.cells cs T fz)) : Kit w0 w' v R B f :=
  ⟨h.row.oth o fun k hk hkF => by
    obtain ⟨cs, hc⟩ := h.row.blk hk
    obtain ⟨_, _, _, hT, e⟩ := hF k hkF
    rw [hc] at e; simp at e; exact hT (by rw [← e.2.1]; simp),
   h.blk.oth o fun hB => by
    obtain ⟨_, _, _, hT, e⟩ := hF _ hB
    rw [h.blk.at_] at e; simp at e; exact hT (by rw [← e.2.1]; simp), h.iff⟩
theorem Kit.below {w0 w w' : World} {v : Value} {R : List Int} {B : Nat} {f : Nat → Bool} (h : Kit w0 w v R B f) (hb : Below w.heap.size w w') : Kit w0 w' v R B f := h.oth (F := []) (Oth.below hb) (by simp)

theorem Kit.ne {w0 w : World} {v : Value} {R : List Int} {B : Nat} {f : Nat → Bool} (h : Kit w0 w v R B f) {k : Nat} (hk : v.ownBlock = some k) : k ≠ B := fun e => by
  subst e
  obtain ⟨cs, hc⟩ := h.row.blk hk
  have := h.blk.at_
  rw [hc] at this
  simp at this
/-- one more was seen -/
theorem Kit.mark {w0 w : World} {v : Value} {R : List Int} {B m : Nat} {f : Nat → Bool} (h : Kit w0 w v R B f) (hm : 96 + 4 * (m : Int) ∈ R) : Kit w0 (w.setCell ⟨B, m, none⟩ (.bool true)) v R B (fun k => if k = m then true else f k) :=
  ⟨h.row.oth (Oth.set _ _ _ _ (by simp : B ∈ [B])) (fun k hk => by simpa using h.ne hk), by rw [← bl_set]; exact h.blk.set m _, fun k hk => by
    by_cases e : k = m
    · subst e; simp [hm]
    · simp [e]; exact h.iff k hk⟩
theorem Kit.more {w0 w : World} {v : Value} {R : List Int} {B m : Nat} {f : Nat → Bool} {a : Int} (h : RowI w0 w v (R ++ [a])) (hB : Blk w0 w B 60 (bl 16 f)) (hn : ∀ k, v.ownBlock = some k → k ≠ B) (hi : ∀ k, k < 16 → (f k = true ↔ 96 + 4 * (k : Int) ∈ R)) (hm : 96 + 4 * (m : Int) = a) : Kit w0 (w.setCell ⟨B, m, none⟩ (.bool true)) v (R ++ [a]) B (fun k => if k = m then true else f k) :=
  ⟨h.oth (Oth.set _ _ _ _ (by simp : B ∈ [B])) (fun k hk => by simpa using hn k hk), by rw [← bl_set]; exact hB.set m _, fun k hk => by
    by_cases e : k = m
    · subst e; simp [hm]
    · simp only [e, if_false]
      rw [hi k hk]
      simp only [List.mem_append, List.mem_singleton]
      exact ⟨.inl, fun h => h.resolve_right (by omega)⟩⟩

set_option maxHeartbeats 8000000 in
theorem wGreyOrder (ao : Option Addr) (len cap : Nat) (z : Nat → Int) (w : World) (W : H.Wid w) (hl : CameI w ao len z) :
    Calls Tryd.prog 6 #[.slice ao len cap] w fun e w' => e = .returned (.bool true) ∧ Below w.heap.size w w' := by
  obtain ⟨i0, hi, hz0, hz1, hz2⟩ := info_parts infoInt
  go_enter Tryd.func6, Tryd.ntmps6
  go_upto_region 6 with (first
    | (go_at_call 8; refine (cShown w W).mono ?_; rintro e w1 ⟨rfl, hb1⟩)
    | (go_at_call 9; refine (cLaid w1 (W.on hb1)).mono ?_; rintro e w2 ⟨b, yy, rfl, h2⟩; have h3 := h2.one.lift hb1 W; clear h2))
  have h4 := h3.alloc (.cells #[] 3)
  have r4 : RowI w (w2.alloc (.cells #[] 3)) (.slice (some ⟨w2.heap.size, 0, none⟩) 0 0) [] := ⟨row_empty w2 _ rfl, fun k hk => by simp [Value.ownBlock] at hk; have := h3.bel.size; omega⟩
  generalize w2.alloc (.cells #[] 3) = w4 at h4 r4 ⊢
  obtain ⟨vo, hvo⟩ : ∃ vo, Value.slice (some ⟨w2.heap.size, 0, none⟩) 0 0 = vo := ⟨_, rfl⟩
  rw [hvo] at r4 ⊢
  clear hvo h3
  refine wp_region_lit ?_
  refine wpList_zeros rfl rfl rfl 60 33 7 rfl rfl rfl rfl rfl rfl #[.bool false, .bool false, .bool false, .bool false, .bool false, .bool false, .bool false, .bool false, .bool false, .bool false, .bool false, .bool false, .bool false, .bool false, .bool false, .bool false] 16 (by kernel_rfl) (by kernel_rfl) rfl (by kernel_rfl) rfl rfl ?_
  refine wpList_nil ?_
  have K5 : Kit w (w4.alloc (.cells #[.bool false, .bool false, .bool false, .bool false, .bool false, .bool false, .bool false, .bool false, .bool false, .bool false, .bool false, .bool false, .bool false, .bool false, .bool false, .bool false] 60)) vo [] w4.heap.size (fun _ => false) := ⟨r4.oth (F := []) (Oth.alloc _ _ _) (by simp), by rw [bl_zero]; exact Blk.new h4.bel.size _ (by decide), fun k _ => by simp⟩
  have h5 := h4.alloc (.cells #[.bool false, .bool false, .bool false, .bool false, .bool false, .bool false, .bool false, .bool false, .bool false, .bool false, .bool false, .bool false, .bool false, .bool false, .bool false, .bool false] 60)
  generalize w4.alloc (.cells #[.bool false, .bool false, .bool false, .bool false, .bool false, .bool false, .bool false, .bool false, .bool false, .bool false, .bool false, .bool false, .bool false, .bool false, .bool false, .bool false] 60) = w5 at K5 h5 ⊢
  generalize w4.heap.size = B at K5 ⊢
  clear h4 r4
  obtain ⟨gl0, wh0⟩ := laid_gl
  go_wp2
  go_loopw [6, 8] (fun vo i wr => ∃ j : Nat, j ≤ 30 ∧ j ≤ len ∧ i = .int .i64 j ∧ ∃ s R f v, Hand w wr b s (32 + 5 * j) ∧ Kit w wr vo R B f ∧ GL s R.reverse v ∧ White s R.reverse ∧ v ≤ j ∧ R.length ≤ j) (fun _ i _ => 30 - (intOf i).toNat)
  case atStart => exact ⟨0, Nat.zero_le _, Nat.zero_le _, rfl, _, [], _, 0, h5, K5, gl0, wh0, Nat.le_refl _, Nat.le_refl _⟩
  case round =>
    obtain ⟨j, hj, hjl, rfl, s, R, f, v, q1, q2, q3, q4, q5, q6⟩ := hrel
    clear h5 K5 gl0 wh0
    by_cases hjn : j < len ∧ j < 30
    case pos =>
      obtain ⟨hj1, hj2⟩ := hjn
      obtain ⟨c, off, rfl, hcb, hcell⟩ := hl.resolve_left (by omega)
      obtain ⟨hcj, hy1, hy2⟩ := hcell j hj1
      have hcj' : wr.cell? ⟨c, off + j, none⟩ = some (.int .i64 (z j)) := (q1.bel.cell hcb).trans hcj
      obtain ⟨m, hm, hm16⟩ : ∃ m : Nat, kd (z j) 16 = m ∧ m < 16 := kd_nat (z j) 16 (by decide)
      obtain ⟨zj, hzj⟩ : ∃ zj, z j = zj := ⟨_, rfl⟩
      rw [hzj] at hy1 hy2 hcj' hm
      clear hcell hcj hzj
      have ha := hdr_of hm16
      have hif := q2.iff m hm16
      obtain ⟨a, hae⟩ : ∃ a : Int, 96 + 4 * (m : Int) = a := ⟨_, rfl⟩
      rw [hae] at ha hif
      have x0 := ShadeS.ok_new a 1
      obtain ⟨og, ocp, rfl, _⟩ := q2.row.slice
      by_cases hsn : f m = true
      case pos =>
        have hin : a ∈ R := hif.1 hsn
        obtain ⟨x1, e1, e2, p1⟩ := q3.skip (by simpa using hin)
        have q7 := q3.load ha.in_
        have q8 : White (s.load a) R.reverse := q4
        clear q3 q4 hif
        go_wp2_with (first
          | (go_at_call 12; refine (cKind _ zj 16 hy1 hy2 (by decide)).mono ?_; rintro e wk ⟨rfl, hwk⟩; rw [hwk, hm]; clear hwk wk)
          | (go_at_call 16; refine (cNewShade a 1 _).mono ?_; rintro e w6 ⟨rfl, M⟩; have E1 := q1.below M.bel; have K1 := q2.below M.bel; have X1 := M.blk' q1.bel.size (by decide); obtain ⟨pX, hpX⟩ : ∃ p, wr.heap.size = p := ⟨_, rfl⟩; rw [hpX] at X1 ⊢; clear hpX M))
        refine wp_loop_rounds 2 ?_
        rw [rounds_succ]
        go_wp2_with (go_at_call 18; refine (oShade E1 X1 x0 (by omega)).mono ?_; rintro e va0 ⟨rfl, Ea0, Xa0, Oa0⟩; rw [e1] at Xa0 ⊢; rw [e2] at Ea0; rw [p1]; have oka0 := x0.next E1.rng; rw [e1] at oka0; have Ka0 := K1.oth Oa0 (by simp; exact ⟨_, _, ⟨by decide, by decide⟩, _, _, X1.at_⟩); clear K1; clear Oa0 E1 X1 x0)
        rw [rounds_succ]
        have sB : va0.cell? ⟨B, m, none⟩ = some (.bool true) := ((Ka0.blk.cell m).trans (bl_at f hm16)).trans (by rw [hsn])
        have sF := Ka0.blk.free m
        go_wp2
        go_roundw
        case rel => exact ⟨j + 1, by omega, by omega, by go_num, _, R, _, v, (Ea0.set Ka0.blk m (.bool true)).mono (by omega), Ka0.mark (by rw [hae]; exact hin), q7, q8, by omega, by omega⟩
        case measure => simp [intOf] <;> omega
      case neg =>
        have hfm : f m = false := by simpa using hsn
        have hin : a ∉ R := fun h => hsn (hif.2 h)
        obtain ⟨x1, x2, x3, x4, x5, s1, s2, s3, s4, s5, e1, e1', e2, e2', e3, e3', e4, e4', e5, e5', p1, p2, p3, p4, p5, q7, q8⟩ := q3.shade q4 (by omega) ha (by simpa using hin)
        clear q3 q4 hif hsn
        go_wp2_with (first
          | (go_at_call 12; refine (cKind _ zj 16 hy1 hy2 (by decide)).mono ?_; rintro e wk ⟨rfl, hwk⟩; rw [hwk, hm]; clear hwk wk)
          | (go_at_call 16; refine (cNewShade a 1 _).mono ?_; rintro e w6 ⟨rfl, M⟩; have E1 := q1.below M.bel; have K1 := q2.below M.bel; have X1 := M.blk' q1.bel.size (by decide); obtain ⟨pX, hpX⟩ : ∃ p, wr.heap.size = p := ⟨_, rfl⟩; rw [hpX] at X1 ⊢; clear hpX M))
        refine wp_loop_rounds 6 ?_
        rw [rounds_succ]
        go_wp2_with (go_at_call 18; refine (oShade E1 X1 x0 (by omega)).mono ?_; rintro e va0 ⟨rfl, Ea0, Xa0, Oa0⟩; rw [e1] at Xa0 ⊢; rw [e1'] at Ea0; rw [p1]; have oka0 := x0.next E1.rng; rw [e1] at oka0; have Ka0 := K1.oth Oa0 (by simp; exact ⟨_, _, ⟨by decide, by decide⟩, _, _, X1.at_⟩); clear K1; clear Oa0 E1 X1 x0)
        rw [rounds_succ]
        go_wp2_with (go_at_call 18; refine (oShade Ea0 Xa0 oka0 (by omega)).mono ?_; rintro e va1 ⟨rfl, Ea1, Xa1, Oa1⟩; rw [e2] at Xa1 ⊢; rw [e2'] at Ea1; rw [p2]; have oka1 := oka0.next Ea0.rng; rw [e2] at oka1; have Ka1 := Ka0.oth Oa1 (by simp; exact ⟨_, _, ⟨by decide, by decide⟩, _, _, Xa0.at_⟩); clear Ka0; clear Oa1 Ea0 Xa0 oka0)
        rw [rounds_succ]
        go_wp2_with (go_at_call 18; refine (oShade Ea1 Xa1 oka1 (by omega)).mono ?_; rintro e va2 ⟨rfl, Ea2, Xa2, Oa2⟩; rw [e3] at Xa2 ⊢; rw [e3'] at Ea2; rw [p3]; have oka2 := oka1.next Ea1.rng; rw [e3] at oka2; have Ka2 := Ka1.oth Oa2 (by simp; exact ⟨_, _, ⟨by decide, by decide⟩, _, _, Xa1.at_⟩); clear Ka1; clear Oa2 Ea1 Xa1 oka1)
        rw [rounds_succ]
        go_wp2_with (go_at_call 18; refine (oShade Ea2 Xa2 oka2 (by omega)).mono ?_; rintro e va3 ⟨rfl, Ea3, Xa3, Oa3⟩; rw [e4] at Xa3 ⊢; rw [e4'] at Ea3; rw [p4]; have oka3 := oka2.next Ea2.rng; rw [e4] at oka3; have Ka3 := Ka2.oth Oa3 (by simp; exact ⟨_, _, ⟨by decide, by decide⟩, _, _, Xa2.at_⟩); clear Ka2; clear Oa3 Ea2 Xa2 oka2)
        rw [rounds_succ]
        go_wp2_with (go_at_call 18; refine (oShade Ea3 Xa3 oka3 (by omega)).mono ?_; rintro e va4 ⟨rfl, Ea4, Xa4, Oa4⟩; rw [e5] at Xa4 ⊢; rw [e5'] at Ea4; rw [p5]; have oka4 := oka3.next Ea3.rng; rw [e5] at oka4; have Ka4 := Ka3.oth Oa4 (by simp; exact ⟨_, _, ⟨by decide, by decide⟩, _, _, Xa3.at_⟩); clear Ka3; clear Oa4 Ea3 Xa3 oka3)
        rw [rounds_succ]
        have sB : va4.cell? ⟨B, m, none⟩ = some (.bool false) := ((Ka4.blk.cell m).trans (bl_at f hm16)).trans (by rw [hfm])
        have sF := Ka4.blk.free m
        go_wp2_with (at_builtin; refine wpList_append_mine _ rfl _ _ 22 rfl 3 i0 _ 1 8 Tryd.underlying22 hi hz0 hz1 hz2 rfl (by decide) (.slice og R.length ocp) R.length (nums R) rfl (Ka4.row.row.alloc _) ⟨va4.heap.size, 0, none⟩ 1 1 [.int .i64 a] rfl rfl (new1 _ _ rfl _ _) (by intro u hu; simp at hu; rw [hu]; rfl) (by unfold maxLen; omega) (by omega) (by decide) ?_; intro g1 cp1 w7 hrow hgr hn; have K7 : Kept (Value.slice og R.length ocp).ownBlock.toList va4 w7 := ((Kept.alloc _ _ _).trans (Kept.grown (Value.slice og R.length ocp).ownBlock.toList hgr (fun k hk => by simp [hk])) (fun k hk => .inl hk)); have hF : ∀ k ∈ (Value.slice og R.length ocp).ownBlock.toList, w.heap.size ≤ k ∧ ∃ cs T fz, T ∉ MTs ∧ va4.heap[k]? = some (.cells cs T fz) := (fun k hk => by have hk' : (Value.slice og R.length ocp).ownBlock = some k := (by simpa using hk); obtain ⟨cr, hc⟩ := Ka4.row.blk hk'; exact ⟨Ka4.row.old k hk', cr, _, _, by decide, hc⟩); have E7 := Ea4.kept K7 hF; have nB : B ∉ (Value.slice og R.length ocp).ownBlock.toList := (fun hk => by obtain ⟨cs, hc⟩ := Ka4.row.blk (by simpa using hk); have := Ka4.blk.at_; rw [hc] at this; simp at this); have B7 := Ka4.blk.oth (Oth.kept K7) nB; have lg1 : (Value.slice og R.length ocp).ownBlock = some g1 ∨ va4.heap.size ≤ g1 := (hn.imp id (fun h' => Nat.le_trans (by simp) h')); have R7 : RowI w w7 (.slice (some ⟨g1, 0, none⟩) (R.length + 1) cp1) (R ++ [a]) := RowI.of_own hrow (by simp) (by rw [nums_append]; rfl) (lg1.elim (fun h' => Ka4.row.old g1 h') (fun h' => Nat.le_trans Ea4.bel.size h')); have sB7 : w7.cell? ⟨B, m, none⟩ = some (.bool false) := ((B7.cell m).trans (bl_at f hm16)).trans (by rw [hfm]); have sF7 := B7.free m; have nBg : g1 ≠ B := (fun e => lg1.elim (fun h' => nB (by rw [h', e]; simp)) (fun h' => by have := Ka4.blk.lt; omega)); clear hrow hgr hn)
        go_roundw
        case rel => exact ⟨j + 1, by omega, by omega, by go_num, s5, R ++ [a], _, v + 1, (E7.set B7 m (.bool true)).mono (by omega), Kit.more R7 B7 (fun k hk => by simp [Value.ownBlock] at hk; subst hk; exact nBg) Ka4.iff hae, by simpa using q7, by simpa using q8, by omega, by simp; omega⟩
        case measure => simp [intOf] <;> omega
    case neg =>
      by_cases hj1 : j < len
      · have hj2 : ¬ j < 30 := fun h => hjn ⟨hj1, h⟩
        clear hjn hjl
        obtain ⟨oa, ocp, hvo, hog⟩ := q2.row.slice
        subst hvo
        go_wp2
        go_loopw [14] (fun i wr => ∃ n : Nat, n ≤ R.length ∧ i = .int .i64 ((n : Int) - 1) ∧ ∃ s1 v1, Hand w wr b s1 (182 + 4 * (R.length - n)) ∧ Kit w wr (.slice oa R.length ocp) R B f ∧ GL s1 (R.take n).reverse v1 ∧ v1 + n ≤ 60) (fun i _ => (intOf i + 1).toNat)
        case atStart => exact ⟨R.length, Nat.le_refl _, rfl, s, v, q1.mono (by omega), q2, by rw [List.take_length]; exact q3, by omega⟩
        case round =>
          obtain ⟨n, hn, rfl, s1, v1, r1, r2, r3, r4⟩ := hrel
          have y0 := NextS.ok_new
          clear q1 q2 q3 q4
          rcases n with _ | n
          case zero =>
            obtain ⟨z1, z1n, z1m, zp, zc, zk⟩ := GL.none (v := v1) (by simpa using r3)
            go_wp2_with (go_at_call 10; refine (cNewNext _).mono ?_; rintro e w6 ⟨rfl, hM⟩; have M := made_of hM; have E1 := r1.below M.bel; have X1 := M.blk' r1.bel.size (by decide); obtain ⟨pX, hpX⟩ : ∃ p, wr.heap.size = p := ⟨_, rfl⟩; rw [hpX] at X1 ⊢; clear hpX M hM)
            refine wp_loop_rounds 2 ?_
            rw [rounds_succ]
            go_wp2_with (go_at_call 13; refine (oNext E1 X1 y0 (by omega)).mono ?_; rintro e va0 ⟨rfl, Ea0, Xa0, Oa0⟩; rw [z1n] at Xa0 ⊢; rw [z1m] at Ea0; rw [zp]; have oka0 := y0.next E1.rng; rw [z1n] at oka0; clear Oa0 E1 X1 y0)
            rw [rounds_succ]
            go_wp2_with (go_at_call 14; refine (oResult Xa0).mono ?_; rintro e w7 ⟨rfl, hb7⟩; rw [zc, zk]; have E7 := Ea0.below hb7; clear hb7)
            go_ret
            exact ⟨by simp, E7.bel⟩
          case succ =>
            have hlt : n < R.length := by omega
            rw [take_rev hlt] at r3
            obtain ⟨rn, hrn⟩ : ∃ rn, R[n] = rn := ⟨_, rfl⟩
            rw [hrn] at r3
            obtain ⟨og, rfl⟩ := hog (by intro e; rw [e] at hlt; simp at hlt)
            obtain ⟨x1, x2, x3, x4, u1, u2, u3, u4, e1, e1', e2, e2', e3, e3', e4, e4', p1, p2, p3, p4, a1, a2, r5⟩ := r3.next (by omega)
            clear r3
            go_wp2_with (go_at_call 10; refine (cNewNext _).mono ?_; rintro e w6 ⟨rfl, hM⟩; have M := made_of hM; have E1 := r1.below M.bel; have K1 := r2.below M.bel; have X1 := M.blk' r1.bel.size (by decide); obtain ⟨pX, hpX⟩ : ∃ p, wr.heap.size = p := ⟨_, rfl⟩; rw [hpX] at X1 ⊢; clear hpX M hM)
            refine wp_loop_rounds 5 ?_
            rw [rounds_succ]
            go_wp2_with (go_at_call 13; refine (oNext E1 X1 y0 (by omega)).mono ?_; rintro e va0 ⟨rfl, Ea0, Xa0, Oa0⟩; rw [e1] at Xa0 ⊢; rw [e1'] at Ea0; rw [p1]; have oka0 := y0.next E1.rng; rw [e1] at oka0; have Ka0 := K1.oth Oa0 (by simp; exact ⟨_, _, ⟨by decide, by decide⟩, _, _, X1.at_⟩); clear K1; clear Oa0 E1 X1 y0)
            rw [rounds_succ]
            go_wp2_with (go_at_call 13; refine (oNext Ea0 Xa0 oka0 (by omega)).mono ?_; rintro e va1 ⟨rfl, Ea1, Xa1, Oa1⟩; rw [e2] at Xa1 ⊢; rw [e2'] at Ea1; rw [p2]; have oka1 := oka0.next Ea0.rng; rw [e2] at oka1; have Ka1 := Ka0.oth Oa1 (by simp; exact ⟨_, _, ⟨by decide, by decide⟩, _, _, Xa0.at_⟩); clear Ka0; clear Oa1 Ea0 Xa0 oka0)
            rw [rounds_succ]
            go_wp2_with (go_at_call 13; refine (oNext Ea1 Xa1 oka1 (by omega)).mono ?_; rintro e va2 ⟨rfl, Ea2, Xa2, Oa2⟩; rw [e3] at Xa2 ⊢; rw [e3'] at Ea2; rw [p3]; have oka2 := oka1.next Ea1.rng; rw [e3] at oka2; have Ka2 := Ka1.oth Oa2 (by simp; exact ⟨_, _, ⟨by decide, by decide⟩, _, _, Xa1.at_⟩); clear Ka1; clear Oa2 Ea1 Xa1 oka1)
            rw [rounds_succ]
            go_wp2_with (go_at_call 13; refine (oNext Ea2 Xa2 oka2 (by omega)).mono ?_; rintro e va3 ⟨rfl, Ea3, Xa3, Oa3⟩; rw [e4] at Xa3 ⊢; rw [e4'] at Ea3; rw [p4]; have oka3 := oka2.next Ea2.rng; rw [e4] at oka3; have Ka3 := Ka2.oth Oa3 (by simp; exact ⟨_, _, ⟨by decide, by decide⟩, _, _, Xa2.at_⟩); clear Ka2; clear Oa3 Ea2 Xa2 oka2)
            rw [rounds_succ]
            go_wp2_with (go_at_call 14; refine (oResult Xa3).mono ?_; rintro e w7 ⟨rfl, hb7⟩; rw [a1, a2]; have E7 := Ea3.below hb7; have K7 := Ka3.below hb7; have cn : w7.cell? ⟨og, n, none⟩ = some (.int .i64 rn) := K7.row.cell (by rw [List.getElem?_eq_getElem hlt, hrn]); clear hb7)
            go_roundw
            case rel => exact ⟨n, by omega, by go_num, _, _, E7.mono (by omega), K7, r5, by omega⟩
            case measure => simp [intOf] <;> omega
      · skip
        clear hjn hjl
        obtain ⟨oa, ocp, hvo, hog⟩ := q2.row.slice
        subst hvo
        go_wp2
        go_loopw [14] (fun i wr => ∃ n : Nat, n ≤ R.length ∧ i = .int .i64 ((n : Int) - 1) ∧ ∃ s1 v1, Hand w wr b s1 (182 + 4 * (R.length - n)) ∧ Kit w wr (.slice oa R.length ocp) R B f ∧ GL s1 (R.take n).reverse v1 ∧ v1 + n ≤ 60) (fun i _ => (intOf i + 1).toNat)
        case atStart => exact ⟨R.length, Nat.le_refl _, rfl, s, v, q1.mono (by omega), q2, by rw [List.take_length]; exact q3, by omega⟩
        case round =>
          obtain ⟨n, hn, rfl, s1, v1, r1, r2, r3, r4⟩ := hrel
          have y0 := NextS.ok_new
          clear q1 q2 q3 q4
          rcases n with _ | n
          case zero =>
            obtain ⟨z1, z1n, z1m, zp, zc, zk⟩ := GL.none (v := v1) (by simpa using r3)
            go_wp2_with (go_at_call 10; refine (cNewNext _).mono ?_; rintro e w6 ⟨rfl, hM⟩; have M := made_of hM; have E1 := r1.below M.bel; have X1 := M.blk' r1.bel.size (by decide); obtain ⟨pX, hpX⟩ : ∃ p, wr.heap.size = p := ⟨_, rfl⟩; rw [hpX] at X1 ⊢; clear hpX M hM)
            refine wp_loop_rounds 2 ?_
            rw [rounds_succ]
            go_wp2_with (go_at_call 13; refine (oNext E1 X1 y0 (by omega)).mono ?_; rintro e va0 ⟨rfl, Ea0, Xa0, Oa0⟩; rw [z1n] at Xa0 ⊢; rw [z1m] at Ea0; rw [zp]; have oka0 := y0.next E1.rng; rw [z1n] at oka0; clear Oa0 E1 X1 y0)
            rw [rounds_succ]
            go_wp2_with (go_at_call 14; refine (oResult Xa0).mono ?_; rintro e w7 ⟨rfl, hb7⟩; rw [zc, zk]; have E7 := Ea0.below hb7; clear hb7)
            go_ret
            exact ⟨by simp, E7.bel⟩
          case succ =>
            have hlt : n < R.length := by omega
            rw [take_rev hlt] at r3
            obtain ⟨rn, hrn⟩ : ∃ rn, R[n] = rn := ⟨_, rfl⟩
            rw [hrn] at r3
            obtain ⟨og, rfl⟩ := hog (by intro e; rw [e] at hlt; simp at hlt)
            obtain ⟨x1, x2, x3, x4, u1, u2, u3, u4, e1, e1', e2, e2', e3, e3', e4, e4', p1, p2, p3, p4, a1, a2, r5⟩ := r3.next (by omega)
            clear r3
            go_wp2_with (go_at_call 10; refine (cNewNext _).mono ?_; rintro e w6 ⟨rfl, hM⟩; have M := made_of hM; have E1 := r1.below M.bel; have K1 := r2.below M.bel; have X1 := M.blk' r1.bel.size (by decide); obtain ⟨pX, hpX⟩ : ∃ p, wr.heap.size = p := ⟨_, rfl⟩; rw [hpX] at X1 ⊢; clear hpX M hM)
            refine wp_loop_rounds 5 ?_
            rw [rounds_succ]
            go_wp2_with (go_at_call 13; refine (oNext E1 X1 y0 (by omega)).mono ?_; rintro e va0 ⟨rfl, Ea0, Xa0, Oa0⟩; rw [e1] at Xa0 ⊢; rw [e1'] at Ea0; rw [p1]; have oka0 := y0.next E1.rng; rw [e1] at oka0; have Ka0 := K1.oth Oa0 (by simp; exact ⟨_, _, ⟨by decide, by decide⟩, _, _, X1.at_⟩); clear K1; clear Oa0 E1 X1 y0)
            rw [rounds_succ]
            go_wp2_with (go_at_call 13; refine (oNext Ea0 Xa0 oka0 (by omega)).mono ?_; rintro e va1 ⟨rfl, Ea1, Xa1, Oa1⟩; rw [e2] at Xa1 ⊢; rw [e2'] at Ea1; rw [p2]; have oka1 := oka0.next Ea0.rng; rw [e2] at oka1; have Ka1 := Ka0.oth Oa1 (by simp; exact ⟨_, _, ⟨by decide, by decide⟩, _, _, Xa0.at_⟩); clear Ka0; clear Oa1 Ea0 Xa0 oka0)
            rw [rounds_succ]
            go_wp2_with (go_at_call 13; refine (oNext Ea1 Xa1 oka1 (by omega)).mono ?_; rintro e va2 ⟨rfl, Ea2, Xa2, Oa2⟩; rw [e3] at Xa2 ⊢; rw [e3'] at Ea2; rw [p3]; have oka2 := oka1.next Ea1.rng; rw [e3] at oka2; have Ka2 := Ka1.oth Oa2 (by simp; exact ⟨_, _, ⟨by decide, by decide⟩, _, _, Xa1.at_⟩); clear Ka1; clear Oa2 Ea1 Xa1 oka1)
            rw [rounds_succ]
            go_wp2_with (go_at_call 13; refine (oNext Ea2 Xa2 oka2 (by omega)).mono ?_; rintro e va3 ⟨rfl, Ea3, Xa3, Oa3⟩; rw [e4] at Xa3 ⊢; rw [e4'] at Ea3; rw [p4]; have oka3 := oka2.next Ea2.rng; rw [e4] at oka3; have Ka3 := Ka2.oth Oa3 (by simp; exact ⟨_, _, ⟨by decide, by decide⟩, _, _, Xa2.at_⟩); clear Ka2; clear Oa3 Ea2 Xa2 oka2)
            rw [rounds_succ]
            go_wp2_with (go_at_call 14; refine (oResult Xa3).mono ?_; rintro e w7 ⟨rfl, hb7⟩; rw [a1, a2]; have E7 := Ea3.below hb7; have K7 := Ka3.below hb7; have cn : w7.cell? ⟨og, n, none⟩ = some (.int .i64 rn) := K7.row.cell (by rw [List.getElem?_eq_getElem hlt, hrn]); clear hb7)
            go_roundw
            case rel => exact ⟨n, by omega, by go_num, _, _, E7.mono (by omega), K7, r5, by omega⟩
            case measure => simp [intOf] <;> omega
end Go.Proofs.YtkgmfnllhjedpaaDoor

