/-
  The walk of the law on three threads: program and reference side by side.
-/
import Derived.WalkKit
import Derived.Deep.WholeRow
import Derived.Test.YtgakmpfmckikgaaGreatDoorWl
import Derived.Test.YtgakmpfmckikgaaGreatDoorOb
import Derived.Test.YtgakmpfmckikgaaGreatDoorDt
import Derived.Deep.Cut
import Derived.Deep.RegionHeld3
namespace Go.Proofs.YtgakmpfmckikgaaGreatDoor
set_option linter.unusedVariables false
section
variable {P : Program} {ops : Array Oper} {rest : List Oper} {o1 o2 o3 : Oper} {a : Act} {w : World} {Q : Exit → Act → World → Prop}
theorem run_alloc_zero {t : TypeId} {c : Array Value} {n : Nat} (ρ : Operand → Value) (ho : o2.op = .alloc t) (hi : (P.info? t).map (fun i => (i.zero, i.size)) = some (some (.agg c), n)) :
    (execOp ρ o2).run P w = .ok (.value (.pointer (some ⟨w.heap.size, 0, none⟩))) (w.alloc (.cells c t)) := by
  have hz := (zero_of_info hi).1
  unfold execOp
  simp only [ho]
  simp [go_sem, hz, Result.andThen, Value.cells]
theorem run_store_zero {t : TypeId} {c : Array Value} {n : Nat} (x y : Operand) (ρ : Operand → Value) (ho : o3.op = .store t x y) (hx : ρ x = .pointer (some ⟨w.heap.size, 0, none⟩)) (hy : ρ y = .agg c) (hi : (P.info? t).map (fun i => (i.zero, i.size)) = some (some (.agg c), n)) (hn : c.size = n) (h1 : c.all (·.oneCell') = true) :
    (execOp ρ o3).run P (w.alloc (.cells c t)) = .ok .skip (w.alloc (.cells c t)) := by
  have hs := (zero_of_info hi).2
  unfold execOp
  simp only [ho, hx, hy]
  have := run_storeAt_new (P := P) w t c c (by rw [hs, hn]) rfl h1
  simp only [Sem.run_bind, this, Result.andThen_ok, Sem.run_pure]
/-- the three operations -/
theorem wpList_zeros (g1 : o1.guard = none) (g2 : o2.guard = none) (g3 : o3.guard = none) (t : TypeId) (d1 d2 : Tmp) (h1 : o1.op = .build t #[]) (h2 : o2.op = .alloc t) (h3 : o3.op = .store t (.tmp d2) (.tmp d1)) (e1 : o1.dst = some d1) (e2 : o2.dst = some d2) (e3 : o3.dst = none)
    (c : Array Value) (n : Nat) (hb : P.built t [] = some c) (hi : (P.info? t).map (fun i => (i.zero, i.size)) = some (some (.agg c), n)) (hn : c.size = n) (hc : c.all (·.oneCell') = true)
    (hd1 : ((a.put (some d1) (.agg c)).put (some d2) (.pointer (some ⟨w.heap.size, 0, none⟩))).eval (.tmp d1) = .agg c) (hd2 : ((a.put (some d1) (.agg c)).put (some d2) (.pointer (some ⟨w.heap.size, 0, none⟩))).eval (.tmp d2) = .pointer (some ⟨w.heap.size, 0, none⟩))
    (h : wpList P ops Q rest (((a.put (some d1) (.agg c)).put (some d2) (.pointer (some ⟨w.heap.size, 0, none⟩))).put none undef) (w.alloc (.cells c t))) : wpList P ops Q (o1 :: o2 :: o3 :: rest) a w := by
  refine wpList_build g1 t #[] h1 (by simp [hb]) ?_
  rw [e1]
  simp only [List.map_toArray, List.map_nil, hb, Option.getD_some]
  refine wpList_plain g2 fun K hK => ?_
  unfold Oper.wp
  rw [run_alloc_zero _ h2 hi, Oper.upon_value, e2]
  refine hK _ _ ?_
  refine wpList_plain g3 fun K hK => ?_
  unfold Oper.wp
  rw [run_store_zero _ _ _ h3 hd2 hd1 hi hn hc, Oper.upon_skip, e3]
  exact hK _ _ h
end
end Go.Proofs.YtgakmpfmckikgaaGreatDoor

namespace Go.Proofs.YtgakmpfmckikgaaGreatDoor
set_option linter.unusedVariables false
set_option linter.unusedSimpArgs false
set_option maxRecDepth 100000
open Go.ChangeShapes Go.WideShapes Go.RowKit

theorem bool_set {w0 w : World} {bb : Nat} {T : TypeId} {bs : Nat → Bool} (B : Blk w0 w bb T #[.bool (bs 0), .bool (bs 1), .bool (bs 2)]) (k : Nat) (hk : k < 3) (v : Bool) : Blk w0 (w.setCell ⟨bb, k, none⟩ (.bool v)) bb T #[.bool (upd bs k v 0), .bool (upd bs k v 1), .bool (upd bs k v 2)] := by
  have := B.set k (.bool v)
  rcases (show k = 0 ∨ k = 1 ∨ k = 2 by omega) with rfl | rfl | rfl <;> exact this
theorem bool_at {w0 w : World} {bb : Nat} {T : TypeId} {bs : Nat → Bool} (B : Blk w0 w bb T #[.bool (bs 0), .bool (bs 1), .bool (bs 2)]) (k : Nat) (hk : k < 3) : w.cell? ⟨bb, k, none⟩ = some (.bool (bs k)) := by
  have := B.cell k
  rcases (show k = 0 ∨ k = 1 ∨ k = 2 by omega) with rfl | rfl | rfl <;> exact this
/-- where the law stands -/
structure Now (w wr : World) (b y WB bb : Nat) (N : Nat) (cs : Array Value) (bs : Nat → Bool) (Fp : Nat → List Nat) (xs : Nat → Sx) (s : St) : Prop where
  two : Two w wr b y s s N
  len : s.ws.length = 160
  wb : Blk w wr WB 40 cs
  size : cs.size = 18
  bb : Blk w wr bb 41 #[.bool (bs 0), .bool (bs 1), .bool (bs 2)]
  team : Team w wr cs bs Fp xs
theorem Now.below {w wr w' : World} {b y WB bb N : Nat} {cs : Array Value} {bs : Nat → Bool} {Fp : Nat → List Nat} {xs : Nat → Sx} {s : St} (h : Now w wr b y WB bb N cs bs Fp xs s) (hb : Below wr.heap.size wr w') : Now w w' b y WB bb N cs bs Fp xs s := ⟨h.two.below hb, h.len, h.wb.below hb, h.size, h.bb.below hb, h.team.below hb⟩
theorem Now.mono {w wr : World} {b y WB bb N N' : Nat} {cs : Array Value} {bs : Nat → Bool} {Fp : Nat → List Nat} {xs : Nat → Sx} {s : St} (h : Now w wr b y WB bb N cs bs Fp xs s) (hN : N ≤ N') : Now w wr b y WB bb N' cs bs Fp xs s := ⟨h.two.mono hN, h.len, h.wb, h.size, h.bb, h.team⟩
theorem Now.set {w wr : World} {b y WB bb N : Nat} {cs : Array Value} {bs : Nat → Bool} {Fp : Nat → List Nat} {xs : Nat → Sx} {s : St} (k : Nat) (hk : k < 3) (v : Bool) (h2 : Two w wr b y s s N) (hl : s.ws.length = 160) (hw : Blk w wr WB 40 cs) (hc : cs.size = 18) (hb : Blk w wr bb 41 #[.bool (bs 0), .bool (bs 1), .bool (bs 2)]) (ht : Team w wr cs (upd bs k v) Fp xs) : Now w (wr.setCell ⟨bb, k, none⟩ (.bool v)) b y WB bb N cs (upd bs k v) Fp xs s :=
  ⟨h2.set hb k _, hl, hw.oth (Oth.set (F := [bb]) _ _ _ _ (by simp)) (by simpa using hw.ne hb (by decide)), hc, bool_set hb k hk v, ht.set hb (by decide) (by decide) _⟩
theorem upd_upd {α : Type} (f : Nat → α) (k : Nat) (u v : α) : upd (upd f k u) k v = upd f k v := by
  funext j
  unfold upd
  split <;> rfl

set_option maxHeartbeats 12000000 in
theorem wDirectPlays (at_ : Option Addr) (lt ct : Nat) (zt : Nat → Int) (av : Option Addr) (ll cv' : Nat) (zl : Nat → Vl) (ao : Option Addr) (lo co : Nat) (zo : Nat → Op7) (ap : Option Addr) (lp cp : Nat) (zp : Nat → Int) (w : World) (W : H.Wid w) (ci : CameI w at_ lt zt) (cv : CameV w av ll zl) (oo : CameO w ao lo zo) (ip : CameI w ap lp zp) :
    Calls Tryz.prog 3 #[.agg #[.slice at_ lt ct, .slice av ll cv'], .slice ao lo co, .slice ap lp cp] w fun e w' => e = .returned (.bool true) ∧ Below w.heap.size w w' := by
  obtain ⟨S, hS⟩ : ∃ S, laidO (tagP lt zt) (fldP ll zl) 16 = S := ⟨_, rfl⟩
  have hSl : S.ws.length = 160 := by rw [← hS]; exact laid_len 16
  go_enter Tryz.func3, Tryz.ntmps3
  go_upto_region 1 with (fail)
  have hb0 : Below w.heap.size w (w.alloc (.cells #[.slice at_ lt ct, .slice av ll cv'] 25)) := (Below.refl _ _).alloc (Nat.le_refl _) _
  have P0 : Blk w (w.alloc (.cells #[.slice at_ lt ct, .slice av ll cv'] 25)) w.heap.size 25 #[.slice at_ lt ct, .slice av ll cv'] := Blk.new (Nat.le_refl _) _ (by decide)
  generalize w.alloc (.cells #[.slice at_ lt ct, .slice av ll cv'] 25) = w0 at hb0 P0 ⊢
  generalize hpb : w.heap.size = pb at P0 ⊢
  go_upto_region 5 with (first
    | (go_at_call 4; refine (cShown _ (W.on (hpb ▸ hb0))).mono ?_; rintro e w1 ⟨rfl, hb1'⟩; have hb1 : Below w.heap.size w w1 := bel_trans (hpb ▸ hb0) hb1'; have P1 := P0.below hb1'; have e0 : w1.cell? ⟨pb, 0, none⟩ = some (.slice at_ lt ct) := P1.cell 0; have e1 : w1.cell? ⟨pb, 1, none⟩ = some (.slice av ll cv') := P1.cell 1; have el := P1.lt; clear hb1')
    | (go_at_call 5; refine (cLaid w1 (W.on hb1) (ci.on hb1) (cv.on hb1)).mono ?_; rintro e w2 ⟨b, y, rfl, h2⟩; have T2 := h2.lift hb1 W; rw [hS] at T2; clear h2))
  clear e0 e1 el P0 P1 hb0 hb1
  refine wp_region_lit ?_
  refine wpList_zeros rfl rfl rfl 40 34 10 rfl rfl rfl rfl rfl rfl #[.pointer none, .pointer none, .pointer none, .pointer none, .pointer none, .pointer none, .pointer none, .pointer none, .pointer none, .pointer none, .pointer none, .pointer none, .pointer none, .pointer none, .pointer none, .pointer none, .pointer none, .pointer none] 18 (by kernel_rfl) (by kernel_rfl) rfl (by kernel_rfl) rfl rfl ?_
  refine wpList_nil ?_
  have B3 : Blk w (w2.alloc (.cells #[.pointer none, .pointer none, .pointer none, .pointer none, .pointer none, .pointer none, .pointer none, .pointer none, .pointer none, .pointer none, .pointer none, .pointer none, .pointer none, .pointer none, .pointer none, .pointer none, .pointer none, .pointer none] 40)) w2.heap.size 40 #[.pointer none, .pointer none, .pointer none, .pointer none, .pointer none, .pointer none, .pointer none, .pointer none, .pointer none, .pointer none, .pointer none, .pointer none, .pointer none, .pointer none, .pointer none, .pointer none, .pointer none, .pointer none] := Blk.new T2.bel.size _ (by decide)
  have T3 := T2.alloc (.cells #[.pointer none, .pointer none, .pointer none, .pointer none, .pointer none, .pointer none, .pointer none, .pointer none, .pointer none, .pointer none, .pointer none, .pointer none, .pointer none, .pointer none, .pointer none, .pointer none, .pointer none, .pointer none] 40)
  generalize w2.alloc (.cells #[.pointer none, .pointer none, .pointer none, .pointer none, .pointer none, .pointer none, .pointer none, .pointer none, .pointer none, .pointer none, .pointer none, .pointer none, .pointer none, .pointer none, .pointer none, .pointer none, .pointer none, .pointer none] 40) = w3 at B3 T3 ⊢
  generalize w2.heap.size = WB at B3 ⊢
  clear T2
  go_upto_region 7 with (fail)
  have hb4 : Below w3.heap.size w3 (w3.alloc (.cells #[.bool false, .bool false, .bool false] 41)) := (Below.refl _ _).alloc (Nat.le_refl _) _
  have C4 : Blk w (w3.alloc (.cells #[.bool false, .bool false, .bool false] 41)) w3.heap.size 41 #[.bool false, .bool false, .bool false] := Blk.new T3.bel.size _ (by decide)
  have T4 := T3.below hb4
  have B4 := B3.below hb4
  generalize w3.alloc (.cells #[.bool false, .bool false, .bool false] 41) = w4 at C4 T4 B4 ⊢
  generalize w3.heap.size = bb at C4 ⊢
  clear hb4 T3 B3
  have N4 : Now w w4 b y WB bb 128 #[.pointer none, .pointer none, .pointer none, .pointer none, .pointer none, .pointer none, .pointer none, .pointer none, .pointer none, .pointer none, .pointer none, .pointer none, .pointer none, .pointer none, .pointer none, .pointer none, .pointer none, .pointer none] (fun _ => false) (fun _ => []) (fun _ => ⟨none, false, Ou.zero⟩) S := ⟨T4, hSl, B4, rfl, C4, team_none⟩
  clear C4 T4 B4
  go_wp2_with (fail)
  go_loopw [12, 13] (fun nx i wr => ∃ j n : Nat, j ≤ 300 ∧ j ≤ lp ∧ i = .int .i64 j ∧ n ≤ 30 ∧ nx = .int .i64 n ∧ ∃ cs bs Fp xs s, Now w wr b y WB bb (128 + 2 * j) cs bs Fp xs s) (fun _ i _ => 300 - (intOf i).toNat)
  case atStart => exact ⟨0, 0, Nat.zero_le _, Nat.zero_le _, rfl, Nat.zero_le _, rfl, _, _, _, _, _, N4⟩
  case round =>
    obtain ⟨j, n, hj, hjl, rfl, hn, rfl, cs, bs, Fp, xs, s, M⟩ := hrel
    clear N4
    by_cases hjp : j < lp
    case neg =>
      have hd1 : decide ((j : Int) < (lp : Int)) = false := by simp; omega
      go_wp2_with (go_at_call 9; refine (cSame M.two M.len (by omega)).mono ?_; rintro e w9 ⟨rfl, hb9⟩)
      go_ret
      exact ⟨rfl, bel_trans M.two.bel hb9⟩
    case pos =>
      by_cases hj3 : j < 300
      case neg =>
        have hd1 : decide ((j : Int) < (lp : Int)) = true := by simp; omega
        have hd2 : decide ((j : Int) < 300) = false := by simp; omega
        go_wp2_with (go_at_call 9; refine (cSame M.two M.len (by omega)).mono ?_; rintro e w9 ⟨rfl, hb9⟩)
        go_ret
        exact ⟨rfl, bel_trans M.two.bel hb9⟩
      case pos =>
        have hd1 : decide ((j : Int) < (lp : Int)) = true := by simp; omega
        have hd2 : decide ((j : Int) < 300) = true := by simp; omega
        obtain ⟨kb, koff, rfl, hkb, hz⟩ : ∃ b off, ap = some ⟨b, off, none⟩ ∧ b < wr.heap.size ∧ ∀ j, j < lp → wr.cell? ⟨b, off + j, none⟩ = some (.int .i64 (zp j)) ∧ -9223372036854775808 ≤ zp j ∧ zp j ≤ 9223372036854775807 := (ip.on M.two.bel).resolve_left (by omega)
        obtain ⟨d0, dl, du⟩ := hz j hjp
        obtain ⟨z, hzz⟩ : ∃ z, zp j = z := ⟨_, rfl⟩
        rw [hzz] at d0 dl du
        clear hz hzz
        have hk3 : kd z 3 = 0 ∨ kd z 3 = 1 ∨ kd z 3 = 2 := by have := kd_lt z 3 (by decide); omega
        have wl := M.wb.lt
        have bl := M.bb.lt
        rcases hk3 with hkd | hkd | hkd
        · rcases hbk : bs 0 with _ | _
          · have v0 : wr.cell? ⟨bb, 0, none⟩ = some (.bool false) := hbk ▸ bool_at M.bb 0 (by decide)
            by_cases hno : n < lo ∧ n < 30
            · have hd3 : decide ((n : Int) ≥ (lo : Int)) = false := by simp; omega
              have hd4 : decide ((n : Int) ≥ 30) = false := by simp; omega
              obtain ⟨ob, ooff, rfl, Oo⟩ : ∃ b off, ao = some ⟨b, off, none⟩ ∧ OpsO w b off lo zo := oo.resolve_left (by omega)
              obtain ⟨q, hq⟩ : ∃ q, zo n = q := ⟨_, rfl⟩
              have fq : q.Fit := hq ▸ Oo.fit n hno.1
              have keepB : ∀ w', Below w.heap.size w w' → w'.cell? ⟨ob, ooff + n * 9, none⟩ = some (.int .i64 q.k) ∧ w'.cell? ⟨ob, ooff + n * 9 + 1, none⟩ = some (.int .i64 q.b) ∧ w'.cell? ⟨ob, ooff + n * 9 + 2, none⟩ = some (.int .i64 q.o) ∧ w'.cell? ⟨ob, ooff + n * 9 + 3, none⟩ = some (.int .i64 q.f) ∧ w'.cell? ⟨ob, ooff + n * 9 + 4, none⟩ = some (.int .i64 q.a) ∧ w'.cell? ⟨ob, ooff + n * 9 + 5, none⟩ = some (.int .i64 q.x.k) ∧ w'.cell? ⟨ob, ooff + n * 9 + 6, none⟩ = some (.int .i64 q.x.n) ∧ w'.cell? ⟨ob, ooff + n * 9 + 7, none⟩ = some (.int .i64 q.y.k) ∧ w'.cell? ⟨ob, ooff + n * 9 + 8, none⟩ = some (.int .i64 q.y.n) := fun w' hb => by
                have O2 := Oo.on hb
                rw [← hq]
                exact ⟨O2.c0 n hno.1, O2.c1 n hno.1, O2.c2 n hno.1, O2.c3 n hno.1, O2.c4 n hno.1, O2.c5 n hno.1, O2.c6 n hno.1, O2.c7 n hno.1, O2.c8 n hno.1⟩
              have obl : ob < wr.heap.size := Nat.lt_of_lt_of_le Oo.lt M.two.bel.size
              go_upto_region 14 with (go_at_call 6; refine (cKind _ z 3 dl du (by decide)).mono ?_; rintro e wk ⟨rfl, hwk⟩; rw [hwk, hkd]; clear hwk wk)
              clear v0
              have Md := M.below (Below.refl _ wr).drew
              have RD := keepB _ Md.two.bel
              have hn2 : (n : Int) < (lo : Int) := by omega
              go_region_held3 (fun w' => w'.cell? ⟨ob, ooff + n * 9, none⟩ = some (.int .i64 q.k) ∧ w'.cell? ⟨ob, ooff + n * 9 + 1, none⟩ = some (.int .i64 q.b) ∧ w'.cell? ⟨ob, ooff + n * 9 + 2, none⟩ = some (.int .i64 q.o) ∧ w'.cell? ⟨ob, ooff + n * 9 + 3, none⟩ = some (.int .i64 q.f) ∧ w'.cell? ⟨ob, ooff + n * 9 + 4, none⟩ = some (.int .i64 q.a) ∧ w'.cell? ⟨ob, ooff + n * 9 + 5, none⟩ = some (.int .i64 q.x.k) ∧ w'.cell? ⟨ob, ooff + n * 9 + 6, none⟩ = some (.int .i64 q.x.n) ∧ w'.cell? ⟨ob, ooff + n * 9 + 7, none⟩ = some (.int .i64 q.y.k) ∧ w'.cell? ⟨ob, ooff + n * 9 + 8, none⟩ = some (.int .i64 q.y.n)) (first | assumption | exact RD)
                ((go_at_call 7; refine (tmBegin (q := q) Md.two Md.wb Md.size Md.bb Md.team (k := 0) (by decide) rfl hbk fq (by decide) (by decide) (by decide) (by decide)).mono ?_; rintro e w5 ⟨rfl, T5, cs5, F5, x5, B5, hcs5, C5, M5⟩; have S5 := keepB _ T5.bel))
              clear keepB RD Md
              have u0 : w5.cell? ⟨bb, 0, none⟩ = some (.bool (bs 0)) := bool_at C5 0 (by decide)
              have uz := C5.free 0
              have ul := C5.lt
              go_upto_region 19 with (fail)
              have M6 := Now.set 0 (by decide) true T5 M.len B5 hcs5 C5 M5
              clear u0 uz ul S5
              generalize w5.setCell ⟨bb, 0, none⟩ (.bool true) = w6 at M6 ⊢
              have wl6 := M6.wb.lt
              have bl6 := M6.bb.lt
              go_upto_region 20 with (first
                | (go_at_call 6; refine (cKind _ z 3 dl du (by decide)).mono ?_; rintro e wk ⟨rfl, hwk⟩; rw [hwk, hkd]; clear hwk wk)
                | (go_at_call 8; refine (tmStep M6.two M6.len M6.wb M6.size M6.bb M6.team (k := 0) (by decide) rfl (upd_at bs 0 true) (by decide) (by decide) (by omega)).mono ?_; rintro e w9 ⟨dn, rfl, s9, l9, T9, B9, C9, F9, x9, M9⟩))
              have u0 : w9.cell? ⟨bb, 0, none⟩ = some (.bool (upd bs 0 true 0)) := bool_at C9 0 (by decide)
              have uz := C9.free 0
              have ul := C9.lt
              go_wp2_with (fail)
              go_roundw
              case rel => exact ⟨j + 1, (n + 1), by omega, by omega, by go_num, by omega, by go_num, cs5, _, _, _, s9, Now.set 0 (by decide) (!dn) T9 l9 B9 M6.size C9 M9⟩
              case measure => simp [intOf]; omega
            · rcases hd3 : decide ((n : Int) ≥ (lo : Int)) with _ | _
              · have hd4 : decide ((n : Int) ≥ 30) = true := by simp at hd3 ⊢; omega
                go_wp2_with (go_at_call 6; refine (cKind _ z 3 dl du (by decide)).mono ?_; rintro e wk ⟨rfl, hwk⟩; rw [hwk, hkd]; clear hwk wk)
                go_roundw
                case rel => exact ⟨j + 1, n, by omega, by omega, by go_num, hn, rfl, cs, bs, Fp, xs, s, M.mono (by omega)⟩
                case measure => simp [intOf]; omega
                exact ⟨⟨j + 1, n, by omega, by omega, by go_num, hn, rfl, cs, bs, Fp, xs, s, M.mono (by omega)⟩, by simp [intOf]; omega⟩
              · go_wp2_with (go_at_call 6; refine (cKind _ z 3 dl du (by decide)).mono ?_; rintro e wk ⟨rfl, hwk⟩; rw [hwk, hkd]; clear hwk wk)
                go_roundw
                case rel => exact ⟨j + 1, n, by omega, by omega, by go_num, hn, rfl, cs, bs, Fp, xs, s, M.mono (by omega)⟩
                case measure => simp [intOf]; omega
                exact ⟨⟨j + 1, n, by omega, by omega, by go_num, hn, rfl, cs, bs, Fp, xs, s, M.mono (by omega)⟩, by simp [intOf]; omega⟩
          · have v0 : wr.cell? ⟨bb, 0, none⟩ = some (.bool true) := hbk ▸ bool_at M.bb 0 (by decide)
            go_upto_region 20 with (first
              | (go_at_call 6; refine (cKind _ z 3 dl du (by decide)).mono ?_; rintro e wk ⟨rfl, hwk⟩; rw [hwk, hkd]; clear hwk wk)
              | (go_at_call 8; refine (tmStep M.two M.len M.wb M.size M.bb M.team (k := 0) (by decide) rfl hbk (by decide) (by decide) (by omega)).mono ?_; rintro e w9 ⟨dn, rfl, s9, l9, T9, B9, C9, F9, x9, M9⟩))
            have u0 : w9.cell? ⟨bb, 0, none⟩ = some (.bool (bs 0)) := bool_at C9 0 (by decide)
            have uz := C9.free 0
            have ul := C9.lt
            go_wp2_with (fail)
            go_roundw
            case rel => exact ⟨j + 1, n, by omega, by omega, by go_num, by omega, rfl, cs, _, _, _, s9, Now.set 0 (by decide) (!dn) T9 l9 B9 M.size C9 M9⟩
            case measure => simp [intOf]; omega
        · rcases hbk : bs 1 with _ | _
          · have v0 : wr.cell? ⟨bb, 1, none⟩ = some (.bool false) := hbk ▸ bool_at M.bb 1 (by decide)
            by_cases hno : n < lo ∧ n < 30
            · have hd3 : decide ((n : Int) ≥ (lo : Int)) = false := by simp; omega
              have hd4 : decide ((n : Int) ≥ 30) = false := by simp; omega
              obtain ⟨ob, ooff, rfl, Oo⟩ : ∃ b off, ao = some ⟨b, off, none⟩ ∧ OpsO w b off lo zo := oo.resolve_left (by omega)
              obtain ⟨q, hq⟩ : ∃ q, zo n = q := ⟨_, rfl⟩
              have fq : q.Fit := hq ▸ Oo.fit n hno.1
              have keepB : ∀ w', Below w.heap.size w w' → w'.cell? ⟨ob, ooff + n * 9, none⟩ = some (.int .i64 q.k) ∧ w'.cell? ⟨ob, ooff + n * 9 + 1, none⟩ = some (.int .i64 q.b) ∧ w'.cell? ⟨ob, ooff + n * 9 + 2, none⟩ = some (.int .i64 q.o) ∧ w'.cell? ⟨ob, ooff + n * 9 + 3, none⟩ = some (.int .i64 q.f) ∧ w'.cell? ⟨ob, ooff + n * 9 + 4, none⟩ = some (.int .i64 q.a) ∧ w'.cell? ⟨ob, ooff + n * 9 + 5, none⟩ = some (.int .i64 q.x.k) ∧ w'.cell? ⟨ob, ooff + n * 9 + 6, none⟩ = some (.int .i64 q.x.n) ∧ w'.cell? ⟨ob, ooff + n * 9 + 7, none⟩ = some (.int .i64 q.y.k) ∧ w'.cell? ⟨ob, ooff + n * 9 + 8, none⟩ = some (.int .i64 q.y.n) := fun w' hb => by
                have O2 := Oo.on hb
                rw [← hq]
                exact ⟨O2.c0 n hno.1, O2.c1 n hno.1, O2.c2 n hno.1, O2.c3 n hno.1, O2.c4 n hno.1, O2.c5 n hno.1, O2.c6 n hno.1, O2.c7 n hno.1, O2.c8 n hno.1⟩
              have obl : ob < wr.heap.size := Nat.lt_of_lt_of_le Oo.lt M.two.bel.size
              go_upto_region 14 with (go_at_call 6; refine (cKind _ z 3 dl du (by decide)).mono ?_; rintro e wk ⟨rfl, hwk⟩; rw [hwk, hkd]; clear hwk wk)
              clear v0
              have Md := M.below (Below.refl _ wr).drew
              have RD := keepB _ Md.two.bel
              have hn2 : (n : Int) < (lo : Int) := by omega
              go_region_held3 (fun w' => w'.cell? ⟨ob, ooff + n * 9, none⟩ = some (.int .i64 q.k) ∧ w'.cell? ⟨ob, ooff + n * 9 + 1, none⟩ = some (.int .i64 q.b) ∧ w'.cell? ⟨ob, ooff + n * 9 + 2, none⟩ = some (.int .i64 q.o) ∧ w'.cell? ⟨ob, ooff + n * 9 + 3, none⟩ = some (.int .i64 q.f) ∧ w'.cell? ⟨ob, ooff + n * 9 + 4, none⟩ = some (.int .i64 q.a) ∧ w'.cell? ⟨ob, ooff + n * 9 + 5, none⟩ = some (.int .i64 q.x.k) ∧ w'.cell? ⟨ob, ooff + n * 9 + 6, none⟩ = some (.int .i64 q.x.n) ∧ w'.cell? ⟨ob, ooff + n * 9 + 7, none⟩ = some (.int .i64 q.y.k) ∧ w'.cell? ⟨ob, ooff + n * 9 + 8, none⟩ = some (.int .i64 q.y.n)) (first | assumption | exact RD)
                ((go_at_call 7; refine (tmBegin (q := q) Md.two Md.wb Md.size Md.bb Md.team (k := 1) (by decide) rfl hbk fq (by decide) (by decide) (by decide) (by decide)).mono ?_; rintro e w5 ⟨rfl, T5, cs5, F5, x5, B5, hcs5, C5, M5⟩; have S5 := keepB _ T5.bel))
              clear keepB RD Md
              have u0 : w5.cell? ⟨bb, 1, none⟩ = some (.bool (bs 1)) := bool_at C5 1 (by decide)
              have uz := C5.free 1
              have ul := C5.lt
              go_upto_region 19 with (fail)
              have M6 := Now.set 1 (by decide) true T5 M.len B5 hcs5 C5 M5
              clear u0 uz ul S5
              generalize w5.setCell ⟨bb, 1, none⟩ (.bool true) = w6 at M6 ⊢
              have wl6 := M6.wb.lt
              have bl6 := M6.bb.lt
              go_upto_region 20 with (first
                | (go_at_call 6; refine (cKind _ z 3 dl du (by decide)).mono ?_; rintro e wk ⟨rfl, hwk⟩; rw [hwk, hkd]; clear hwk wk)
                | (go_at_call 8; refine (tmStep M6.two M6.len M6.wb M6.size M6.bb M6.team (k := 1) (by decide) rfl (upd_at bs 1 true) (by decide) (by decide) (by omega)).mono ?_; rintro e w9 ⟨dn, rfl, s9, l9, T9, B9, C9, F9, x9, M9⟩))
              have u0 : w9.cell? ⟨bb, 1, none⟩ = some (.bool (upd bs 1 true 1)) := bool_at C9 1 (by decide)
              have uz := C9.free 1
              have ul := C9.lt
              go_wp2_with (fail)
              go_roundw
              case rel => exact ⟨j + 1, (n + 1), by omega, by omega, by go_num, by omega, by go_num, cs5, _, _, _, s9, Now.set 1 (by decide) (!dn) T9 l9 B9 M6.size C9 M9⟩
              case measure => simp [intOf]; omega
            · rcases hd3 : decide ((n : Int) ≥ (lo : Int)) with _ | _
              · have hd4 : decide ((n : Int) ≥ 30) = true := by simp at hd3 ⊢; omega
                go_wp2_with (go_at_call 6; refine (cKind _ z 3 dl du (by decide)).mono ?_; rintro e wk ⟨rfl, hwk⟩; rw [hwk, hkd]; clear hwk wk)
                go_roundw
                case rel => exact ⟨j + 1, n, by omega, by omega, by go_num, hn, rfl, cs, bs, Fp, xs, s, M.mono (by omega)⟩
                case measure => simp [intOf]; omega
                exact ⟨⟨j + 1, n, by omega, by omega, by go_num, hn, rfl, cs, bs, Fp, xs, s, M.mono (by omega)⟩, by simp [intOf]; omega⟩
              · go_wp2_with (go_at_call 6; refine (cKind _ z 3 dl du (by decide)).mono ?_; rintro e wk ⟨rfl, hwk⟩; rw [hwk, hkd]; clear hwk wk)
                go_roundw
                case rel => exact ⟨j + 1, n, by omega, by omega, by go_num, hn, rfl, cs, bs, Fp, xs, s, M.mono (by omega)⟩
                case measure => simp [intOf]; omega
                exact ⟨⟨j + 1, n, by omega, by omega, by go_num, hn, rfl, cs, bs, Fp, xs, s, M.mono (by omega)⟩, by simp [intOf]; omega⟩
          · have v0 : wr.cell? ⟨bb, 1, none⟩ = some (.bool true) := hbk ▸ bool_at M.bb 1 (by decide)
            go_upto_region 20 with (first
              | (go_at_call 6; refine (cKind _ z 3 dl du (by decide)).mono ?_; rintro e wk ⟨rfl, hwk⟩; rw [hwk, hkd]; clear hwk wk)
              | (go_at_call 8; refine (tmStep M.two M.len M.wb M.size M.bb M.team (k := 1) (by decide) rfl hbk (by decide) (by decide) (by omega)).mono ?_; rintro e w9 ⟨dn, rfl, s9, l9, T9, B9, C9, F9, x9, M9⟩))
            have u0 : w9.cell? ⟨bb, 1, none⟩ = some (.bool (bs 1)) := bool_at C9 1 (by decide)
            have uz := C9.free 1
            have ul := C9.lt
            go_wp2_with (fail)
            go_roundw
            case rel => exact ⟨j + 1, n, by omega, by omega, by go_num, by omega, rfl, cs, _, _, _, s9, Now.set 1 (by decide) (!dn) T9 l9 B9 M.size C9 M9⟩
            case measure => simp [intOf]; omega
        · rcases hbk : bs 2 with _ | _
          · have v0 : wr.cell? ⟨bb, 2, none⟩ = some (.bool false) := hbk ▸ bool_at M.bb 2 (by decide)
            by_cases hno : n < lo ∧ n < 30
            · have hd3 : decide ((n : Int) ≥ (lo : Int)) = false := by simp; omega
              have hd4 : decide ((n : Int) ≥ 30) = false := by simp; omega
              obtain ⟨ob, ooff, rfl, Oo⟩ : ∃ b off, ao = some ⟨b, off, none⟩ ∧ OpsO w b off lo zo := oo.resolve_left (by omega)
              obtain ⟨q, hq⟩ : ∃ q, zo n = q := ⟨_, rfl⟩
              have fq : q.Fit := hq ▸ Oo.fit n hno.1
              have keepB : ∀ w', Below w.heap.size w w' → w'.cell? ⟨ob, ooff + n * 9, none⟩ = some (.int .i64 q.k) ∧ w'.cell? ⟨ob, ooff + n * 9 + 1, none⟩ = some (.int .i64 q.b) ∧ w'.cell? ⟨ob, ooff + n * 9 + 2, none⟩ = some (.int .i64 q.o) ∧ w'.cell? ⟨ob, ooff + n * 9 + 3, none⟩ = some (.int .i64 q.f) ∧ w'.cell? ⟨ob, ooff + n * 9 + 4, none⟩ = some (.int .i64 q.a) ∧ w'.cell? ⟨ob, ooff + n * 9 + 5, none⟩ = some (.int .i64 q.x.k) ∧ w'.cell? ⟨ob, ooff + n * 9 + 6, none⟩ = some (.int .i64 q.x.n) ∧ w'.cell? ⟨ob, ooff + n * 9 + 7, none⟩ = some (.int .i64 q.y.k) ∧ w'.cell? ⟨ob, ooff + n * 9 + 8, none⟩ = some (.int .i64 q.y.n) := fun w' hb => by
                have O2 := Oo.on hb
                rw [← hq]
                exact ⟨O2.c0 n hno.1, O2.c1 n hno.1, O2.c2 n hno.1, O2.c3 n hno.1, O2.c4 n hno.1, O2.c5 n hno.1, O2.c6 n hno.1, O2.c7 n hno.1, O2.c8 n hno.1⟩
              have obl : ob < wr.heap.size := Nat.lt_of_lt_of_le Oo.lt M.two.bel.size
              go_upto_region 14 with (go_at_call 6; refine (cKind _ z 3 dl du (by decide)).mono ?_; rintro e wk ⟨rfl, hwk⟩; rw [hwk, hkd]; clear hwk wk)
              clear v0
              have Md := M.below (Below.refl _ wr).drew
              have RD := keepB _ Md.two.bel
              have hn2 : (n : Int) < (lo : Int) := by omega
              go_region_held3 (fun w' => w'.cell? ⟨ob, ooff + n * 9, none⟩ = some (.int .i64 q.k) ∧ w'.cell? ⟨ob, ooff + n * 9 + 1, none⟩ = some (.int .i64 q.b) ∧ w'.cell? ⟨ob, ooff + n * 9 + 2, none⟩ = some (.int .i64 q.o) ∧ w'.cell? ⟨ob, ooff + n * 9 + 3, none⟩ = some (.int .i64 q.f) ∧ w'.cell? ⟨ob, ooff + n * 9 + 4, none⟩ = some (.int .i64 q.a) ∧ w'.cell? ⟨ob, ooff + n * 9 + 5, none⟩ = some (.int .i64 q.x.k) ∧ w'.cell? ⟨ob, ooff + n * 9 + 6, none⟩ = some (.int .i64 q.x.n) ∧ w'.cell? ⟨ob, ooff + n * 9 + 7, none⟩ = some (.int .i64 q.y.k) ∧ w'.cell? ⟨ob, ooff + n * 9 + 8, none⟩ = some (.int .i64 q.y.n)) (first | assumption | exact RD)
                ((go_at_call 7; refine (tmBegin (q := q) Md.two Md.wb Md.size Md.bb Md.team (k := 2) (by decide) rfl hbk fq (by decide) (by decide) (by decide) (by decide)).mono ?_; rintro e w5 ⟨rfl, T5, cs5, F5, x5, B5, hcs5, C5, M5⟩; have S5 := keepB _ T5.bel))
              clear keepB RD Md
              have u0 : w5.cell? ⟨bb, 2, none⟩ = some (.bool (bs 2)) := bool_at C5 2 (by decide)
              have uz := C5.free 2
              have ul := C5.lt
              go_upto_region 19 with (fail)
              have M6 := Now.set 2 (by decide) true T5 M.len B5 hcs5 C5 M5
              clear u0 uz ul S5
              generalize w5.setCell ⟨bb, 2, none⟩ (.bool true) = w6 at M6 ⊢
              have wl6 := M6.wb.lt
              have bl6 := M6.bb.lt
              go_upto_region 20 with (first
                | (go_at_call 6; refine (cKind _ z 3 dl du (by decide)).mono ?_; rintro e wk ⟨rfl, hwk⟩; rw [hwk, hkd]; clear hwk wk)
                | (go_at_call 8; refine (tmStep M6.two M6.len M6.wb M6.size M6.bb M6.team (k := 2) (by decide) rfl (upd_at bs 2 true) (by decide) (by decide) (by omega)).mono ?_; rintro e w9 ⟨dn, rfl, s9, l9, T9, B9, C9, F9, x9, M9⟩))
              have u0 : w9.cell? ⟨bb, 2, none⟩ = some (.bool (upd bs 2 true 2)) := bool_at C9 2 (by decide)
              have uz := C9.free 2
              have ul := C9.lt
              go_wp2_with (fail)
              go_roundw
              case rel => exact ⟨j + 1, (n + 1), by omega, by omega, by go_num, by omega, by go_num, cs5, _, _, _, s9, Now.set 2 (by decide) (!dn) T9 l9 B9 M6.size C9 M9⟩
              case measure => simp [intOf]; omega
            · rcases hd3 : decide ((n : Int) ≥ (lo : Int)) with _ | _
              · have hd4 : decide ((n : Int) ≥ 30) = true := by simp at hd3 ⊢; omega
                go_wp2_with (go_at_call 6; refine (cKind _ z 3 dl du (by decide)).mono ?_; rintro e wk ⟨rfl, hwk⟩; rw [hwk, hkd]; clear hwk wk)
                go_roundw
                case rel => exact ⟨j + 1, n, by omega, by omega, by go_num, hn, rfl, cs, bs, Fp, xs, s, M.mono (by omega)⟩
                case measure => simp [intOf]; omega
                exact ⟨⟨j + 1, n, by omega, by omega, by go_num, hn, rfl, cs, bs, Fp, xs, s, M.mono (by omega)⟩, by simp [intOf]; omega⟩
              · go_wp2_with (go_at_call 6; refine (cKind _ z 3 dl du (by decide)).mono ?_; rintro e wk ⟨rfl, hwk⟩; rw [hwk, hkd]; clear hwk wk)
                go_roundw
                case rel => exact ⟨j + 1, n, by omega, by omega, by go_num, hn, rfl, cs, bs, Fp, xs, s, M.mono (by omega)⟩
                case measure => simp [intOf]; omega
                exact ⟨⟨j + 1, n, by omega, by omega, by go_num, hn, rfl, cs, bs, Fp, xs, s, M.mono (by omega)⟩, by simp [intOf]; omega⟩
          · have v0 : wr.cell? ⟨bb, 2, none⟩ = some (.bool true) := hbk ▸ bool_at M.bb 2 (by decide)
            go_upto_region 20 with (first
              | (go_at_call 6; refine (cKind _ z 3 dl du (by decide)).mono ?_; rintro e wk ⟨rfl, hwk⟩; rw [hwk, hkd]; clear hwk wk)
              | (go_at_call 8; refine (tmStep M.two M.len M.wb M.size M.bb M.team (k := 2) (by decide) rfl hbk (by decide) (by decide) (by omega)).mono ?_; rintro e w9 ⟨dn, rfl, s9, l9, T9, B9, C9, F9, x9, M9⟩))
            have u0 : w9.cell? ⟨bb, 2, none⟩ = some (.bool (bs 2)) := bool_at C9 2 (by decide)
            have uz := C9.free 2
            have ul := C9.lt
            go_wp2_with (fail)
            go_roundw
            case rel => exact ⟨j + 1, n, by omega, by omega, by go_num, by omega, rfl, cs, _, _, _, s9, Now.set 2 (by decide) (!dn) T9 l9 B9 M.size C9 M9⟩
            case measure => simp [intOf]; omega
end Go.Proofs.YtgakmpfmckikgaaGreatDoor
