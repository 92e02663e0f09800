/-
  AllocPlays, walked.
-/
import Derived.Test.YtbojljkdpebheaaGreatDoorRl
import Derived.Test.YtbojljkdpebheaaGreatDoorAs
import Derived.Test.YtbojljkdpebheaaGreatDoorOi
import Derived.Test.YtbojljkdpebheaaGreatDoorZa
import Derived.Deep.Cut
import Derived.Deep.RegionHeld3
namespace Go.Proofs.YtbojljkdpebheaaGreatDoor
set_option linter.unusedVariables false
set_option maxRecDepth 100000
open Go.ChangeShapes Go.WideShapes Go.RowKit
open S.Plain (t0 t1 tw nx bw b3)
open H.Plain (hw pL)

theorem hLen {w0 w : World} {b N : Nat} {s : St} (h : Hand w0 w b s N) : Calls Tryz.prog 41 #[.pointer (some ⟨b, 0, none⟩)] w fun e w' => e = .returned (.int .i64 s.ws.length) ∧ w' = w := by
  obtain ⟨⟨L, rfl, hm, _⟩, _⟩ := h
  exact cLen hm
theorem hClone {w0 w : World} {b N : Nat} {s : St} (h : Hand w0 w b s N) : Calls Tryz.prog 40 #[.pointer (some ⟨b, 0, none⟩)] w fun e w' => ∃ c, e = .returned (.pointer (some ⟨c, 0, none⟩)) ∧ Hand w w' c s N := by
  have hwd := h.widw
  obtain ⟨⟨L, rfl, hm, _⟩, _, f, t, r, _⟩ := h
  refine (cClone hm f).mono ?_
  rintro e w' ⟨L', rfl, hm', hb', hl'⟩
  exact ⟨_, rfl, ⟨⟨L', rfl, hm', hl'⟩, hb', f, t, r, hwd⟩⟩
theorem Two.lift {w w1 w' : World} {b y N : Nat} {s1 s2 : St} (h : Two w1 w' b y s1 s2 N) (hb : Below w.heap.size w w1) (W : Laid w) : Two w w' b y s1 s2 N := by
  obtain ⟨⟨L, M, e1, e2, hm, hr, hl, hl2⟩, hb', f1, f2, t1, t2, r1, r2, wd⟩ := h
  exact ⟨⟨L, M, e1, e2, hm, hr, fun k hk => ⟨Nat.le_trans hb.size (hl k hk).1, (hl k hk).2⟩, fun k hk => Nat.le_trans hb.size (hl2 k hk)⟩, bel_trans hb hb', f1, f2, t1, t2, r1, r2, W⟩
set_option maxHeartbeats 4000000 in
theorem cSame {w w0 : World} {b y N K : Nat} {s1 s2 : St} (h : Two w0 w b y s1 s2 N) (hws : s1.ws = s2.ws) (hK : s1.ws.length = K) (hK1 : K ≤ 100000) (hN : N ≤ 100000) :
    Calls Tryz.prog 18 #[.pointer (some ⟨b, 0, none⟩), .pointer (some ⟨y, 0, none⟩)] w fun e w' => e = .returned (.bool true) ∧ Below w.heap.size w w' := by
  obtain ⟨g, cp, hS⟩ := h.seen
  have hK2 : s2.ws.length = K := by rw [← hws]; exact hK
  have h1 := h.one
  have c0 := hS.c0
  rw [hK2] at c0
  go_enter Tryz.func18, Tryz.ntmps18
  go_wp2_with (go_at_call 40; refine (hClone h1).mono ?_; rintro e w1 ⟨c, rfl, q0⟩)
  have d0 : w1.drew.cell? ⟨y, 0, none⟩ = some (.slice (some ⟨g, 0, none⟩) K cp) := (q0.bel.cell hS.ly).trans c0
  go_region_held3 (fun w' => w'.cell? ⟨y, 0, none⟩ = some (.slice (some ⟨g, 0, none⟩) K cp)) (first | assumption)
    ((go_at_call 41; refine (hLen q0.drew).mono ?_; rintro e w2 ⟨rfl, hw2⟩; rw [hw2, hK]; clear hw2 w2))
  all_goals go_wp2
  go_loopw [6] (fun i wr => ∃ j : Nat, j ≤ K ∧ i = .int .i64 j ∧ ∃ s3, Hand w wr c s3 (N + j) ∧ s3.ws = s1.ws) (fun i _ => K - (intOf i).toNat)
  case atStart => exact ⟨0, Nat.zero_le _, rfl, s1, q0.drew, rfl⟩
  case round =>
    obtain ⟨j, hj, rfl, s3, q1, q2⟩ := hrel
    have hS1 := hS.below q1.bel
    have x0 := hS1.c0
    rw [hK2] at x0
    by_cases hj8 : j < K
    case pos =>
      have xj := hS1.cw j (by omega)
      have gj : s3.got j = s2.ws.getD j 0 := by
        rw [St.In.got (show s3.In (j : Int) from ⟨by omega, by rw [q2, hK]; omega⟩)]
        simp only [St.word, q2, hws, Int.toNat_natCast]
      obtain ⟨v, hv⟩ : ∃ v, s2.ws.getD j 0 = v := ⟨_, rfl⟩
      rw [hv] at xj gj
      clear hv d0 c0 hS1
      go_wp2
      have x0d : wr.drew.cell? ⟨y, 0, none⟩ = some (.slice (some ⟨g, 0, none⟩) K cp) := x0
      have xjd : wr.drew.cell? ⟨g, j, none⟩ = some (.int .u64 v) := xj
      go_region_held3 (fun w' => w'.cell? ⟨y, 0, none⟩ = some (.slice (some ⟨g, 0, none⟩) K cp) ∧ w'.cell? ⟨g, j, none⟩ = some (.int .u64 v)) (first | assumption | exact ⟨x0d, xjd⟩)
        ((go_at_call 19; refine (hLoad q1.drew (by omega) j).mono ?_; rintro e w7 ⟨rfl, h7, _⟩; rw [gj]; have hS7 := hS.below h7.bel; have x7 : w7.cell? ⟨y, 0, none⟩ = some (.slice (some ⟨g, 0, none⟩) K cp) ∧ w7.cell? ⟨g, j, none⟩ = some (.int .u64 v) := ⟨(h7.bel.cell hS.ly).trans ((q1.bel.cell hS.ly).symm.trans x0), (h7.bel.cell hS.lg).trans ((q1.bel.cell hS.lg).symm.trans xj)⟩; clear hS7))
      all_goals go_wp2
      all_goals go_roundw
      case rel => exact ⟨j + 1, by omega, by go_num, _, h7, q2⟩
      case measure => simp [intOf]; omega
    case neg =>
      clear d0 c0
      go_wp2
      go_ret
      exact ⟨rfl, q1.bel⟩

theorem kd_nat (c n : Int) (h : 0 < n) : ∃ m : Nat, kd c n = m ∧ (m : Int) < n := by
  have := kd_bounds c n h
  exact ⟨(kd c n).toNat, by omega, by omega⟩

theorem alloc_size (w : World) (o : Obj) : (w.alloc o).heap.size = w.heap.size + 1 := by simp
theorem PopS.len (x : PopS) (s : St) : (x.mem s).ws.length = s.ws.length := by unfold PopS.mem; split <;> simp only [St.n_load, St.n_cas]
theorem PushS.len (x : PushS) (s : St) : (x.mem s).ws.length = s.ws.length := by unfold PushS.mem; split <;> simp only [St.n_load, St.n_store, St.n_cas]
theorem TakeS.len (x : TakeS) (s : St) : (x.mem s).ws.length = s.ws.length := by unfold TakeS.mem; split <;> simp only [St.n_load, St.n_store, St.n_cas, PushS.len]
theorem ResS.len (x : ResS) (s : St) : (x.mem s).ws.length = s.ws.length := by unfold ResS.mem; split <;> simp only [St.n_load, PopS.len, TakeS.len]
theorem AllS.len (x : AllS) (s : St) : (x.mem s).ws.length = s.ws.length := by unfold AllS.mem; split <;> simp only [St.n_store, ResS.len]
theorem neqB (d : Bool) (w : World) : (binOp .neq 4 (.bool d) (.bool d)).run Tryz.prog w = .ok (.bool false) w := by cases d <;> kernel_rfl
set_option maxHeartbeats 8000000 in
theorem wAllocPlays (a : Int) (ao : Option Addr) (len cap : Nat) (z : Nat → Int) (ha : -9223372036854775808 ≤ a) (ha' : a ≤ 9223372036854775807) (w : World) (W : Laid w) (hl : CameI w ao len z) :
    Calls Tryz.prog 3 #[.int .i64 a, .slice ao len cap] w fun e w' => e = .returned (.bool true) ∧ Below w.heap.size w w' := by
  have ka := kd_bounds a 4 (by decide)
  obtain ⟨n, hn⟩ : ∃ n : Nat, 1 + kd a 4 = n := ⟨(1 + kd a 4).toNat, by omega⟩
  have n1 : 1 ≤ n := by omega
  have n8 : n ≤ 4 := by omega
  clear ka
  have pok := mkPl_ok (t := 4) (n := n) (by decide) (by omega)
  go_enter Tryz.func3, Tryz.ntmps3
  go_upto_region 6 with (first
    | (go_at_call 4; refine (cShown _ W).mono ?_; rintro e w1 ⟨rfl, hb1⟩)
    | (go_at_call_of 6 (Value.int .i64 4); refine (cKind _ a 4 ha ha' (by decide)).mono ?_; rintro e wx ⟨rfl, hwx⟩; rw [hwx]; clear hwx wx)
    | (go_at_call 5; refine (kRNew' (t := 4) (n := n) rfl rfl (by decide) (by decide) n1 (by omega) _).mono ?_; rintro e w2 ⟨rfl, hb2⟩; have hba : Below w.heap.size w (w2.alloc (.cells (mkPl 4 n).cells 25)) := S.bal (bel_trans hb1 hb2) _; have hBa : PB w (w2.alloc (.cells (mkPl 4 n).cells 25)) w2.heap.size (mkPl 4 n) := Blk.new (bel_trans hb1 hb2).size _ (by decide))
    | (go_at_call 7; refine (cFr (t := 4) (n := n) (by decide) n1 (by omega) _ (W.on hba)).mono ?_; rintro e w3 ⟨b, y, rfl, h3⟩; have h4 := h3; clear h3))
  have sz : szN 4 n ≤ 1000 := by unfold szN hpN; omega
  have hl1 := frSt_len 4 n
  obtain ⟨la, _⟩ := laidTo_all (frSt 4 n).ws
  rw [hl1] at la
  have lb : (laidTo (frSt 4 n).ws (szN 4 n)).ws.length = szN 4 n := by rw [la, hl1]
  obtain ⟨S0, hS0⟩ : ∃ S0, szN 4 n = S0 := ⟨_, rfl⟩
  rw [hS0] at sz h4 la lb
  generalize laidTo (frSt 4 n).ws S0 = s1 at h4 la lb
  generalize frSt 4 n = s2 at h4 la
  obtain ⟨o, ho⟩ : ∃ o, w2.heap.size = o := ⟨_, rfl⟩
  rw [ho] at hBa ⊢
  clear ho hb1 hb2 hS0 hl1
  generalize w2.alloc (.cells (mkPl 4 n).cells 25) = wv at h4 hba hBa
  have olt : o < wv.heap.size := lt_of_block hBa.at_
  have P0 := hBa.box.c0
  have P1 := hBa.box.c1
  have P2 := hBa.box.c2
  have P3 := hBa.box.c3
  have P4 := hBa.box.c4
  go_wp2
  have ga : Below w3.heap.size w3 ((((w3.alloc (.cells #[.pointer none, .pointer none, .pointer none, .pointer none] 35)).alloc (.cells #[.pointer none, .pointer none, .pointer none, .pointer none] 37)).alloc (.cells #[.pointer none, .pointer none, .pointer none, .pointer none] 39)).alloc (.cells #[.pointer none, .pointer none, .pointer none, .pointer none] 41)) := S.bal (S.bal (S.bal (S.bal (Below.refl _ _) _) _) _) _
  have Ka : ((((w3.alloc (.cells #[.pointer none, .pointer none, .pointer none, .pointer none] 35)).alloc (.cells #[.pointer none, .pointer none, .pointer none, .pointer none] 37)).alloc (.cells #[.pointer none, .pointer none, .pointer none, .pointer none] 39)).alloc (.cells #[.pointer none, .pointer none, .pointer none, .pointer none] 41)).heap[w3.heap.size]? = some (.cells #[.pointer none, .pointer none, .pointer none, .pointer none] 35 (0, 0)) := (((S.bal (S.bal (S.bal (Below.refl _ _) _) _) _).block _ (by simp)).trans (heap_alloc_new _ _))
  have Kb : ((((w3.alloc (.cells #[.pointer none, .pointer none, .pointer none, .pointer none] 35)).alloc (.cells #[.pointer none, .pointer none, .pointer none, .pointer none] 37)).alloc (.cells #[.pointer none, .pointer none, .pointer none, .pointer none] 39)).alloc (.cells #[.pointer none, .pointer none, .pointer none, .pointer none] 41)).heap[w3.heap.size + 1]? = some (.cells #[.pointer none, .pointer none, .pointer none, .pointer none] 37 (0, 0)) := by
    have h := heap_alloc_new (w3.alloc (.cells #[.pointer none, .pointer none, .pointer none, .pointer none] 35)) (.cells #[.pointer none, .pointer none, .pointer none, .pointer none] 37)
    simp only [alloc_size] at h
    exact ((S.bal (S.bal (Below.refl ((w3.alloc (.cells #[.pointer none, .pointer none, .pointer none, .pointer none] 35)).alloc (.cells #[.pointer none, .pointer none, .pointer none, .pointer none] 37)).heap.size _) _) _).block _ (by simp)).trans h
  have Kc : ((((w3.alloc (.cells #[.pointer none, .pointer none, .pointer none, .pointer none] 35)).alloc (.cells #[.pointer none, .pointer none, .pointer none, .pointer none] 37)).alloc (.cells #[.pointer none, .pointer none, .pointer none, .pointer none] 39)).alloc (.cells #[.pointer none, .pointer none, .pointer none, .pointer none] 41)).heap[w3.heap.size + 1 + 1]? = some (.cells #[.pointer none, .pointer none, .pointer none, .pointer none] 39 (0, 0)) := by
    have h := heap_alloc_new ((w3.alloc (.cells #[.pointer none, .pointer none, .pointer none, .pointer none] 35)).alloc (.cells #[.pointer none, .pointer none, .pointer none, .pointer none] 37)) (.cells #[.pointer none, .pointer none, .pointer none, .pointer none] 39)
    simp only [alloc_size] at h
    exact ((S.bal (Below.refl (((w3.alloc (.cells #[.pointer none, .pointer none, .pointer none, .pointer none] 35)).alloc (.cells #[.pointer none, .pointer none, .pointer none, .pointer none] 37)).alloc (.cells #[.pointer none, .pointer none, .pointer none, .pointer none] 39)).heap.size _) _).block _ (by simp)).trans h
  have Kd : ((((w3.alloc (.cells #[.pointer none, .pointer none, .pointer none, .pointer none] 35)).alloc (.cells #[.pointer none, .pointer none, .pointer none, .pointer none] 37)).alloc (.cells #[.pointer none, .pointer none, .pointer none, .pointer none] 39)).alloc (.cells #[.pointer none, .pointer none, .pointer none, .pointer none] 41)).heap[w3.heap.size + 1 + 1 + 1]? = some (.cells #[.pointer none, .pointer none, .pointer none, .pointer none] 41 (0, 0)) := by
    have h := heap_alloc_new (((w3.alloc (.cells #[.pointer none, .pointer none, .pointer none, .pointer none] 35)).alloc (.cells #[.pointer none, .pointer none, .pointer none, .pointer none] 37)).alloc (.cells #[.pointer none, .pointer none, .pointer none, .pointer none] 39)) (.cells #[.pointer none, .pointer none, .pointer none, .pointer none] 41)
    simp only [alloc_size] at h
    exact h
  have h5 := h4.below ga
  have bsz := h4.bel.size
  have T5 : Team wv ((((w3.alloc (.cells #[.pointer none, .pointer none, .pointer none, .pointer none] 35)).alloc (.cells #[.pointer none, .pointer none, .pointer none, .pointer none] 37)).alloc (.cells #[.pointer none, .pointer none, .pointer none, .pointer none] 39)).alloc (.cells #[.pointer none, .pointer none, .pointer none, .pointer none] 41)) w3.heap.size (w3.heap.size + 1) (w3.heap.size + 1 + 1) (w3.heap.size + 1 + 1 + 1) _ := Team.start ⟨Ka, bsz, by decide⟩ ⟨Kb, by omega, by decide⟩ ⟨Kc, by omega, by decide⟩ ⟨Kd, by omega, by decide⟩
  clear Ka Kb Kc Kd ga h4
  obtain ⟨ab, hab⟩ : ∃ x, w3.heap.size = x := ⟨_, rfl⟩
  obtain ⟨bb, hbb⟩ : ∃ x, w3.heap.size + 1 = x := ⟨_, rfl⟩
  obtain ⟨cb, hcb⟩ : ∃ x, w3.heap.size + 1 + 1 = x := ⟨_, rfl⟩
  obtain ⟨db, hdb⟩ : ∃ x, w3.heap.size + 1 + 1 + 1 = x := ⟨_, rfl⟩
  rw [hdb, hcb, hbb, hab] at T5
  generalize ((((w3.alloc (.cells #[.pointer none, .pointer none, .pointer none, .pointer none] 35)).alloc (.cells #[.pointer none, .pointer none, .pointer none, .pointer none] 37)).alloc (.cells #[.pointer none, .pointer none, .pointer none, .pointer none] 39)).alloc (.cells #[.pointer none, .pointer none, .pointer none, .pointer none] 41)) = w5 at T5 h5 ⊢
  rw [hdb, hcb, hbb, hab]
  clear hab hbb hcb hdb bsz
  go_loopw [14] (fun i wr => ∃ j : Nat, j ≤ 300 ∧ j ≤ len ∧ i = .int .i64 j ∧ ∃ s1 s2 wk, Two wv wr b y s1 s2 (1000 + 2 * j) ∧ s1.ws = s2.ws ∧ s1.ws.length = S0 ∧ Team wv wr ab bb cb db wk ∧ ∀ k, k < 4 → (wk k).Go) (fun i _ => 300 - (intOf i).toNat)
  case atStart => exact ⟨0, Nat.zero_le _, Nat.zero_le _, rfl, _, _, _, h5.mono (by omega), la, lb, T5, fun _ _ => trivial⟩
  case round =>
    clear h5 T5 la lb s1 s2
    obtain ⟨j, hj, hjl, rfl, s1, s2, wk, q1, qw, q2, q3, qg⟩ := hrel
    by_cases hjn : j < len ∧ j < 300
    case pos =>
      obtain ⟨hj1, hj2⟩ := hjn
      obtain ⟨cc, off, rfl, hcb, hcell⟩ := hl.resolve_left (by omega)
      obtain ⟨hcj, hz1, hz2⟩ := hcell j hj1
      have hcj' : wr.cell? ⟨cc, off + j, none⟩ = some (.int .i64 (z j)) := ((bel_trans hba q1.bel).cell hcb).trans hcj
      obtain ⟨q, hq, hq8⟩ : ∃ q : Nat, kd (z j) 64 = q ∧ (q : Int) < 64 := kd_nat (z j) 64 (by decide)
      obtain ⟨k, hk⟩ : ∃ k : Nat, q % 4 = k := ⟨_, rfl⟩
      have k4 : k < 4 := by omega
      have hk' : (q : Int) % 4 = (k : Int) := by omega
      have ki0 : (0 : Int) ≤ k := by omega
      have ki4 : (k : Int) < 4 := by omega
      have d1 : decide ((j : Int) < len) = true := decide_eq_true (by omega)
      have d2 : decide ((j : Int) < 300) = true := decide_eq_true (by omega)
      have p0 := (q1.bel.cell olt).trans P0
      have p1 := (q1.bel.cell olt).trans P1
      have p2 := (q1.bel.cell olt).trans P2
      have p3 := (q1.bel.cell olt).trans P3
      have p4 := (q1.bel.cell olt).trans P4
      have ka := q3.ac k4
      have kb := q3.bc k4
      have kc := q3.cc k4
      have kd' := q3.dc k4
      have I := q3.is k k4
      have G := qg k k4
      obtain ⟨t, ht⟩ : ∃ t, wk k = t := ⟨_, rfl⟩
      rw [ht] at ka kb kc kd' I G
      obtain ⟨job, pm, am, rp, xp, yv, Y, vb, vd⟩ := t
      clear hcell hcj
      cases job with
      | all x =>
        as_aux_lemma =>
          obtain ⟨I1, I2, I3⟩ := I
          simp only at I1 I2 I3
          change 1 ≤ x.pc at G
          change wr.cell? ⟨ab, k, none⟩ = some (.pointer (some ⟨pm, 0, none⟩)) at ka
          change wr.cell? ⟨bb, k, none⟩ = some (.pointer (some ⟨am, 0, none⟩)) at kb
          change wr.cell? ⟨cb, k, none⟩ = some (.pointer none) at kc
          go_wp2_with (go_at_call 6; refine (cKind _ (z j) 64 hz1 hz2 (by decide)).mono ?_; rintro e w6 ⟨rfl, hw6⟩; rw [hw6, hq]; clear hw6 w6)
          have nxt : (x.next s1).Ok := I2.next q1.rng1
          have hx2 : x.next s2 = x.next s1 := (AllS.next_ws qw x).symm
          obtain ⟨x', hx⟩ : ∃ x', x.next s1 = x' := ⟨_, rfl⟩
          rw [hx] at hx2 nxt
          obtain ⟨d, hd⟩ : ∃ d, (x'.pc == 0) = d := ⟨_, rfl⟩
          have nb := neqB d
          have hfp0 : (wk k).fp = pm :: am :: rp :: xp :: Y := by rw [ht]; rfl
          go_wp2_with (go_at_call 12; refine (tAll q1 I1 I2 (by omega)).mono ?_; rintro e' w6 ⟨rfl, T6, B6, o6⟩; rw [hx] at B6 ⊢; rw [hd])
          obtain ⟨ra6, rb6, rc6, rd6, rest6⟩ := q3.rest k4 o6 (fun y hy => by rw [hfp0]; simp at hy; simp [hy])
          have npm : pm ∉ am :: rp :: xp :: Y := fun hy => by
            obtain ⟨cs, Tt, B', hT⟩ := I3.kind pm hy
            have := I1.at_
            rw [B'.at_] at this
            simp at this
            rw [this.2] at hT
            revert hT
            decide
          have R6 := I3.oth o6 (fun y hy e => by simp at e; subst e; exact npm hy)
          have hbd : Below w6.heap.size w6 w6.drew := (Below.refl w6.heap.size w6).drew
          have ca6 : w6.cell? ⟨ab, k, none⟩ = some (.pointer (some ⟨pm, 0, none⟩)) := by
            have h := (ra6.cell k).trans (row4_get _ k4)
            rw [ht] at h
            exact h
          have cb6 : w6.cell? ⟨bb, k, none⟩ = some (.pointer (some ⟨am, 0, none⟩)) := by
            have h := (rb6.cell k).trans (row4_get _ k4)
            rw [ht] at h
            exact h
          have RD : w6.drew.cell? ⟨ab, k, none⟩ = some (.pointer (some ⟨pm, 0, none⟩)) ∧ w6.drew.cell? ⟨bb, k, none⟩ = some (.pointer (some ⟨am, 0, none⟩)) := ⟨ca6, cb6⟩
          have T6d := T6.below hbd
          have B6d := B6.below hbd
          have R6d := R6.oth (F := []) (Oth.below hbd) (by simp)
          have Y6 := yAll T6d R6d I2 G (by omega)
          unfold APost at Y6
          rw [hx2] at Y6
          obtain ⟨va, hva⟩ : ∃ va, x'.cell = va := ⟨_, rfl⟩
          clear ka kb kc kd'
          have nabb : ab ≠ bb := q3.a.ne' q3.b (by decide)
          have nacb : ab ≠ cb := q3.a.ne' q3.c (by decide)
          have nadb : ab ≠ db := q3.a.ne' q3.d (by decide)
          refine wp_region_held_drew (S := fun w' => w'.cell? ⟨ab, k, none⟩ = some (.pointer (some ⟨pm, 0, none⟩)) ∧ w'.cell? ⟨bb, k, none⟩ = some (.pointer (some ⟨am, 0, none⟩))) (by kernel_rfl) RD (fun hHeld => ?_)
          refine takeH (i := 0) 133 (.bool d) rfl rfl (by kernel_rfl) (by kernel_rfl) (by kernel_rfl) (fun _ _ _ h => h) (by rfl) ?_ (by assumption) ?_
          · intro w hSw; (try dsimp only at hSw); go_simp
          simp only [List.setIfInBounds_toArray, List.set_cons_zero, List.set_cons_succ]
          refine takeH (i := 1) 134 (.int .i64 k) rfl rfl (by kernel_rfl) (by kernel_rfl) (by kernel_rfl) (fun _ _ _ h => h) (by rfl) ?_ (by assumption) ?_
          · intro w hSw; (try dsimp only at hSw); go_simp
          simp only [List.setIfInBounds_toArray, List.set_cons_zero, List.set_cons_succ]
          refine takeH (i := 2) 135 (.pointer (some ⟨bb, k, none⟩)) rfl rfl (by kernel_rfl) (by kernel_rfl) (by kernel_rfl) (fun _ _ _ h => h) (by rfl) ?_ (by assumption) ?_
          · intro w hSw; (try dsimp only at hSw); go_simp
          simp only [List.setIfInBounds_toArray, List.set_cons_zero, List.set_cons_succ]
          refine takeH (i := 3) 136 (.pointer (some ⟨am, 0, none⟩)) rfl rfl (by kernel_rfl) (by kernel_rfl) (by kernel_rfl) (fun _ _ _ h => h) (by rfl) ?_ (by assumption) ?_
          · intro w hSw; (try dsimp only at hSw); go_simp
          simp only [List.setIfInBounds_toArray, List.set_cons_zero, List.set_cons_succ]
          refine takeH (i := 4) 137 (.pointer (some ⟨y, 0, none⟩)) rfl rfl (by kernel_rfl) (by kernel_rfl) (by kernel_rfl) (fun _ _ _ h => h) (by rfl) ?_ (by assumption) ?_
          · intro w hSw; (try dsimp only at hSw); go_simp
          simp only [List.setIfInBounds_toArray, List.set_cons_zero, List.set_cons_succ]
          refine wpAnyH_ready (rs := [5]) (by kernel_rfl) (by simp) ?_
          refine AllReadyH.cons rfl (fun K hK => ?_) AllReadyH.nil
          go_simp
          refine Y6.mono ?_; rintro e' w7 ⟨rfl, T7, xp7, yv7, Y7, R7, o7, k7⟩; rw [hd]; have oA : Oth (pm :: am :: rp :: xp :: Y) wr w7 := (Oth.mono o6 (fun y hy => by simp at hy; simp [hy])).trans ((Oth.below hbd).trans (Oth.mono o7 (fun y hy => List.mem_cons_of_mem _ hy))); have B7 := B6d.oth o7 npm; have TM := Team.step (t := ⟨.all x', pm, am, rp, xp7, yv7, Y7, vb, vd⟩) q3 k4 oA (fun y hy => by rw [hfp0]; exact hy) ⟨B7, nxt, R7⟩ (by rw [ht]; rfl) (by rw [ht]; rfl) (by rw [ht]; rfl) (by rw [ht]; rfl) (fun y hy => by rw [hfp0]; (simp only [Wk.fp, List.mem_cons] at hy ⊢; rcases hy with rfl | rfl | rfl | hy; exact .inl (.inl rfl); exact .inl (.inr (.inl rfl)); exact .inl (.inr (.inr (.inl rfl))); rcases k7 y (by simpa using hy) with h2 | h2; exact .inl (.inr (.inr (.inr (by simpa using h2)))); exact .inr (Nat.le_trans o6.size (Nat.le_trans hbd.size h2)))); have ca7 : w7.cell? ⟨ab, k, none⟩ = some (.pointer (some ⟨pm, 0, none⟩)) := (by have h := TM.ac k4; rw [updW_eq] at h; exact h); have cb7 : w7.cell? ⟨bb, k, none⟩ = some (.pointer (some ⟨am, 0, none⟩)) := (by have h := TM.bc k4; rw [updW_eq] at h; exact h); have S7 : w7.cell? ⟨ab, k, none⟩ = some (.pointer (some ⟨pm, 0, none⟩)) ∧ w7.cell? ⟨bb, k, none⟩ = some (.pointer (some ⟨am, 0, none⟩)) := ⟨ca7, cb7⟩; have m10 : w7.cell? ⟨am, 10, none⟩ = some (.int .i64 va) := (by obtain ⟨qa, B⟩ := R7.blk; rw [← hva]; exact B.cell 10)
          refine hK.out _ _ S7 (fun hHeld => ?_)
          clear hK K
          try simp only [Act.put, List.setIfInBounds_toArray, List.set_cons_zero, List.set_cons_succ]
          refine takeH (i := 6) 139 (.bool false) rfl rfl (by kernel_rfl) (by kernel_rfl) (by kernel_rfl) (fun _ _ _ h => h) (by rfl) ?_ (by assumption) ?_
          · intro w hSw; (try dsimp only at hSw); go_simp
          simp only [List.setIfInBounds_toArray, List.set_cons_zero, List.set_cons_succ]
          refine takeH (i := 7) 140 (.bool false) rfl rfl (by kernel_rfl) (by kernel_rfl) (by kernel_rfl) (fun _ _ _ h => h) (by rfl) ?_ (by assumption) ?_
          · intro w hSw; (try dsimp only at hSw); go_simp
          simp only [List.setIfInBounds_toArray, List.set_cons_zero, List.set_cons_succ]
          refine takeH (i := 8) 141 (.int .i64 k) rfl rfl (by kernel_rfl) (by kernel_rfl) (by kernel_rfl) (fun _ _ _ h => h) (by rfl) ?_ (by assumption) ?_
          · intro w hSw; (try dsimp only at hSw); go_simp
          simp only [List.setIfInBounds_toArray, List.set_cons_zero, List.set_cons_succ]
          refine takeH (i := 9) 142 (.pointer (some ⟨ab, k, none⟩)) rfl rfl (by kernel_rfl) (by kernel_rfl) (by kernel_rfl) (fun _ _ _ h => h) (by rfl) ?_ (by assumption) ?_
          · intro w hSw; (try dsimp only at hSw); go_simp
          simp only [List.setIfInBounds_toArray, List.set_cons_zero, List.set_cons_succ]
          refine takeH (i := 10) 143 (.pointer (some ⟨pm, 0, none⟩)) rfl rfl (by kernel_rfl) (by kernel_rfl) (by kernel_rfl) (fun _ _ _ h => h) (by rfl) ?_ (by assumption) ?_
          · intro w hSw; (try dsimp only at hSw); go_simp
          simp only [List.setIfInBounds_toArray, List.set_cons_zero, List.set_cons_succ]
          refine takeH (i := 12) 145 (.int .i64 k) rfl rfl (by kernel_rfl) (by kernel_rfl) (by kernel_rfl) (fun _ _ _ h => h) (by rfl) ?_ (by assumption) ?_
          · intro w hSw; (try dsimp only at hSw); go_simp
          simp only [List.setIfInBounds_toArray, List.set_cons_zero, List.set_cons_succ]
          refine takeH (i := 13) 146 (.pointer (some ⟨bb, k, none⟩)) rfl rfl (by kernel_rfl) (by kernel_rfl) (by kernel_rfl) (fun _ _ _ h => h) (by rfl) ?_ (by assumption) ?_
          · intro w hSw; (try dsimp only at hSw); go_simp
          simp only [List.setIfInBounds_toArray, List.set_cons_zero, List.set_cons_succ]
          refine takeH (i := 14) 147 (.pointer (some ⟨am, 0, none⟩)) rfl rfl (by kernel_rfl) (by kernel_rfl) (by kernel_rfl) (fun _ _ _ h => h) (by rfl) ?_ (by assumption) ?_
          · intro w hSw; (try dsimp only at hSw); go_simp
          simp only [List.setIfInBounds_toArray, List.set_cons_zero, List.set_cons_succ]
          refine takeH (i := 15) 148 (.pointer (some ⟨am, 0, none⟩)) rfl rfl (by kernel_rfl) (by kernel_rfl) (by kernel_rfl) (fun _ _ _ h => h) (by rfl) ?_ (by assumption) ?_
          · intro w hSw; (try dsimp only at hSw); go_simp
          simp only [List.setIfInBounds_toArray, List.set_cons_zero, List.set_cons_succ]
          refine takeH (i := 16) 149 (.pointer (some ⟨am, 10, none⟩)) rfl rfl (by kernel_rfl) (by kernel_rfl) (by kernel_rfl) (fun _ _ _ h => h) (by rfl) ?_ (by assumption) ?_
          · intro w hSw; (try dsimp only at hSw); go_simp
          simp only [List.setIfInBounds_toArray, List.set_cons_zero, List.set_cons_succ]
          refine wpAnyH_ready (rs := [11, 17]) (by kernel_rfl) (by simp) ?_
          refine AllReadyH.cons rfl (fun K hK => ?_) (AllReadyH.cons rfl (fun K hK => ?_) AllReadyH.nil)
          · go_simp
            refine (oAllCell B7).mono ?_; rintro e' w8 ⟨rfl, hw8⟩; rw [hw8, hva]; clear hw8 w8
            refine hK.out _ _ S7 (fun hHeld => ?_)
            clear hK K
            try simp only [Act.put, List.setIfInBounds_toArray, List.set_cons_zero, List.set_cons_succ]
            refine wpAnyH_ready (rs := [17]) (by kernel_rfl) (by simp) ?_
            refine AllReadyH.cons rfl (fun K hK => ?_) AllReadyH.nil
            go_simp
            refine hK.out _ _ S7 (fun hHeld => ?_)
            clear hK K
            try simp only [Act.put, List.setIfInBounds_toArray, List.set_cons_zero, List.set_cons_succ]
            refine takeH (i := 18) 151 (.bool false) rfl rfl (by kernel_rfl) (by kernel_rfl) (by kernel_rfl) (fun _ _ _ h => h) (by rfl) ?_ (by assumption) ?_
            · intro w hSw; (try dsimp only at hSw); go_simp
            simp only [List.setIfInBounds_toArray, List.set_cons_zero, List.set_cons_succ]
            refine takeH (i := 19) 152 (.bool false) rfl rfl (by kernel_rfl) (by kernel_rfl) (by kernel_rfl) (fun _ _ _ h => h) (by rfl) ?_ (by assumption) ?_
            · intro w hSw; (try dsimp only at hSw); go_simp
            simp only [List.setIfInBounds_toArray, List.set_cons_zero, List.set_cons_succ]
            refine wpAnyH_done (by kernel_rfl) ?_ _
            have cf7 : w7.frozen? ⟨ab, k, none⟩ = false := TM.a.free k
            rcases d with _ | _
            · go_wp2
              go_roundw
              case rel =>
                refine ⟨j + 1, by omega, by omega, by go_num, x.mem s1, x.mem s2, _, T7.mono (by omega), AllS.mem_ws qw x, by rw [AllS.len]; exact q2, TM, fun i hi => ?_⟩
                by_cases ei : i = k
                · subst ei; rw [updW_eq]; have : x'.pc ≠ 0 := (by simpa using hd); show 1 ≤ x'.pc; omega
                · rw [updW_ne _ _ ei]; exact qg i hi
              case measure => simp [intOf]; omega
            · have TN := Team.set (t := ⟨.idle, 0, 0, 0, 0, .pointer none, [], .pointer (some ⟨am, 0, none⟩), vd⟩) TM k4 (B := ab) (u := .pointer none) (by simp) trivial (fun y hy => by simp [Wk.fp] at hy) (by rw [updW_eq]; exact (if_pos rfl).symm) (by rw [updW_eq]; rw [if_neg nabb]; rfl) (by rw [updW_eq]; rw [if_neg nacb]; rfl) (by rw [updW_eq]; rw [if_neg nadb]; rfl)
              have TS := T7.set TM.a k (.pointer none)
              go_wp2
              go_roundw
              case rel =>
                refine ⟨j + 1, by omega, by omega, by go_num, x.mem s1, x.mem s2, _, TS.mono (by omega), AllS.mem_ws qw x, by rw [AllS.len]; exact q2, TN, fun i hi => ?_⟩
                by_cases ei : i = k
                · subst ei; rw [updW_eq]; trivial
                · rw [updW_ne _ _ ei, updW_ne _ _ ei]; exact qg i hi
              case measure => simp [intOf]; omega
          · go_simp
            refine hK.out _ _ S7 (fun hHeld => ?_)
            clear hK K
            try simp only [Act.put, List.setIfInBounds_toArray, List.set_cons_zero, List.set_cons_succ]
            refine wpAnyH_ready (rs := [11]) (by kernel_rfl) (by simp) ?_
            refine AllReadyH.cons rfl (fun K hK => ?_) AllReadyH.nil
            go_simp
            refine (oAllCell B7).mono ?_; rintro e' w8 ⟨rfl, hw8⟩; rw [hw8, hva]; clear hw8 w8
            refine hK.out _ _ S7 (fun hHeld => ?_)
            clear hK K
            try simp only [Act.put, List.setIfInBounds_toArray, List.set_cons_zero, List.set_cons_succ]
            refine takeH (i := 18) 151 (.bool false) rfl rfl (by kernel_rfl) (by kernel_rfl) (by kernel_rfl) (fun _ _ _ h => h) (by rfl) ?_ (by assumption) ?_
            · intro w hSw; (try dsimp only at hSw); go_simp
            simp only [List.setIfInBounds_toArray, List.set_cons_zero, List.set_cons_succ]
            refine takeH (i := 19) 152 (.bool false) rfl rfl (by kernel_rfl) (by kernel_rfl) (by kernel_rfl) (fun _ _ _ h => h) (by rfl) ?_ (by assumption) ?_
            · intro w hSw; (try dsimp only at hSw); go_simp
            simp only [List.setIfInBounds_toArray, List.set_cons_zero, List.set_cons_succ]
            refine wpAnyH_done (by kernel_rfl) ?_ _
            have cf7 : w7.frozen? ⟨ab, k, none⟩ = false := TM.a.free k
            rcases d with _ | _
            · go_wp2
              go_roundw
              case rel =>
                refine ⟨j + 1, by omega, by omega, by go_num, x.mem s1, x.mem s2, _, T7.mono (by omega), AllS.mem_ws qw x, by rw [AllS.len]; exact q2, TM, fun i hi => ?_⟩
                by_cases ei : i = k
                · subst ei; rw [updW_eq]; have : x'.pc ≠ 0 := (by simpa using hd); show 1 ≤ x'.pc; omega
                · rw [updW_ne _ _ ei]; exact qg i hi
              case measure => simp [intOf]; omega
            · have TN := Team.set (t := ⟨.idle, 0, 0, 0, 0, .pointer none, [], .pointer (some ⟨am, 0, none⟩), vd⟩) TM k4 (B := ab) (u := .pointer none) (by simp) trivial (fun y hy => by simp [Wk.fp] at hy) (by rw [updW_eq]; exact (if_pos rfl).symm) (by rw [updW_eq]; rw [if_neg nabb]; rfl) (by rw [updW_eq]; rw [if_neg nacb]; rfl) (by rw [updW_eq]; rw [if_neg nadb]; rfl)
              have TS := T7.set TM.a k (.pointer none)
              go_wp2
              go_roundw
              case rel =>
                refine ⟨j + 1, by omega, by omega, by go_num, x.mem s1, x.mem s2, _, TS.mono (by omega), AllS.mem_ws qw x, by rw [AllS.len]; exact q2, TN, fun i hi => ?_⟩
                by_cases ei : i = k
                · subst ei; rw [updW_eq]; trivial
                · rw [updW_ne _ _ ei, updW_ne _ _ ei]; exact qg i hi
              case measure => simp [intOf]; omega
      | res x =>
        as_aux_lemma =>
          obtain ⟨I1, I2, I3⟩ := I
          simp only at I1 I2 I3
          change 1 ≤ x.pc at G
          change wr.cell? ⟨ab, k, none⟩ = some (.pointer none) at ka
          change wr.cell? ⟨bb, k, none⟩ = some (vb) at kb
          change wr.cell? ⟨cb, k, none⟩ = some (.pointer (some ⟨pm, 0, none⟩)) at kc
          go_wp2_with (go_at_call 6; refine (cKind _ (z j) 64 hz1 hz2 (by decide)).mono ?_; rintro e w6 ⟨rfl, hw6⟩; rw [hw6, hq]; clear hw6 w6)
          have nxt : (x.next s1).Ok := I2.next q1.rng1
          have hx2 : x.next s2 = x.next s1 := (ResS.next_ws qw x).symm
          obtain ⟨x', hx⟩ : ∃ x', x.next s1 = x' := ⟨_, rfl⟩
          rw [hx] at hx2 nxt
          obtain ⟨d, hd⟩ : ∃ d, (x'.pc == 0) = d := ⟨_, rfl⟩
          have nb := neqB d
          have hfp0 : (wk k).fp = pm :: rp :: xp :: Y := by rw [ht]; rfl
          go_wp2_with (go_at_call 15; refine (tRes q1 I1 I2 (by omega)).mono ?_; rintro e' w6 ⟨rfl, T6, B6, o6⟩; rw [hx] at B6 ⊢; rw [hd])
          obtain ⟨ra6, rb6, rc6, rd6, rest6⟩ := q3.rest k4 o6 (fun y hy => by rw [hfp0]; simp at hy; simp [hy])
          have npm : pm ∉ rp :: xp :: Y := fun hy => by
            obtain ⟨cs, Tt, B', hT⟩ := I3.kind pm hy
            have := I1.at_
            rw [B'.at_] at this
            simp at this
            rw [this.2] at hT
            revert hT
            decide
          have R6 := I3.oth o6 (fun y hy e => by simp at e; subst e; exact npm hy)
          have hbd : Below w6.heap.size w6 w6.drew := (Below.refl w6.heap.size w6).drew
          have ca6 : w6.cell? ⟨cb, k, none⟩ = some (.pointer (some ⟨pm, 0, none⟩)) := by
            have h := (rc6.cell k).trans (row4_get _ k4)
            rw [ht] at h
            exact h
          have cb6 : w6.cell? ⟨db, k, none⟩ = some (.pointer (some ⟨rp, 0, none⟩)) := by
            have h := (rd6.cell k).trans (row4_get _ k4)
            rw [ht] at h
            exact h
          have RD : w6.drew.cell? ⟨cb, k, none⟩ = some (.pointer (some ⟨pm, 0, none⟩)) ∧ w6.drew.cell? ⟨db, k, none⟩ = some (.pointer (some ⟨rp, 0, none⟩)) := ⟨ca6, cb6⟩
          have T6d := T6.below hbd
          have B6d := B6.below hbd
          have R6d := R6.oth (F := []) (Oth.below hbd) (by simp)
          have Y6 := yRes T6d R6d I2 G (by omega)
          unfold RPost at Y6
          rw [hx2] at Y6
          obtain ⟨va, hva⟩ : ∃ va, x'.cell = va := ⟨_, rfl⟩
          clear ka kb kc kd'
          have ncab : cb ≠ ab := q3.c.ne' q3.a (by decide)
          have ncbb : cb ≠ bb := q3.c.ne' q3.b (by decide)
          have ncdb : cb ≠ db := q3.c.ne' q3.d (by decide)
          refine wp_region_held_drew (S := fun w' => w'.cell? ⟨cb, k, none⟩ = some (.pointer (some ⟨pm, 0, none⟩)) ∧ w'.cell? ⟨db, k, none⟩ = some (.pointer (some ⟨rp, 0, none⟩))) (by kernel_rfl) RD (fun hHeld => ?_)
          refine takeH (i := 0) 165 (.bool d) rfl rfl (by kernel_rfl) (by kernel_rfl) (by kernel_rfl) (fun _ _ _ h => h) (by rfl) ?_ (by assumption) ?_
          · intro w hSw; (try dsimp only at hSw); go_simp
          simp only [List.setIfInBounds_toArray, List.set_cons_zero, List.set_cons_succ]
          refine takeH (i := 1) 166 (.int .i64 k) rfl rfl (by kernel_rfl) (by kernel_rfl) (by kernel_rfl) (fun _ _ _ h => h) (by rfl) ?_ (by assumption) ?_
          · intro w hSw; (try dsimp only at hSw); go_simp
          simp only [List.setIfInBounds_toArray, List.set_cons_zero, List.set_cons_succ]
          refine takeH (i := 2) 167 (.pointer (some ⟨db, k, none⟩)) rfl rfl (by kernel_rfl) (by kernel_rfl) (by kernel_rfl) (fun _ _ _ h => h) (by rfl) ?_ (by assumption) ?_
          · intro w hSw; (try dsimp only at hSw); go_simp
          simp only [List.setIfInBounds_toArray, List.set_cons_zero, List.set_cons_succ]
          refine takeH (i := 3) 168 (.pointer (some ⟨rp, 0, none⟩)) rfl rfl (by kernel_rfl) (by kernel_rfl) (by kernel_rfl) (fun _ _ _ h => h) (by rfl) ?_ (by assumption) ?_
          · intro w hSw; (try dsimp only at hSw); go_simp
          simp only [List.setIfInBounds_toArray, List.set_cons_zero, List.set_cons_succ]
          refine takeH (i := 4) 169 (.pointer (some ⟨y, 0, none⟩)) rfl rfl (by kernel_rfl) (by kernel_rfl) (by kernel_rfl) (fun _ _ _ h => h) (by rfl) ?_ (by assumption) ?_
          · intro w hSw; (try dsimp only at hSw); go_simp
          simp only [List.setIfInBounds_toArray, List.set_cons_zero, List.set_cons_succ]
          refine wpAnyH_ready (rs := [5]) (by kernel_rfl) (by simp) ?_
          refine AllReadyH.cons rfl (fun K hK => ?_) AllReadyH.nil
          go_simp
          refine Y6.mono ?_; rintro e' w7 ⟨rfl, T7, xp7, yv7, Y7, R7, o7, k7⟩; rw [hd]; have oA : Oth (pm :: rp :: xp :: Y) wr w7 := (Oth.mono o6 (fun y hy => by simp at hy; simp [hy])).trans ((Oth.below hbd).trans (Oth.mono o7 (fun y hy => List.mem_cons_of_mem _ hy))); have B7 := B6d.oth o7 npm; have TM := Team.step (t := ⟨.res x', pm, am, rp, xp7, yv7, Y7, vb, vd⟩) q3 k4 oA (fun y hy => by rw [hfp0]; exact hy) ⟨B7, nxt, R7⟩ (by rw [ht]; rfl) (by rw [ht]; rfl) (by rw [ht]; rfl) (by rw [ht]; rfl) (fun y hy => by rw [hfp0]; (simp only [Wk.fp, List.mem_cons] at hy ⊢; rcases hy with rfl | rfl | hy; exact .inl (.inl rfl); exact .inl (.inr (.inl rfl)); rcases k7 y (by simpa using hy) with h2 | h2; exact .inl (.inr (.inr (by simpa using h2))); exact .inr (Nat.le_trans o6.size (Nat.le_trans hbd.size h2)))); have ca7 : w7.cell? ⟨cb, k, none⟩ = some (.pointer (some ⟨pm, 0, none⟩)) := (by have h := TM.cc k4; rw [updW_eq] at h; exact h); have cb7 : w7.cell? ⟨db, k, none⟩ = some (.pointer (some ⟨rp, 0, none⟩)) := (by have h := TM.dc k4; rw [updW_eq] at h; exact h); have S7 : w7.cell? ⟨cb, k, none⟩ = some (.pointer (some ⟨pm, 0, none⟩)) ∧ w7.cell? ⟨db, k, none⟩ = some (.pointer (some ⟨rp, 0, none⟩)) := ⟨ca7, cb7⟩; have m10 : w7.cell? ⟨rp, 10, none⟩ = some (.int .i64 va) := (by rw [← hva]; exact R7.blk.cell 10)
          refine hK.out _ _ S7 (fun hHeld => ?_)
          clear hK K
          try simp only [Act.put, List.setIfInBounds_toArray, List.set_cons_zero, List.set_cons_succ]
          refine takeH (i := 6) 171 (.bool false) rfl rfl (by kernel_rfl) (by kernel_rfl) (by kernel_rfl) (fun _ _ _ h => h) (by rfl) ?_ (by assumption) ?_
          · intro w hSw; (try dsimp only at hSw); go_simp
          simp only [List.setIfInBounds_toArray, List.set_cons_zero, List.set_cons_succ]
          refine takeH (i := 7) 172 (.bool false) rfl rfl (by kernel_rfl) (by kernel_rfl) (by kernel_rfl) (fun _ _ _ h => h) (by rfl) ?_ (by assumption) ?_
          · intro w hSw; (try dsimp only at hSw); go_simp
          simp only [List.setIfInBounds_toArray, List.set_cons_zero, List.set_cons_succ]
          refine takeH (i := 8) 173 (.int .i64 k) rfl rfl (by kernel_rfl) (by kernel_rfl) (by kernel_rfl) (fun _ _ _ h => h) (by rfl) ?_ (by assumption) ?_
          · intro w hSw; (try dsimp only at hSw); go_simp
          simp only [List.setIfInBounds_toArray, List.set_cons_zero, List.set_cons_succ]
          refine takeH (i := 9) 174 (.pointer (some ⟨cb, k, none⟩)) rfl rfl (by kernel_rfl) (by kernel_rfl) (by kernel_rfl) (fun _ _ _ h => h) (by rfl) ?_ (by assumption) ?_
          · intro w hSw; (try dsimp only at hSw); go_simp
          simp only [List.setIfInBounds_toArray, List.set_cons_zero, List.set_cons_succ]
          refine takeH (i := 10) 175 (.pointer (some ⟨pm, 0, none⟩)) rfl rfl (by kernel_rfl) (by kernel_rfl) (by kernel_rfl) (fun _ _ _ h => h) (by rfl) ?_ (by assumption) ?_
          · intro w hSw; (try dsimp only at hSw); go_simp
          simp only [List.setIfInBounds_toArray, List.set_cons_zero, List.set_cons_succ]
          refine takeH (i := 12) 177 (.int .i64 k) rfl rfl (by kernel_rfl) (by kernel_rfl) (by kernel_rfl) (fun _ _ _ h => h) (by rfl) ?_ (by assumption) ?_
          · intro w hSw; (try dsimp only at hSw); go_simp
          simp only [List.setIfInBounds_toArray, List.set_cons_zero, List.set_cons_succ]
          refine takeH (i := 13) 178 (.pointer (some ⟨db, k, none⟩)) rfl rfl (by kernel_rfl) (by kernel_rfl) (by kernel_rfl) (fun _ _ _ h => h) (by rfl) ?_ (by assumption) ?_
          · intro w hSw; (try dsimp only at hSw); go_simp
          simp only [List.setIfInBounds_toArray, List.set_cons_zero, List.set_cons_succ]
          refine takeH (i := 14) 179 (.pointer (some ⟨rp, 0, none⟩)) rfl rfl (by kernel_rfl) (by kernel_rfl) (by kernel_rfl) (fun _ _ _ h => h) (by rfl) ?_ (by assumption) ?_
          · intro w hSw; (try dsimp only at hSw); go_simp
          simp only [List.setIfInBounds_toArray, List.set_cons_zero, List.set_cons_succ]
          refine takeH (i := 15) 180 (.pointer (some ⟨rp, 0, none⟩)) rfl rfl (by kernel_rfl) (by kernel_rfl) (by kernel_rfl) (fun _ _ _ h => h) (by rfl) ?_ (by assumption) ?_
          · intro w hSw; (try dsimp only at hSw); go_simp
          simp only [List.setIfInBounds_toArray, List.set_cons_zero, List.set_cons_succ]
          refine takeH (i := 16) 181 (.pointer (some ⟨rp, 10, none⟩)) rfl rfl (by kernel_rfl) (by kernel_rfl) (by kernel_rfl) (fun _ _ _ h => h) (by rfl) ?_ (by assumption) ?_
          · intro w hSw; (try dsimp only at hSw); go_simp
          simp only [List.setIfInBounds_toArray, List.set_cons_zero, List.set_cons_succ]
          refine wpAnyH_ready (rs := [11, 17]) (by kernel_rfl) (by simp) ?_
          refine AllReadyH.cons rfl (fun K hK => ?_) (AllReadyH.cons rfl (fun K hK => ?_) AllReadyH.nil)
          · go_simp
            refine (oResCell B7).mono ?_; rintro e' w8 ⟨rfl, hw8⟩; rw [hw8, hva]; clear hw8 w8
            refine hK.out _ _ S7 (fun hHeld => ?_)
            clear hK K
            try simp only [Act.put, List.setIfInBounds_toArray, List.set_cons_zero, List.set_cons_succ]
            refine wpAnyH_ready (rs := [17]) (by kernel_rfl) (by simp) ?_
            refine AllReadyH.cons rfl (fun K hK => ?_) AllReadyH.nil
            go_simp
            refine hK.out _ _ S7 (fun hHeld => ?_)
            clear hK K
            try simp only [Act.put, List.setIfInBounds_toArray, List.set_cons_zero, List.set_cons_succ]
            refine takeH (i := 18) 183 (.bool false) rfl rfl (by kernel_rfl) (by kernel_rfl) (by kernel_rfl) (fun _ _ _ h => h) (by rfl) ?_ (by assumption) ?_
            · intro w hSw; (try dsimp only at hSw); go_simp
            simp only [List.setIfInBounds_toArray, List.set_cons_zero, List.set_cons_succ]
            refine takeH (i := 19) 184 (.bool false) rfl rfl (by kernel_rfl) (by kernel_rfl) (by kernel_rfl) (fun _ _ _ h => h) (by rfl) ?_ (by assumption) ?_
            · intro w hSw; (try dsimp only at hSw); go_simp
            simp only [List.setIfInBounds_toArray, List.set_cons_zero, List.set_cons_succ]
            refine wpAnyH_done (by kernel_rfl) ?_ _
            have cf7 : w7.frozen? ⟨cb, k, none⟩ = false := TM.c.free k
            rcases d with _ | _
            · go_wp2
              go_roundw
              case rel =>
                refine ⟨j + 1, by omega, by omega, by go_num, x.mem s1, x.mem s2, _, T7.mono (by omega), ResS.mem_ws qw x, by rw [ResS.len]; exact q2, TM, fun i hi => ?_⟩
                by_cases ei : i = k
                · subst ei; rw [updW_eq]; have : x'.pc ≠ 0 := (by simpa using hd); show 1 ≤ x'.pc; omega
                · rw [updW_ne _ _ ei]; exact qg i hi
              case measure => simp [intOf]; omega
            · have TN := Team.set (t := ⟨.idle, 0, 0, 0, 0, .pointer none, [], vb, .pointer (some ⟨rp, 0, none⟩)⟩) TM k4 (B := cb) (u := .pointer none) (by simp) trivial (fun y hy => by simp [Wk.fp] at hy) (by rw [updW_eq]; rw [if_neg ncab]; rfl) (by rw [updW_eq]; rw [if_neg ncbb]; rfl) (by rw [updW_eq]; exact (if_pos rfl).symm) (by rw [updW_eq]; rw [if_neg ncdb]; rfl)
              have TS := T7.set TM.c k (.pointer none)
              go_wp2
              go_roundw
              case rel =>
                refine ⟨j + 1, by omega, by omega, by go_num, x.mem s1, x.mem s2, _, TS.mono (by omega), ResS.mem_ws qw x, by rw [ResS.len]; exact q2, TN, fun i hi => ?_⟩
                by_cases ei : i = k
                · subst ei; rw [updW_eq]; trivial
                · rw [updW_ne _ _ ei, updW_ne _ _ ei]; exact qg i hi
              case measure => simp [intOf]; omega
          · go_simp
            refine hK.out _ _ S7 (fun hHeld => ?_)
            clear hK K
            try simp only [Act.put, List.setIfInBounds_toArray, List.set_cons_zero, List.set_cons_succ]
            refine wpAnyH_ready (rs := [11]) (by kernel_rfl) (by simp) ?_
            refine AllReadyH.cons rfl (fun K hK => ?_) AllReadyH.nil
            go_simp
            refine (oResCell B7).mono ?_; rintro e' w8 ⟨rfl, hw8⟩; rw [hw8, hva]; clear hw8 w8
            refine hK.out _ _ S7 (fun hHeld => ?_)
            clear hK K
            try simp only [Act.put, List.setIfInBounds_toArray, List.set_cons_zero, List.set_cons_succ]
            refine takeH (i := 18) 183 (.bool false) rfl rfl (by kernel_rfl) (by kernel_rfl) (by kernel_rfl) (fun _ _ _ h => h) (by rfl) ?_ (by assumption) ?_
            · intro w hSw; (try dsimp only at hSw); go_simp
            simp only [List.setIfInBounds_toArray, List.set_cons_zero, List.set_cons_succ]
            refine takeH (i := 19) 184 (.bool false) rfl rfl (by kernel_rfl) (by kernel_rfl) (by kernel_rfl) (fun _ _ _ h => h) (by rfl) ?_ (by assumption) ?_
            · intro w hSw; (try dsimp only at hSw); go_simp
            simp only [List.setIfInBounds_toArray, List.set_cons_zero, List.set_cons_succ]
            refine wpAnyH_done (by kernel_rfl) ?_ _
            have cf7 : w7.frozen? ⟨cb, k, none⟩ = false := TM.c.free k
            rcases d with _ | _
            · go_wp2
              go_roundw
              case rel =>
                refine ⟨j + 1, by omega, by omega, by go_num, x.mem s1, x.mem s2, _, T7.mono (by omega), ResS.mem_ws qw x, by rw [ResS.len]; exact q2, TM, fun i hi => ?_⟩
                by_cases ei : i = k
                · subst ei; rw [updW_eq]; have : x'.pc ≠ 0 := (by simpa using hd); show 1 ≤ x'.pc; omega
                · rw [updW_ne _ _ ei]; exact qg i hi
              case measure => simp [intOf]; omega
            · have TN := Team.set (t := ⟨.idle, 0, 0, 0, 0, .pointer none, [], vb, .pointer (some ⟨rp, 0, none⟩)⟩) TM k4 (B := cb) (u := .pointer none) (by simp) trivial (fun y hy => by simp [Wk.fp] at hy) (by rw [updW_eq]; rw [if_neg ncab]; rfl) (by rw [updW_eq]; rw [if_neg ncbb]; rfl) (by rw [updW_eq]; exact (if_pos rfl).symm) (by rw [updW_eq]; rw [if_neg ncdb]; rfl)
              have TS := T7.set TM.c k (.pointer none)
              go_wp2
              go_roundw
              case rel =>
                refine ⟨j + 1, by omega, by omega, by go_num, x.mem s1, x.mem s2, _, TS.mono (by omega), ResS.mem_ws qw x, by rw [ResS.len]; exact q2, TN, fun i hi => ?_⟩
                by_cases ei : i = k
                · subst ei; rw [updW_eq]; trivial
                · rw [updW_ne _ _ ei, updW_ne _ _ ei]; exact qg i hi
              case measure => simp [intOf]; omega
      | idle =>
        clear I G
        change wr.cell? ⟨ab, k, none⟩ = some (.pointer none) at ka
        change wr.cell? ⟨bb, k, none⟩ = some vb at kb
        change wr.cell? ⟨cb, k, none⟩ = some (.pointer none) at kc
        change wr.cell? ⟨db, k, none⟩ = some vd at kd'
        by_cases h48 : (q : Int) < 48
        · have hd48 : decide ((q : Int) < 48) = true := decide_eq_true h48
          as_aux_lemma =>
            obtain ⟨nn, hnn⟩ : ∃ nn, (q : Int) / 4 % 8 = nn := ⟨_, rfl⟩
            obtain ⟨mm, hmm⟩ : ∃ mm, (q : Int) % 2 = mm := ⟨_, rfl⟩
            obtain ⟨ee, hee⟩ : ∃ ee, (k : Int) / 2 = ee := ⟨_, rfl⟩
            have n0 : 0 ≤ nn := by omega
            have n7 : nn ≤ 7 := by omega
            have e0 : 0 ≤ ee := by omega
            have e1 : ee ≤ 1 := by omega
            go_wp2_with (first
              | (go_at_call 6; refine (cKind _ (z j) 64 hz1 hz2 (by decide)).mono ?_; rintro e w6 ⟨rfl, hw6⟩; rw [hw6, hq]; clear hw6 w6)
              | (go_at_call 8; refine (cNewAll (mkPl 4 n) (m := mm) n0 n7 e0 e1 _ q1.widw).mono ?_; rintro e' w6 ⟨w5a, rfl, hb6', hw6⟩; have hb6 : Below wr.heap.size wr w6 := (by rw [hw6]; exact S.bal hb6' _); have k6 : w6.heap[w5a.heap.size]? = some (.cells (AllS.new (mkPl 4 n) nn mm ee).cells 82 (0, 0)) := (by rw [hw6]; exact heap_alloc_new _ _); have lpm : wr.heap.size ≤ w5a.heap.size := hb6'.size; obtain ⟨pm, hpm⟩ : ∃ pm, w5a.heap.size = pm := ⟨_, rfl⟩; rw [hpm] at k6 lpm ⊢; clear hpm hw6 hb6'; have T6 := q1.below hb6; have M6 := q3.below hb6; have ca6 : w6.cell? ⟨ab, k, none⟩ = some (.pointer none) := (hb6.cell (lt_of_block q3.a.at_)).trans ka; have cf6 := M6.a.free k; have T7 := T6.set M6.a k (.pointer (some ⟨pm, 0, none⟩)); have r0 := (T7.bel.cell olt).trans P0; have r1 := (T7.bel.cell olt).trans P1; have r2 := (T7.bel.cell olt).trans P2; have r3 := (T7.bel.cell olt).trans P3; have r4 := (T7.bel.cell olt).trans P4)
              | (go_at_call 9; refine (yNewAll (mkPl 4 n) (m := mm) n0 n7 e0 e1 _).mono ?_; rintro e' w8 ⟨am, rp, xp, rfl, ka8, kr8, kx8, hb8, la, lr, lx⟩; have T8 := T7.below hb8; have oP : Oth [ab] w6 (w6.setCell ⟨ab, k, none⟩ (.pointer (some ⟨pm, 0, none⟩))) := Oth.set _ _ _ _ (by simp); have nPR : ab ≠ bb := q3.a.ne' q3.b (by decide); have b8 := (M6.b.oth oP (by simpa using Ne.symm nPR)).below hb8; have cb8 : w8.cell? ⟨bb, k, none⟩ = some (vb) := ((b8.cell k).trans (row4_get _ k4)).trans (by rw [ht]; rfl); have cfb8 := b8.free k; have T9 := T8.set b8 k (.pointer (some ⟨am, 0, none⟩)); have oR : Oth [bb] w8 (w8.setCell ⟨bb, k, none⟩ (.pointer (some ⟨am, 0, none⟩))) := Oth.set _ _ _ _ (by simp); have a9 := ((M6.a.set k (.pointer (some ⟨pm, 0, none⟩))).below hb8).oth oR (by simpa using nPR); have ca9 : (w8.setCell ⟨bb, k, none⟩ (.pointer (some ⟨am, 0, none⟩))).cell? ⟨ab, k, none⟩ = some (.pointer (some ⟨pm, 0, none⟩)) := (a9.cell k).trans (get_eq (row4_get (fun j => (wk j).ca) k4) _)))
            have sz7 : wr.heap.size ≤ (w6.setCell ⟨ab, k, none⟩ (.pointer (some ⟨pm, 0, none⟩))).heap.size := Nat.le_trans hb6.size (by simp [World.setCell])
            have lab := q3.a.lt
            have lbb := q3.b.lt
            have npm1 : pm ≠ ab := by omega
            have npm2 : pm ≠ bb := by omega
            have nam : am ≠ bb := by omega
            have nrp : rp ≠ bb := by omega
            have nxp : xp ≠ bb := by omega
            have B9 : Blk wv (w8.setCell ⟨bb, k, none⟩ (.pointer (some ⟨am, 0, none⟩))) pm 82 (AllS.new (mkPl 4 n) nn mm ee).cells := ((Blk.oth (⟨k6, Nat.le_trans q1.bel.size lpm, by decide⟩ : Blk wv w6 pm 82 (AllS.new (mkPl 4 n) nn mm ee).cells) oP (by simpa using npm1)).below hb8).oth oR (by simpa using npm2)
            have R9' : RRs wv (w8.setCell ⟨bb, k, none⟩ (.pointer (some ⟨am, 0, none⟩))) rp xp (.pointer none) [] (ResS.new (mkPl 4 n) (P.Plain.cl nn) ee) := ⟨Blk.oth ⟨kr8, Nat.le_trans q1.bel.size (Nat.le_trans sz7 lr), by decide⟩ oR (by simpa using nrp), ⟨0, Blk.oth ⟨kx8, Nat.le_trans q1.bel.size (Nat.le_trans sz7 lx), by decide⟩ oR (by simpa using nxp), rfl, U64.zero⟩, fun h => by simp [ResS.new] at h, fun h => by simp [ResS.new] at h, fun _ => rfl⟩
            have I3 : RAl wv (w8.setCell ⟨bb, k, none⟩ (.pointer (some ⟨am, 0, none⟩))) am rp xp (.pointer none) [] (AllS.new (mkPl 4 n) nn mm ee) := ⟨⟨_, Blk.oth ⟨ka8, Nat.le_trans q1.bel.size (Nat.le_trans sz7 la), by decide⟩ oR (by simpa using nam)⟩, R9', fun _ => ⟨by simp [AllS.new, ResS.new], rfl⟩, rfl, n0, fun _ => rfl⟩
            have I2 : (AllS.new (mkPl 4 n) nn mm ee).Ok := AllS.ok_new pok n0 n7 e0 e1
            have G : 1 ≤ (AllS.new (mkPl 4 n) nn mm ee).pc := by simp [AllS.new]
            have Q3 : Team wv (w8.setCell ⟨bb, k, none⟩ (.pointer (some ⟨am, 0, none⟩))) ab bb cb db (updW wk k ⟨.all (AllS.new (mkPl 4 n) nn mm ee), pm, am, rp, xp, .pointer none, [], vb, vd⟩) := Team.newA (t := ⟨.all (AllS.new (mkPl 4 n) nn mm ee), pm, am, rp, xp, .pointer none, [], vb, vd⟩) q3 k4 hb6 hb8 (by rw [ht]; rfl) rfl rfl (by rw [ht]; rfl) (by rw [ht]; rfl) ⟨B9, I2, I3⟩ (fun y hy => by
              simp only [Wk.fp, List.mem_cons, List.not_mem_nil, or_false] at hy
              omega)
            have QG : ∀ i, i < 4 → (updW wk k ⟨.all (AllS.new (mkPl 4 n) nn mm ee), pm, am, rp, xp, .pointer none, [], vb, vd⟩ i).Go := fun i hi => by
              by_cases ei : i = k
              · subst ei; rw [updW_eq]; exact G
              · rw [updW_ne _ _ ei]; exact qg i hi
            have HT := updW_eq wk k ⟨.all (AllS.new (mkPl 4 n) nn mm ee), pm, am, rp, xp, .pointer none, [], vb, vd⟩
            generalize updW wk k ⟨.all (AllS.new (mkPl 4 n) nn mm ee), pm, am, rp, xp, .pointer none, [], vb, vd⟩ = WK at Q3 QG HT
            have Q1 := T9
            have I1 := B9
            clear la lr lx ka kb kc kd' p0 p1 p2 p3 p4 r0 r1 r2 r3 r4 T6 M6 ca6 cf6 T7 T8 oP nPR b8 cb8 cfb8 T9 oR a9 B9 R9' k6 kr8 kx8 ka8 npm1 npm2 nrp nxp nam lab lbb sz7 lpm q1 q3 qg
            generalize AllS.new (mkPl 4 n) nn mm ee = x at Q3 HT I1 I2 I3 G
            generalize (w8.setCell ⟨bb, k, none⟩ (.pointer (some ⟨am, 0, none⟩))) = w9 at Q3 Q1 I1 I3 ca9 ⊢
            clear hb8 hb6
            obtain ⟨Y, hY⟩ : ∃ Y : List Nat, Y = [] := ⟨_, rfl⟩
            obtain ⟨yv, hyv⟩ : ∃ yv : Value, yv = .pointer none := ⟨_, rfl⟩
            rw [← hY, ← hyv] at HT I3
            clear hY hyv
            obtain ⟨ka, kb, kc, kd'⟩ : True ∧ True ∧ True ∧ True := ⟨trivial, trivial, trivial, trivial⟩
            have nxt : (x.next s1).Ok := I2.next Q1.rng1
            have hx2 : x.next s2 = x.next s1 := (AllS.next_ws qw x).symm
            obtain ⟨x', hx⟩ : ∃ x', x.next s1 = x' := ⟨_, rfl⟩
            rw [hx] at hx2 nxt
            obtain ⟨d, hd⟩ : ∃ d, (x'.pc == 0) = d := ⟨_, rfl⟩
            have nb := neqB d
            have hfp0 : (WK k).fp = pm :: am :: rp :: xp :: Y := by rw [HT]; rfl
            go_wp2_with (go_at_call 12; refine (tAll Q1 I1 I2 (by omega)).mono ?_; rintro e' w6 ⟨rfl, T6, B6, o6⟩; rw [hx] at B6 ⊢; rw [hd])
            obtain ⟨ra6, rb6, rc6, rd6, rest6⟩ := Q3.rest k4 o6 (fun y hy => by rw [hfp0]; simp at hy; simp [hy])
            have npm : pm ∉ am :: rp :: xp :: Y := fun hy => by
              obtain ⟨cs, Tt, B', hT⟩ := I3.kind pm hy
              have := I1.at_
              rw [B'.at_] at this
              simp at this
              rw [this.2] at hT
              revert hT
              decide
            have R6 := I3.oth o6 (fun y hy e => by simp at e; subst e; exact npm hy)
            have hbd : Below w6.heap.size w6 w6.drew := (Below.refl w6.heap.size w6).drew
            have ca6 : w6.cell? ⟨ab, k, none⟩ = some (.pointer (some ⟨pm, 0, none⟩)) := by
              have h := (ra6.cell k).trans (row4_get _ k4)
              rw [HT] at h
              exact h
            have cb6 : w6.cell? ⟨bb, k, none⟩ = some (.pointer (some ⟨am, 0, none⟩)) := by
              have h := (rb6.cell k).trans (row4_get _ k4)
              rw [HT] at h
              exact h
            have RD : w6.drew.cell? ⟨ab, k, none⟩ = some (.pointer (some ⟨pm, 0, none⟩)) ∧ w6.drew.cell? ⟨bb, k, none⟩ = some (.pointer (some ⟨am, 0, none⟩)) := ⟨ca6, cb6⟩
            have T6d := T6.below hbd
            have B6d := B6.below hbd
            have R6d := R6.oth (F := []) (Oth.below hbd) (by simp)
            have Y6 := yAll T6d R6d I2 G (by omega)
            unfold APost at Y6
            rw [hx2] at Y6
            obtain ⟨va, hva⟩ : ∃ va, x'.cell = va := ⟨_, rfl⟩
            clear ka kb kc kd'
            have nabb : ab ≠ bb := Q3.a.ne' Q3.b (by decide)
            have nacb : ab ≠ cb := Q3.a.ne' Q3.c (by decide)
            have nadb : ab ≠ db := Q3.a.ne' Q3.d (by decide)
            refine wp_region_held_drew (S := fun w' => w'.cell? ⟨ab, k, none⟩ = some (.pointer (some ⟨pm, 0, none⟩)) ∧ w'.cell? ⟨bb, k, none⟩ = some (.pointer (some ⟨am, 0, none⟩))) (by kernel_rfl) RD (fun hHeld => ?_)
            refine takeH (i := 0) 133 (.bool d) rfl rfl (by kernel_rfl) (by kernel_rfl) (by kernel_rfl) (fun _ _ _ h => h) (by rfl) ?_ (by assumption) ?_
            · intro w hSw; (try dsimp only at hSw); go_simp
            simp only [List.setIfInBounds_toArray, List.set_cons_zero, List.set_cons_succ]
            refine takeH (i := 1) 134 (.int .i64 k) rfl rfl (by kernel_rfl) (by kernel_rfl) (by kernel_rfl) (fun _ _ _ h => h) (by rfl) ?_ (by assumption) ?_
            · intro w hSw; (try dsimp only at hSw); go_simp
            simp only [List.setIfInBounds_toArray, List.set_cons_zero, List.set_cons_succ]
            refine takeH (i := 2) 135 (.pointer (some ⟨bb, k, none⟩)) rfl rfl (by kernel_rfl) (by kernel_rfl) (by kernel_rfl) (fun _ _ _ h => h) (by rfl) ?_ (by assumption) ?_
            · intro w hSw; (try dsimp only at hSw); go_simp
            simp only [List.setIfInBounds_toArray, List.set_cons_zero, List.set_cons_succ]
            refine takeH (i := 3) 136 (.pointer (some ⟨am, 0, none⟩)) rfl rfl (by kernel_rfl) (by kernel_rfl) (by kernel_rfl) (fun _ _ _ h => h) (by rfl) ?_ (by assumption) ?_
            · intro w hSw; (try dsimp only at hSw); go_simp
            simp only [List.setIfInBounds_toArray, List.set_cons_zero, List.set_cons_succ]
            refine takeH (i := 4) 137 (.pointer (some ⟨y, 0, none⟩)) rfl rfl (by kernel_rfl) (by kernel_rfl) (by kernel_rfl) (fun _ _ _ h => h) (by rfl) ?_ (by assumption) ?_
            · intro w hSw; (try dsimp only at hSw); go_simp
            simp only [List.setIfInBounds_toArray, List.set_cons_zero, List.set_cons_succ]
            refine wpAnyH_ready (rs := [5]) (by kernel_rfl) (by simp) ?_
            refine AllReadyH.cons rfl (fun K hK => ?_) AllReadyH.nil
            go_simp
            refine Y6.mono ?_; rintro e' w7 ⟨rfl, T7, xp7, yv7, Y7, R7, o7, k7⟩; rw [hd]; have oA : Oth (pm :: am :: rp :: xp :: Y) w9 w7 := (Oth.mono o6 (fun y hy => by simp at hy; simp [hy])).trans ((Oth.below hbd).trans (Oth.mono o7 (fun y hy => List.mem_cons_of_mem _ hy))); have B7 := B6d.oth o7 npm; have TM := Team.step (t := ⟨.all x', pm, am, rp, xp7, yv7, Y7, vb, vd⟩) Q3 k4 oA (fun y hy => by rw [hfp0]; exact hy) ⟨B7, nxt, R7⟩ (by rw [HT]; rfl) (by rw [HT]; rfl) (by rw [HT]; rfl) (by rw [HT]; rfl) (fun y hy => by rw [hfp0]; (simp only [Wk.fp, List.mem_cons] at hy ⊢; rcases hy with rfl | rfl | rfl | hy; exact .inl (.inl rfl); exact .inl (.inr (.inl rfl)); exact .inl (.inr (.inr (.inl rfl))); rcases k7 y (by simpa using hy) with h2 | h2; exact .inl (.inr (.inr (.inr (by simpa using h2)))); exact .inr (Nat.le_trans o6.size (Nat.le_trans hbd.size h2)))); have ca7 : w7.cell? ⟨ab, k, none⟩ = some (.pointer (some ⟨pm, 0, none⟩)) := (by have h := TM.ac k4; rw [updW_eq] at h; exact h); have cb7 : w7.cell? ⟨bb, k, none⟩ = some (.pointer (some ⟨am, 0, none⟩)) := (by have h := TM.bc k4; rw [updW_eq] at h; exact h); have S7 : w7.cell? ⟨ab, k, none⟩ = some (.pointer (some ⟨pm, 0, none⟩)) ∧ w7.cell? ⟨bb, k, none⟩ = some (.pointer (some ⟨am, 0, none⟩)) := ⟨ca7, cb7⟩; have m10 : w7.cell? ⟨am, 10, none⟩ = some (.int .i64 va) := (by obtain ⟨qa, B⟩ := R7.blk; rw [← hva]; exact B.cell 10)
            refine hK.out _ _ S7 (fun hHeld => ?_)
            clear hK K
            try simp only [Act.put, List.setIfInBounds_toArray, List.set_cons_zero, List.set_cons_succ]
            refine takeH (i := 6) 139 (.bool false) rfl rfl (by kernel_rfl) (by kernel_rfl) (by kernel_rfl) (fun _ _ _ h => h) (by rfl) ?_ (by assumption) ?_
            · intro w hSw; (try dsimp only at hSw); go_simp
            simp only [List.setIfInBounds_toArray, List.set_cons_zero, List.set_cons_succ]
            refine takeH (i := 7) 140 (.bool false) rfl rfl (by kernel_rfl) (by kernel_rfl) (by kernel_rfl) (fun _ _ _ h => h) (by rfl) ?_ (by assumption) ?_
            · intro w hSw; (try dsimp only at hSw); go_simp
            simp only [List.setIfInBounds_toArray, List.set_cons_zero, List.set_cons_succ]
            refine takeH (i := 8) 141 (.int .i64 k) rfl rfl (by kernel_rfl) (by kernel_rfl) (by kernel_rfl) (fun _ _ _ h => h) (by rfl) ?_ (by assumption) ?_
            · intro w hSw; (try dsimp only at hSw); go_simp
            simp only [List.setIfInBounds_toArray, List.set_cons_zero, List.set_cons_succ]
            refine takeH (i := 9) 142 (.pointer (some ⟨ab, k, none⟩)) rfl rfl (by kernel_rfl) (by kernel_rfl) (by kernel_rfl) (fun _ _ _ h => h) (by rfl) ?_ (by assumption) ?_
            · intro w hSw; (try dsimp only at hSw); go_simp
            simp only [List.setIfInBounds_toArray, List.set_cons_zero, List.set_cons_succ]
            refine takeH (i := 10) 143 (.pointer (some ⟨pm, 0, none⟩)) rfl rfl (by kernel_rfl) (by kernel_rfl) (by kernel_rfl) (fun _ _ _ h => h) (by rfl) ?_ (by assumption) ?_
            · intro w hSw; (try dsimp only at hSw); go_simp
            simp only [List.setIfInBounds_toArray, List.set_cons_zero, List.set_cons_succ]
            refine takeH (i := 12) 145 (.int .i64 k) rfl rfl (by kernel_rfl) (by kernel_rfl) (by kernel_rfl) (fun _ _ _ h => h) (by rfl) ?_ (by assumption) ?_
            · intro w hSw; (try dsimp only at hSw); go_simp
            simp only [List.setIfInBounds_toArray, List.set_cons_zero, List.set_cons_succ]
            refine takeH (i := 13) 146 (.pointer (some ⟨bb, k, none⟩)) rfl rfl (by kernel_rfl) (by kernel_rfl) (by kernel_rfl) (fun _ _ _ h => h) (by rfl) ?_ (by assumption) ?_
            · intro w hSw; (try dsimp only at hSw); go_simp
            simp only [List.setIfInBounds_toArray, List.set_cons_zero, List.set_cons_succ]
            refine takeH (i := 14) 147 (.pointer (some ⟨am, 0, none⟩)) rfl rfl (by kernel_rfl) (by kernel_rfl) (by kernel_rfl) (fun _ _ _ h => h) (by rfl) ?_ (by assumption) ?_
            · intro w hSw; (try dsimp only at hSw); go_simp
            simp only [List.setIfInBounds_toArray, List.set_cons_zero, List.set_cons_succ]
            refine takeH (i := 15) 148 (.pointer (some ⟨am, 0, none⟩)) rfl rfl (by kernel_rfl) (by kernel_rfl) (by kernel_rfl) (fun _ _ _ h => h) (by rfl) ?_ (by assumption) ?_
            · intro w hSw; (try dsimp only at hSw); go_simp
            simp only [List.setIfInBounds_toArray, List.set_cons_zero, List.set_cons_succ]
            refine takeH (i := 16) 149 (.pointer (some ⟨am, 10, none⟩)) rfl rfl (by kernel_rfl) (by kernel_rfl) (by kernel_rfl) (fun _ _ _ h => h) (by rfl) ?_ (by assumption) ?_
            · intro w hSw; (try dsimp only at hSw); go_simp
            simp only [List.setIfInBounds_toArray, List.set_cons_zero, List.set_cons_succ]
            refine wpAnyH_ready (rs := [11, 17]) (by kernel_rfl) (by simp) ?_
            refine AllReadyH.cons rfl (fun K hK => ?_) (AllReadyH.cons rfl (fun K hK => ?_) AllReadyH.nil)
            · go_simp
              refine (oAllCell B7).mono ?_; rintro e' w8 ⟨rfl, hw8⟩; rw [hw8, hva]; clear hw8 w8
              refine hK.out _ _ S7 (fun hHeld => ?_)
              clear hK K
              try simp only [Act.put, List.setIfInBounds_toArray, List.set_cons_zero, List.set_cons_succ]
              refine wpAnyH_ready (rs := [17]) (by kernel_rfl) (by simp) ?_
              refine AllReadyH.cons rfl (fun K hK => ?_) AllReadyH.nil
              go_simp
              refine hK.out _ _ S7 (fun hHeld => ?_)
              clear hK K
              try simp only [Act.put, List.setIfInBounds_toArray, List.set_cons_zero, List.set_cons_succ]
              refine takeH (i := 18) 151 (.bool false) rfl rfl (by kernel_rfl) (by kernel_rfl) (by kernel_rfl) (fun _ _ _ h => h) (by rfl) ?_ (by assumption) ?_
              · intro w hSw; (try dsimp only at hSw); go_simp
              simp only [List.setIfInBounds_toArray, List.set_cons_zero, List.set_cons_succ]
              refine takeH (i := 19) 152 (.bool false) rfl rfl (by kernel_rfl) (by kernel_rfl) (by kernel_rfl) (fun _ _ _ h => h) (by rfl) ?_ (by assumption) ?_
              · intro w hSw; (try dsimp only at hSw); go_simp
              simp only [List.setIfInBounds_toArray, List.set_cons_zero, List.set_cons_succ]
              refine wpAnyH_done (by kernel_rfl) ?_ _
              have cf7 : w7.frozen? ⟨ab, k, none⟩ = false := TM.a.free k
              rcases d with _ | _
              · go_wp2
                go_roundw
                case rel =>
                  refine ⟨j + 1, by omega, by omega, by go_num, x.mem s1, x.mem s2, _, T7.mono (by omega), AllS.mem_ws qw x, by rw [AllS.len]; exact q2, TM, fun i hi => ?_⟩
                  by_cases ei : i = k
                  · subst ei; rw [updW_eq]; have : x'.pc ≠ 0 := (by simpa using hd); show 1 ≤ x'.pc; omega
                  · rw [updW_ne _ _ ei]; exact QG i hi
                case measure => simp [intOf]; omega
              · have TN := Team.set (t := ⟨.idle, 0, 0, 0, 0, .pointer none, [], .pointer (some ⟨am, 0, none⟩), vd⟩) TM k4 (B := ab) (u := .pointer none) (by simp) trivial (fun y hy => by simp [Wk.fp] at hy) (by rw [updW_eq]; exact (if_pos rfl).symm) (by rw [updW_eq]; rw [if_neg nabb]; rfl) (by rw [updW_eq]; rw [if_neg nacb]; rfl) (by rw [updW_eq]; rw [if_neg nadb]; rfl)
                have TS := T7.set TM.a k (.pointer none)
                go_wp2
                go_roundw
                case rel =>
                  refine ⟨j + 1, by omega, by omega, by go_num, x.mem s1, x.mem s2, _, TS.mono (by omega), AllS.mem_ws qw x, by rw [AllS.len]; exact q2, TN, fun i hi => ?_⟩
                  by_cases ei : i = k
                  · subst ei; rw [updW_eq]; trivial
                  · rw [updW_ne _ _ ei, updW_ne _ _ ei]; exact QG i hi
                case measure => simp [intOf]; omega
            · go_simp
              refine hK.out _ _ S7 (fun hHeld => ?_)
              clear hK K
              try simp only [Act.put, List.setIfInBounds_toArray, List.set_cons_zero, List.set_cons_succ]
              refine wpAnyH_ready (rs := [11]) (by kernel_rfl) (by simp) ?_
              refine AllReadyH.cons rfl (fun K hK => ?_) AllReadyH.nil
              go_simp
              refine (oAllCell B7).mono ?_; rintro e' w8 ⟨rfl, hw8⟩; rw [hw8, hva]; clear hw8 w8
              refine hK.out _ _ S7 (fun hHeld => ?_)
              clear hK K
              try simp only [Act.put, List.setIfInBounds_toArray, List.set_cons_zero, List.set_cons_succ]
              refine takeH (i := 18) 151 (.bool false) rfl rfl (by kernel_rfl) (by kernel_rfl) (by kernel_rfl) (fun _ _ _ h => h) (by rfl) ?_ (by assumption) ?_
              · intro w hSw; (try dsimp only at hSw); go_simp
              simp only [List.setIfInBounds_toArray, List.set_cons_zero, List.set_cons_succ]
              refine takeH (i := 19) 152 (.bool false) rfl rfl (by kernel_rfl) (by kernel_rfl) (by kernel_rfl) (fun _ _ _ h => h) (by rfl) ?_ (by assumption) ?_
              · intro w hSw; (try dsimp only at hSw); go_simp
              simp only [List.setIfInBounds_toArray, List.set_cons_zero, List.set_cons_succ]
              refine wpAnyH_done (by kernel_rfl) ?_ _
              have cf7 : w7.frozen? ⟨ab, k, none⟩ = false := TM.a.free k
              rcases d with _ | _
              · go_wp2
                go_roundw
                case rel =>
                  refine ⟨j + 1, by omega, by omega, by go_num, x.mem s1, x.mem s2, _, T7.mono (by omega), AllS.mem_ws qw x, by rw [AllS.len]; exact q2, TM, fun i hi => ?_⟩
                  by_cases ei : i = k
                  · subst ei; rw [updW_eq]; have : x'.pc ≠ 0 := (by simpa using hd); show 1 ≤ x'.pc; omega
                  · rw [updW_ne _ _ ei]; exact QG i hi
                case measure => simp [intOf]; omega
              · have TN := Team.set (t := ⟨.idle, 0, 0, 0, 0, .pointer none, [], .pointer (some ⟨am, 0, none⟩), vd⟩) TM k4 (B := ab) (u := .pointer none) (by simp) trivial (fun y hy => by simp [Wk.fp] at hy) (by rw [updW_eq]; exact (if_pos rfl).symm) (by rw [updW_eq]; rw [if_neg nabb]; rfl) (by rw [updW_eq]; rw [if_neg nacb]; rfl) (by rw [updW_eq]; rw [if_neg nadb]; rfl)
                have TS := T7.set TM.a k (.pointer none)
                go_wp2
                go_roundw
                case rel =>
                  refine ⟨j + 1, by omega, by omega, by go_num, x.mem s1, x.mem s2, _, TS.mono (by omega), AllS.mem_ws qw x, by rw [AllS.len]; exact q2, TN, fun i hi => ?_⟩
                  by_cases ei : i = k
                  · subst ei; rw [updW_eq]; trivial
                  · rw [updW_ne _ _ ei, updW_ne _ _ ei]; exact QG i hi
                case measure => simp [intOf]; omega
        · have hd48 : decide ((q : Int) < 48) = false := decide_eq_false h48
          as_aux_lemma =>
            obtain ⟨nn, hnn⟩ : ∃ nn, (q : Int) / 4 % 3 = nn := ⟨_, rfl⟩
            obtain ⟨mm, hmm⟩ : ∃ mm, (q : Int) % 2 = mm := ⟨_, rfl⟩
            obtain ⟨ee, hee⟩ : ∃ ee, (k : Int) / 2 = ee := ⟨_, rfl⟩
            have n0 : 0 ≤ nn := by omega
            have n2 : nn ≤ 2 := by omega
            have e0 : 0 ≤ ee := by omega
            have e1 : ee ≤ 1 := by omega
            go_wp2_with (first
              | (go_at_call 6; refine (cKind _ (z j) 64 hz1 hz2 (by decide)).mono ?_; rintro e w6 ⟨rfl, hw6⟩; rw [hw6, hq]; clear hw6 w6)
              | (go_at_call 10; refine (cNewRes (mkPl 4 n) n0 n2 e0 e1 _).mono ?_; rintro e' w6 ⟨pm, rfl, k6, hb6, lpm⟩; have T6 := q1.below hb6; have M6 := q3.below hb6; have ca6 : w6.cell? ⟨cb, k, none⟩ = some (.pointer none) := (hb6.cell (lt_of_block q3.c.at_)).trans kc; have cf6 := M6.c.free k; have T7 := T6.set M6.c k (.pointer (some ⟨pm, 0, none⟩)); have r0 := (T7.bel.cell olt).trans P0; have r1 := (T7.bel.cell olt).trans P1; have r2 := (T7.bel.cell olt).trans P2; have r3 := (T7.bel.cell olt).trans P3; have r4 := (T7.bel.cell olt).trans P4)
              | (go_at_call 11; refine (yNewRes (mkPl 4 n) n0 n2 e0 e1 _).mono ?_; rintro e' w8 ⟨rp, xp, rfl, kr8, kx8, hb8, lr, lx⟩; have T8 := T7.below hb8; have oP : Oth [cb] w6 (w6.setCell ⟨cb, k, none⟩ (.pointer (some ⟨pm, 0, none⟩))) := Oth.set _ _ _ _ (by simp); have nPR : cb ≠ db := q3.c.ne' q3.d (by decide); have b8 := (M6.d.oth oP (by simpa using Ne.symm nPR)).below hb8; have cb8 : w8.cell? ⟨db, k, none⟩ = some (vd) := ((b8.cell k).trans (row4_get _ k4)).trans (by rw [ht]; rfl); have cfb8 := b8.free k; have T9 := T8.set b8 k (.pointer (some ⟨rp, 0, none⟩)); have oR : Oth [db] w8 (w8.setCell ⟨db, k, none⟩ (.pointer (some ⟨rp, 0, none⟩))) := Oth.set _ _ _ _ (by simp); have a9 := ((M6.c.set k (.pointer (some ⟨pm, 0, none⟩))).below hb8).oth oR (by simpa using nPR); have ca9 : (w8.setCell ⟨db, k, none⟩ (.pointer (some ⟨rp, 0, none⟩))).cell? ⟨cb, k, none⟩ = some (.pointer (some ⟨pm, 0, none⟩)) := (a9.cell k).trans (get_eq (row4_get (fun j => (wk j).cc) k4) _); have x9 := ((M6.a.oth oP (by simpa using q3.a.ne' q3.c (by decide))).below hb8).oth oR (by simpa using q3.a.ne' q3.d (by decide)); have cx9 : (w8.setCell ⟨db, k, none⟩ (.pointer (some ⟨rp, 0, none⟩))).cell? ⟨ab, k, none⟩ = some (.pointer none) := ((x9.cell k).trans (row4_get _ k4)).trans (by rw [ht]; rfl)))
            have sz7 : wr.heap.size ≤ (w6.setCell ⟨cb, k, none⟩ (.pointer (some ⟨pm, 0, none⟩))).heap.size := Nat.le_trans hb6.size (by simp [World.setCell])
            have lab := q3.c.lt
            have lbb := q3.d.lt
            have npm1 : pm ≠ cb := by omega
            have npm2 : pm ≠ db := by omega
            have nrp : rp ≠ db := by omega
            have nxp : xp ≠ db := by omega
            have B9 : Blk wv (w8.setCell ⟨db, k, none⟩ (.pointer (some ⟨rp, 0, none⟩))) pm 80 (ResS.new (mkPl 4 n) nn ee).cells := ((Blk.oth (⟨k6, Nat.le_trans q1.bel.size lpm, by decide⟩ : Blk wv w6 pm 80 (ResS.new (mkPl 4 n) nn ee).cells) oP (by simpa using npm1)).below hb8).oth oR (by simpa using npm2)
            have R9' : RRs wv (w8.setCell ⟨db, k, none⟩ (.pointer (some ⟨rp, 0, none⟩))) rp xp (.pointer none) [] (ResS.new (mkPl 4 n) nn ee) := ⟨Blk.oth ⟨kr8, Nat.le_trans q1.bel.size (Nat.le_trans sz7 lr), by decide⟩ oR (by simpa using nrp), ⟨0, Blk.oth ⟨kx8, Nat.le_trans q1.bel.size (Nat.le_trans sz7 lx), by decide⟩ oR (by simpa using nxp), rfl, U64.zero⟩, fun h => by simp [ResS.new] at h, fun h => by simp [ResS.new] at h, fun _ => rfl⟩
            have I3 := R9'
            have I2 : (ResS.new (mkPl 4 n) nn ee).Ok := ResS.ok_new pok n0 n2 e0 e1
            obtain ⟨am, ham⟩ : ∃ am : Nat, am = am := ⟨0, rfl⟩
            have G : 1 ≤ (ResS.new (mkPl 4 n) nn ee).pc := by simp [ResS.new]
            have Q3 : Team wv (w8.setCell ⟨db, k, none⟩ (.pointer (some ⟨rp, 0, none⟩))) ab bb cb db (updW wk k ⟨.res (ResS.new (mkPl 4 n) nn ee), pm, am, rp, xp, .pointer none, [], vb, vd⟩) := Team.newR (t := ⟨.res (ResS.new (mkPl 4 n) nn ee), pm, am, rp, xp, .pointer none, [], vb, vd⟩) q3 k4 hb6 hb8 (by rw [ht]; rfl) rfl rfl (by rw [ht]; rfl) (by rw [ht]; rfl) ⟨B9, I2, I3⟩ (fun y hy => by
              simp only [Wk.fp, List.mem_cons, List.not_mem_nil, or_false] at hy
              omega)
            have QG : ∀ i, i < 4 → (updW wk k ⟨.res (ResS.new (mkPl 4 n) nn ee), pm, am, rp, xp, .pointer none, [], vb, vd⟩ i).Go := fun i hi => by
              by_cases ei : i = k
              · subst ei; rw [updW_eq]; exact G
              · rw [updW_ne _ _ ei]; exact qg i hi
            have HT := updW_eq wk k ⟨.res (ResS.new (mkPl 4 n) nn ee), pm, am, rp, xp, .pointer none, [], vb, vd⟩
            generalize updW wk k ⟨.res (ResS.new (mkPl 4 n) nn ee), pm, am, rp, xp, .pointer none, [], vb, vd⟩ = WK at Q3 QG HT
            have Q1 := T9
            have I1 := B9
            clear lr lx ka kb kc kd' p0 p1 p2 p3 p4 r0 r1 r2 r3 r4 T6 M6 ca6 cf6 T7 T8 oP nPR b8 cb8 cfb8 T9 oR a9 B9 R9' k6 kr8 kx8 npm1 npm2 nrp nxp lab lbb sz7 lpm q1 q3 qg
            generalize ResS.new (mkPl 4 n) nn ee = x at Q3 HT I1 I2 I3 G
            generalize (w8.setCell ⟨db, k, none⟩ (.pointer (some ⟨rp, 0, none⟩))) = w9 at Q3 Q1 I1 I3 ca9 cx9 x9 ⊢
            clear hb8 hb6
            obtain ⟨Y, hY⟩ : ∃ Y : List Nat, Y = [] := ⟨_, rfl⟩
            obtain ⟨yv, hyv⟩ : ∃ yv : Value, yv = .pointer none := ⟨_, rfl⟩
            rw [← hY, ← hyv] at HT I3
            clear hY hyv
            obtain ⟨ka, kb, kc, kd'⟩ : True ∧ True ∧ True ∧ True := ⟨trivial, trivial, trivial, trivial⟩
            have nxt : (x.next s1).Ok := I2.next Q1.rng1
            have hx2 : x.next s2 = x.next s1 := (ResS.next_ws qw x).symm
            obtain ⟨x', hx⟩ : ∃ x', x.next s1 = x' := ⟨_, rfl⟩
            rw [hx] at hx2 nxt
            obtain ⟨d, hd⟩ : ∃ d, (x'.pc == 0) = d := ⟨_, rfl⟩
            have nb := neqB d
            have hfp0 : (WK k).fp = pm :: rp :: xp :: Y := by rw [HT]; rfl
            go_wp2_with (go_at_call 15; refine (tRes Q1 I1 I2 (by omega)).mono ?_; rintro e' w6 ⟨rfl, T6, B6, o6⟩; rw [hx] at B6 ⊢; rw [hd])
            obtain ⟨ra6, rb6, rc6, rd6, rest6⟩ := Q3.rest k4 o6 (fun y hy => by rw [hfp0]; simp at hy; simp [hy])
            have npm : pm ∉ rp :: xp :: Y := fun hy => by
              obtain ⟨cs, Tt, B', hT⟩ := I3.kind pm hy
              have := I1.at_
              rw [B'.at_] at this
              simp at this
              rw [this.2] at hT
              revert hT
              decide
            have R6 := I3.oth o6 (fun y hy e => by simp at e; subst e; exact npm hy)
            have hbd : Below w6.heap.size w6 w6.drew := (Below.refl w6.heap.size w6).drew
            have ca6 : w6.cell? ⟨cb, k, none⟩ = some (.pointer (some ⟨pm, 0, none⟩)) := by
              have h := (rc6.cell k).trans (row4_get _ k4)
              rw [HT] at h
              exact h
            have cb6 : w6.cell? ⟨db, k, none⟩ = some (.pointer (some ⟨rp, 0, none⟩)) := by
              have h := (rd6.cell k).trans (row4_get _ k4)
              rw [HT] at h
              exact h
            have RD : w6.drew.cell? ⟨cb, k, none⟩ = some (.pointer (some ⟨pm, 0, none⟩)) ∧ w6.drew.cell? ⟨db, k, none⟩ = some (.pointer (some ⟨rp, 0, none⟩)) := ⟨ca6, cb6⟩
            have T6d := T6.below hbd
            have B6d := B6.below hbd
            have R6d := R6.oth (F := []) (Oth.below hbd) (by simp)
            have Y6 := yRes T6d R6d I2 G (by omega)
            unfold RPost at Y6
            rw [hx2] at Y6
            obtain ⟨va, hva⟩ : ∃ va, x'.cell = va := ⟨_, rfl⟩
            clear ka kb kc kd'
            have ncab : cb ≠ ab := Q3.c.ne' Q3.a (by decide)
            have ncbb : cb ≠ bb := Q3.c.ne' Q3.b (by decide)
            have ncdb : cb ≠ db := Q3.c.ne' Q3.d (by decide)
            refine wp_region_held_drew (S := fun w' => w'.cell? ⟨cb, k, none⟩ = some (.pointer (some ⟨pm, 0, none⟩)) ∧ w'.cell? ⟨db, k, none⟩ = some (.pointer (some ⟨rp, 0, none⟩))) (by kernel_rfl) RD (fun hHeld => ?_)
            refine takeH (i := 0) 165 (.bool d) rfl rfl (by kernel_rfl) (by kernel_rfl) (by kernel_rfl) (fun _ _ _ h => h) (by rfl) ?_ (by assumption) ?_
            · intro w hSw; (try dsimp only at hSw); go_simp
            simp only [List.setIfInBounds_toArray, List.set_cons_zero, List.set_cons_succ]
            refine takeH (i := 1) 166 (.int .i64 k) rfl rfl (by kernel_rfl) (by kernel_rfl) (by kernel_rfl) (fun _ _ _ h => h) (by rfl) ?_ (by assumption) ?_
            · intro w hSw; (try dsimp only at hSw); go_simp
            simp only [List.setIfInBounds_toArray, List.set_cons_zero, List.set_cons_succ]
            refine takeH (i := 2) 167 (.pointer (some ⟨db, k, none⟩)) rfl rfl (by kernel_rfl) (by kernel_rfl) (by kernel_rfl) (fun _ _ _ h => h) (by rfl) ?_ (by assumption) ?_
            · intro w hSw; (try dsimp only at hSw); go_simp
            simp only [List.setIfInBounds_toArray, List.set_cons_zero, List.set_cons_succ]
            refine takeH (i := 3) 168 (.pointer (some ⟨rp, 0, none⟩)) rfl rfl (by kernel_rfl) (by kernel_rfl) (by kernel_rfl) (fun _ _ _ h => h) (by rfl) ?_ (by assumption) ?_
            · intro w hSw; (try dsimp only at hSw); go_simp
            simp only [List.setIfInBounds_toArray, List.set_cons_zero, List.set_cons_succ]
            refine takeH (i := 4) 169 (.pointer (some ⟨y, 0, none⟩)) rfl rfl (by kernel_rfl) (by kernel_rfl) (by kernel_rfl) (fun _ _ _ h => h) (by rfl) ?_ (by assumption) ?_
            · intro w hSw; (try dsimp only at hSw); go_simp
            simp only [List.setIfInBounds_toArray, List.set_cons_zero, List.set_cons_succ]
            refine wpAnyH_ready (rs := [5]) (by kernel_rfl) (by simp) ?_
            refine AllReadyH.cons rfl (fun K hK => ?_) AllReadyH.nil
            go_simp
            refine Y6.mono ?_; rintro e' w7 ⟨rfl, T7, xp7, yv7, Y7, R7, o7, k7⟩; rw [hd]; have oA : Oth (pm :: rp :: xp :: Y) w9 w7 := (Oth.mono o6 (fun y hy => by simp at hy; simp [hy])).trans ((Oth.below hbd).trans (Oth.mono o7 (fun y hy => List.mem_cons_of_mem _ hy))); have B7 := B6d.oth o7 npm; have TM := Team.step (t := ⟨.res x', pm, am, rp, xp7, yv7, Y7, vb, vd⟩) Q3 k4 oA (fun y hy => by rw [hfp0]; exact hy) ⟨B7, nxt, R7⟩ (by rw [HT]; rfl) (by rw [HT]; rfl) (by rw [HT]; rfl) (by rw [HT]; rfl) (fun y hy => by rw [hfp0]; (simp only [Wk.fp, List.mem_cons] at hy ⊢; rcases hy with rfl | rfl | hy; exact .inl (.inl rfl); exact .inl (.inr (.inl rfl)); rcases k7 y (by simpa using hy) with h2 | h2; exact .inl (.inr (.inr (by simpa using h2))); exact .inr (Nat.le_trans o6.size (Nat.le_trans hbd.size h2)))); have ca7 : w7.cell? ⟨cb, k, none⟩ = some (.pointer (some ⟨pm, 0, none⟩)) := (by have h := TM.cc k4; rw [updW_eq] at h; exact h); have cb7 : w7.cell? ⟨db, k, none⟩ = some (.pointer (some ⟨rp, 0, none⟩)) := (by have h := TM.dc k4; rw [updW_eq] at h; exact h); have S7 : w7.cell? ⟨cb, k, none⟩ = some (.pointer (some ⟨pm, 0, none⟩)) ∧ w7.cell? ⟨db, k, none⟩ = some (.pointer (some ⟨rp, 0, none⟩)) := ⟨ca7, cb7⟩; have m10 : w7.cell? ⟨rp, 10, none⟩ = some (.int .i64 va) := (by rw [← hva]; exact R7.blk.cell 10)
            refine hK.out _ _ S7 (fun hHeld => ?_)
            clear hK K
            try simp only [Act.put, List.setIfInBounds_toArray, List.set_cons_zero, List.set_cons_succ]
            refine takeH (i := 6) 171 (.bool false) rfl rfl (by kernel_rfl) (by kernel_rfl) (by kernel_rfl) (fun _ _ _ h => h) (by rfl) ?_ (by assumption) ?_
            · intro w hSw; (try dsimp only at hSw); go_simp
            simp only [List.setIfInBounds_toArray, List.set_cons_zero, List.set_cons_succ]
            refine takeH (i := 7) 172 (.bool false) rfl rfl (by kernel_rfl) (by kernel_rfl) (by kernel_rfl) (fun _ _ _ h => h) (by rfl) ?_ (by assumption) ?_
            · intro w hSw; (try dsimp only at hSw); go_simp
            simp only [List.setIfInBounds_toArray, List.set_cons_zero, List.set_cons_succ]
            refine takeH (i := 8) 173 (.int .i64 k) rfl rfl (by kernel_rfl) (by kernel_rfl) (by kernel_rfl) (fun _ _ _ h => h) (by rfl) ?_ (by assumption) ?_
            · intro w hSw; (try dsimp only at hSw); go_simp
            simp only [List.setIfInBounds_toArray, List.set_cons_zero, List.set_cons_succ]
            refine takeH (i := 9) 174 (.pointer (some ⟨cb, k, none⟩)) rfl rfl (by kernel_rfl) (by kernel_rfl) (by kernel_rfl) (fun _ _ _ h => h) (by rfl) ?_ (by assumption) ?_
            · intro w hSw; (try dsimp only at hSw); go_simp
            simp only [List.setIfInBounds_toArray, List.set_cons_zero, List.set_cons_succ]
            refine takeH (i := 10) 175 (.pointer (some ⟨pm, 0, none⟩)) rfl rfl (by kernel_rfl) (by kernel_rfl) (by kernel_rfl) (fun _ _ _ h => h) (by rfl) ?_ (by assumption) ?_
            · intro w hSw; (try dsimp only at hSw); go_simp
            simp only [List.setIfInBounds_toArray, List.set_cons_zero, List.set_cons_succ]
            refine takeH (i := 12) 177 (.int .i64 k) rfl rfl (by kernel_rfl) (by kernel_rfl) (by kernel_rfl) (fun _ _ _ h => h) (by rfl) ?_ (by assumption) ?_
            · intro w hSw; (try dsimp only at hSw); go_simp
            simp only [List.setIfInBounds_toArray, List.set_cons_zero, List.set_cons_succ]
            refine takeH (i := 13) 178 (.pointer (some ⟨db, k, none⟩)) rfl rfl (by kernel_rfl) (by kernel_rfl) (by kernel_rfl) (fun _ _ _ h => h) (by rfl) ?_ (by assumption) ?_
            · intro w hSw; (try dsimp only at hSw); go_simp
            simp only [List.setIfInBounds_toArray, List.set_cons_zero, List.set_cons_succ]
            refine takeH (i := 14) 179 (.pointer (some ⟨rp, 0, none⟩)) rfl rfl (by kernel_rfl) (by kernel_rfl) (by kernel_rfl) (fun _ _ _ h => h) (by rfl) ?_ (by assumption) ?_
            · intro w hSw; (try dsimp only at hSw); go_simp
            simp only [List.setIfInBounds_toArray, List.set_cons_zero, List.set_cons_succ]
            refine takeH (i := 15) 180 (.pointer (some ⟨rp, 0, none⟩)) rfl rfl (by kernel_rfl) (by kernel_rfl) (by kernel_rfl) (fun _ _ _ h => h) (by rfl) ?_ (by assumption) ?_
            · intro w hSw; (try dsimp only at hSw); go_simp
            simp only [List.setIfInBounds_toArray, List.set_cons_zero, List.set_cons_succ]
            refine takeH (i := 16) 181 (.pointer (some ⟨rp, 10, none⟩)) rfl rfl (by kernel_rfl) (by kernel_rfl) (by kernel_rfl) (fun _ _ _ h => h) (by rfl) ?_ (by assumption) ?_
            · intro w hSw; (try dsimp only at hSw); go_simp
            simp only [List.setIfInBounds_toArray, List.set_cons_zero, List.set_cons_succ]
            refine wpAnyH_ready (rs := [11, 17]) (by kernel_rfl) (by simp) ?_
            refine AllReadyH.cons rfl (fun K hK => ?_) (AllReadyH.cons rfl (fun K hK => ?_) AllReadyH.nil)
            · go_simp
              refine (oResCell B7).mono ?_; rintro e' w8 ⟨rfl, hw8⟩; rw [hw8, hva]; clear hw8 w8
              refine hK.out _ _ S7 (fun hHeld => ?_)
              clear hK K
              try simp only [Act.put, List.setIfInBounds_toArray, List.set_cons_zero, List.set_cons_succ]
              refine wpAnyH_ready (rs := [17]) (by kernel_rfl) (by simp) ?_
              refine AllReadyH.cons rfl (fun K hK => ?_) AllReadyH.nil
              go_simp
              refine hK.out _ _ S7 (fun hHeld => ?_)
              clear hK K
              try simp only [Act.put, List.setIfInBounds_toArray, List.set_cons_zero, List.set_cons_succ]
              refine takeH (i := 18) 183 (.bool false) rfl rfl (by kernel_rfl) (by kernel_rfl) (by kernel_rfl) (fun _ _ _ h => h) (by rfl) ?_ (by assumption) ?_
              · intro w hSw; (try dsimp only at hSw); go_simp
              simp only [List.setIfInBounds_toArray, List.set_cons_zero, List.set_cons_succ]
              refine takeH (i := 19) 184 (.bool false) rfl rfl (by kernel_rfl) (by kernel_rfl) (by kernel_rfl) (fun _ _ _ h => h) (by rfl) ?_ (by assumption) ?_
              · intro w hSw; (try dsimp only at hSw); go_simp
              simp only [List.setIfInBounds_toArray, List.set_cons_zero, List.set_cons_succ]
              refine wpAnyH_done (by kernel_rfl) ?_ _
              have cf7 : w7.frozen? ⟨cb, k, none⟩ = false := TM.c.free k
              rcases d with _ | _
              · go_wp2
                go_roundw
                case rel =>
                  refine ⟨j + 1, by omega, by omega, by go_num, x.mem s1, x.mem s2, _, T7.mono (by omega), ResS.mem_ws qw x, by rw [ResS.len]; exact q2, TM, fun i hi => ?_⟩
                  by_cases ei : i = k
                  · subst ei; rw [updW_eq]; have : x'.pc ≠ 0 := (by simpa using hd); show 1 ≤ x'.pc; omega
                  · rw [updW_ne _ _ ei]; exact QG i hi
                case measure => simp [intOf]; omega
              · have TN := Team.set (t := ⟨.idle, 0, 0, 0, 0, .pointer none, [], vb, .pointer (some ⟨rp, 0, none⟩)⟩) TM k4 (B := cb) (u := .pointer none) (by simp) trivial (fun y hy => by simp [Wk.fp] at hy) (by rw [updW_eq]; rw [if_neg ncab]; rfl) (by rw [updW_eq]; rw [if_neg ncbb]; rfl) (by rw [updW_eq]; exact (if_pos rfl).symm) (by rw [updW_eq]; rw [if_neg ncdb]; rfl)
                have TS := T7.set TM.c k (.pointer none)
                go_wp2
                go_roundw
                case rel =>
                  refine ⟨j + 1, by omega, by omega, by go_num, x.mem s1, x.mem s2, _, TS.mono (by omega), ResS.mem_ws qw x, by rw [ResS.len]; exact q2, TN, fun i hi => ?_⟩
                  by_cases ei : i = k
                  · subst ei; rw [updW_eq]; trivial
                  · rw [updW_ne _ _ ei, updW_ne _ _ ei]; exact QG i hi
                case measure => simp [intOf]; omega
            · go_simp
              refine hK.out _ _ S7 (fun hHeld => ?_)
              clear hK K
              try simp only [Act.put, List.setIfInBounds_toArray, List.set_cons_zero, List.set_cons_succ]
              refine wpAnyH_ready (rs := [11]) (by kernel_rfl) (by simp) ?_
              refine AllReadyH.cons rfl (fun K hK => ?_) AllReadyH.nil
              go_simp
              refine (oResCell B7).mono ?_; rintro e' w8 ⟨rfl, hw8⟩; rw [hw8, hva]; clear hw8 w8
              refine hK.out _ _ S7 (fun hHeld => ?_)
              clear hK K
              try simp only [Act.put, List.setIfInBounds_toArray, List.set_cons_zero, List.set_cons_succ]
              refine takeH (i := 18) 183 (.bool false) rfl rfl (by kernel_rfl) (by kernel_rfl) (by kernel_rfl) (fun _ _ _ h => h) (by rfl) ?_ (by assumption) ?_
              · intro w hSw; (try dsimp only at hSw); go_simp
              simp only [List.setIfInBounds_toArray, List.set_cons_zero, List.set_cons_succ]
              refine takeH (i := 19) 184 (.bool false) rfl rfl (by kernel_rfl) (by kernel_rfl) (by kernel_rfl) (fun _ _ _ h => h) (by rfl) ?_ (by assumption) ?_
              · intro w hSw; (try dsimp only at hSw); go_simp
              simp only [List.setIfInBounds_toArray, List.set_cons_zero, List.set_cons_succ]
              refine wpAnyH_done (by kernel_rfl) ?_ _
              have cf7 : w7.frozen? ⟨cb, k, none⟩ = false := TM.c.free k
              rcases d with _ | _
              · go_wp2
                go_roundw
                case rel =>
                  refine ⟨j + 1, by omega, by omega, by go_num, x.mem s1, x.mem s2, _, T7.mono (by omega), ResS.mem_ws qw x, by rw [ResS.len]; exact q2, TM, fun i hi => ?_⟩
                  by_cases ei : i = k
                  · subst ei; rw [updW_eq]; have : x'.pc ≠ 0 := (by simpa using hd); show 1 ≤ x'.pc; omega
                  · rw [updW_ne _ _ ei]; exact QG i hi
                case measure => simp [intOf]; omega
              · have TN := Team.set (t := ⟨.idle, 0, 0, 0, 0, .pointer none, [], vb, .pointer (some ⟨rp, 0, none⟩)⟩) TM k4 (B := cb) (u := .pointer none) (by simp) trivial (fun y hy => by simp [Wk.fp] at hy) (by rw [updW_eq]; rw [if_neg ncab]; rfl) (by rw [updW_eq]; rw [if_neg ncbb]; rfl) (by rw [updW_eq]; exact (if_pos rfl).symm) (by rw [updW_eq]; rw [if_neg ncdb]; rfl)
                have TS := T7.set TM.c k (.pointer none)
                go_wp2
                go_roundw
                case rel =>
                  refine ⟨j + 1, by omega, by omega, by go_num, x.mem s1, x.mem s2, _, TS.mono (by omega), ResS.mem_ws qw x, by rw [ResS.len]; exact q2, TN, fun i hi => ?_⟩
                  by_cases ei : i = k
                  · subst ei; rw [updW_eq]; trivial
                  · rw [updW_ne _ _ ei, updW_ne _ _ ei]; exact QG i hi
                case measure => simp [intOf]; omega
    case neg =>
      by_cases hj1 : j < len
      · have hj2 : ¬ j < 300 := fun h => hjn ⟨hj1, h⟩
        go_wp2_with (go_at_call 18; refine (cSame q1 qw q2 (by omega) (by omega)).mono ?_; rintro e w8 ⟨rfl, hb8⟩; have q9 := q1.below hb8; clear hb8)
        go_ret
        exact ⟨rfl, bel_trans hba q9.bel⟩
      · go_wp2_with (go_at_call 18; refine (cSame q1 qw q2 (by omega) (by omega)).mono ?_; rintro e w8 ⟨rfl, hb8⟩; have q9 := q1.below hb8; clear hb8)
        go_ret
        exact ⟨rfl, bel_trans hba q9.bel⟩
end Go.Proofs.YtbojljkdpebheaaGreatDoor
