/-
  AllocOwn, walked.
-/
import Derived.Test.YtbojljkdpebheaaDoorGw
import Derived.Test.YtbojljkdpebheaaDoorOi
import Derived.Deep.Cut
import Derived.OwnWalk
import Derived.OneCell
namespace Go.Proofs.YtbojljkdpebheaaDoor
set_option linter.unusedVariables false
set_option maxRecDepth 100000
open Go.ChangeShapes Go.WideShapes Go.RowKit
open S.Plain (t0 t1 tw nx bw b3)
open H.Plain (hw pL pS pC pN pM pG pT)
theorem infoB : (Tryd.prog.info? 4).map (fun i => (i.zero, i.size, i.bytes)) = some (some (.bool false), 1, 1) := by kernel_rfl
theorem alloc_size (w : World) (o : Obj) : (w.alloc o).heap.size = w.heap.size + 1 := by simp
theorem of_hw {c m : Int} (c0 : 0 ≤ c) (c1 : c ≤ 1) (m0 : 0 ≤ m) (m1 : m ≤ 7) : pS (hw 1 c m 1 0 0 0) = 1 ∧ pC (hw 1 c m 1 0 0 0) = c ∧ pN (hw 1 c m 1 0 0 0) = m ∧ pM (hw 1 c m 1 0 0 0) = 1 ∧ pG (hw 1 c m 1 0 0 0) = 0 ∧ pT (hw 1 c m 1 0 0 0) = 0 ∧ pL (hw 1 c m 1 0 0 0) = 0 := by
  unfold H.Plain.pS H.Plain.pC H.Plain.pN H.Plain.pM H.Plain.pG H.Plain.pT H.Plain.pL H.Plain.hw
  omega
theorem new_go (q : Pl) (m e : Int) (s : St) : ((AllS.new q m 1 e).next s).pc ≠ 0 := by
  have h1 : ∀ c : Int, ((ResS.new q c e).next s).pc ≠ 0 := fun c => by
    by_cases z : t0 (s.got (3 + 3 * e + c)) = 0
    · have ep : PopS.next ⟨3 + 3 * e + c, 0, 0, 1⟩ s = ⟨3 + 3 * e + c, 0, s.got (3 + 3 * e + c), 0⟩ := by simp only [PopS.next, if_pos z]
      simp only [ResS.next, ResS.new, PopS.new, ep, z, if_true]
      decide
    · have ep : PopS.next ⟨3 + 3 * e + c, 0, 0, 1⟩ s = ⟨3 + 3 * e + c, 0, s.got (3 + 3 * e + c), 2⟩ := by simp only [PopS.next, if_neg z]
      simp only [ResS.next, ResS.new, PopS.new, ep]
      rw [if_neg (show ¬ (2 : Nat) = 0 by decide)]
      simp
  have e2 : (AllS.new q m 1 e).next s = { AllS.new q m 1 e with res := (ResS.new q (P.Plain.cl m) e).next s } := by
    simp only [AllS.next, AllS.new]
    exact if_neg (h1 (P.Plain.cl m))
  rw [e2]
  simp [AllS.new]
theorem Look.mono {w6 w : World} {F : List Nat} {c N N' : Nat} {s : St} (h : Look w6 w F c s N) (hN : N ≤ N') : Look w6 w F c s N' := ⟨h.at_, h.kept, h.old, h.fit, by have := h.top; omega, h.rng⟩
/-- the marks that were just made -/
theorem made_marks {u v : World} {n : Nat} (hown : v.ownsRow 0 4 1 (.slice (some ⟨u.heap.size, 0, none⟩) n n) n (madeCells #[Value.bool false] n).toList) (hg : u.grownBy v none) : v.heap[u.heap.size]? = some (.cells (marks n fun _ => false) 4 (0, 0)) ∧ Below u.heap.size u v := by
  have hv : Below u.heap.size u v := (Below.refl _ _).grown hg (Nat.le_refl _) fun k hk => by cases hk
  refine ⟨?_, hv⟩
  rcases hown.2 with ⟨h', _⟩ | ⟨g, cp, cur, h', _, hgc, r1, r2, r3, r4⟩
  · simp at h'
  · simp only [Value.slice.injEq, Option.some.injEq, Addr.mk.injEq, and_true, true_and] at h'
    obtain ⟨rfl, rfl⟩ := h'
    rw [hgc]
    have e : cur.toList = (madeCells #[Value.bool false] n).toList := by
      rw [← r4, List.take_of_length_le (by simp; omega)]
    rw [toList_madeCells_one] at e
    have e2 : (marks n fun _ => false).toList = List.replicate n (Value.bool false) := by
      apply List.ext_getElem?
      intro i
      by_cases hn : i < n
      · have := marks_at n (fun _ => false) i hn
        rw [Array.getElem?_toList, this]
        simp [hn]
      · rw [Array.getElem?_toList, show (marks n fun _ => false)[i]? = none by simp [marks]; omega]
        simp
        omega
    have e3 : cur = marks n fun _ => false := by apply Array.ext'; rw [e, e2]
    rw [e3]
set_option maxHeartbeats 8000000 in
theorem wAllocOwn (a : Int) (ao : Option Addr) (len cap : Nat) (z : Nat → Int) (ha : -9223372036854775808 ≤ a) (ha' : a ≤ 9223372036854775807) (w : World) (W : Laid w) (hl : CameI w ao len z) :
    Calls Tryd.prog 3 #[.int .i64 a, .slice ao len cap] w fun e w' => e = .returned (.bool true) ∧ Below w.heap.size w w' := by
  have ka := kd_bounds a 4 (by decide)
  obtain ⟨n, hn⟩ : ∃ n : Nat, 1 + kd a 4 = n := ⟨(1 + kd a 4).toNat, by omega⟩
  have n1 : 1 ≤ n := by omega
  have n4 : n ≤ 4 := by omega
  clear ka
  have pok := mkPl_ok (t := 4) (n := n) (by decide) (by omega)
  have hS : szN 4 n = 32 + 32 * n := by unfold szN; rw [hp32 n4]
  obtain ⟨i0, hi, hz0, hz1, hz2⟩ := info_parts infoB
  go_enter Tryd.func3, Tryd.ntmps3
  go_upto_region 6 with (first
    | (go_at_call 7; refine (cShown _ W).mono ?_; rintro e w1 ⟨rfl, hb1⟩)
    | (go_at_call_of 9 (Value.int .i64 4); refine (cKind _ a 4 ha ha' (by decide)).mono ?_; rintro e wx ⟨rfl, hwx⟩; rw [hwx]; clear hwx wx)
    | (go_at_call 8; refine (kRNew' (t := 4) (n := n) rfl rfl (by decide) (by decide) n1 (by omega) _).mono ?_; rintro e w2 ⟨rfl, hb2⟩; have hba : Below w.heap.size w (w2.alloc (.cells (mkPl 4 n).cells 25)) := S.bal (bel_trans hb1 hb2) _; have hBa : PB w (w2.alloc (.cells (mkPl 4 n).cells 25)) w2.heap.size (mkPl 4 n) := Blk.new (bel_trans hb1 hb2).size _ (by decide))
    | (go_at_call 10; refine (cFr (t := 4) (n := n) (by decide) n1 (by omega) _ (W.on hba)).mono ?_; rintro e w3 ⟨b, y, rfl, h3⟩; obtain ⟨s0, h4, hws, ht0⟩ := fresh_hand h3; clear h3))
  rw [hS] at h4
  obtain ⟨o, ho⟩ : ∃ o, w2.heap.size = o := ⟨_, rfl⟩
  rw [ho] at hBa ⊢
  clear ho hb1 hb2
  generalize w2.alloc (.cells (mkPl 4 n).cells 25) = wv at h4 hba hBa
  have olt : o < wv.heap.size := lt_of_block hBa.at_
  have P0 := hBa.box.c0
  have P1 := hBa.box.c1
  have P2 := hBa.box.c2
  have P3 : wv.cell? ⟨o, 3, none⟩ = some (.int .i64 32) := by have := hBa.box.c3; rw [this]; simp only [mkPl, hp32 n4]; rfl
  obtain ⟨K, hK⟩ : ∃ K : Nat, 32 + 32 * n = K := ⟨_, rfl⟩
  have P4 : wv.cell? ⟨o, 4, none⟩ = some (.int .i64 K) := by have := hBa.box.c4; rw [this]; simp only [mkPl, hS, hK]
  rw [hK] at h4
  have K160 : K ≤ 160 := by omega
  have K64 : 64 ≤ K := by omega
  have p4 := (h4.bel.cell olt).trans P4
  obtain ⟨G0, D0⟩ := game_start n1 n4 hws ht0
  go_wp2_with (at_make; refine wpList_make_full _ rfl _ _ 34 rfl 0 4 i0 (.bool false) 1 Tryd.underlying34 hi hz0 hz1 .i64 .i64 K K K rfl rfl rfl rfl ?b2 ?b3 ?b4 ?_)
  case b2 => omega
  case b3 => unfold maxLen; omega
  intro v hown hg
  obtain ⟨Ko, hbv⟩ := made_marks hown hg
  clear hown hg hi hz0 hz1 hz2
  go_wp2
  have gv : Below v.heap.size v (((v.alloc (.cells #[.pointer none, .pointer none, .pointer none, .pointer none] 36)).alloc (.cells #[.int .i64 0, .int .i64 0, .int .i64 0, .int .i64 0] 37)).alloc (.cells #[.bool false, .bool false, .bool false, .bool false] 38)) := S.bal (S.bal (S.bal (Below.refl _ _) _) _) _
  have Ka : (((v.alloc (.cells #[.pointer none, .pointer none, .pointer none, .pointer none] 36)).alloc (.cells #[.int .i64 0, .int .i64 0, .int .i64 0, .int .i64 0] 37)).alloc (.cells #[.bool false, .bool false, .bool false, .bool false] 38)).heap[v.heap.size]? = some (.cells #[.pointer none, .pointer none, .pointer none, .pointer none] 36 (0, 0)) := (((S.bal (S.bal (Below.refl _ _) _) _).block _ (by simp)).trans (heap_alloc_new _ _))
  have Kn : (((v.alloc (.cells #[.pointer none, .pointer none, .pointer none, .pointer none] 36)).alloc (.cells #[.int .i64 0, .int .i64 0, .int .i64 0, .int .i64 0] 37)).alloc (.cells #[.bool false, .bool false, .bool false, .bool false] 38)).heap[v.heap.size + 1]? = some (.cells #[.int .i64 0, .int .i64 0, .int .i64 0, .int .i64 0] 37 (0, 0)) := by
    have h := heap_alloc_new (v.alloc (.cells #[.pointer none, .pointer none, .pointer none, .pointer none] 36)) (.cells #[.int .i64 0, .int .i64 0, .int .i64 0, .int .i64 0] 37)
    simp only [alloc_size] at h
    exact ((S.bal (Below.refl ((v.alloc (.cells #[.pointer none, .pointer none, .pointer none, .pointer none] 36)).alloc (.cells #[.int .i64 0, .int .i64 0, .int .i64 0, .int .i64 0] 37)).heap.size _) _).block _ (by simp)).trans h
  have Ke : (((v.alloc (.cells #[.pointer none, .pointer none, .pointer none, .pointer none] 36)).alloc (.cells #[.int .i64 0, .int .i64 0, .int .i64 0, .int .i64 0] 37)).alloc (.cells #[.bool false, .bool false, .bool false, .bool false] 38)).heap[v.heap.size + 1 + 1]? = some (.cells #[.bool false, .bool false, .bool false, .bool false] 38 (0, 0)) := by
    have h := heap_alloc_new ((v.alloc (.cells #[.pointer none, .pointer none, .pointer none, .pointer none] 36)).alloc (.cells #[.int .i64 0, .int .i64 0, .int .i64 0, .int .i64 0] 37)) (.cells #[.bool false, .bool false, .bool false, .bool false] 38)
    simp only [alloc_size] at h
    exact h
  have bsz := h4.bel.size
  have vsz := hbv.size
  have C5 : Crew wv (((v.alloc (.cells #[.pointer none, .pointer none, .pointer none, .pointer none] 36)).alloc (.cells #[.int .i64 0, .int .i64 0, .int .i64 0, .int .i64 0] 37)).alloc (.cells #[.bool false, .bool false, .bool false, .bool false] 38)) w3.heap.size v.heap.size (v.heap.size + 1) (v.heap.size + 1 + 1) K _ _ _ _ _ := Crew.start ⟨(gv.block _ (lt_of_block Ko)).trans Ko, bsz, by decide⟩ ⟨Ka, by omega, by decide⟩ ⟨Kn, by omega, by decide⟩ ⟨Ke, by omega, by decide⟩
  have h5 := (h4.below hbv).below gv
  clear Ka Kn Ke Ko gv hbv h4 p4
  obtain ⟨ob, hob⟩ : ∃ x, w3.heap.size = x := ⟨_, rfl⟩
  obtain ⟨ab, hab⟩ : ∃ x, v.heap.size = x := ⟨_, rfl⟩
  obtain ⟨nb, hnb⟩ : ∃ x, v.heap.size + 1 = x := ⟨_, rfl⟩
  obtain ⟨eb, heb⟩ : ∃ x, v.heap.size + 1 + 1 = x := ⟨_, rfl⟩
  rw [heb, hnb, hab, hob] at C5
  generalize (((v.alloc (.cells #[.pointer none, .pointer none, .pointer none, .pointer none] 36)).alloc (.cells #[.int .i64 0, .int .i64 0, .int .i64 0, .int .i64 0] 37)).alloc (.cells #[.bool false, .bool false, .bool false, .bool false] 38)) = w5 at C5 h5 ⊢
  rw [heb, hnb, hab, hob]
  clear heb hnb hab hob bsz vsz
  go_loopw [14] (fun i wr => ∃ j : Nat, j ≤ 500 ∧ j ≤ len ∧ i = .int .i64 j ∧ ∃ E f jb pp ct em, Hand wv wr b E.s (1000 + j) ∧ Game n E j jb ∧ Told n E f ∧ Crew wv wr ob ab nb eb K f jb pp ct em) (fun i _ => 500 - (intOf i).toNat)
  case atStart => exact ⟨0, Nat.zero_le _, Nat.zero_le _, rfl, _, _, _, _, _, _, h5.mono (by omega), G0, D0, C5⟩
  case round =>
    clear h5 C5 G0 D0 hws ht0 s0
    obtain ⟨j, hj, hjl, rfl, E, f, jb, pp, ct, em, q1, qG, qD, qC⟩ := hrel
    by_cases hjn : j < len ∧ j < 500
    case pos =>
      obtain ⟨hj1, hj2⟩ := hjn
      obtain ⟨cc, off, rfl, hcb, hcell⟩ := hl.resolve_left (by omega)
      obtain ⟨hcj, hz1, hz2⟩ := hcell j hj1
      have hcj' : wr.cell? ⟨cc, off + j, none⟩ = some (.int .i64 (z j)) := ((bel_trans hba q1.bel).cell hcb).trans hcj
      obtain ⟨q, hq, hq8⟩ : ∃ q : Nat, kd (z j) 32 = q ∧ (q : Int) < 32 := kd_nat (z j) 32 (by decide)
      obtain ⟨k, hk⟩ : ∃ k : Nat, q % 4 = k := ⟨_, rfl⟩
      have k4 : k < 4 := by omega
      have hk' : (q : Int) % 4 = (k : Int) := by omega
      have ki0 : (0 : Int) ≤ k := by omega
      have ki4 : (k : Int) < 4 := by omega
      have d1 : decide ((j : Int) < len) = true := decide_eq_true (by omega)
      have d2 : decide ((j : Int) < 500) = true := decide_eq_true (by omega)
      have ka := qC.ac k4
      have kn := qC.nc k4
      have ke := qC.ec k4
      clear hcell hcj
      rcases hjb : jb k with _ | x
      · as_aux_lemma =>
          rw [hjb] at ka
          change wr.cell? ⟨ab, k, none⟩ = some (.pointer none) at ka
          obtain ⟨nn, hnn⟩ : ∃ nn, (q : Int) / 4 = nn := ⟨_, rfl⟩
          have n0 : 0 ≤ nn := by omega
          have n7 : nn ≤ 7 := by omega
          have p0' := (q1.bel.cell olt).trans hBa.box.c0
          have p1' := (q1.bel.cell olt).trans hBa.box.c1
          have p2' := (q1.bel.cell olt).trans hBa.box.c2
          have p3' := (q1.bel.cell olt).trans hBa.box.c3
          have p4' := (q1.bel.cell olt).trans hBa.box.c4
          clear P3 P4
          obtain ⟨c, _, J⟩ := aj_new (m := nn) qG.W n0 n7 k
          have hng := new_go (mkPl 4 n) nn 0 E.s
          go_wp2_with (first
            | (go_at_call 9; refine (cKind _ (z j) 32 hz1 hz2 (by decide)).mono ?_; rintro e w6 ⟨rfl, hw6⟩; rw [hw6, hq]; clear hw6 w6)
            | (go_at_call 11; refine (hNewAll q1 (mkPl 4 n) (n := nn) (m := 1) (e := 0) n0 n7 (by decide) (by decide)).mono ?_; rintro e' w6 ⟨p0, rfl, T6, B6, hb6, lp⟩; have M6 := qC.below hb6; have a6 : w6.cell? ⟨ab, k, none⟩ = some (.pointer none) := (by have h := M6.ac k4; rw [hjb] at h; exact h); have af6 := M6.a.free k; have oA : Oth [ab] w6 (w6.setCell ⟨ab, k, none⟩ (.pointer (some ⟨p0, 0, none⟩))) := Oth.set _ _ _ _ (by simp); have nB := M6.n.oth oA (by simpa using M6.n.ne' M6.a (by decide)); have n7' : (w6.setCell ⟨ab, k, none⟩ (.pointer (some ⟨p0, 0, none⟩))).cell? ⟨nb, k, none⟩ = some (.int .i64 (ct k)) := (nB.cell k).trans (row4_get _ k4); have nf7 := nB.free k; have oN : Oth [nb] (w6.setCell ⟨ab, k, none⟩ (.pointer (some ⟨p0, 0, none⟩))) ((w6.setCell ⟨ab, k, none⟩ (.pointer (some ⟨p0, 0, none⟩))).setCell ⟨nb, k, none⟩ (.int .i64 nn)) := Oth.set _ _ _ _ (by simp); have eB := (M6.e.oth oA (by simpa using M6.e.ne' M6.a (by decide))).oth oN (by simpa using M6.e.ne' M6.n (by decide)); have e8 : ((w6.setCell ⟨ab, k, none⟩ (.pointer (some ⟨p0, 0, none⟩))).setCell ⟨nb, k, none⟩ (.int .i64 nn)).cell? ⟨eb, k, none⟩ = some (.bool (em k)) := (eB.cell k).trans (row4_get _ k4); have ef8 := eB.free k; have QC := qC.begin k4 hb6 B6 (AllS.ok_new pok n0 n7 (by decide) (by decide)) (m := nn) rfl lp; have Q1 := ((T6.set M6.a k (.pointer (some ⟨p0, 0, none⟩))).set nB k (.int .i64 nn)).set eB k (.bool false); have a9 : (((w6.setCell ⟨ab, k, none⟩ (.pointer (some ⟨p0, 0, none⟩))).setCell ⟨nb, k, none⟩ (.int .i64 nn)).setCell ⟨eb, k, none⟩ (.bool false)).cell? ⟨ab, k, none⟩ = some (.pointer (some ⟨p0, 0, none⟩)) := (by have h := QC.ac k4; rw [upd_eq, upd_eq] at h; exact h)))
          have QG : Game n E j (upd jb k (some (AllS.new (mkPl 4 n) nn 1 0))) := ⟨qG.W, fun i hi y hy => by
            by_cases ei : i = k
            · subst ei; rw [upd_eq] at hy; obtain rfl := Option.some.inj hy; exact ⟨c, J⟩
            · rw [upd_ne _ _ ei] at hy; exact qG.job i hi y hy⟩
          have JBK := upd_eq jb k (some (AllS.new (mkPl 4 n) nn 1 0))
          have ppk := upd_eq pp k p0
          clear T6 B6 M6 a6 af6 nB n7' nf7 eB e8 ef8 oA oN p0' p1' p2' p3' p4' hb6 lp qC q1 qG hjb
          generalize upd jb k (some (AllS.new (mkPl 4 n) nn 1 0)) = JB at QC QG JBK
          generalize upd pp k p0 = PP at QC ppk
          generalize upd ct k nn = CT at QC
          generalize upd em k false = EM at QC
          generalize AllS.new (mkPl 4 n) nn 1 0 = x at JBK J hng
          generalize (((w6.setCell ⟨ab, k, none⟩ (.pointer (some ⟨p0, 0, none⟩))).setCell ⟨nb, k, none⟩ (.int .i64 nn)).setCell ⟨eb, k, none⟩ (.bool false)) = w9 at QC Q1 a9 ⊢
          rw [← ppk] at a9 ⊢
          clear ppk
          have x0ok := (QC.m k k4 x JBK).2.1
          have xB := (QC.m k k4 x JBK).1
          have xct := (QC.m k k4 x JBK).2.2
          have nxt : (x.next E.s).Ok := x0ok.next Q1.rng
          have jc := J.cc
          have jc2 := J.c2
          have jn0 := J.n0
          have jn1 := J.n1
          rw [xct] at jc jn0 jn1
          obtain ⟨m, hm⟩ : ∃ m, CT k = m := ⟨_, rfl⟩
          rw [hm] at jc jn0 jn1 xct
          have jm7 : m ≤ 7 := by rcases wc jc2 with ⟨_, e, _⟩ | ⟨_, e, _⟩ <;> rw [e] at jn1 <;> omega
          obtain ⟨p, hpp⟩ : ∃ p, PP k = p := ⟨_, rfl⟩
          obtain ⟨Hd, hH⟩ : ∃ Hd, 3 + 3 * 0 + (c : Int) = Hd := ⟨_, rfl⟩
          have hHc : Hd = 3 + (c : Nat) := by omega
          obtain ⟨b0, hb0⟩ : ∃ b0, EM k = b0 := ⟨_, rfl⟩
          obtain ⟨x', hx⟩ : ∃ x', x.next E.s = x' := ⟨_, rfl⟩
          rw [hx] at nxt
          have LL := fun w' => P.rList 0 c (by decide) (by decide) (by omega) (by omega) w'
          simp only [hH] at LL
          have hcnt0 : ∀ y : AllS, y = x.next E.s → y.cnt = x.cnt := fun y hy => by rw [hy]; unfold AllS.next; split <;> (try split) <;> (try split) <;> rfl
          have hcnt : (x.next E.s).cnt = x.cnt := hcnt0 _ rfl
          have rg : ∀ {E' : Env}, E'.s = x.mem E.s → E'.s.Rng := fun h => by rw [h]; exact AllS.rng x0ok Q1.rng
          clear ka kn ke
          cases all_step QG.W (by omega) k4 J with
          | go E' SS pz J' hc' =>
            as_aux_lemma =>
              have hs' := SS.s
              have W' := SS.W
              have rg := rg hs'
              rw [hx] at pz J'
              have hdn : (x'.pc == 0) = false := by simpa using pz
              obtain ⟨v1, hv1'⟩ : ∃ v1, E'.s.word (3 + (c : Nat)) = v1 := ⟨_, rfl⟩
              obtain ⟨v2, hv2'⟩ : ∃ v2, E'.s.word 2 = v2 := ⟨_, rfl⟩
              have hin1 : E'.s.In (3 + (c : Nat)) := W'.inL (by omega) (by omega)
              have hin2 : E'.s.In 2 := W'.fr.two
              have hv1 : E'.s.got Hd = v1 := by rw [hHc, hin1.got, hv1']
              have hv2 : (E'.s.load Hd).got 2 = v2 := (got_ws (s := E'.s) (s' := E'.s.load Hd) rfl 2).trans (by rw [hin2.got, hv2'])
              have u1 : U64 v1 := by rw [← hv1]; exact rg.got Hd
              have u2 : U64 v2 := by rw [← hv2]; exact (rg.load Hd).got 2
              have ff1 := ftop0 (t0 v1) (t1 v1)
              have ff2 := ftop0 (t0 v2) (t1 v2)
              clear hHc
              go_wp2_with (first
                | (go_at_call 12; refine (oAll Q1 xB x0ok (by omega)).mono ?_; rintro e' w6 ⟨rfl, T6, B6, o6⟩; rw [hx] at B6 ⊢; rw [hdn]; have C6 := QC.step k4 JBK B6 nxt (by rw [← hx]; exact hcnt) o6; rw [← hs'] at T6; rw [hpp] at B6)
                | (go_at_call 13; refine (hClone T6).mono ?_; rintro e' w7 ⟨cl, rfl, q7⟩; have K7 : Look w6 w7 [ob, ab, eb] cl E'.s _ := Look.of q7 (fun y hy => by simp only [List.mem_cons, List.not_mem_nil, or_false] at hy; rcases hy with rfl | rfl | rfl; exact C6.o.lt; exact C6.a.lt; exact C6.e.lt); have C7 := C6.below q7.bel; have n7 : w7.cell? ⟨nb, k, none⟩ = some (.int .i64 m) := (by have h := C7.nc k4; rw [hm] at h; exact h))
                | (go_at_call 17; refine (P.rClass m _).mono ?_; rintro e' wx ⟨rfl, hwx⟩; rw [hwx, jc]; clear hwx wx)
                | (go_at_call 16; refine (LL _).mono ?_; rintro e' wx ⟨rfl, hwx⟩; rw [hwx]; clear hwx wx)
                | (go_at_call_of 15 (Value.int .i64 Hd); refine (K7.load (by omega) Hd).mono ?_; rintro e' w8 ⟨rfl, K8, o8⟩; rw [hv1]; have C8 := C7.oth0 o8)
                | (go_at_call_of 14 (Value.int .u64 v1); refine (S.rOfTop v1 u1.1 u1.2 _).mono ?_; rintro e' w9 ⟨rfl, hw9⟩; have hb9 : Below w8.heap.size w8 w9 := (by rw [hw9]; exact S.bal (Below.refl _ _) _); clear hw9; have K9 := K8.below hb9; have C9 := C8.below hb9)
                | (go_at_call_of 15 (Value.int .i64 2); refine (K9.load (by omega) 2).mono ?_; rintro e' w10 ⟨rfl, K10, o10⟩; rw [hv2]; have C10 := C9.oth0 o10)
                | (have hh10 := C10; go_at_call_of 14 (Value.int .u64 v2); refine (S.rOfTop v2 u2.1 u2.2 _).mono ?_; rintro e' w11 ⟨rfl, hw11⟩; have hb11 : Below w10.heap.size w10 w11 := (by rw [hw11]; exact S.bal (Below.refl _ _) _); clear hw11; have K11 := K10.below hb11; have C11 := C10.below hb11; have e11 : w11.cell? ⟨eb, k, none⟩ = some (.bool b0) := (by have h := C11.ec k4; rw [hb0] at h; exact h); have ef11 := C11.e.free k))
              all_goals
                go_roundw
                case rel =>
                  exact ⟨j + 1, by omega, by omega, by go_num, E', f, _, PP, CT, _, (K11.set (p := eb) (by simp) k _).main (T6.mono (by omega)) C6, QG.turn k4 W' SS.T (fun y hy => by obtain rfl := Option.some.inj hy; exact ⟨c, J'⟩), qD.keep QG.W SS.T SS.six, C11.setE k4 _⟩
                case measure => simp [intOf]; omega
          | no E' SS pz zc z1 z2 =>
            exact absurd pz hng
          | got E' hs' W' T pz qq six oo zq kc zf zh =>
            exact absurd pz hng
      · as_aux_lemma =>
          obtain ⟨c, J⟩ := qG.job k k4 x hjb
          rw [hjb] at ka
          change wr.cell? ⟨ab, k, none⟩ = some (.pointer (some ⟨pp k, 0, none⟩)) at ka
          go_wp2_with (go_at_call 9; refine (cKind _ (z j) 32 hz1 hz2 (by decide)).mono ?_; rintro e w6 ⟨rfl, hw6⟩; rw [hw6, hq]; clear hw6 w6)
          have x0ok := (qC.m k k4 x hjb).2.1
          have xB := (qC.m k k4 x hjb).1
          have xct := (qC.m k k4 x hjb).2.2
          have nxt : (x.next E.s).Ok := x0ok.next q1.rng
          have jc := J.cc
          have jc2 := J.c2
          have jn0 := J.n0
          have jn1 := J.n1
          rw [xct] at jc jn0 jn1
          obtain ⟨m, hm⟩ : ∃ m, ct k = m := ⟨_, rfl⟩
          rw [hm] at jc jn0 jn1 xct
          have jm7 : m ≤ 7 := by rcases wc jc2 with ⟨_, e, _⟩ | ⟨_, e, _⟩ <;> rw [e] at jn1 <;> omega
          obtain ⟨p, hpp⟩ : ∃ p, pp k = p := ⟨_, rfl⟩
          obtain ⟨Hd, hH⟩ : ∃ Hd, 3 + 3 * 0 + (c : Int) = Hd := ⟨_, rfl⟩
          have hHc : Hd = 3 + (c : Nat) := by omega
          obtain ⟨b0, hb0⟩ : ∃ b0, em k = b0 := ⟨_, rfl⟩
          obtain ⟨x', hx⟩ : ∃ x', x.next E.s = x' := ⟨_, rfl⟩
          rw [hx] at nxt
          have LL := fun w' => P.rList 0 c (by decide) (by decide) (by omega) (by omega) w'
          simp only [hH] at LL
          have hcnt0 : ∀ y : AllS, y = x.next E.s → y.cnt = x.cnt := fun y hy => by rw [hy]; unfold AllS.next; split <;> (try split) <;> (try split) <;> rfl
          have hcnt : (x.next E.s).cnt = x.cnt := hcnt0 _ rfl
          have rg : ∀ {E' : Env}, E'.s = x.mem E.s → E'.s.Rng := fun h => by rw [h]; exact AllS.rng x0ok q1.rng
          clear ka kn ke
          cases all_step qG.W (by omega) k4 J with
          | go E' SS pz J' hc' =>
            as_aux_lemma =>
              have hs' := SS.s
              have W' := SS.W
              have rg := rg hs'
              rw [hx] at pz J'
              have hdn : (x'.pc == 0) = false := by simpa using pz
              obtain ⟨v1, hv1'⟩ : ∃ v1, E'.s.word (3 + (c : Nat)) = v1 := ⟨_, rfl⟩
              obtain ⟨v2, hv2'⟩ : ∃ v2, E'.s.word 2 = v2 := ⟨_, rfl⟩
              have hin1 : E'.s.In (3 + (c : Nat)) := W'.inL (by omega) (by omega)
              have hin2 : E'.s.In 2 := W'.fr.two
              have hv1 : E'.s.got Hd = v1 := by rw [hHc, hin1.got, hv1']
              have hv2 : (E'.s.load Hd).got 2 = v2 := (got_ws (s := E'.s) (s' := E'.s.load Hd) rfl 2).trans (by rw [hin2.got, hv2'])
              have u1 : U64 v1 := by rw [← hv1]; exact rg.got Hd
              have u2 : U64 v2 := by rw [← hv2]; exact (rg.load Hd).got 2
              have ff1 := ftop0 (t0 v1) (t1 v1)
              have ff2 := ftop0 (t0 v2) (t1 v2)
              clear hHc
              go_wp2_with (first
                | (go_at_call 12; refine (oAll q1 xB x0ok (by omega)).mono ?_; rintro e' w6 ⟨rfl, T6, B6, o6⟩; rw [hx] at B6 ⊢; rw [hdn]; have C6 := qC.step k4 hjb B6 nxt (by rw [← hx]; exact hcnt) o6; rw [← hs'] at T6; rw [hpp] at B6)
                | (go_at_call 13; refine (hClone T6).mono ?_; rintro e' w7 ⟨cl, rfl, q7⟩; have K7 : Look w6 w7 [ob, ab, eb] cl E'.s _ := Look.of q7 (fun y hy => by simp only [List.mem_cons, List.not_mem_nil, or_false] at hy; rcases hy with rfl | rfl | rfl; exact C6.o.lt; exact C6.a.lt; exact C6.e.lt); have C7 := C6.below q7.bel; have n7 : w7.cell? ⟨nb, k, none⟩ = some (.int .i64 m) := (by have h := C7.nc k4; rw [hm] at h; exact h))
                | (go_at_call 17; refine (P.rClass m _).mono ?_; rintro e' wx ⟨rfl, hwx⟩; rw [hwx, jc]; clear hwx wx)
                | (go_at_call 16; refine (LL _).mono ?_; rintro e' wx ⟨rfl, hwx⟩; rw [hwx]; clear hwx wx)
                | (go_at_call_of 15 (Value.int .i64 Hd); refine (K7.load (by omega) Hd).mono ?_; rintro e' w8 ⟨rfl, K8, o8⟩; rw [hv1]; have C8 := C7.oth0 o8)
                | (go_at_call_of 14 (Value.int .u64 v1); refine (S.rOfTop v1 u1.1 u1.2 _).mono ?_; rintro e' w9 ⟨rfl, hw9⟩; have hb9 : Below w8.heap.size w8 w9 := (by rw [hw9]; exact S.bal (Below.refl _ _) _); clear hw9; have K9 := K8.below hb9; have C9 := C8.below hb9)
                | (go_at_call_of 15 (Value.int .i64 2); refine (K9.load (by omega) 2).mono ?_; rintro e' w10 ⟨rfl, K10, o10⟩; rw [hv2]; have C10 := C9.oth0 o10)
                | (have hh10 := C10; go_at_call_of 14 (Value.int .u64 v2); refine (S.rOfTop v2 u2.1 u2.2 _).mono ?_; rintro e' w11 ⟨rfl, hw11⟩; have hb11 : Below w10.heap.size w10 w11 := (by rw [hw11]; exact S.bal (Below.refl _ _) _); clear hw11; have K11 := K10.below hb11; have C11 := C10.below hb11; have e11 : w11.cell? ⟨eb, k, none⟩ = some (.bool b0) := (by have h := C11.ec k4; rw [hb0] at h; exact h); have ef11 := C11.e.free k))
              all_goals
                go_roundw
                case rel =>
                  exact ⟨j + 1, by omega, by omega, by go_num, E', f, _, pp, ct, _, (K11.set (p := eb) (by simp) k _).main (T6.mono (by omega)) C6, qG.turn k4 W' SS.T (fun y hy => by obtain rfl := Option.some.inj hy; exact ⟨c, J'⟩), qD.keep qG.W SS.T SS.six, C11.setE k4 _⟩
                case measure => simp [intOf]; omega
          | no E' SS pz zc z1 z2 =>
            as_aux_lemma =>
              have hs' := SS.s
              have W' := SS.W
              have rg := rg hs'
              rw [hx] at pz zc
              have hdn : (x'.pc == 0) = true := by simpa using pz
              obtain ⟨v1, hv1'⟩ : ∃ v1, E'.s.word (3 + (c : Nat)) = v1 := ⟨_, rfl⟩
              obtain ⟨v2, hv2'⟩ : ∃ v2, E'.s.word 2 = v2 := ⟨_, rfl⟩
              have hin1 : E'.s.In (3 + (c : Nat)) := W'.inL (by omega) (by omega)
              have hin2 : E'.s.In 2 := W'.fr.two
              have hv1 : E'.s.got Hd = v1 := by rw [hHc, hin1.got, hv1']
              have hv2 : (E'.s.load Hd).got 2 = v2 := (got_ws (s := E'.s) (s' := E'.s.load Hd) rfl 2).trans (by rw [hin2.got, hv2'])
              have u1 : U64 v1 := by rw [← hv1]; exact rg.got Hd
              have u2 : U64 v2 := by rw [← hv2]; exact (rg.load Hd).got 2
              have ff1 := ftop0 (t0 v1) (t1 v1)
              have ff2 := ftop0 (t0 v2) (t1 v2)
              clear hHc
              rw [hv1'] at z1
              rw [hv2'] at z2
              rw [z1] at ff1
              rw [z2] at ff2
              rcases b0 with _ | _
              · go_wp2_with (first
                  | (go_at_call 12; refine (oAll q1 xB x0ok (by omega)).mono ?_; rintro e' w6 ⟨rfl, T6, B6, o6⟩; rw [hx] at B6 ⊢; rw [hdn]; have C6 := qC.step k4 hjb B6 nxt (by rw [← hx]; exact hcnt) o6; rw [← hs'] at T6; rw [hpp] at B6)
                  | (go_at_call 13; refine (hClone T6).mono ?_; rintro e' w7 ⟨cl, rfl, q7⟩; have K7 : Look w6 w7 [ob, ab, eb] cl E'.s _ := Look.of q7 (fun y hy => by simp only [List.mem_cons, List.not_mem_nil, or_false] at hy; rcases hy with rfl | rfl | rfl; exact C6.o.lt; exact C6.a.lt; exact C6.e.lt); have C7 := C6.below q7.bel; have n7 : w7.cell? ⟨nb, k, none⟩ = some (.int .i64 m) := (by have h := C7.nc k4; rw [hm] at h; exact h))
                  | (go_at_call 17; refine (P.rClass m _).mono ?_; rintro e' wx ⟨rfl, hwx⟩; rw [hwx, jc]; clear hwx wx)
                  | (go_at_call 16; refine (LL _).mono ?_; rintro e' wx ⟨rfl, hwx⟩; rw [hwx]; clear hwx wx)
                  | (go_at_call_of 15 (Value.int .i64 Hd); refine (K7.load (by omega) Hd).mono ?_; rintro e' w8 ⟨rfl, K8, o8⟩; rw [hv1]; have C8 := C7.oth0 o8)
                  | (go_at_call_of 14 (Value.int .u64 v1); refine (S.rOfTop v1 u1.1 u1.2 _).mono ?_; rintro e' w9 ⟨rfl, hw9⟩; have hb9 : Below w8.heap.size w8 w9 := (by rw [hw9]; exact S.bal (Below.refl _ _) _); clear hw9; have K9 := K8.below hb9; have C9 := C8.below hb9; rw [z1])
                  | (go_at_call_of 15 (Value.int .i64 2); refine (K9.load (by omega) 2).mono ?_; rintro e' w10 ⟨rfl, K10, o10⟩; rw [hv2]; have C10 := C9.oth0 o10)
                  | (have hh10 := C10; go_at_call_of 14 (Value.int .u64 v2); refine (S.rOfTop v2 u2.1 u2.2 _).mono ?_; rintro e' w11 ⟨rfl, hw11⟩; have hb11 : Below w10.heap.size w10 w11 := (by rw [hw11]; exact S.bal (Below.refl _ _) _); clear hw11; have K11 := K10.below hb11; have C11 := C10.below hb11; have e11 : w11.cell? ⟨eb, k, none⟩ = some (.bool false) := (by have h := C11.ec k4; rw [hb0] at h; exact h); have ef11 := C11.e.free k; rw [z2]; have CE := C11.setE k4 true; have KE := K11.set (p := eb) (by simp) k (.bool true); have a12 : (w11.setCell ⟨eb, k, none⟩ (.bool true)).cell? ⟨ab, k, none⟩ = some (.pointer (some ⟨p, 0, none⟩)) := (by have h := CE.ac k4; rw [upd_eq, hpp] at h; exact h); have af12 := CE.a.free k; have B12 : Blk wv (w11.setCell ⟨eb, k, none⟩ (.bool true)) p 85 x'.cells := (by have h := (CE.m k k4 x' (upd_eq _ _ _)).1; rw [hpp] at h; exact h); have CD := CE.drop k4; have KD := KE.set (p := ab) (by simp) k (.pointer none); have e13 : ((w11.setCell ⟨eb, k, none⟩ (.bool true)).setCell ⟨ab, k, none⟩ (.pointer none)).cell? ⟨eb, k, none⟩ = some (.bool true) := (by have h := CD.ec k4; rw [upd_eq] at h; exact h))
                  | (go_at_call 18; refine (oAllCell B12).mono ?_; rintro e' wx ⟨rfl, hwx⟩; rw [hwx, zc]; clear hwx wx))
                go_roundw
                case rel =>
                  have eu : upd (upd jb k (some x')) k none = upd jb k none := by funext i; unfold upd; split <;> rfl
                  rw [eu] at CD
                  exact ⟨j + 1, by omega, by omega, by go_num, E', f, _, pp, ct, _, KD.main (T6.mono (by omega)) C6, qG.turn k4 W' SS.T (fun y hy => by simp at hy), qD.keep qG.W SS.T SS.six, CD⟩
                case measure => simp [intOf]; omega
              · go_wp2_with (first
                  | (go_at_call 12; refine (oAll q1 xB x0ok (by omega)).mono ?_; rintro e' w6 ⟨rfl, T6, B6, o6⟩; rw [hx] at B6 ⊢; rw [hdn]; have C6 := qC.step k4 hjb B6 nxt (by rw [← hx]; exact hcnt) o6; rw [← hs'] at T6; rw [hpp] at B6)
                  | (go_at_call 13; refine (hClone T6).mono ?_; rintro e' w7 ⟨cl, rfl, q7⟩; have K7 : Look w6 w7 [ob, ab, eb] cl E'.s _ := Look.of q7 (fun y hy => by simp only [List.mem_cons, List.not_mem_nil, or_false] at hy; rcases hy with rfl | rfl | rfl; exact C6.o.lt; exact C6.a.lt; exact C6.e.lt); have C7 := C6.below q7.bel; have n7 : w7.cell? ⟨nb, k, none⟩ = some (.int .i64 m) := (by have h := C7.nc k4; rw [hm] at h; exact h))
                  | (go_at_call 17; refine (P.rClass m _).mono ?_; rintro e' wx ⟨rfl, hwx⟩; rw [hwx, jc]; clear hwx wx)
                  | (go_at_call 16; refine (LL _).mono ?_; rintro e' wx ⟨rfl, hwx⟩; rw [hwx]; clear hwx wx)
                  | (go_at_call_of 15 (Value.int .i64 Hd); refine (K7.load (by omega) Hd).mono ?_; rintro e' w8 ⟨rfl, K8, o8⟩; rw [hv1]; have C8 := C7.oth0 o8)
                  | (go_at_call_of 14 (Value.int .u64 v1); refine (S.rOfTop v1 u1.1 u1.2 _).mono ?_; rintro e' w9 ⟨rfl, hw9⟩; have hb9 : Below w8.heap.size w8 w9 := (by rw [hw9]; exact S.bal (Below.refl _ _) _); clear hw9; have K9 := K8.below hb9; have C9 := C8.below hb9; rw [z1])
                  | (go_at_call_of 15 (Value.int .i64 2); refine (K9.load (by omega) 2).mono ?_; rintro e' w10 ⟨rfl, K10, o10⟩; rw [hv2]; have C10 := C9.oth0 o10)
                  | (have hh10 := C10; go_at_call_of 14 (Value.int .u64 v2); refine (S.rOfTop v2 u2.1 u2.2 _).mono ?_; rintro e' w11 ⟨rfl, hw11⟩; have hb11 : Below w10.heap.size w10 w11 := (by rw [hw11]; exact S.bal (Below.refl _ _) _); clear hw11; have K11 := K10.below hb11; have C11 := C10.below hb11; have e11 : w11.cell? ⟨eb, k, none⟩ = some (.bool true) := (by have h := C11.ec k4; rw [hb0] at h; exact h); have ef11 := C11.e.free k; rw [z2]; have CE := C11.setE k4 true; have KE := K11.set (p := eb) (by simp) k (.bool true); have a12 : (w11.setCell ⟨eb, k, none⟩ (.bool true)).cell? ⟨ab, k, none⟩ = some (.pointer (some ⟨p, 0, none⟩)) := (by have h := CE.ac k4; rw [upd_eq, hpp] at h; exact h); have af12 := CE.a.free k; have B12 : Blk wv (w11.setCell ⟨eb, k, none⟩ (.bool true)) p 85 x'.cells := (by have h := (CE.m k k4 x' (upd_eq _ _ _)).1; rw [hpp] at h; exact h); have CD := CE.drop k4; have KD := KE.set (p := ab) (by simp) k (.pointer none); have e13 : ((w11.setCell ⟨eb, k, none⟩ (.bool true)).setCell ⟨ab, k, none⟩ (.pointer none)).cell? ⟨eb, k, none⟩ = some (.bool true) := (by have h := CD.ec k4; rw [upd_eq] at h; exact h))
                  | (go_at_call 18; refine (oAllCell B12).mono ?_; rintro e' wx ⟨rfl, hwx⟩; rw [hwx, zc]; clear hwx wx))
                go_roundw
                case rel =>
                  have eu : upd (upd jb k (some x')) k none = upd jb k none := by funext i; unfold upd; split <;> rfl
                  rw [eu] at CD
                  exact ⟨j + 1, by omega, by omega, by go_num, E', f, _, pp, ct, _, KD.main (T6.mono (by omega)) C6, qG.turn k4 W' SS.T (fun y hy => by simp at hy), qD.keep qG.W SS.T SS.six, CD⟩
                case measure => simp [intOf]; omega
          | got E' hs' W' T pz qq six oo zq kc zf zh =>
            as_aux_lemma =>
              have rg := rg hs'
              rw [hx] at pz zq
              have hdn : (x'.pc == 0) = true := by simpa using pz
              have is' := W'.dom qq (by rw [(six qq).2 (.inr rfl)]; omega)
              have bd := is'.bd W'.jn W'.n4
              have hnot := fun (y : Nat) h0 h1 => Told.not (x := y) qD qG.W T oo k4 h0 h1
              have hnew := fun (g : Nat → Bool) hg => Told.new (g := g) qD qG.W T six hg
              rw [xct] at zf zh
              rw [kc] at bd
              simp only [kc] at hnot hnew
              obtain ⟨A, hA⟩ : ∃ A : Nat, ad n E'.kl qq = A := ⟨(ad n E'.kl qq).toNat, by omega⟩
              obtain ⟨D, hD⟩ : ∃ D : Nat, P.Plain.wd (c : Int) = D := ⟨(P.Plain.wd (c : Int)).toNat, by omega⟩
              rw [hA] at zq zf zh bd
              rw [hD] at bd jn1
              simp only [hA, hD] at hnot hnew
              obtain ⟨bd1, bd2, bd3, _⟩ := bd
              have AK : A + D ≤ K := by omega
              have hA0 : ((A : Int) == 0) = false := by simp; omega
              have dA1 : decide ((A : Int) < 32) = false := decide_eq_false (by omega)
              have dA2 : decide ((K : Int) - D < A) = false := decide_eq_false (by omega)
              have offs := of_hw (c := c) (m := m) (by omega) (by omega) jn0 jm7
              obtain ⟨v1, hv1'⟩ : ∃ v1, E'.s.word (3 + (c : Nat)) = v1 := ⟨_, rfl⟩
              obtain ⟨v2, hv2'⟩ : ∃ v2, E'.s.word 2 = v2 := ⟨_, rfl⟩
              have hin1 : E'.s.In (3 + (c : Nat)) := W'.inL (by omega) (by omega)
              have hin2 : E'.s.In 2 := W'.fr.two
              have hv1 : E'.s.got Hd = v1 := by rw [hHc, hin1.got, hv1']
              have hv2 : (E'.s.load Hd).got 2 = v2 := (got_ws (s := E'.s) (s' := E'.s.load Hd) rfl 2).trans (by rw [hin2.got, hv2'])
              have u1 : U64 v1 := by rw [← hv1]; exact rg.got Hd
              have u2 : U64 v2 := by rw [← hv2]; exact (rg.load Hd).got 2
              have ff1 := ftop0 (t0 v1) (t1 v1)
              have ff2 := ftop0 (t0 v2) (t1 v2)
              clear hHc
              rcases b0 with _ | _
              · by_cases z1 : t0 v1 = 0
                · rw [z1] at ff1
                  obtain ⟨bt, hbt⟩ : ∃ bt, (t0 v2 == 0) = bt := ⟨_, rfl⟩
                  go_wp2_with (first
                    | (go_at_call 12; refine (oAll q1 xB x0ok (by omega)).mono ?_; rintro e' w6 ⟨rfl, T6, B6, o6⟩; rw [hx] at B6 ⊢; rw [hdn]; have C6 := qC.step k4 hjb B6 nxt (by rw [← hx]; exact hcnt) o6; rw [← hs'] at T6; rw [hpp] at B6)
                    | (go_at_call 13; refine (hClone T6).mono ?_; rintro e' w7 ⟨cl, rfl, q7⟩; have K7 : Look w6 w7 [ob, ab, eb] cl E'.s _ := Look.of q7 (fun y hy => by simp only [List.mem_cons, List.not_mem_nil, or_false] at hy; rcases hy with rfl | rfl | rfl; exact C6.o.lt; exact C6.a.lt; exact C6.e.lt); have C7 := C6.below q7.bel; have n7 : w7.cell? ⟨nb, k, none⟩ = some (.int .i64 m) := (by have h := C7.nc k4; rw [hm] at h; exact h))
                    | (go_at_call 17; refine (P.rClass m _).mono ?_; rintro e' wx ⟨rfl, hwx⟩; rw [hwx, jc]; clear hwx wx)
                    | (go_at_call 16; refine (LL _).mono ?_; rintro e' wx ⟨rfl, hwx⟩; rw [hwx]; clear hwx wx)
                    | (go_at_call_of 15 (Value.int .i64 Hd); refine (K7.load (by omega) Hd).mono ?_; rintro e' w8 ⟨rfl, K8, o8⟩; rw [hv1]; have C8 := C7.oth0 o8)
                    | (go_at_call_of 14 (Value.int .u64 v1); refine (S.rOfTop v1 u1.1 u1.2 _).mono ?_; rintro e' w9 ⟨rfl, hw9⟩; have hb9 : Below w8.heap.size w8 w9 := (by rw [hw9]; exact S.bal (Below.refl _ _) _); clear hw9; have K9 := K8.below hb9; have C9 := C8.below hb9; rw [z1])
                    | (go_at_call_of 15 (Value.int .i64 2); refine (K9.load (by omega) 2).mono ?_; rintro e' w10 ⟨rfl, K10, o10⟩; rw [hv2]; have C10 := C9.oth0 o10)
                    | (have hh10 := C10; go_at_call_of 14 (Value.int .u64 v2); refine (S.rOfTop v2 u2.1 u2.2 _).mono ?_; rintro e' w11 ⟨rfl, hw11⟩; have hb11 : Below w10.heap.size w10 w11 := (by rw [hw11]; exact S.bal (Below.refl _ _) _); clear hw11; have K11 := K10.below hb11; have C11 := C10.below hb11; have e11 : w11.cell? ⟨eb, k, none⟩ = some (.bool false) := (by have h := C11.ec k4; rw [hb0] at h; exact h); have ef11 := C11.e.free k; have CE := C11.setE k4 bt; have KE := K11.set (p := eb) (by simp) k (.bool bt); have a12 : (w11.setCell ⟨eb, k, none⟩ (.bool bt)).cell? ⟨ab, k, none⟩ = some (.pointer (some ⟨p, 0, none⟩)) := (by have h := CE.ac k4; rw [upd_eq, hpp] at h; exact h); have af12 := CE.a.free k; have B12 : Blk wv (w11.setCell ⟨eb, k, none⟩ (.bool bt)) p 85 x'.cells := (by have h := (CE.m k k4 x' (upd_eq _ _ _)).1; rw [hpp] at h; exact h); have CD := CE.drop k4; have KD := KE.set (p := ab) (by simp) k (.pointer none); have n13 : ((w11.setCell ⟨eb, k, none⟩ (.bool bt)).setCell ⟨ab, k, none⟩ (.pointer none)).cell? ⟨nb, k, none⟩ = some (.int .i64 m) := (by have h := CD.nc k4; rw [hm] at h; exact h); have M13 := KD.main T6 C6; have p13 := (M13.bel.cell olt).trans P3; have p14 := (M13.bel.cell olt).trans P4)
                    | (go_at_call 18; refine (oAllCell B12).mono ?_; rintro e' wx ⟨rfl, hwx⟩; rw [hwx, zq]; clear hwx wx)
                    | (go_at_call 19; refine (P.rWords c _).mono ?_; rintro e' wx ⟨rfl, hwx⟩; rw [hwx, hD]; clear hwx wx))
                  clear ff1 ff2 hv1 hv2 hv1' hv2' u1 u2 K7 K8 K9 K10 K11 C7 C8 C9 C10 C11 n7 o8 o10 hb9 hb11 e11 ef11 hh10 CE KE a12 af12 B12 M13 p13 p14 n13 B6 o6 q7
                  generalize ((w11.setCell ⟨eb, k, none⟩ (.bool bt)).setCell ⟨ab, k, none⟩ (.pointer none)) = w13 at CD KD ⊢
                  have eu : upd (upd jb k (some x')) k none = upd jb k none := by funext i; unfold upd; split <;> rfl
                  rw [eu] at CD
                  go_loopw [23] (fun i wr2 => ∃ (t : Nat) (g : Nat → Bool) (s3 : St), t ≤ D ∧ i = .int .i64 t ∧ Look w6 wr2 [ob, ab, eb] cl s3 (2000 + j + t) ∧ s3.ws = E'.s.ws ∧ Crew wv wr2 ob ab nb eb K g (upd jb k none) pp ct (upd em k bt) ∧ ∀ y : Nat, g y = true ↔ f y = true ∨ A ≤ y ∧ y < A + t) (fun i _ => D - (intOf i).toNat)
                  case atStart => exact ⟨0, f, _, Nat.zero_le _, rfl, KD.mono (by omega), rfl, CD, fun y => ⟨fun h => .inl h, fun h => h.elim id (fun h => by omega)⟩⟩
                  case round =>
                    clear CD KD
                    obtain ⟨t, g, s3, ht, rfl, r1, r2, r3, r4⟩ := hrel
                    have nK : wr.cell? ⟨nb, k, none⟩ = some (.int .i64 m) := by have h := r3.nc k4; rw [hm] at h; exact h
                    by_cases htD : t < D
                    case pos =>
                      obtain ⟨Z, hZ⟩ : ∃ Z : Nat, (A : Int) + t = Z := ⟨A + t, by omega⟩
                      have hZn : Z = A + t := by omega
                      have ZK : Z < K := by omega
                      have gZ : g Z = false := by
                        cases hgz : g Z with
                        | false => rfl
                        | true =>
                          rcases (r4 Z).1 hgz with h' | h'
                          · have := hnot Z (by omega) (by omega); rw [h'] at this; exact absurd this (by decide)
                          · omega
                      have oZ : wr.cell? ⟨ob, Z, none⟩ = some (.bool false) := by rw [r3.oc ZK, gZ]
                      have ofZ := r3.o.free Z
                      have zi0 : (0 : Int) ≤ Z := by omega
                      have ziK : (Z : Int) < K := by omega
                      have g4 : ∀ y : Nat, (fun i => if i = Z then true else g i) y = true ↔ f y = true ∨ A ≤ y ∧ y < A + (t + 1) := fun y => by
                        simp only
                        by_cases ey : y = Z
                        · rw [if_pos ey]; simp; exact .inr (by omega)
                        · rw [if_neg ey, r4 y]
                          constructor
                          · rintro (h' | h')
                            · exact .inl h'
                            · exact .inr (by omega)
                          · rintro (h' | h')
                            · exact .inl h'
                            · exact .inr (by omega)
                      have dt : decide ((t : Int) < D) = true := decide_eq_true (by omega)
                      by_cases t0' : 1 ≤ t
                      rotate_left
                      · have dz : decide ((0 : Int) < t) = false := decide_eq_false (by omega)
                        clear hZn
                        go_wp2
                        go_roundw
                        case rel => exact ⟨t + 1, _, s3, by omega, by go_num, (r1.set (p := ob) (by simp) Z _).mono (by omega), r2, r3.mark (j := Z) (f' := fun i => if i = Z then true else g i) (by simp) (fun i hi => by simp [hi]), g4⟩
                        case measure => simp [intOf]; omega
                      · have dz : decide ((0 : Int) < t) = true := decide_eq_true (by omega)
                        by_cases tm : (t : Int) ≤ m
                        · have dm : decide ((t : Int) ≤ m) = true := decide_eq_true tm
                          have inZ : E'.s.In (Z : Int) := ⟨zi0, by rw [W'.hp.1]; omega⟩
                          have gz : s3.got (Z : Int) = 0 := by
                            rw [got_ws (s := E'.s) (s' := s3) r2, inZ.got, ← hZ]
                            exact zf t (by omega) tm
                          clear hZn
                          go_wp2_with (go_at_call 15; refine (r1.load (by omega) Z).mono ?_; rintro e' w14 ⟨rfl, r5, o14⟩; rw [gz]; have r6 := r3.oth0 o14; have of14 := r6.o.free Z; have oz14 : w14.cell? ⟨ob, Z, none⟩ = some (.bool false) := (by rw [r6.oc ZK, gZ]))
                          go_roundw
                          case rel => exact ⟨t + 1, _, _, by omega, by go_num, r5.set (p := ob) (by simp) Z _, r2, r6.mark (j := Z) (f' := fun i => if i = Z then true else g i) (by simp) (fun i hi => by simp [hi]), g4⟩
                          case measure => simp [intOf]; omega
                        · have dm : decide ((t : Int) ≤ m) = false := decide_eq_false tm
                          clear hZn
                          go_wp2
                          go_roundw
                          case rel => exact ⟨t + 1, _, s3, by omega, by go_num, (r1.set (p := ob) (by simp) Z _).mono (by omega), r2, r3.mark (j := Z) (f' := fun i => if i = Z then true else g i) (by simp) (fun i hi => by simp [hi]), g4⟩
                          case measure => simp [intOf]; omega
                    case neg =>
                      have TN := hnew g (fun y => by rw [r4 y]; constructor <;> (rintro (h' | h') <;> first | exact .inl h' | exact .inr (by omega)))
                      have dt : decide ((t : Int) < D) = false := decide_eq_false (by omega)
                      have inA : E'.s.In (A : Int) := ⟨by omega, by rw [W'.hp.1]; omega⟩
                      have gA : s3.got (A : Int) = hw 1 c m 1 0 0 0 := by rw [got_ws (s := E'.s) (s' := s3) r2, inA.got]; exact zh
                      obtain ⟨hv, hhv⟩ : ∃ hv, hw 1 c m 1 0 0 0 = hv := ⟨_, rfl⟩
                      have uhv : U64 hv := by rw [← hhv]; exact u64_hw ..
                      rw [hhv] at gA offs
                      obtain ⟨f1, f2, f3, f4, f5, f6, f7⟩ := offs
                      have nq := neqHead 1 c m 1 0 0 0
                      go_wp2
                      have keep : ∀ w', Below wr.heap.size wr w' → w'.cell? ⟨nb, k, none⟩ = some (.int .i64 m) := fun w' hb => by have h := (r3.below hb).nc k4; rw [hm] at h; exact h
                      have hbd : Below wr.heap.size wr wr.drew := (Below.refl wr.heap.size wr).drew
                      have RD := keep _ hbd
                      go_region_held3 (fun w' => w'.cell? ⟨nb, k, none⟩ = some (.int .i64 m)) (first | assumption | exact RD | exact keep _ (by assumption))
                        (first
                          | (go_at_call 15; refine ((r1.below hbd).load (by omega) A).mono ?_; rintro e' w14 ⟨rfl, r5, o14⟩; rw [gA]; have r6 := (r3.below hbd).oth0 o14; have S14 : w14.cell? ⟨nb, k, none⟩ = some (.int .i64 m) := (by have h := r6.nc k4; rw [hm] at h; exact h))
                          | (go_at_call 20; refine (H.rOf hv uhv.1 uhv.2 _).mono ?_; rintro e' w15 ⟨rfl, hw15⟩; rw [f1, f2, f3, f4, f5, f6, f7]; have hb15 : Below w14.heap.size w14 w15 := (by rw [hw15]; exact S.bal (Below.refl _ _) _); clear hw15; have r7 := r5.below hb15; have r8 := r6.below hb15; have S15 : w15.cell? ⟨nb, k, none⟩ = some (.int .i64 m) := (by have h := r8.nc k4; rw [hm] at h; exact h))
                          | (go_at_call 17; refine (P.rClass m _).mono ?_; rintro e' w16 ⟨rfl, hw16⟩; rw [jc, hw16]; clear hw16 w16))
                      go_wp2
                      go_roundw
                      case rel => exact ⟨j + 1, by omega, by omega, by go_num, E', g, _, pp, ct, _, (r7.main (T6.mono (by omega)) C6), qG.turn k4 W' T (fun y hy => by simp at hy), TN, r8⟩
                      case measure => simp [intOf]; omega
                · have hT0' : (t0 v1 == 0) = false := by simpa using z1
                  go_wp2_with (first
                    | (go_at_call 12; refine (oAll q1 xB x0ok (by omega)).mono ?_; rintro e' w6 ⟨rfl, T6, B6, o6⟩; rw [hx] at B6 ⊢; rw [hdn]; have C6 := qC.step k4 hjb B6 nxt (by rw [← hx]; exact hcnt) o6; rw [← hs'] at T6; rw [hpp] at B6)
                    | (go_at_call 13; refine (hClone T6).mono ?_; rintro e' w7 ⟨cl, rfl, q7⟩; have K7 : Look w6 w7 [ob, ab, eb] cl E'.s _ := Look.of q7 (fun y hy => by simp only [List.mem_cons, List.not_mem_nil, or_false] at hy; rcases hy with rfl | rfl | rfl; exact C6.o.lt; exact C6.a.lt; exact C6.e.lt); have C7 := C6.below q7.bel; have n7 : w7.cell? ⟨nb, k, none⟩ = some (.int .i64 m) := (by have h := C7.nc k4; rw [hm] at h; exact h))
                    | (go_at_call 17; refine (P.rClass m _).mono ?_; rintro e' wx ⟨rfl, hwx⟩; rw [hwx, jc]; clear hwx wx)
                    | (go_at_call 16; refine (LL _).mono ?_; rintro e' wx ⟨rfl, hwx⟩; rw [hwx]; clear hwx wx)
                    | (go_at_call_of 15 (Value.int .i64 Hd); refine (K7.load (by omega) Hd).mono ?_; rintro e' w8 ⟨rfl, K8, o8⟩; rw [hv1]; have C8 := C7.oth0 o8)
                    | (go_at_call_of 14 (Value.int .u64 v1); refine (S.rOfTop v1 u1.1 u1.2 _).mono ?_; rintro e' w9 ⟨rfl, hw9⟩; have hb9 : Below w8.heap.size w8 w9 := (by rw [hw9]; exact S.bal (Below.refl _ _) _); clear hw9; have K9 := K8.below hb9; have C9 := C8.below hb9)
                    | (go_at_call_of 15 (Value.int .i64 2); refine (K9.load (by omega) 2).mono ?_; rintro e' w10 ⟨rfl, K10, o10⟩; rw [hv2]; have C10 := C9.oth0 o10)
                    | (have hh10 := C10; go_at_call_of 14 (Value.int .u64 v2); refine (S.rOfTop v2 u2.1 u2.2 _).mono ?_; rintro e' w11 ⟨rfl, hw11⟩; have hb11 : Below w10.heap.size w10 w11 := (by rw [hw11]; exact S.bal (Below.refl _ _) _); clear hw11; have K11 := K10.below hb11; have C11 := C10.below hb11; have e11 : w11.cell? ⟨eb, k, none⟩ = some (.bool false) := (by have h := C11.ec k4; rw [hb0] at h; exact h); have ef11 := C11.e.free k; have CE := C11.setE k4 false; have KE := K11.set (p := eb) (by simp) k (.bool false); have a12 : (w11.setCell ⟨eb, k, none⟩ (.bool false)).cell? ⟨ab, k, none⟩ = some (.pointer (some ⟨p, 0, none⟩)) := (by have h := CE.ac k4; rw [upd_eq, hpp] at h; exact h); have af12 := CE.a.free k; have B12 : Blk wv (w11.setCell ⟨eb, k, none⟩ (.bool false)) p 85 x'.cells := (by have h := (CE.m k k4 x' (upd_eq _ _ _)).1; rw [hpp] at h; exact h); have CD := CE.drop k4; have KD := KE.set (p := ab) (by simp) k (.pointer none); have n13 : ((w11.setCell ⟨eb, k, none⟩ (.bool false)).setCell ⟨ab, k, none⟩ (.pointer none)).cell? ⟨nb, k, none⟩ = some (.int .i64 m) := (by have h := CD.nc k4; rw [hm] at h; exact h); have M13 := KD.main T6 C6; have p13 := (M13.bel.cell olt).trans P3; have p14 := (M13.bel.cell olt).trans P4)
                    | (go_at_call 18; refine (oAllCell B12).mono ?_; rintro e' wx ⟨rfl, hwx⟩; rw [hwx, zq]; clear hwx wx)
                    | (go_at_call 19; refine (P.rWords c _).mono ?_; rintro e' wx ⟨rfl, hwx⟩; rw [hwx, hD]; clear hwx wx))
                  clear ff1 ff2 hv1 hv2 hv1' hv2' u1 u2 K7 K8 K9 K10 K11 C7 C8 C9 C10 C11 n7 o8 o10 hb9 hb11 e11 ef11 hh10 CE KE a12 af12 B12 M13 p13 p14 n13 B6 o6 q7
                  generalize ((w11.setCell ⟨eb, k, none⟩ (.bool false)).setCell ⟨ab, k, none⟩ (.pointer none)) = w13 at CD KD ⊢
                  have eu : upd (upd jb k (some x')) k none = upd jb k none := by funext i; unfold upd; split <;> rfl
                  rw [eu] at CD
                  go_loopw [23] (fun i wr2 => ∃ (t : Nat) (g : Nat → Bool) (s3 : St), t ≤ D ∧ i = .int .i64 t ∧ Look w6 wr2 [ob, ab, eb] cl s3 (2000 + j + t) ∧ s3.ws = E'.s.ws ∧ Crew wv wr2 ob ab nb eb K g (upd jb k none) pp ct (upd em k false) ∧ ∀ y : Nat, g y = true ↔ f y = true ∨ A ≤ y ∧ y < A + t) (fun i _ => D - (intOf i).toNat)
                  case atStart => exact ⟨0, f, _, Nat.zero_le _, rfl, KD.mono (by omega), rfl, CD, fun y => ⟨fun h => .inl h, fun h => h.elim id (fun h => by omega)⟩⟩
                  case round =>
                    clear CD KD
                    obtain ⟨t, g, s3, ht, rfl, r1, r2, r3, r4⟩ := hrel
                    have nK : wr.cell? ⟨nb, k, none⟩ = some (.int .i64 m) := by have h := r3.nc k4; rw [hm] at h; exact h
                    by_cases htD : t < D
                    case pos =>
                      obtain ⟨Z, hZ⟩ : ∃ Z : Nat, (A : Int) + t = Z := ⟨A + t, by omega⟩
                      have hZn : Z = A + t := by omega
                      have ZK : Z < K := by omega
                      have gZ : g Z = false := by
                        cases hgz : g Z with
                        | false => rfl
                        | true =>
                          rcases (r4 Z).1 hgz with h' | h'
                          · have := hnot Z (by omega) (by omega); rw [h'] at this; exact absurd this (by decide)
                          · omega
                      have oZ : wr.cell? ⟨ob, Z, none⟩ = some (.bool false) := by rw [r3.oc ZK, gZ]
                      have ofZ := r3.o.free Z
                      have zi0 : (0 : Int) ≤ Z := by omega
                      have ziK : (Z : Int) < K := by omega
                      have g4 : ∀ y : Nat, (fun i => if i = Z then true else g i) y = true ↔ f y = true ∨ A ≤ y ∧ y < A + (t + 1) := fun y => by
                        simp only
                        by_cases ey : y = Z
                        · rw [if_pos ey]; simp; exact .inr (by omega)
                        · rw [if_neg ey, r4 y]
                          constructor
                          · rintro (h' | h')
                            · exact .inl h'
                            · exact .inr (by omega)
                          · rintro (h' | h')
                            · exact .inl h'
                            · exact .inr (by omega)
                      have dt : decide ((t : Int) < D) = true := decide_eq_true (by omega)
                      by_cases t0' : 1 ≤ t
                      rotate_left
                      · have dz : decide ((0 : Int) < t) = false := decide_eq_false (by omega)
                        clear hZn
                        go_wp2
                        go_roundw
                        case rel => exact ⟨t + 1, _, s3, by omega, by go_num, (r1.set (p := ob) (by simp) Z _).mono (by omega), r2, r3.mark (j := Z) (f' := fun i => if i = Z then true else g i) (by simp) (fun i hi => by simp [hi]), g4⟩
                        case measure => simp [intOf]; omega
                      · have dz : decide ((0 : Int) < t) = true := decide_eq_true (by omega)
                        by_cases tm : (t : Int) ≤ m
                        · have dm : decide ((t : Int) ≤ m) = true := decide_eq_true tm
                          have inZ : E'.s.In (Z : Int) := ⟨zi0, by rw [W'.hp.1]; omega⟩
                          have gz : s3.got (Z : Int) = 0 := by
                            rw [got_ws (s := E'.s) (s' := s3) r2, inZ.got, ← hZ]
                            exact zf t (by omega) tm
                          clear hZn
                          go_wp2_with (go_at_call 15; refine (r1.load (by omega) Z).mono ?_; rintro e' w14 ⟨rfl, r5, o14⟩; rw [gz]; have r6 := r3.oth0 o14; have of14 := r6.o.free Z; have oz14 : w14.cell? ⟨ob, Z, none⟩ = some (.bool false) := (by rw [r6.oc ZK, gZ]))
                          go_roundw
                          case rel => exact ⟨t + 1, _, _, by omega, by go_num, r5.set (p := ob) (by simp) Z _, r2, r6.mark (j := Z) (f' := fun i => if i = Z then true else g i) (by simp) (fun i hi => by simp [hi]), g4⟩
                          case measure => simp [intOf]; omega
                        · have dm : decide ((t : Int) ≤ m) = false := decide_eq_false tm
                          clear hZn
                          go_wp2
                          go_roundw
                          case rel => exact ⟨t + 1, _, s3, by omega, by go_num, (r1.set (p := ob) (by simp) Z _).mono (by omega), r2, r3.mark (j := Z) (f' := fun i => if i = Z then true else g i) (by simp) (fun i hi => by simp [hi]), g4⟩
                          case measure => simp [intOf]; omega
                    case neg =>
                      have TN := hnew g (fun y => by rw [r4 y]; constructor <;> (rintro (h' | h') <;> first | exact .inl h' | exact .inr (by omega)))
                      have dt : decide ((t : Int) < D) = false := decide_eq_false (by omega)
                      have inA : E'.s.In (A : Int) := ⟨by omega, by rw [W'.hp.1]; omega⟩
                      have gA : s3.got (A : Int) = hw 1 c m 1 0 0 0 := by rw [got_ws (s := E'.s) (s' := s3) r2, inA.got]; exact zh
                      obtain ⟨hv, hhv⟩ : ∃ hv, hw 1 c m 1 0 0 0 = hv := ⟨_, rfl⟩
                      have uhv : U64 hv := by rw [← hhv]; exact u64_hw ..
                      rw [hhv] at gA offs
                      obtain ⟨f1, f2, f3, f4, f5, f6, f7⟩ := offs
                      have nq := neqHead 1 c m 1 0 0 0
                      go_wp2
                      have keep : ∀ w', Below wr.heap.size wr w' → w'.cell? ⟨nb, k, none⟩ = some (.int .i64 m) := fun w' hb => by have h := (r3.below hb).nc k4; rw [hm] at h; exact h
                      have hbd : Below wr.heap.size wr wr.drew := (Below.refl wr.heap.size wr).drew
                      have RD := keep _ hbd
                      go_region_held3 (fun w' => w'.cell? ⟨nb, k, none⟩ = some (.int .i64 m)) (first | assumption | exact RD | exact keep _ (by assumption))
                        (first
                          | (go_at_call 15; refine ((r1.below hbd).load (by omega) A).mono ?_; rintro e' w14 ⟨rfl, r5, o14⟩; rw [gA]; have r6 := (r3.below hbd).oth0 o14; have S14 : w14.cell? ⟨nb, k, none⟩ = some (.int .i64 m) := (by have h := r6.nc k4; rw [hm] at h; exact h))
                          | (go_at_call 20; refine (H.rOf hv uhv.1 uhv.2 _).mono ?_; rintro e' w15 ⟨rfl, hw15⟩; rw [f1, f2, f3, f4, f5, f6, f7]; have hb15 : Below w14.heap.size w14 w15 := (by rw [hw15]; exact S.bal (Below.refl _ _) _); clear hw15; have r7 := r5.below hb15; have r8 := r6.below hb15; have S15 : w15.cell? ⟨nb, k, none⟩ = some (.int .i64 m) := (by have h := r8.nc k4; rw [hm] at h; exact h))
                          | (go_at_call 17; refine (P.rClass m _).mono ?_; rintro e' w16 ⟨rfl, hw16⟩; rw [jc, hw16]; clear hw16 w16))
                      go_wp2
                      go_roundw
                      case rel => exact ⟨j + 1, by omega, by omega, by go_num, E', g, _, pp, ct, _, (r7.main (T6.mono (by omega)) C6), qG.turn k4 W' T (fun y hy => by simp at hy), TN, r8⟩
                      case measure => simp [intOf]; omega
              · go_wp2_with (first
                  | (go_at_call 12; refine (oAll q1 xB x0ok (by omega)).mono ?_; rintro e' w6 ⟨rfl, T6, B6, o6⟩; rw [hx] at B6 ⊢; rw [hdn]; have C6 := qC.step k4 hjb B6 nxt (by rw [← hx]; exact hcnt) o6; rw [← hs'] at T6; rw [hpp] at B6)
                  | (go_at_call 13; refine (hClone T6).mono ?_; rintro e' w7 ⟨cl, rfl, q7⟩; have K7 : Look w6 w7 [ob, ab, eb] cl E'.s _ := Look.of q7 (fun y hy => by simp only [List.mem_cons, List.not_mem_nil, or_false] at hy; rcases hy with rfl | rfl | rfl; exact C6.o.lt; exact C6.a.lt; exact C6.e.lt); have C7 := C6.below q7.bel; have n7 : w7.cell? ⟨nb, k, none⟩ = some (.int .i64 m) := (by have h := C7.nc k4; rw [hm] at h; exact h))
                  | (go_at_call 17; refine (P.rClass m _).mono ?_; rintro e' wx ⟨rfl, hwx⟩; rw [hwx, jc]; clear hwx wx)
                  | (go_at_call 16; refine (LL _).mono ?_; rintro e' wx ⟨rfl, hwx⟩; rw [hwx]; clear hwx wx)
                  | (go_at_call_of 15 (Value.int .i64 Hd); refine (K7.load (by omega) Hd).mono ?_; rintro e' w8 ⟨rfl, K8, o8⟩; rw [hv1]; have C8 := C7.oth0 o8)
                  | (go_at_call_of 14 (Value.int .u64 v1); refine (S.rOfTop v1 u1.1 u1.2 _).mono ?_; rintro e' w9 ⟨rfl, hw9⟩; have hb9 : Below w8.heap.size w8 w9 := (by rw [hw9]; exact S.bal (Below.refl _ _) _); clear hw9; have K9 := K8.below hb9; have C9 := C8.below hb9)
                  | (go_at_call_of 15 (Value.int .i64 2); refine (K9.load (by omega) 2).mono ?_; rintro e' w10 ⟨rfl, K10, o10⟩; rw [hv2]; have C10 := C9.oth0 o10)
                  | (have hh10 := C10; go_at_call_of 14 (Value.int .u64 v2); refine (S.rOfTop v2 u2.1 u2.2 _).mono ?_; rintro e' w11 ⟨rfl, hw11⟩; have hb11 : Below w10.heap.size w10 w11 := (by rw [hw11]; exact S.bal (Below.refl _ _) _); clear hw11; have K11 := K10.below hb11; have C11 := C10.below hb11; have e11 : w11.cell? ⟨eb, k, none⟩ = some (.bool true) := (by have h := C11.ec k4; rw [hb0] at h; exact h); have ef11 := C11.e.free k; have CE := C11.setE k4 true; have KE := K11.set (p := eb) (by simp) k (.bool true); have a12 : (w11.setCell ⟨eb, k, none⟩ (.bool true)).cell? ⟨ab, k, none⟩ = some (.pointer (some ⟨p, 0, none⟩)) := (by have h := CE.ac k4; rw [upd_eq, hpp] at h; exact h); have af12 := CE.a.free k; have B12 : Blk wv (w11.setCell ⟨eb, k, none⟩ (.bool true)) p 85 x'.cells := (by have h := (CE.m k k4 x' (upd_eq _ _ _)).1; rw [hpp] at h; exact h); have CD := CE.drop k4; have KD := KE.set (p := ab) (by simp) k (.pointer none); have n13 : ((w11.setCell ⟨eb, k, none⟩ (.bool true)).setCell ⟨ab, k, none⟩ (.pointer none)).cell? ⟨nb, k, none⟩ = some (.int .i64 m) := (by have h := CD.nc k4; rw [hm] at h; exact h); have M13 := KD.main T6 C6; have p13 := (M13.bel.cell olt).trans P3; have p14 := (M13.bel.cell olt).trans P4)
                  | (go_at_call 18; refine (oAllCell B12).mono ?_; rintro e' wx ⟨rfl, hwx⟩; rw [hwx, zq]; clear hwx wx)
                  | (go_at_call 19; refine (P.rWords c _).mono ?_; rintro e' wx ⟨rfl, hwx⟩; rw [hwx, hD]; clear hwx wx))
                clear ff1 ff2 hv1 hv2 hv1' hv2' u1 u2 K7 K8 K9 K10 K11 C7 C8 C9 C10 C11 n7 o8 o10 hb9 hb11 e11 ef11 hh10 CE KE a12 af12 B12 M13 p13 p14 n13 B6 o6 q7
                generalize ((w11.setCell ⟨eb, k, none⟩ (.bool true)).setCell ⟨ab, k, none⟩ (.pointer none)) = w13 at CD KD ⊢
                have eu : upd (upd jb k (some x')) k none = upd jb k none := by funext i; unfold upd; split <;> rfl
                rw [eu] at CD
                go_loopw [23] (fun i wr2 => ∃ (t : Nat) (g : Nat → Bool) (s3 : St), t ≤ D ∧ i = .int .i64 t ∧ Look w6 wr2 [ob, ab, eb] cl s3 (2000 + j + t) ∧ s3.ws = E'.s.ws ∧ Crew wv wr2 ob ab nb eb K g (upd jb k none) pp ct (upd em k true) ∧ ∀ y : Nat, g y = true ↔ f y = true ∨ A ≤ y ∧ y < A + t) (fun i _ => D - (intOf i).toNat)
                case atStart => exact ⟨0, f, _, Nat.zero_le _, rfl, KD.mono (by omega), rfl, CD, fun y => ⟨fun h => .inl h, fun h => h.elim id (fun h => by omega)⟩⟩
                case round =>
                  clear CD KD
                  obtain ⟨t, g, s3, ht, rfl, r1, r2, r3, r4⟩ := hrel
                  have nK : wr.cell? ⟨nb, k, none⟩ = some (.int .i64 m) := by have h := r3.nc k4; rw [hm] at h; exact h
                  by_cases htD : t < D
                  case pos =>
                    obtain ⟨Z, hZ⟩ : ∃ Z : Nat, (A : Int) + t = Z := ⟨A + t, by omega⟩
                    have hZn : Z = A + t := by omega
                    have ZK : Z < K := by omega
                    have gZ : g Z = false := by
                      cases hgz : g Z with
                      | false => rfl
                      | true =>
                        rcases (r4 Z).1 hgz with h' | h'
                        · have := hnot Z (by omega) (by omega); rw [h'] at this; exact absurd this (by decide)
                        · omega
                    have oZ : wr.cell? ⟨ob, Z, none⟩ = some (.bool false) := by rw [r3.oc ZK, gZ]
                    have ofZ := r3.o.free Z
                    have zi0 : (0 : Int) ≤ Z := by omega
                    have ziK : (Z : Int) < K := by omega
                    have g4 : ∀ y : Nat, (fun i => if i = Z then true else g i) y = true ↔ f y = true ∨ A ≤ y ∧ y < A + (t + 1) := fun y => by
                      simp only
                      by_cases ey : y = Z
                      · rw [if_pos ey]; simp; exact .inr (by omega)
                      · rw [if_neg ey, r4 y]
                        constructor
                        · rintro (h' | h')
                          · exact .inl h'
                          · exact .inr (by omega)
                        · rintro (h' | h')
                          · exact .inl h'
                          · exact .inr (by omega)
                    have dt : decide ((t : Int) < D) = true := decide_eq_true (by omega)
                    by_cases t0' : 1 ≤ t
                    rotate_left
                    · have dz : decide ((0 : Int) < t) = false := decide_eq_false (by omega)
                      clear hZn
                      go_wp2
                      go_roundw
                      case rel => exact ⟨t + 1, _, s3, by omega, by go_num, (r1.set (p := ob) (by simp) Z _).mono (by omega), r2, r3.mark (j := Z) (f' := fun i => if i = Z then true else g i) (by simp) (fun i hi => by simp [hi]), g4⟩
                      case measure => simp [intOf]; omega
                    · have dz : decide ((0 : Int) < t) = true := decide_eq_true (by omega)
                      by_cases tm : (t : Int) ≤ m
                      · have dm : decide ((t : Int) ≤ m) = true := decide_eq_true tm
                        have inZ : E'.s.In (Z : Int) := ⟨zi0, by rw [W'.hp.1]; omega⟩
                        have gz : s3.got (Z : Int) = 0 := by
                          rw [got_ws (s := E'.s) (s' := s3) r2, inZ.got, ← hZ]
                          exact zf t (by omega) tm
                        clear hZn
                        go_wp2_with (go_at_call 15; refine (r1.load (by omega) Z).mono ?_; rintro e' w14 ⟨rfl, r5, o14⟩; rw [gz]; have r6 := r3.oth0 o14; have of14 := r6.o.free Z; have oz14 : w14.cell? ⟨ob, Z, none⟩ = some (.bool false) := (by rw [r6.oc ZK, gZ]))
                        go_roundw
                        case rel => exact ⟨t + 1, _, _, by omega, by go_num, r5.set (p := ob) (by simp) Z _, r2, r6.mark (j := Z) (f' := fun i => if i = Z then true else g i) (by simp) (fun i hi => by simp [hi]), g4⟩
                        case measure => simp [intOf]; omega
                      · have dm : decide ((t : Int) ≤ m) = false := decide_eq_false tm
                        clear hZn
                        go_wp2
                        go_roundw
                        case rel => exact ⟨t + 1, _, s3, by omega, by go_num, (r1.set (p := ob) (by simp) Z _).mono (by omega), r2, r3.mark (j := Z) (f' := fun i => if i = Z then true else g i) (by simp) (fun i hi => by simp [hi]), g4⟩
                        case measure => simp [intOf]; omega
                  case neg =>
                    have TN := hnew g (fun y => by rw [r4 y]; constructor <;> (rintro (h' | h') <;> first | exact .inl h' | exact .inr (by omega)))
                    have dt : decide ((t : Int) < D) = false := decide_eq_false (by omega)
                    have inA : E'.s.In (A : Int) := ⟨by omega, by rw [W'.hp.1]; omega⟩
                    have gA : s3.got (A : Int) = hw 1 c m 1 0 0 0 := by rw [got_ws (s := E'.s) (s' := s3) r2, inA.got]; exact zh
                    obtain ⟨hv, hhv⟩ : ∃ hv, hw 1 c m 1 0 0 0 = hv := ⟨_, rfl⟩
                    have uhv : U64 hv := by rw [← hhv]; exact u64_hw ..
                    rw [hhv] at gA offs
                    obtain ⟨f1, f2, f3, f4, f5, f6, f7⟩ := offs
                    have nq := neqHead 1 c m 1 0 0 0
                    go_wp2
                    have keep : ∀ w', Below wr.heap.size wr w' → w'.cell? ⟨nb, k, none⟩ = some (.int .i64 m) := fun w' hb => by have h := (r3.below hb).nc k4; rw [hm] at h; exact h
                    have hbd : Below wr.heap.size wr wr.drew := (Below.refl wr.heap.size wr).drew
                    have RD := keep _ hbd
                    go_region_held3 (fun w' => w'.cell? ⟨nb, k, none⟩ = some (.int .i64 m)) (first | assumption | exact RD | exact keep _ (by assumption))
                      (first
                        | (go_at_call 15; refine ((r1.below hbd).load (by omega) A).mono ?_; rintro e' w14 ⟨rfl, r5, o14⟩; rw [gA]; have r6 := (r3.below hbd).oth0 o14; have S14 : w14.cell? ⟨nb, k, none⟩ = some (.int .i64 m) := (by have h := r6.nc k4; rw [hm] at h; exact h))
                        | (go_at_call 20; refine (H.rOf hv uhv.1 uhv.2 _).mono ?_; rintro e' w15 ⟨rfl, hw15⟩; rw [f1, f2, f3, f4, f5, f6, f7]; have hb15 : Below w14.heap.size w14 w15 := (by rw [hw15]; exact S.bal (Below.refl _ _) _); clear hw15; have r7 := r5.below hb15; have r8 := r6.below hb15; have S15 : w15.cell? ⟨nb, k, none⟩ = some (.int .i64 m) := (by have h := r8.nc k4; rw [hm] at h; exact h))
                        | (go_at_call 17; refine (P.rClass m _).mono ?_; rintro e' w16 ⟨rfl, hw16⟩; rw [jc, hw16]; clear hw16 w16))
                    go_wp2
                    go_roundw
                    case rel => exact ⟨j + 1, by omega, by omega, by go_num, E', g, _, pp, ct, _, (r7.main (T6.mono (by omega)) C6), qG.turn k4 W' T (fun y hy => by simp at hy), TN, r8⟩
                    case measure => simp [intOf]; omega
    case neg =>
      have ht := qG.W.fr.trap
      by_cases hj1 : j < len
      · have hj2 : ¬ j < 500 := fun h => hjn ⟨hj1, h⟩
        go_wp2_with (go_at_call 21; refine (hTraps q1).mono ?_; rintro e w8 ⟨rfl, hw8⟩; rw [hw8, ht]; clear hw8 w8)
        go_ret
        exact ⟨rfl, bel_trans hba q1.bel⟩
      · go_wp2_with (go_at_call 21; refine (hTraps q1).mono ?_; rintro e w8 ⟨rfl, hw8⟩; rw [hw8, ht]; clear hw8 w8)
        go_ret
        exact ⟨rfl, bel_trans hba q1.bel⟩
end Go.Proofs.YtbojljkdpebheaaDoor
