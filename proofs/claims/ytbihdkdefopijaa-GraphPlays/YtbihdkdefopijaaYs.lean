/-
  Contracts of the reference: Shape.
-/
import Derived.Test.YtbihdkdefopijaaYs0
namespace Go.Proofs.Ytbihdkdefopijaa
set_option linter.unusedVariables false
set_option linter.unusedSimpArgs false
open Go.ChangeShapes Go.WideShapes Go.ChangeAt Go.RowKit

theorem newV2 (W : World) (k : Nat) (hk : W.heap.size = k) (x y : Value) (T : TypeId) : ∀ j u, [x, y][j]? = some u → (W.alloc (.cells #[x, y] T)).cell? ((⟨k, 0, none⟩ : Addr).add j) = some u := by
  subst hk
  intro j u hu
  rw [Addr.add_lit, Nat.zero_add, cell_of_row _ _ _ _ _ _ (heap_alloc_new W _)]
  simpa using hu
theorem own_bel {w w' : World} {e : TypeId} {size n : Nat} {v : Value} {xs : List Value} (h : w.ownsRow 0 e size v n xs) (hb : Below w.heap.size w w') : w'.ownsRow 0 e size v n xs :=
  own_same h fun k hk => by obtain ⟨_, hc⟩ := own_blk h k hk; exact hb.block k (lt_of_block hc)
theorem own_begin (w : World) (T : TypeId) (size : Nat) : (w.alloc (.cells #[] T)).ownsRow 0 T size (.slice (some ⟨w.heap.size, 0, none⟩) 0 0) 0 [] :=
  ⟨by simp, .inr ⟨w.heap.size, 0, #[], rfl, Nat.zero_le _, heap_alloc_new w _, Nat.le_refl _, Nat.zero_le _, by simp, by simp⟩⟩
theorem vcells_snoc (l : List (Int × Int)) (v : Int × Int) : vcells (l ++ [v]) = vcells l ++ [.int .i64 v.1, .int .i64 v.2] := by
  induction l with
  | nil => rfl
  | cons y r ih => simp [vcells, ih]
theorem ints_snoc (l : List Int) (x : Int) : ints (l ++ [x]) = ints l ++ [.int .i64 x] := by simp [ints]

set_option maxRecDepth 100000 in
set_option maxHeartbeats 1600000 in
theorem yShape {w : World} {L : YLoc} {g : Gr} (hg : YAt w L g) (f : g.Fit) :
    Calls Try.prog 32 #[.pointer (some ⟨L.b, 0, none⟩)] w fun e w' => ∃ vr vl, e = .returned (.agg #[vr, vl]) ∧ Below w.heap.size w w' ∧ RowsI w' vr (Sh.roots g) (fun k => w.heap.size ≤ k) ∧ RowsV w' vl (Sh.objs g) (fun k => w.heap.size ≤ k) := by
  obtain ⟨ii, hi, hz0, hz1, hz2⟩ := info_parts infoIs
  obtain ⟨iv, hi', hz0', hz1', hz2'⟩ := info_parts infoVs
  obtain ⟨i3, hi3, hz03, hz13, hz23⟩ := info_parts info3
  obtain ⟨iV, hiV, hz0V, hz1V, hz2V⟩ := info_parts infoVal
  have t64 := f.t64
  have ob := f.ob
  have hlb : L.b < w.heap.size := lt_of_block hg.blk
  have hV0 := yv_start w
  have hmk : ∀ k, k < g.ts.length → g.ts.getD k [] ∈ g.ts := fun k hk => by rw [List.getD_eq_getElem?_getD, List.getElem?_eq_getElem hk]; exact List.getElem_mem _
  go_enter Try.func32, Try.ntmps32
  go_wp2
  obtain ⟨n1, hn1⟩ : ∃ n, n = w.heap.size := ⟨_, rfl⟩
  rw [← hn1] at hV0 ⊢
  clear hn1
  go_loopw [4, 5] (fun mv i wr => ∃ (k : Nat) (vr : Value), k ≤ g.ts.length ∧ i = .int .i64 k ∧ Yv w wr n1 (n1 + 1) none mv vr (.slice none 0 0) (Sh.rruns [] (g.ts.take k)).1 (Sh.rruns [] (g.ts.take k)).2 []) (fun _ i _ => g.ts.length - (intOf i).toNat)
  case atStart => exact ⟨0, _, Nat.zero_le _, rfl, hV0⟩
  case round =>
    clear hV0
    obtain ⟨k, vr, hk, rfl, hV⟩ := hrel
    obtain ⟨wo, rfl⟩ : ∃ wo : World, wo = wr := ⟨_, rfl⟩
    have k0 : (0 : Int) ≤ (k : Int) := by omega
    have c0 := (hg.below hV.bel).cell0
    by_cases hlt : k < g.ts.length
    case pos =>
      have h8 := f.r8 _ (hmk k hlt)
      have hid := f.rid _ (hmk k hlt)
      have okk := Sh.Ok.rruns (N := g.os.length) (g.ts.take k) (Sh.Ok.nil _) fun r hr => f.rid r (List.mem_of_mem_take hr)
      have hT := take_next ([] : List Int) hlt
      have e2 := Sh.rruns_snoc (g.ts.take k) (g.ts.getD k []) []
      rw [← hT] at e2
      have hrl : (Sh.rruns [] (g.ts.take k)).2.length = k := by rw [Sh.rruns_len, List.length_take, Nat.min_eq_left hk]
      have tcell := fun u hb => (hg.below (w' := u) hb).tcell k hlt
      generalize g.ts.getD k [] = r at h8 hid e2 tcell
      generalize (Sh.rruns [] (g.ts.take k)).1 = M at hV okk e2
      generalize (Sh.rruns [] (g.ts.take k)).2 = rr at hV hrl e2
      have kl : (k : Int) < (g.ts.length : Int) := by omega
      have hV1 := hV.row (.cells #[] 3)
      have hR1 := own_begin wo 3 1
      go_wp2
      go_loopw [4, 6, 7] (fun mv rv i wr => ∃ j : Nat, j ≤ r.length ∧ i = .int .i64 j ∧ Yv w wr n1 (n1 + 1) rv.ownBlock mv vr (.slice none 0 0) (Sh.meets M (r.take j)).1 rr [] ∧ wr.ownsRow 0 3 1 rv j (ints (Sh.meets M (r.take j)).2)) (fun _ _ i _ => r.length - (intOf i).toNat)
      case atStart => exact ⟨0, Nat.zero_le _, rfl, hV1, hR1⟩
      case round =>
        clear hV1 hR1 hV c0
        obtain ⟨j, hj, rfl, hV, hrow⟩ := hrel
        obtain ⟨wp, rfl⟩ : ∃ wp : World, wp = wr := ⟨_, rfl⟩
        have j0 : (0 : Int) ≤ (j : Int) := by omega
        have c0 := (hg.below hV.bel).cell0
        have d0 : wp.cell? ⟨L.tg, k * 9, none⟩ = some (.int .i64 r.length) := tcell wp hV.bel 0 (by decide)
        have ok2 := Sh.Ok.meets (r.take j) okk fun x hx => hid x (List.mem_of_mem_take hx)
        have hml := ok2.len
        by_cases hjl : j < r.length
        case pos =>
          have jl : (j : Int) < (r.length : Int) := by omega
          have j8 : (j : Int) < 8 := by omega
          have dj : wp.cell? ⟨L.tg, k * 9 + 1 + j, none⟩ = some (.int .i64 (r.getD j 0)) := by
            have := tcell wp hV.bel (1 + j) (by omega)
            rw [← Nat.add_assoc] at this
            rw [this]
            unfold rcs
            match j, (by omega : j < 8) with
            | 0, _ => rfl
            | 1, _ => rfl
            | 2, _ => rfl
            | 3, _ => rfl
            | 4, _ => rfl
            | 5, _ => rfl
            | 6, _ => rfl
            | 7, _ => rfl
          have e3 := Sh.meets_snoc (r.take j) (r.getD j 0) M
          rw [← take_next (0 : Int) hjl] at e3
          generalize r.getD j 0 = x at dj e3
          generalize (Sh.meets M (r.take j)).1 = M1 at hV ok2 hml e3
          generalize (Sh.meets M (r.take j)).2 = R1 at hrow e3
          obtain ⟨ao, cp, rfl, _⟩ := own_slice hV.met
          obtain ⟨ra, rc, rfl, _⟩ := own_slice hrow
          generalize hy : Sh.num (Sh.add M1 x) x = y at e3
          go_wp2_with (first
            | (go_at_call 55; refine (yNumber _ M1 ao cp (by omega) hV.met x).mono ?_; rintro e w2 ⟨v2, rfl, hm2, hb2, hv2⟩; rw [hy]; have V2 := hV.meet hm2 hb2 hv2; have hrow2 := own_bel hrow hb2; obtain ⟨ao2, cp2, rfl, _⟩ := own_slice hm2)
            | (at_builtin; refine wpList_append_mine _ rfl _ _ 53 rfl 3 i3 _ 1 8 Try.underlying53 hi3 hz03 hz13 hz23 rfl (by decide) (.slice ra j rc) _ _ rfl (hrow2.alloc _) ⟨w2.heap.size, 0, none⟩ 1 1 [.int .i64 y] rfl rfl (new1 _ _ rfl _ _) (by intro u hu; simp at hu; rw [hu]; rfl) (by unfold maxLen; omega) (by omega) (by decide) ?_; intro g3 cp3 w3 hrow3 hgr3 hn3))
          have V3 := (V2.alloc _).grow hgr3 g3 hn3 (hrow3.lt g3 rfl).2
          go_roundw
          case rel =>
            refine ⟨j + 1, by omega, by go_num, ?_, ?_⟩
            · rw [e3]; exact V3
            · rw [e3, ints_snoc]; exact hrow3
          case measure => simp [intOf]; omega
        case neg =>
          rw [List.take_of_length_le (by omega)] at hV hrow ok2 hml
          have hq := hV.cell0
          obtain ⟨-, vs, -, hvs, -⟩ := id hV.ri
          simp only [List.length_map, hrl] at hvs
          obtain ⟨va, vc, rfl, _⟩ := own_slice hvs
          obtain ⟨ao, cp, rfl, _⟩ := own_slice hV.met
          have hml2 := Sh.meets_len r M
          obtain ⟨ra, rc, rfl, _⟩ := own_slice hrow
          have ls := lt_of_block hV.s
          go_wp2_with (at_builtin; refine wpList_append_mine _ rfl _ _ 47 rfl 53 ii _ 1 24 Try.underlying47 hi hz0 hz1 hz2 rfl (by decide) (.slice va k vc) _ vs rfl (hvs.alloc _) ⟨wp.heap.size, 0, none⟩ 1 1 [.slice ra j rc] rfl rfl (new1 _ _ rfl _ _) (by intro u hu; simp at hu; rw [hu]; rfl) (by unfold maxLen; omega) (by omega) (by decide) ?_; intro g3 cp3 w3 hown3 hgr3 hn3; obtain ⟨R1, c3, f3⟩ := (hV.alloc (.cells #[.slice ra j rc] 53)).addI (row := (Sh.meets M r).2) (u := .slice ra j rc) (by rw [hml2, show r.length = j by omega]; exact hrow.alloc _) (fun k hk => (hV.qk k hk).2.1) (vs := vs) (by rw [hrl]; exact hvs.alloc _) (by rw [hrl]; exact hown3) hgr3 hn3; rw [hrl] at R1)
          go_roundw
          case rel => exact ⟨k + 1, _, by omega, by go_num, by rw [e2]; exact R1⟩
          case measure => simp [intOf]; omega
    case neg =>
      rw [List.take_of_length_le (by omega)] at hV
      have okk := Sh.Ok.rruns (N := g.os.length) g.ts (Sh.Ok.nil _) fun r hr => f.rid r hr
      go_wp2
      go_loopw [4, 10] (fun mv i wr => ∃ (k : Nat) (vr vl : Value) (m : List Int) (ll : List (List (Int × Int))), k ≤ m.length ∧ i = .int .i64 k ∧ Yv w wr n1 (n1 + 1) none mv vr vl m (Sh.roots g) ll ∧ Sh.Ok g.os.length m ∧ ll.length = k ∧ Sh.objs g = ll ++ (Sh.lrun g.os (g.os.length + 1 - k) k m).2) (fun _ i _ => g.os.length - (intOf i).toNat)
      case atStart => exact ⟨0, vr, .slice none 0 0, _, [], Nat.zero_le _, rfl, hV, okk, rfl, rfl⟩
      case round =>
        clear hV okk c0
        obtain ⟨k, vr, vl, m, ll, hk, rfl, hV, okk, hll, he⟩ := hrel
        obtain ⟨wo, rfl⟩ : ∃ wo : World, wo = wr := ⟨_, rfl⟩
        have k0 : (0 : Int) ≤ (k : Int) := by omega
        have hml := okk.len
        have hmet := hV.met
        obtain ⟨ao, cp, rfl, hp⟩ := own_slice hmet
        by_cases hlt : k < m.length
        case pos =>
          have kl : (k : Int) < (m.length : Int) := by omega
          obtain ⟨mr, rfl⟩ := hp (by omega)
          have hmk := hmet.cellAt k (by omega)
          rw [ints_at m k hlt] at hmk
          have hin := okk.inn (m.getD k 0) (by rw [List.getD_eq_getElem?_getD, List.getElem?_eq_getElem hlt]; exact List.getElem_mem _)
          obtain ⟨idx, hidx⟩ : ∃ idx : Nat, m.getD k 0 = (idx : Int) + 1 := ⟨(m.getD k 0 - 1).toNat, by omega⟩
          rw [hidx] at hin hmk
          have hil : idx < g.os.length := by omega
          have ho : Sh.kth g.os m k = g.os.getD idx [] := by unfold Sh.kth; rw [hidx]; simp
          have hfit := Sh.kth_fit f m k
          have e3 : Sh.lrun g.os (g.os.length + 1 - k) k m = ((Sh.lrun g.os (g.os.length + 1 - (k + 1)) (k + 1) (Sh.fmeets m (Sh.kth g.os m k)).1).1, (Sh.fmeets m (Sh.kth g.os m k)).2 :: (Sh.lrun g.os (g.os.length + 1 - (k + 1)) (k + 1) (Sh.fmeets m (Sh.kth g.os m k)).1).2) := by
            rw [show g.os.length + 1 - k = (g.os.length + 1 - (k + 1)) + 1 by omega]
            simp only [Sh.lrun, hlt, if_true]
          rw [ho] at hfit e3
          obtain ⟨lb, lc, u, hvl, hui, _, _⟩ := hg.at hil
          have oat : ∀ x, Below w.heap.size w x → x.cell? ⟨L.b, 1, none⟩ = some (.slice (some ⟨lb, 0, none⟩) g.os.length lc) ∧ x.cell? ⟨lb, idx, none⟩ = some u ∧ x.ownsRow 0 37 2 u (g.os.getD idx []).length (vcells (g.os.getD idx [])) := fun x hb => by
            have h1 := hg.below hb
            have c1 := h1.cell1
            rw [hvl] at c1
            obtain ⟨lb', lc', u', e1, e2, e3, e4⟩ := h1.at hil
            rw [hvl] at e1
            rw [hui] at e2
            injection e1 with e1 _ e1c
            injection e1 with e1
            injection e1 with e1
            injection e2 with e2
            subst e1 e2
            exact ⟨c1, e3, e4⟩
          clear hvl hui
          generalize g.os.getD idx [] = o at hfit e3 oat
          have ok2 := Sh.Ok.fmeets o okk hfit.1
          have e5 : Sh.objs g = (ll ++ [(Sh.fmeets m o).2]) ++ (Sh.lrun g.os (g.os.length + 1 - (k + 1)) (k + 1) (Sh.fmeets m o).1).2 := by rw [he, e3]; simp
          have hgrow : k + 1 ≤ (Sh.fmeets m o).1.length := Nat.le_trans hlt (Sh.fmeets_grow o m)
          have hV1 := hV.row (.cells #[] 37)
          have hR1 := own_begin wo 37 2
          have hmk1 : (wo.alloc (.cells #[] 37)).cell? ⟨mr, k, none⟩ = some (.int .i64 ((idx : Int) + 1)) := by
            have := (hmet.alloc (.cells #[] 37)).cellAt k (by omega)
            rw [ints_at m k hlt, hidx] at this
            exact this
          obtain ⟨c1, cu, ou⟩ := oat _ hV1.bel
          obtain ⟨ua, uc, hu, hup⟩ := own_slice ou
          rw [hu] at cu ou
          have hil' : (idx : Int) < (g.os.length : Int) := by omega
          have o7 := hfit.2
          have eS : IntKind.i64.wrap ((idx : Int) + 1 - 1) = (idx : Int) := by
            rw [show (idx : Int) + 1 - 1 = (idx : Int) by omega]; exact wrap_small _ (by omega) (by omega)
          go_wp2
          go_region
          go_wp2
          go_loopw [4, 11, 13] (fun mv rv i wr => ∃ j : Nat, j ≤ o.length ∧ i = .int .i64 j ∧ Yv w wr n1 (n1 + 1) rv.ownBlock mv vr vl (Sh.fmeets m (o.take j)).1 (Sh.roots g) ll ∧ wr.ownsRow 0 37 2 rv j (vcells (Sh.fmeets m (o.take j)).2)) (fun _ _ i _ => o.length - (intOf i).toNat)
          case atStart => exact ⟨0, Nat.zero_le _, rfl, hV1.drew, hR1⟩
          case round =>
            clear hV1 hR1 hV hmet ou c1 cu hmk1 hmk he e3
            obtain ⟨j, hj, rfl, hV, hrow⟩ := hrel
            obtain ⟨wp, rfl⟩ : ∃ wp : World, wp = wr := ⟨_, rfl⟩
            have j0 : (0 : Int) ≤ (j : Int) := by omega
            have ok3 := Sh.Ok.fmeets (o.take j) okk fun v hv => hfit.1 v (List.mem_of_mem_take hv)
            have hml3 := ok3.len
            by_cases hjl : j < o.length
            case pos =>
              have jl : (j : Int) < (o.length : Int) := by omega
              obtain ⟨_, _, ou⟩ := oat wp hV.bel
              rw [hu] at ou
              obtain ⟨ub, hub⟩ := hup (by omega)
              subst hub
              have hv := vcells_at o j (o.getD j (0, 0)) (by rw [List.getD_eq_getElem?_getD, List.getElem?_eq_getElem hjl]; rfl)
              have hvl := vcells_length o
              have d1 := ou.cellAt (j * 2) (by omega)
              have d2 := ou.cellAt (j * 2 + 1) (by omega)
              rw [hv.1] at d1
              rw [hv.2] at d2
              have e4 := Sh.fmeets_snoc (o.take j) (o.getD j (0, 0)) m
              rw [← take_next (0, 0) hjl] at e4
              generalize o.getD j (0, 0) = v at d1 d2 e4
              obtain ⟨x, yv⟩ := v
              generalize (Sh.fmeets m (o.take j)).1 = M1 at hV ok3 hml3 e4
              generalize (Sh.fmeets m (o.take j)).2 = R1 at hrow e4
              clear hv ou
              have hmet := hV.met
              obtain ⟨ao1, cp1, hvm, _⟩ := own_slice hmet
              subst hvm
              obtain ⟨ra, rc, hvr, _⟩ := own_slice hrow
              subst hvr
              simp only at d1 d2
              by_cases hx1 : x = 1
              case pos =>
                subst hx1
                have eA : Sh.fadd M1 (1, yv) = Sh.add M1 yv := by unfold Sh.fadd; rw [if_pos rfl]
                have eN : Sh.fnum (Sh.add M1 yv) (1, yv) = (1, Sh.num (Sh.add M1 yv) yv) := by unfold Sh.fnum; rw [if_pos rfl]
                rw [eA, eN] at e4
                clear eA eN
                generalize hy : Sh.num (Sh.add M1 yv) yv = y at e4
                have hbx := heap_alloc_new wp (.cells #[.int .i64 1, .int .i64 yv] 37)
                have lmet : ∀ k, (Value.slice ao1 M1.length cp1).ownBlock = some k → k < wp.heap.size := fun k hk => by obtain ⟨_, hc⟩ := own_blk hmet k hk; exact lt_of_block hc
                go_wp2_with (fail)
                go_at_call 55
                refine (yNumber _ M1 ao1 cp1 (by omega) (hmet.alloc _) yv).mono ?_
                rintro e w2 ⟨v2, rfl, hm2, hb2, hv2⟩
                rw [hy]
                have hx2 := (hb2.block wp.heap.size (by simp)).trans hbx
                have z0 : w2.cell? ⟨wp.heap.size, 0, none⟩ = some (.int .i64 1) := by rw [cell_of_row w2 _ _ _ _ _ hx2]; rfl
                have z1 : w2.cell? ⟨wp.heap.size, 1, none⟩ = some (.int .i64 yv) := by rw [cell_of_row w2 _ _ _ _ _ hx2]; rfl
                have zf : w2.frozen? ⟨wp.heap.size, 1, none⟩ = false := frozen_of_row w2 _ _ _ _ hx2
                have B4 : Below wp.heap.size wp (w2.setCell ⟨wp.heap.size, 1, none⟩ (.int .i64 y)) := (bt (bal (Below.refl _ _) _) hb2).setCell (Nat.le_refl _) _
                have hne2 : v2.ownBlock ≠ some wp.heap.size := fun e => by
                  rcases hv2 with rfl | hv2
                  · exact absurd (lmet _ e) (Nat.lt_irrefl _)
                  · have h9 := hv2 _ e
                    rw [World.size_alloc] at h9
                    omega
                have hm4 := ownsRow_setCell_other hm2 (a := ⟨wp.heap.size, 1, none⟩) (fun e => hne2 e) (.int .i64 y)
                have V4 := hV.meet hm4 B4 (hv2.imp id fun h k hk => Nat.le_trans (by simp) (h k hk))
                have hrow4 := own_bel hrow B4
                obtain ⟨ao2, cp2, hv2s, _⟩ := own_slice hm2
                subst hv2s
                go_wp2_with (at_builtin; refine wpList_append_mine _ rfl _ _ 60 rfl 37 iV _ 2 16 Try.underlying60 hiV hz0V hz1V hz2V rfl (by decide) (.slice ra j rc) _ _ rfl (hrow4.alloc _) ⟨w2.heap.size, 0, none⟩ 1 1 [.int .i64 1, .int .i64 y] rfl rfl (newV2 _ _ (by simp) _ _ _) (by intro u hu; simp at hu; rcases hu with rfl | rfl <;> rfl) (by unfold maxLen; omega) (by omega) (by decide) ?_; intro g3 cp3 w3 hrow3 hgr3 hn3)
                have V5 := (V4.alloc _).grow hgr3 g3 hn3 (hrow3.lt g3 rfl).2
                go_roundw
                case rel =>
                  refine ⟨j + 1, by omega, by go_num, ?_, ?_⟩
                  · rw [e4]; exact V5
                  · rw [e4, vcells_snoc]; exact hrow3
                case measure => simp [intOf]; omega
              case neg =>
                have eA : Sh.fadd M1 (x, yv) = M1 := by unfold Sh.fadd; rw [if_neg hx1]
                have eN : Sh.fnum M1 (x, yv) = (x, yv) := by unfold Sh.fnum; rw [if_neg hx1]
                rw [eA, eN] at e4
                clear eA eN
                have hx1' : (x == 1) = false := by simpa using hx1
                clear hx1
                have hV4 := hV.alloc (.cells #[.int .i64 x, .int .i64 yv] 37)
                have hrow4 := hrow.alloc (.cells #[.int .i64 x, .int .i64 yv] 37)
                go_wp2_with (at_builtin; refine wpList_append_mine _ rfl _ _ 60 rfl 37 iV _ 2 16 Try.underlying60 hiV hz0V hz1V hz2V rfl (by decide) (.slice ra j rc) _ _ rfl (hrow4.alloc _) ⟨wp.heap.size + 1, 0, none⟩ 1 1 [.int .i64 x, .int .i64 yv] rfl rfl (newV2 _ _ (by simp) _ _ _) (by intro u hu; simp at hu; rcases hu with rfl | rfl <;> rfl) (by unfold maxLen; omega) (by omega) (by decide) ?_; intro g3 cp3 w3 hrow3 hgr3 hn3)
                have V5 := (hV4.alloc _).grow hgr3 g3 hn3 (hrow3.lt g3 rfl).2
                go_roundw
                case rel =>
                  refine ⟨j + 1, by omega, by go_num, ?_, ?_⟩
                  · rw [e4]; exact V5
                  · rw [e4, vcells_snoc]; exact hrow3
                case measure => simp [intOf]; omega
            case neg =>
              rw [List.take_of_length_le (by omega)] at hV hrow
              have hq := hV.cell1
              obtain ⟨-, vs, -, hvs, -⟩ := id hV.rv
              simp only [List.length_map, hll] at hvs
              obtain ⟨va, vc, hvv, _⟩ := own_slice hvs
              subst hvv
              obtain ⟨ao1, cp1, hvm, _⟩ := own_slice hV.met
              subst hvm
              have hml2 := Sh.fmeets_len o m
              obtain ⟨ra, rc, hvr, _⟩ := own_slice hrow
              subst hvr
              have ls := lt_of_block hV.s
              go_wp2_with (at_builtin; refine wpList_append_mine _ rfl _ _ 48 rfl 60 iv _ 1 24 Try.underlying48 hi' hz0' hz1' hz2' rfl (by decide) (.slice va k vc) _ vs rfl (hvs.alloc _) ⟨wp.heap.size, 0, none⟩ 1 1 [.slice ra j rc] rfl rfl (new1 _ _ rfl _ _) (by intro u hu; simp at hu; rw [hu]; rfl) (by unfold maxLen; omega) (by omega) (by decide) ?_; intro g3 cp3 w3 hown3 hgr3 hn3; obtain ⟨R1, c3, f3⟩ := (hV.alloc (.cells #[.slice ra j rc] 60)).addV (row := (Sh.fmeets m o).2) (u := .slice ra j rc) (by rw [hml2, show o.length = j by omega]; exact hrow.alloc _) (fun k hk => (hV.qk k hk).2.1) (vs := vs) (by rw [hll]; exact hvs.alloc _) (by rw [hll]; exact hown3) hgr3 hn3; rw [hll] at R1)
              go_roundw
              case rel => exact ⟨k + 1, vr, _, _, _, hgrow, by go_num, R1, ok2, by simp [hll], e5⟩
              case measure => simp [intOf]; omega
        case neg =>
          have e6 : Sh.objs g = ll := by rw [he, Sh.lrun_end _ _ hlt]; simp
          obtain ⟨xr, nr, yr, rfl⟩ : ∃ a n c, vr = .slice a n c := by obtain ⟨a, c, h⟩ := hV.ri.slice; exact ⟨a, _, c, h⟩
          obtain ⟨xl, nl, yl, rfl⟩ : ∃ a n c, vl = .slice a n c := by obtain ⟨a, c, h⟩ := hV.rv.slice; exact ⟨a, _, c, h⟩
          have R := yv_end hV
          rw [← e6] at R
          have s0 := hV.cell0
          have s1 := hV.cell1
          have d0 : wo.cell? ⟨n1, 0, none⟩ = some (.slice none 0 0) := by rw [cell_of_row wo _ _ _ _ _ hV.r]; rfl
          have d1 : wo.cell? ⟨n1, 1, none⟩ = some (.slice none 0 0) := by rw [cell_of_row wo _ _ _ _ _ hV.r]; rfl
          have hf : ∀ j, wo.frozen? ⟨n1, j, none⟩ = false := fun j => frozen_of_row wo _ _ _ _ hV.r
          clear he e6
          go_wp2
          exact bodyPost_ret (v := .agg #[.slice xr nr yr, .slice xl nl yl]) (by simp [results, Try.results32, go_sem, d0, d1]) rfl ⟨_, _, rfl, R⟩
end Go.Proofs.Ytbihdkdefopijaa
