/-
  AllocSteps, walked.
-/
import Derived.Test.YtbojljkdpebheaaDoorAs
import Derived.Test.YtbojljkdpebheaaDoorOu
namespace Go.Proofs.YtbojljkdpebheaaDoor
set_option linter.unusedVariables false
set_option maxRecDepth 100000
open Go.ChangeShapes Go.WideShapes Go.RowKit
open S.Plain (t0 t1 tw nx bw b0 b1 b2 b3)
open H.Plain (hw pL)
/-- steps till it is done, counted -/
def stW : Nat → AllS → List Int → Nat → Nat × AllS × List Int
  | 0, x, l, n => (n, x, l)
  | k + 1, x, l, n => if (x.next (bare l)).pc = 0 then (n + 1, x.next (bare l), (x.mem (bare l)).ws) else stW k (x.next (bare l)) (x.mem (bare l)).ws (n + 1)
theorem stW_step {k n : Nat} {x : AllS} (s : St) : stW (k + 1) x s.ws n = if (x.next s).pc = 0 then (n + 1, x.next s, (x.mem s).ws) else stW k (x.next s) (x.mem s).ws (n + 1) := by
  rw [stW, AllS.next_ws (bare_ws s), AllS.mem_ws (bare_ws s)]
/-- c words from a on are others -/
def over (a : Nat) (u : Nat → Int) : Nat → List Int → List Int
  | 0, l => l
  | c + 1, l => (over a u c l).set (a + c) (u c)
theorem over_len (a : Nat) (u : Nat → Int) (c : Nat) (l : List Int) : (over a u c l).length = l.length := by
  induction c with
  | zero => rfl
  | succ c ih => simp [over, ih]
theorem over_get (a : Nat) (u : Nat → Int) (l : List Int) (i : Nat) : ∀ c, a + c ≤ l.length → (over a u c l)[i]? = if a ≤ i ∧ i < a + c then some (u (i - a)) else l[i]? := by
  intro c
  induction c with
  | zero => intro _; rw [if_neg (by omega)]; rfl
  | succ c ih =>
    intro h
    rw [over, List.getElem?_set]
    by_cases e : a + c = i
    · rw [if_pos e, if_pos (by rw [over_len]; omega), if_pos (by omega)]
      congr 2
      omega
    · rw [if_neg e, ih (by omega)]
      by_cases e2 : a ≤ i ∧ i < a + c
      · rw [if_pos e2, if_pos (by omega)]
      · rw [if_neg e2, if_neg (by omega)]
/-- words that are alike but for c of them -/
theorem over_of {a c : Nat} {l l' : List Int} (hn : l'.length = l.length) (ha : a + c ≤ l.length) (h : ∀ i, ¬ (a ≤ i ∧ i < a + c) → l'[i]? = l[i]?) : ∃ u, l' = over a u c l := by
  refine ⟨fun i => l'.getD (a + i) 0, List.ext_getElem? fun i => ?_⟩
  rw [over_get _ _ _ _ _ ha]
  by_cases e : a ≤ i ∧ i < a + c
  · rw [if_pos e, show a + (i - a) = i by omega, List.getD_eq_getElem?_getD, List.getElem?_eq_getElem (by omega)]
    rfl
  · rw [if_neg e, h i e]
/-- the words behind the first object -/
def firstW (c : Int) : List Int := (mkW 60 (AllS.new (mkPl 1 2) c 0 0) (frSt 1 2).ws).2
def atN (c : Int) : Nat := ((mkPl 1 2).cell 0 (P.Plain.cl c) 1).toNat
def stChk (c : Nat) (l : List Int) : Bool :=
  match stW 60 (AllS.new (mkPl 1 2) c 1 0) l 0 with
  | (k, x, l') => k == 4 + c && x.pc == 0 && x.cell == (atN c : Int) && (List.range c).all fun i => (bare l').got ((atN c + 1 + i : Nat) : Int) == 0
theorem st_chk0 (u : Nat → Int) : stChk 0 (over (atN 0 + 1) u 0 (firstW 0)) = true := by kernel_rfl
theorem st_chk1 (u : Nat → Int) : stChk 1 (over (atN 1 + 1) u 1 (firstW 1)) = true := by kernel_rfl
theorem st_chk2 (u : Nat → Int) : stChk 2 (over (atN 2 + 1) u 2 (firstW 2)) = true := by kernel_rfl
theorem st_chk3 (u : Nat → Int) : stChk 3 (over (atN 3 + 1) u 3 (firstW 3)) = true := by kernel_rfl
theorem st_chk4 (u : Nat → Int) : stChk 4 (over (atN 4 + 1) u 4 (firstW 4)) = true := by kernel_rfl
theorem st_chk5 (u : Nat → Int) : stChk 5 (over (atN 5 + 1) u 5 (firstW 5)) = true := by kernel_rfl
theorem st_chk6 (u : Nat → Int) : stChk 6 (over (atN 6 + 1) u 6 (firstW 6)) = true := by kernel_rfl
theorem st_chk7 (u : Nat → Int) : stChk 7 (over (atN 7 + 1) u 7 (firstW 7)) = true := by kernel_rfl
theorem st_chk (c : Nat) (hc : c < 8) (u : Nat → Int) : stChk c (over (atN c + 1) u c (firstW c)) = true := by
  match c, hc with
  | 0, _ => exact st_chk0 u
  | 1, _ => exact st_chk1 u
  | 2, _ => exact st_chk2 u
  | 3, _ => exact st_chk3 u
  | 4, _ => exact st_chk4 u
  | 5, _ => exact st_chk5 u
  | 6, _ => exact st_chk6 u
  | 7, _ => exact st_chk7 u
theorem first_ok : ∀ c : Nat, c < 8 → 0 ≤ (mkW 60 (AllS.new (mkPl 1 2) c 0 0) (frSt 1 2).ws).1 ∧ (firstW c).length = 96 ∧ atN c + 1 + c ≤ 96 ∧ (mkPl 1 2).cell 0 (P.Plain.cl (c : Nat)) 1 = (atN c : Int) := by decide +kernel
theorem chk_of {c : Nat} {l : List Int} (h : stChk c l = true) : ∃ x l', stW 60 (AllS.new (mkPl 1 2) c 1 0) l 0 = (4 + c, x, l') ∧ x.pc = 0 ∧ x.cell = (atN c : Int) ∧ ∀ i, i < c → (bare l').got ((atN c + 1 + i : Nat) : Int) = 0 := by
  unfold stChk at h
  generalize stW 60 (AllS.new (mkPl 1 2) c 1 0) l 0 = r at h
  obtain ⟨k, x, l'⟩ := r
  simp only [Bool.and_eq_true, beq_iff_eq, List.all_eq_true, List.mem_range] at h
  obtain ⟨⟨⟨h1, h2⟩, h3⟩, h4⟩ := h
  exact ⟨x, l', by rw [h1], h2, h3, h4⟩
set_option maxHeartbeats 1000000 in
theorem wAllocSteps (d : Int) (ao : Option Addr) (len cap : Nat) (z : Nat → Int) (hd : -9223372036854775808 ≤ d) (hd' : d ≤ 9223372036854775807) (w : World) (W : Laid w) (hl : CameU w ao len z) :
    Calls Tryd.prog 5 #[.int .i64 d, .slice ao len cap] w fun e w' => e = .returned (.bool true) ∧ Below w.heap.size w w' := by
  have kc := kd_bounds d 8 (by decide)
  obtain ⟨c, hC⟩ : ∃ c : Nat, kd d 8 = c := ⟨(kd d 8).toNat, by omega⟩
  have c8 : c < 8 := by omega
  clear kc
  obtain ⟨t1, t2, t3, t4⟩ := first_ok c c8
  have ck := st_chk c c8
  obtain ⟨v, hv⟩ : ∃ v, (mkW 60 (AllS.new (mkPl 1 2) c 0 0) (frSt 1 2).ws).1 = v := ⟨_, rfl⟩
  have hf : (mkW 60 (AllS.new (mkPl 1 2) c 0 0) (frSt 1 2).ws).2 = firstW c := rfl
  rw [hv] at t1
  obtain ⟨A, hA⟩ : ∃ A, atN c = A := ⟨_, rfl⟩
  rw [hA] at t3 t4 ck
  have c0 : (0 : Int) ≤ c := by omega
  have c7 : (c : Int) ≤ 7 := by omega
  have clb := cl_bounds c0 c7
  obtain ⟨K, hK⟩ : ∃ K, P.Plain.cl (c : Int) = K := ⟨_, rfl⟩
  rw [hK] at clb t4
  have pok := mkPl_ok (t := 1) (n := 2) (by decide) (by decide)
  have okA : (AllS.new (mkPl 1 2) c 1 0).Ok := AllS.ok_new pok c0 c7 (by decide) (by decide)
  go_enter Tryd.func5, Tryd.ntmps5
  go_wp2_with (go_at_call 7; refine (cShown _ W).mono ?_; rintro e w1 ⟨rfl, hb1⟩)
  go_wp2_with (first
    | (go_at_call 8; refine (kRNew 1 2 (by decide) (by decide) (by decide) (by decide) _).mono ?_; rintro e w2 ⟨rfl, hb2⟩; have hba : Below w.heap.size w (w2.alloc (.cells (mkPl 1 2).cells 25)) := S.bal (bel_trans hb1 hb2) _; have hBa : PB w (w2.alloc (.cells (mkPl 1 2).cells 25)) w2.heap.size (mkPl 1 2) := Blk.new (bel_trans hb1 hb2).size _ (by decide))
    | (go_at_call 10; refine (cFr (t := 1) (n := 2) (by decide) (by decide) (by decide) _ (W.on hba)).mono ?_; rintro e w3 ⟨b, y, rfl, h3'⟩; obtain ⟨s, h4, hws, ht⟩ := fresh_hand h3'; have hB := hBa.below h4.bel; have h5 : Hand w w3 b s (szN 1 2) := h4.lift hba W; clear h3' h4 ht hBa; rw [show szN 1 2 = 96 by decide] at h5; obtain ⟨o, ho⟩ : ∃ o, w2.heap.size = o := ⟨_, rfl⟩; rw [ho] at hB ⊢; clear ho; have p0 := hB.box.c0; have p1 := hB.box.c1; have p2 := hB.box.c2; have p3 := hB.box.c3; have p4 := hB.box.c4)
    | (go_at_call 9; refine (cKind _ d 8 hd hd' (by decide)).mono ?_; rintro e wx ⟨rfl, hwx⟩; rw [hwx, hC]; clear hwx wx)
    | (go_at_call 23; have G := cMade h5 (by decide) pok c0 c7; rw [hws, hv, hf] at G; refine G.mono ?_; rintro e w4 ⟨s4, rfl, e4, h6, o4⟩; have hB4 := hB.oth o4 (by simp); clear p0 p1 p2 p3 p4))
  clear hba hb1 hb2 hB h5 hws hf o4 s
  have keep : ∀ w', Below w4.heap.size w4 w' → w'.cell? ⟨o, 0, none⟩ = some (.int .i64 (mkPl 1 2).t) ∧ w'.cell? ⟨o, 1, none⟩ = some (.int .i64 (mkPl 1 2).b) ∧ w'.cell? ⟨o, 2, none⟩ = some (.int .i64 (mkPl 1 2).tb) ∧ w'.cell? ⟨o, 3, none⟩ = some (.int .i64 (mkPl 1 2).hp) ∧ w'.cell? ⟨o, 4, none⟩ = some (.int .i64 (mkPl 1 2).sz) := fun w' hb => by
    have B := (hB4.below hb).box
    exact ⟨B.c0, B.c1, B.c2, B.c3, B.c4⟩
  have hbd : Below w4.heap.size w4 w4.drew := (Below.refl w4.heap.size w4).drew
  have RD := keep _ hbd
  have K1 := fun w' => kRCell (q := mkPl 1 2) pok (i := 0) (k := 1) K (by decide) (by decide) (by decide) (by decide) w'
  simp only [t4] at K1
  go_region_held3 (fun w' => w'.cell? ⟨o, 0, none⟩ = some (.int .i64 (mkPl 1 2).t) ∧ w'.cell? ⟨o, 1, none⟩ = some (.int .i64 (mkPl 1 2).b) ∧ w'.cell? ⟨o, 2, none⟩ = some (.int .i64 (mkPl 1 2).tb) ∧ w'.cell? ⟨o, 3, none⟩ = some (.int .i64 (mkPl 1 2).hp) ∧ w'.cell? ⟨o, 4, none⟩ = some (.int .i64 (mkPl 1 2).sz)) (first | assumption | exact RD | exact keep _ (by assumption))
    (first
      | (go_at_call 17; refine (P.rClass c _).mono ?_; rintro e w5 ⟨rfl, hw5⟩; rw [hK]; have hb5 : Below w4.heap.size w4 w5 := (by rw [hw5]; exact hbd); clear hw5)
      | (go_at_call 26; refine (K1 _).mono ?_; rintro e w6 ⟨rfl, hb6⟩; have hb6' := bel_trans hb5 hb6))
  have hB6 := hB4.below hb6'
  have h7 := h6.below hb6'
  clear hB4 h6 RD keep hbd hb5 hb6 hb6' K1
  go_wp2
  have n4 : s4.ws.length = 96 := by rw [e4]; exact t2
  go_loopw [12] (fun i wr => ∃ (j : Nat) (s : St), j ≤ c ∧ j ≤ len ∧ i = .int .i64 j ∧ PB w wr o (mkPl 1 2) ∧ Hand w wr b s (200 + j) ∧ s.ws.length = 96 ∧ ∀ i, ¬ (A + 1 ≤ i ∧ i < A + 1 + c) → s.ws[i]? = (firstW c)[i]?) (fun i _ => c - (intOf i).toNat)
  case atStart => exact ⟨0, s4, by omega, by omega, rfl, hB6, h7.mono (by omega), n4, fun i _ => by rw [e4]⟩
  case round =>
    clear hB6 h7 n4 e4 s4
    obtain ⟨j, s, hj, hjl, rfl, q1, q2, q3, q4⟩ := hrel
    have p0 := q1.box.c0
    have p1 := q1.box.c1
    have p2 := q1.box.c2
    have p3 := q1.box.c3
    have p4 := q1.box.c4
    by_cases hlt : j < len ∧ j < c
    case pos =>
      obtain ⟨x1, x2⟩ := hlt
      rcases hl with hl0 | ⟨hb, off, hao, hbw, hcell⟩
      · omega
      · obtain ⟨y1, y2⟩ := hcell j x1
        have y3 := (q2.bel.cell hbw).trans y1
        subst hao
        have hin : s.In ((A : Int) + 1 + j) := ⟨by omega, by rw [q3]; omega⟩
        have d1 : decide ((j : Int) < len) = true := decide_eq_true (by omega)
        have d2 : decide ((j : Int) < c) = true := decide_eq_true (by omega)
        obtain ⟨u, hu⟩ : ∃ u, z j = u := ⟨_, rfl⟩
        rw [hu] at y2 y3
        go_wp2_with (go_at_call 27; refine (hStore q2 (by omega) ((A : Int) + 1 + j) y2).mono ?_; rintro e w8 ⟨rfl, q8, o8⟩)
        go_roundw
        case rel => exact ⟨j + 1, _, by omega, by omega, by go_num, q1.oth o8 (by simp), q8, by rw [St.n_store, q3], fun i hi => by
          rw [← q4 i hi]
          have e1 : (s.store ((A : Int) + 1 + j) u).ws = s.ws.set (A + 1 + j) u := by
            simp only [St.store, hin.is1, if_true, St.tell, St.put]
            rw [show ((A : Int) + 1 + j).toNat = A + 1 + j by omega]
          rw [e1, List.getElem?_set, if_neg (by omega)]⟩
        case measure => simp [intOf]; omega
    case neg =>
      obtain ⟨u, hu⟩ := over_of (l := firstW c) (a := A + 1) (c := c) (q3.trans t2.symm) (by omega) q4
      obtain ⟨x', l', f1, f2, f3, f4⟩ := chk_of (l := over (A + 1) u c (firstW c)) (ck u)
      rw [← hu] at f1
      rw [hA] at f3 f4
      go_wp2_with (go_at_call 11; refine (hNewAll q2 (mkPl 1 2) (m := 1) (e := 0) c0 c7 (by decide) (by decide)).mono ?_; rintro e w8 ⟨p, rfl, h8, B8, hb8, hp8⟩)
      all_goals
        clear p0 p1 p2 p3 p4 hb8 hp8
        generalize AllS.new (mkPl 1 2) c 1 0 = x0 at f1 B8 okA
        go_loopw [14, 15, 16] (fun st dn i wr => ∃ (j : Nat) (x : AllS) (s : St) (q : Bool), j ≤ 60 ∧ st = .int .i64 j ∧ dn = .bool q ∧ i = .int .i64 j ∧ Hand w wr b s (300 + j) ∧ Blk w wr p 85 x.cells ∧ x.Ok ∧ ((q = false ∧ stW (60 - j) x s.ws j = (4 + c, x', l')) ∨ (q = true ∧ (j, x, s.ws) = (4 + c, x', l')))) (fun _ _ i _ => 60 - (intOf i).toNat)
        case atStart => exact ⟨0, x0, s, false, by omega, rfl, rfl, rfl, h8.mono (by omega), B8, okA, .inl ⟨rfl, f1⟩⟩
        case round =>
          clear h8 B8 okA f1 q1 q2 q3 q4 hu hj hjl s
          obtain ⟨m, x, s, q, hm, rfl, rfl, rfl, r1, r2, r3, r4⟩ := hrel
          by_cases hgo : q = false ∧ m < 60
          case pos =>
            obtain ⟨rfl, hm6⟩ := hgo
            obtain ⟨_, r5⟩ := r4.resolve_right (fun h => by simp at h)
            obtain ⟨k, hk⟩ : ∃ k, 60 - m = k + 1 := ⟨59 - m, by omega⟩
            rw [hk, stW_step] at r5
            have dm : decide ((m : Int) < 60) = true := decide_eq_true (by omega)
            go_wp2_with (go_at_call 12; refine (oAll r1 r2 r3 (by omega)).mono ?_; rintro e w9 ⟨rfl, r6, r7, r8⟩)
            go_roundw
            case rel =>
              refine ⟨m + 1, x.next s, x.mem s, _, by omega, by go_num, rfl, by go_num, r6, r7, r3.next r1.rng, ?_⟩
              by_cases hz : (x.next s).pc = 0
              · rw [if_pos hz] at r5
                exact .inr ⟨by simpa using hz, r5⟩
              · rw [if_neg hz] at r5
                exact .inl ⟨by simpa using hz, by rw [show 60 - (m + 1) = k by omega]; exact r5⟩
            case measure => simp [intOf]; omega
          case neg =>
            have hq : q = true ∧ (m, x, s.ws) = (4 + c, x', l') := by
              rcases r4 with ⟨e, r5⟩ | h
              · exfalso
                have : m = 60 := by
                  by_cases h6 : m < 60
                  · exact absurd ⟨e, h6⟩ hgo
                  · omega
                subst this
                simp only [Nat.sub_self, stW, Prod.mk.injEq] at r5
                omega
              · exact h
            obtain ⟨rfl, hmx⟩ := hq
            simp only [Prod.mk.injEq] at hmx
            obtain ⟨hm4, hx, hws⟩ := hmx
            subst hx
            clear r4 hgo
            have dm : decide ((m : Int) < 60) = true := decide_eq_true (by omega)
            have dq : ((m : Int) == 4 + (c : Int)) = true := by simp; omega
            go_wp2
            go_loopw [17] (fun i wr => ∃ (n : Nat) (s : St), n ≤ c ∧ i = .int .i64 n ∧ Hand w wr b s (400 + n) ∧ Blk w wr p 85 x.cells ∧ s.ws = l') (fun i _ => c - (intOf i).toNat)
            case atStart => exact ⟨0, s, by omega, rfl, r1.mono (by omega), r2, hws⟩
            case round =>
              clear r1 r2 r3 hws hm4 s
              obtain ⟨n, s, hn, rfl, r1, r2, r3⟩ := hrel
              by_cases hnc : n < c
              case pos =>
                have g : s.got ((A : Int) + 1 + n) = 0 := by
                  have := f4 n hnc
                  rw [show ((A + 1 + n : Nat) : Int) = (A : Int) + 1 + n by omega] at this
                  rw [← this]
                  exact got_ws (s := bare l') r3 _
                go_wp2_with (go_at_call 15; refine (hLoad r1 (by omega) ((A : Int) + 1 + n)).mono ?_; rintro e w10 ⟨rfl, r6, o6⟩; rw [g])
                go_roundw
                case rel => exact ⟨n + 1, _, by omega, by go_num, r6, r2.oth o6 (by simp), r3⟩
                case measure => simp [intOf]; omega
              case neg =>
                go_wp2_with (go_at_call 18; refine (oAllCell r2).mono ?_; rintro e w10 ⟨rfl, hw10⟩; rw [hw10, f3]; clear hw10 w10)
                go_ret
                exact ⟨rfl, r1.bel⟩
end Go.Proofs.YtbojljkdpebheaaDoor
