/-
  A worker begins, and steps: what becomes of the four.
-/
import Derived.Test.YtilknjihceemhaaGreatDoorRs
namespace Go.Proofs.YtilknjihceemhaaGreatDoor
set_option linter.unusedVariables false
set_option maxRecDepth 100000
open Go.ChangeShapes Go.WideShapes Go.RowKit
open S.Plain (t0 t1 tw nx bw b3)
open H.Plain (hw pL)

theorem get_set (cs : Array Value) (i j : Nat) (u : Value) (hi : i < cs.size) : (cs.setIfInBounds i u)[j]? = if i = j then some u else cs[j]? := by
  rw [Array.getElem?_setIfInBounds]
  by_cases e : i = j
  · subst e; simp [hi]
  · simp [e]
theorem bk_bounds {n : Nat} (hn : n ≤ 64) (a : Int) : -1 ≤ P.Plain.bk (hpN 4 n) (szN 4 n) a ∧ P.Plain.bk (hpN 4 n) (szN 4 n) a ≤ 100 := by
  unfold P.Plain.bk szN
  split <;> omega
section
variable {w0 w w' : World} {b y B k n N M : Nat} {s1 s2 : St} {wk : Nat → Wk} {cs : Array Value}
theorem len_take {x : TakeS} {s : St} (ok : x.Ok) : (x.mem s).ws.length = s.ws.length := by
  obtain ⟨q, z, pc, c, e, v, k, u, us⟩ := x
  rcases pc6_cases ok.pc with rfl | rfl | rfl | rfl | rfl | rfl | rfl
  · rfl
  · rfl
  · rfl
  · exact St.n_cas _ _ _ _
  · exact St.n_store _ _ _
  · exact St.n_store _ _ _
  · obtain ⟨hd, f, l, c, z, pc⟩ := u
    rcases pc_cases ok.push.pc with rfl | rfl | rfl | rfl
    · rfl
    · rfl
    · exact St.n_store _ _ _
    · exact St.n_cas _ _ _ _
theorem len_give {x : GiveS} {s : St} (ok : x.Ok) : (x.mem s).ws.length = s.ws.length := by
  obtain ⟨q, z, pc, b⟩ := x
  rcases pc_cases ok.pc with rfl | rfl | rfl | rfl
  · rfl
  · rfl
  · exact St.n_store _ _ _
  · exact St.n_cas _ _ _ _
theorem give_pc {x : GiveS} {s : St} (ok : x.Ok) (h1 : 1 ≤ x.pc) (hd : ((x.next s).pc == 0) = false) : 1 ≤ (x.next s).pc := by
  have : (x.next s).pc ≠ 0 := by simpa using hd
  omega
theorem take_pc {x : TakeS} {s : St} (hd : ((x.next s).pc == 0) = false) : 1 ≤ (x.next s).pc := by
  have : (x.next s).pc ≠ 0 := by simpa using hd
  omega
theorem wBegin (h : Two w0 w b y s1 s2 N) (t : Team w0 w B wk M) (hk : k < 4) (hM : M ≤ 1000) (hn : n ≤ 64) (pops : Bool) {c : Int} (cc0 : 0 ≤ c) (cc2 : c ≤ 2) :
    Calls Tryz.prog 8 #[.pointer (some ⟨B, k * 5, none⟩), .agg #[.int .i64 (mkPl 4 n).t, .int .i64 (mkPl 4 n).b, .int .i64 (mkPl 4 n).tb, .int .i64 (mkPl 4 n).hp, .int .i64 (mkPl 4 n).sz], .bool pops, .int .i64 c] w fun e w' => e = .returned (.tuple #[]) ∧ Two w0 w' b y s1 s2 N ∧ ∃ wk', Team w0 w' B wk' M := by
  obtain ⟨cs, hB, hs20, hc⟩ := t.arr
  have hik := t.is k hk
  have hlk := t.len k hk
  have ck := hc k hk
  have hkk : k * 5 + 4 < 20 := by omega
  obtain ⟨tk, htk⟩ : ∃ tk, wk k = tk := ⟨_, rfl⟩
  rw [htk] at ck hik hlk
  obtain ⟨job, pm, rm, Q, v2, v3, vh, hs⟩ := tk
  have c0 := ck 0 (by omega)
  have c1 := ck 1 (by omega)
  have c2 := ck 2 (by omega)
  have c3 := ck 3 (by omega)
  have c4 := ck 4 (by omega)
  cases job with
  | take x =>
    refine (bBusy (p := pm) (q := 0) hB pops c (.inl c0)).mono ?_
    rintro e w' ⟨rfl, hb⟩
    exact ⟨rfl, h.below hb, wk, t.below hb⟩
  | give x =>
    refine (bBusy (p := 0) (q := pm) hB pops c (.inr ⟨c0, c1⟩)).mono ?_
    rintro e w' ⟨rfl, hb⟩
    exact ⟨rfl, h.below hb, wk, t.below hb⟩
  | idle =>
    by_cases hp : pops = true ∨ hs = []
    · refine (bTake h hB pops cc0 cc2 c0 c1 c2 c4 hik.row hp).mono ?_
      rintro e w' ⟨rfl, h', p, q, B', P', Q', o', lp, lq⟩
      refine ⟨rfl, h', _, t.upd (t := ⟨.take (TakeS.new (mkPl 4 n) c (c % 2)), p, q, none, v2, v3, vh, hs⟩) hk hB B' (by simp [hs20]) ?_ ?_ (o'.mono (by simp)) ⟨⟨P', TakeS.ok_new (mkPl_ok (by decide) hn) cc0 cc2 (by omega) (by omega), Nat.le_refl _, ⟨Q', fun k hk => absurd hk (by simp), fun h6 => absurd h6 (by simp [TakeS.new]), fun _ _ => rfl, TakeS.rk_new _ _ _⟩⟩, ?_, hik.bnd⟩ ?_ (Nat.le_refl _) hlk⟩
      · intro j hj hjk i hi
        rw [get_set _ _ _ _ (by simp [hs20]; omega), if_neg (by omega), get_set _ _ _ _ (by omega), if_neg (by omega)]
      · intro i hi
        rw [get_set _ _ _ _ (by simp [hs20]; omega), get_set _ _ _ _ (by omega)]
        match i, hi with
        | 0, _ => rw [if_neg (by omega), if_pos (by omega)]; rfl
        | 1, _ => rw [if_neg (by omega), if_neg (by omega)]; exact c1
        | 2, _ => rw [if_pos rfl]; rfl
        | 3, _ => rw [if_neg (by omega), if_neg (by omega)]; exact c3
        | 4, _ => rw [if_neg (by omega), if_neg (by omega)]; exact c4
      · exact hik.row.oth o' fun k hk' hkB => by
          have := hik.ne hB (by decide)
          simp at hkB
          exact this (by simp [Wk.fp, ← hkB, hk'])
      · intro z hz
        simp only [Wk.fp, Wk.mps, List.mem_append, List.mem_cons, Option.toList_none, List.not_mem_nil, or_false] at hz
        rw [htk]
        rcases hz with (rfl | rfl) | hz
        · exact .inr lp
        · exact .inr lq
        · exact .inl (by simp only [Wk.fp, Wk.mps, List.mem_append]; exact .inr hz)
    · have hpf : pops = false := by cases pops <;> simp_all
      subst hpf
      have hne : hs ≠ [] := fun e => hp (.inr e)
      have key : Calls Tryz.prog 8 #[.pointer (some ⟨B, k * 5, none⟩), .agg #[.int .i64 (mkPl 4 n).t, .int .i64 (mkPl 4 n).b, .int .i64 (mkPl 4 n).tb, .int .i64 (mkPl 4 n).hp, .int .i64 (mkPl 4 n).sz], .bool false, .int .i64 c] w fun e w' => e = .returned (.tuple #[]) ∧ Two w0 w' b y s1 s2 N ∧ ∃ a r vh' p q, hs = a :: r ∧ Blk w0 w' B 40 (((cs.setIfInBounds (k * 5 + 4) vh').setIfInBounds (k * 5 + 1) (ptr p)).setIfInBounds (k * 5 + 3) (ptr q)) ∧
          Blk w0 w' p 101 (GiveS.new (mkPl 4 n) a).cells ∧ Blk w0 w' q 103 (GiveS.new (mkPl 4 n) a).rcells ∧ Oth [B] w w' ∧ w.heap.size ≤ p ∧ w.heap.size ≤ q ∧ RowI w0 w' vh' r ∧ ∀ k, vh'.ownBlock = some k → w.heap.size ≤ k := by
        match hs, hne, hik.row, hlk with
        | [a], _, hr, hl =>
          refine (bGive1 (c := c) h hB c0 c1 c3 c4 hr (by simp)).mono ?_
          rintro e w' ⟨rfl, h', vh', p, q, R⟩
          exact ⟨rfl, h', a, [], vh', p, q, rfl, R⟩
        | a :: d :: r, _, hr, hl =>
          refine (bGive2 (c := c) h hB c0 c1 c3 c4 hr (Nat.le_trans hl hM)).mono ?_
          rintro e w' ⟨rfl, h', vh', p, q, R⟩
          exact ⟨rfl, h', a, d :: r, vh', p, q, rfl, R⟩
      refine key.mono ?_
      rintro e w' ⟨rfl, h', a, r, vh', p, q, rfl, B', P', Q', o', lp, lq, R', nR⟩
      have ba := hik.bnd a (by simp)
      refine ⟨rfl, h', _, t.upd (t := ⟨.give (GiveS.new (mkPl 4 n) a), p, q, none, v2, v3, vh', r⟩) hk hB B' (by simp [hs20]) ?_ ?_ (o'.mono (by simp)) ⟨⟨P', GiveS.ok_new (mkPl_ok (by decide) hn) ba.1 ba.2, Nat.le_refl _, Q'⟩, R', fun z hz => hik.bnd z (by simp [hz])⟩ ?_ (Nat.le_refl _) (by simp at hlk; show r.length ≤ M; omega)⟩
      · intro j hj hjk i hi
        rw [get_set _ _ _ _ (by simp [hs20]; omega), if_neg (by omega), get_set _ _ _ _ (by simp [hs20]; omega), if_neg (by omega), get_set _ _ _ _ (by omega), if_neg (by omega)]
      · intro i hi
        rw [get_set _ _ _ _ (by simp [hs20]; omega), get_set _ _ _ _ (by simp [hs20]; omega), get_set _ _ _ _ (by omega)]
        match i, hi with
        | 0, _ => rw [if_neg (by omega), if_neg (by omega), if_neg (by omega)]; exact c0
        | 1, _ => rw [if_neg (by omega), if_pos rfl]; rfl
        | 2, _ => rw [if_neg (by omega), if_neg (by omega), if_neg (by omega)]; exact c2
        | 3, _ => rw [if_pos rfl]; rfl
        | 4, _ => rw [if_neg (by omega), if_neg (by omega), if_pos rfl]; rfl
      · intro z hz
        simp only [Wk.fp, Wk.mps, List.mem_append, List.mem_cons, List.not_mem_nil, or_false, Option.mem_toList] at hz
        rcases hz with (rfl | rfl) | hz
        · exact .inr lp
        · exact .inr lq
        · exact .inr (nR z hz)
theorem wStep (h : Two w0 w b y s1 s2 N) (hws : s1.ws = s2.ws) (hN : N + 2 ≤ 1000000) (t : Team w0 w B wk M) (hk : k < 4) (hM : M ≤ 1000) (hn : n ≤ 64) :
    Calls Tryz.prog 9 #[.pointer (some ⟨B, k * 5, none⟩), .agg #[.int .i64 (mkPl 4 n).t, .int .i64 (mkPl 4 n).b, .int .i64 (mkPl 4 n).tb, .int .i64 (mkPl 4 n).hp, .int .i64 (mkPl 4 n).sz], .pointer (some ⟨b, 0, none⟩), .pointer (some ⟨y, 0, none⟩)] w fun e w' => e = .returned (.bool true) ∧ ∃ s1' s2' wk', Two w0 w' b y s1' s2' (N + 1 + 1) ∧ s1'.ws = s2'.ws ∧ s1'.ws.length = s1.ws.length ∧ Team w0 w' B wk' (M + 1) := by
  obtain ⟨cs, hB, hs20, hc⟩ := t.arr
  have hik := t.is k hk
  have hlk := t.len k hk
  have ck := hc k hk
  have hkk : k * 5 + 4 < 20 := by omega
  have tM : Team w0 w B wk (M + 1) := ⟨t.arr, t.is, t.apart, fun j hj => Nat.le_succ_of_le (t.len j hj)⟩
  obtain ⟨tk, htk⟩ : ∃ tk, wk k = tk := ⟨_, rfl⟩
  have hfpk : (wk k).fp = tk.fp := by rw [htk]
  rw [htk] at ck hik hlk
  obtain ⟨job, pm, rm, Q, v2, v3, vh, hs⟩ := tk
  have c0 := ck 0 (by omega)
  have c1 := ck 1 (by omega)
  have c2 := ck 2 (by omega)
  have c3 := ck 3 (by omega)
  have c4 := ck 4 (by omega)
  have nBk := hik.ne hB (by decide)
  cases job with
  | idle =>
    refine (sIdle hB c0 c1).mono ?_
    rintro e w' ⟨rfl, hb⟩
    exact ⟨rfl, s1, s2, wk, (h.below hb).mono (by omega), hws, rfl, tM.below hb⟩
  | take x =>
    obtain ⟨hP, ok, p1, hR⟩ := hik.mach
    rcases hd : ((x.next s1).pc == 0) with _ | _
    · refine (sTakeN h hws hN hB c0 c2 c4 hP ok p1 hR hik.row hd).mono ?_
      rintro e w' ⟨rfl, h', B', P', ⟨Q', hR', nQ⟩, R', o'⟩
      refine ⟨rfl, _, _, _, h', TakeS.mem_ws hws x, len_take ok, t.upd (t := ⟨.take (x.next s1), pm, rm, Q', v2, v3, vh, hs⟩) hk hB B' hs20 (fun _ _ _ _ _ => rfl) (fun i hi => ?_) (o'.mono ?_) ⟨⟨P', ok.next h.rng1, take_pc hd, hR'⟩, R', hik.bnd⟩ (fun z hz => ?_) (by omega) (by show hs.length ≤ M + 1; exact Nat.le_succ_of_le hlk)⟩
      · match i, hi with
        | 0, _ => exact c0
        | 1, _ => exact c1
        | 2, _ => exact c2
        | 3, _ => exact c3
        | 4, _ => exact c4
      · rw [hfpk]; intro z hz; simp only [Wk.fp, Wk.mps, List.mem_cons, List.mem_append] at hz ⊢; rcases hz with rfl | rfl | hz
        · exact .inr (.inl (.inl rfl))
        · exact .inr (.inl (.inr (.inl rfl)))
        · exact .inr (.inl (.inr (.inr hz)))
      · rw [hfpk]
        simp only [Wk.fp, Wk.mps, List.mem_cons, List.mem_append, Option.mem_toList] at hz ⊢
        rcases hz with (rfl | rfl | hz) | hz
        · exact .inl (.inl (.inl rfl))
        · exact .inl (.inl (.inr (.inl rfl)))
        · exact (nQ z hz).imp (fun h => .inl (.inr (.inr h))) id
        · exact .inl (.inr hz)
    · by_cases ha : (x.next s1).cell = 0
      · refine (sTakeE h hws hN hB c0 c2 c4 hP ok p1 hR hik.row hd ha).mono ?_
        rintro e w' ⟨rfl, h', B', R', o'⟩
        refine ⟨rfl, _, _, _, h', TakeS.mem_ws hws x, len_take ok, t.upd (t := ⟨.idle, pm, rm, none, ptr rm, v3, vh, hs⟩) hk hB B' (by simp [hs20]) ?_ (fun i hi => ?_) (o'.mono ?_) ⟨trivial, R', hik.bnd⟩ (fun z hz => .inl ?_) (by omega) (by show hs.length ≤ M + 1; exact Nat.le_succ_of_le hlk)⟩
        · intro j hj hjk i hi
          rw [get_set _ _ _ _ (by omega), if_neg (by omega)]
        · rw [get_set _ _ _ _ (by omega)]
          match i, hi with
          | 0, _ => rw [if_pos (by omega)]; rfl
          | 1, _ => rw [if_neg (by omega)]; exact c1
          | 2, _ => rw [if_neg (by omega)]; exact c2
          | 3, _ => rw [if_neg (by omega)]; exact c3
          | 4, _ => rw [if_neg (by omega)]; exact c4
        · rw [hfpk]; intro z hz; simp only [Wk.fp, Wk.mps, List.mem_cons, List.mem_append] at hz ⊢; rcases hz with rfl | rfl | rfl | hz
          · exact .inl rfl
          · exact .inr (.inl (.inl rfl))
          · exact .inr (.inl (.inr (.inl rfl)))
          · exact .inr (.inl (.inr (.inr hz)))
        · rw [hfpk]; simp only [Wk.fp, Wk.mps, List.mem_append, List.not_mem_nil, false_or] at hz ⊢; exact .inr hz
      · refine (sTakeA h hws hN hB c0 c2 c4 hP ok p1 hR hik.row hn (Nat.le_trans hlk hM) hd ha).mono ?_
        rintro e w' ⟨rfl, h', vh', B', R', o', nR⟩
        refine ⟨rfl, _, _, _, h', TakeS.mem_ws hws x, len_take ok, t.upd (t := ⟨.idle, pm, rm, none, ptr rm, v3, vh', hs ++ [P.Plain.bk (hpN 4 n) (szN 4 n) (x.next s1).cell]⟩) hk hB B' (by simp [hs20]) ?_ (fun i hi => ?_) (o'.mono ?_) ⟨trivial, R', fun z hz => by simp only [List.mem_append, List.mem_singleton] at hz; rcases hz with hz | rfl; exact hik.bnd z hz; exact bk_bounds hn _⟩ (fun z hz => ?_) (by omega) (by simp at hlk ⊢; omega)⟩
        · intro j hj hjk i hi
          rw [get_set _ _ _ _ (by simp [hs20]; omega), if_neg (by omega), get_set _ _ _ _ (by omega), if_neg (by omega)]
        · rw [get_set _ _ _ _ (by simp [hs20]; omega), get_set _ _ _ _ (by omega)]
          match i, hi with
          | 0, _ => rw [if_pos (by omega)]; rfl
          | 1, _ => rw [if_neg (by omega), if_neg (by omega)]; exact c1
          | 2, _ => rw [if_neg (by omega), if_neg (by omega)]; exact c2
          | 3, _ => rw [if_neg (by omega), if_neg (by omega)]; exact c3
          | 4, _ => rw [if_neg (by omega), if_pos rfl]; rfl
        · rw [hfpk]; intro z hz; simp only [Wk.fp, Wk.mps, List.mem_cons, List.mem_append] at hz ⊢; rcases hz with rfl | rfl | rfl | hz | hz
          · exact .inl rfl
          · exact .inr (.inl (.inl rfl))
          · exact .inr (.inl (.inr (.inl rfl)))
          · exact .inr (.inl (.inr (.inr hz)))
          · exact .inr (.inr hz)
        · rw [hfpk]; simp only [Wk.fp, Wk.mps, List.mem_append, List.not_mem_nil, false_or, Option.mem_toList] at hz ⊢
          exact (nR z hz).imp .inr id
  | give x =>
    obtain ⟨hP, ok, p1, hQ⟩ := hik.mach
    rcases hd : ((x.next s1).pc == 0) with _ | _
    · refine (sGiveN h hws hN hB c0 c1 c3 c4 hP ok p1 hQ hik.row hd).mono ?_
      rintro e w' ⟨rfl, h', B', P', Q', R', o'⟩
      refine ⟨rfl, _, _, _, h', GiveS.mem_ws hws x, len_give ok, t.upd (t := ⟨.give (x.next s1), pm, rm, none, v2, v3, vh, hs⟩) hk hB B' hs20 (fun _ _ _ _ _ => rfl) (fun i hi => ?_) (o'.mono ?_) ⟨⟨P', ok.next h.rng1, give_pc ok p1 hd, Q'⟩, R', hik.bnd⟩ (fun z hz => .inl ?_) (by omega) (by show hs.length ≤ M + 1; exact Nat.le_succ_of_le hlk)⟩
      · match i, hi with
        | 0, _ => exact c0
        | 1, _ => exact c1
        | 2, _ => exact c2
        | 3, _ => exact c3
        | 4, _ => exact c4
      · rw [hfpk]; intro z hz; simp only [Wk.fp, Wk.mps, List.mem_cons, List.mem_append]; simp at hz; rcases hz with rfl | rfl
        · exact .inr (.inl (.inl rfl))
        · exact .inr (.inl (.inr (.inl rfl)))
      · rw [hfpk]; exact hz
    · refine (sGiveD h hws hN hB c0 c1 c3 c4 hP ok p1 hQ hik.row hd).mono ?_
      rintro e w' ⟨rfl, h', B', R', o'⟩
      refine ⟨rfl, _, _, _, h', GiveS.mem_ws hws x, len_give ok, t.upd (t := ⟨.idle, pm, rm, none, v2, ptr rm, vh, hs⟩) hk hB B' (by simp [hs20]) ?_ (fun i hi => ?_) (o'.mono ?_) ⟨trivial, R', hik.bnd⟩ (fun z hz => .inl ?_) (by omega) (by show hs.length ≤ M + 1; exact Nat.le_succ_of_le hlk)⟩
      · intro j hj hjk i hi
        rw [get_set _ _ _ _ (by omega), if_neg (by omega)]
      · rw [get_set _ _ _ _ (by omega)]
        match i, hi with
        | 0, _ => rw [if_neg (by omega)]; exact c0
        | 1, _ => rw [if_pos (by omega)]; rfl
        | 2, _ => rw [if_neg (by omega)]; exact c2
        | 3, _ => rw [if_neg (by omega)]; exact c3
        | 4, _ => rw [if_neg (by omega)]; exact c4
      · rw [hfpk]; intro z hz; simp only [Wk.fp, Wk.mps, List.mem_cons, List.mem_append]; simp at hz; rcases hz with rfl | rfl | rfl
        · exact .inl rfl
        · exact .inr (.inl (.inl rfl))
        · exact .inr (.inl (.inr (.inl rfl)))
      · rw [hfpk]; simp only [Wk.fp, Wk.mps, List.mem_append, List.not_mem_nil, false_or] at hz ⊢; exact .inr hz
end
end Go.Proofs.YtilknjihceemhaaGreatDoor
