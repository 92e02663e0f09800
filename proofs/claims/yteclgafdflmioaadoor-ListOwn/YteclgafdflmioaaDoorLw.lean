/-
  A worker begins, and steps: what becomes of the four.
-/
import Derived.Test.YteclgafdflmioaaDoorLs
namespace Go.Proofs.YteclgafdflmioaaDoor
set_option linter.unusedVariables false
set_option maxRecDepth 100000
open Go.ChangeShapes Go.WideShapes Go.RowKit
open S.Plain (t0 t1 tw nx)
open H.Plain (hw pL)

theorem get_set (cs : Array Value) (i j : Nat) (u : Value) (hi : i < cs.size) : (cs.setIfInBounds i u)[j]? = if i = j then some u else cs[j]? := by
  rw [Array.getElem?_setIfInBounds]
  by_cases e : i = j
  · subst e; simp [hi]
  · simp [e]
section
variable {w0 w w' : World} {b y B k N M : Nat} {s : St} {wk : Nat → Wk} {cs : Array Value}
theorem len_pop {x : PopS} (ok : x.Ok) : (x.mem s).ws.length = s.ws.length := by
  obtain ⟨hd, l, z, pc⟩ := x
  rcases pc_cases ok.pc with rfl | rfl | rfl | rfl
  · rfl
  · rfl
  · rfl
  · exact St.n_cas _ _ _ _
theorem len_push {x : PushS} (ok : x.Ok) : (x.mem s).ws.length = s.ws.length := by
  obtain ⟨hd, f, l, c, z, pc⟩ := x
  rcases pc_cases ok.pc with rfl | rfl | rfl | rfl
  · rfl
  · rfl
  · exact St.n_store _ _ _
  · exact St.n_cas _ _ _ _
theorem cBegin (h : Two w0 w b y s s N) (t : Team w0 w B wk M) (hk : k < 4) (hM : M ≤ 1000) (pops : Bool) :
    Calls Tryd.prog 11 #[.pointer (some ⟨B, k * 5, none⟩), .bool pops] w fun e w' => e = .returned (.tuple #[]) ∧ Two w0 w' b y s s N ∧ ∃ wk', Team w0 w' B wk' M := by
  obtain ⟨cs, hB, hs20, hc⟩ := t.arr
  have hik := t.is k hk
  have hlk := t.len k hk
  have ck := hc k hk
  have hkk : k * 5 + 4 < 20 := by omega
  obtain ⟨tk, htk⟩ : ∃ tk, wk k = tk := ⟨_, rfl⟩
  rw [htk] at ck hik hlk
  obtain ⟨job, pm, rm, v2, v3, vh, hs⟩ := tk
  have c0 := ck 0 (by omega)
  have c1 := ck 1 (by omega)
  have c2 := ck 2 (by omega)
  have c3 := ck 3 (by omega)
  have c4 := ck 4 (by omega)
  cases job with
  | pop x =>
    refine (bBusy (p := pm) (q := 0) hB pops (.inl c0)).mono ?_
    rintro e w' ⟨rfl, rfl⟩
    exact ⟨rfl, h, wk, t⟩
  | push x =>
    refine (bBusy (p := 0) (q := pm) hB pops (.inr ⟨c0, c1⟩)).mono ?_
    rintro e w' ⟨rfl, rfl⟩
    exact ⟨rfl, h, wk, t⟩
  | idle =>
    by_cases hp : pops = true ∨ hs = []
    · refine (bPop h hB pops c0 c1 c2 c4 hik.row hp).mono ?_
      rintro e w' ⟨rfl, h', p, q, B', P', Q', o', lp, lq⟩
      refine ⟨rfl, h', _, t.upd (t := ⟨.pop (PopS.new 3), p, q, v2, v3, vh, hs⟩) hk hB B' (by simp [hs20]) ?_ ?_ (o'.mono (by simp)) ⟨⟨P', PopS.ok_new 3, 0, Q', rfl, U64.zero⟩, ?_⟩ ?_ (Nat.le_refl _) hlk⟩
      · intro j hj hjk i hi
        rw [get_set _ _ _ _ (by simp [hs20]; omega), if_neg (by omega), get_set _ _ _ _ (by omega), if_neg (by omega)]
      · intro i hi
        rw [get_set _ _ _ _ (by simp [hs20]; omega), get_set _ _ _ _ (by omega)]
        match i, hi with
        | 0, _ => rw [if_neg (by omega), if_pos (by omega)]; rfl
        | 1, _ => rw [if_neg (by omega), if_neg (by omega)]; exact c1
        | 2, _ => rw [if_pos rfl]; rfl
        | 3, _ => rw [if_neg (by omega), if_neg (by omega)]; exact c3
        | 4, _ => rw [if_neg (by omega), if_neg (by omega)]; exact c4
      · exact hik.row.oth o' fun k hk' hkB => by
          have := hik.ne hB (by decide)
          simp at hkB
          exact this (by simp [Wk.fp, ← hkB, hk'])
      · intro z hz
        simp only [Wk.fp, Wk.mps, List.mem_append, List.mem_cons, List.not_mem_nil, or_false] at hz
        rw [htk]
        rcases hz with (rfl | rfl) | hz
        · exact .inr lp
        · exact .inr lq
        · exact .inl (by simp only [Wk.fp, Wk.mps, List.mem_append]; exact .inr hz)
    · have hpf : pops = false := by cases pops <;> simp_all
      subst hpf
      have hne : hs ≠ [] := fun e => hp (.inr e)
      have key : Calls Tryd.prog 11 #[.pointer (some ⟨B, k * 5, none⟩), .bool false] w fun e w' => e = .returned (.tuple #[]) ∧ Two w0 w' b y s s N ∧ ∃ a r vh' p q, hs = a :: r ∧ Blk w0 w' B 35 (((cs.setIfInBounds (k * 5 + 4) vh').setIfInBounds (k * 5 + 1) (ptr p)).setIfInBounds (k * 5 + 3) (ptr q)) ∧
          Blk w0 w' p 82 (PushS.new 3 a a 0).cells ∧ Blk w0 w' q 92 (PushS.new 3 a a 0).rcells ∧ Oth [B] w w' ∧ w.heap.size ≤ p ∧ w.heap.size ≤ q ∧ RowI w0 w' vh' r ∧ ∀ k, vh'.ownBlock = some k → w.heap.size ≤ k := by
        match hs, hne, hik.row, hlk with
        | [a], _, hr, hl =>
          refine (bPush1 h hB c0 c1 c3 c4 hr (by simp)).mono ?_
          rintro e w' ⟨rfl, h', vh', p, q, R⟩
          exact ⟨rfl, h', a, [], vh', p, q, rfl, R⟩
        | a :: c :: r, _, hr, hl =>
          refine (bPush2 h hB c0 c1 c3 c4 hr (Nat.le_trans hl hM)).mono ?_
          rintro e w' ⟨rfl, h', vh', p, q, R⟩
          exact ⟨rfl, h', a, c :: r, vh', p, q, rfl, R⟩
      refine key.mono ?_
      rintro e w' ⟨rfl, h', a, r, vh', p, q, rfl, B', P', Q', o', lp, lq, R', nR⟩
      refine ⟨rfl, h', _, t.upd (t := ⟨.push (PushS.new 3 a a 0), p, q, v2, v3, vh', r⟩) hk hB B' (by simp [hs20]) ?_ ?_ (o'.mono (by simp)) ⟨⟨P', PushS.ok_new 3 a a 0, Q'⟩, R'⟩ ?_ (Nat.le_refl _) (by simp at hlk; show r.length ≤ M; omega)⟩
      · intro j hj hjk i hi
        rw [get_set _ _ _ _ (by simp [hs20]; omega), if_neg (by omega), get_set _ _ _ _ (by simp [hs20]; omega), if_neg (by omega), get_set _ _ _ _ (by omega), if_neg (by omega)]
      · intro i hi
        rw [get_set _ _ _ _ (by simp [hs20]; omega), get_set _ _ _ _ (by simp [hs20]; omega), get_set _ _ _ _ (by omega)]
        match i, hi with
        | 0, _ => rw [if_neg (by omega), if_neg (by omega), if_neg (by omega)]; exact c0
        | 1, _ => rw [if_neg (by omega), if_pos rfl]; rfl
        | 2, _ => rw [if_neg (by omega), if_neg (by omega), if_neg (by omega)]; exact c2
        | 3, _ => rw [if_pos rfl]; rfl
        | 4, _ => rw [if_neg (by omega), if_neg (by omega), if_pos rfl]; rfl
      · intro z hz
        simp only [Wk.fp, Wk.mps, List.mem_append, List.mem_cons, List.not_mem_nil, or_false, Option.mem_toList] at hz
        rcases hz with (rfl | rfl) | hz
        · exact .inr lp
        · exact .inr lq
        · exact .inr (nR z hz)
theorem cStep (h : Two w0 w b y s s N) (hN : N + 2 ≤ 1000000) (t : Team w0 w B wk M) (hk : k < 4) (hM : M ≤ 1000) :
    Calls Tryd.prog 12 #[.pointer (some ⟨B, k * 5, none⟩), .pointer (some ⟨b, 0, none⟩), .pointer (some ⟨y, 0, none⟩)] w fun e w' => e = .returned (.bool true) ∧ ∃ s' wk', Two w0 w' b y s' s' (N + 1 + 1) ∧ s'.ws.length = s.ws.length ∧ Team w0 w' B wk' (M + 1) := by
  obtain ⟨cs, hB, hs20, hc⟩ := t.arr
  have hik := t.is k hk
  have hlk := t.len k hk
  have ck := hc k hk
  have hkk : k * 5 + 4 < 20 := by omega
  have tM : Team w0 w B wk (M + 1) := ⟨t.arr, t.is, t.apart, fun j hj => Nat.le_succ_of_le (t.len j hj)⟩
  obtain ⟨tk, htk⟩ : ∃ tk, wk k = tk := ⟨_, rfl⟩
  have hfpk : (wk k).fp = tk.fp := by rw [htk]
  rw [htk] at ck hik hlk
  obtain ⟨job, pm, rm, v2, v3, vh, hs⟩ := tk
  have c0 := ck 0 (by omega)
  have c1 := ck 1 (by omega)
  have c2 := ck 2 (by omega)
  have c3 := ck 3 (by omega)
  have c4 := ck 4 (by omega)
  have nBk := hik.ne hB (by decide)
  cases job with
  | idle =>
    refine (sIdle hB c0 c1).mono ?_
    rintro e w' ⟨rfl, rfl⟩
    exact ⟨rfl, s, wk, h.mono (by omega), rfl, tM⟩
  | pop x =>
    obtain ⟨hP, ok, q, hQ, hq, hu⟩ := hik.mach
    rcases hd : ((x.next s).pc == 0) with _ | _
    · refine (sPopN h hN hB c0 c2 c4 hP ok hQ hq hu hik.row hd).mono ?_
      rintro e w' ⟨rfl, h', B', P', ⟨q', Q', hq', hu'⟩, R', o'⟩
      refine ⟨rfl, _, _, h', len_pop ok, t.upd (t := ⟨.pop (x.next s), pm, rm, v2, v3, vh, hs⟩) hk hB B' hs20 (fun _ _ _ _ _ => rfl) (fun i hi => ?_) (o'.mono ?_) ⟨⟨P', ok.next h.rng1, q', Q', hq', hu'⟩, R'⟩ (fun z hz => .inl ?_) (by omega) (by show hs.length ≤ M + 1; exact Nat.le_succ_of_le hlk)⟩
      · match i, hi with
        | 0, _ => exact c0
        | 1, _ => exact c1
        | 2, _ => exact c2
        | 3, _ => exact c3
        | 4, _ => exact c4
      · rw [hfpk]; intro z hz; simp only [Wk.fp, Wk.mps, List.mem_cons, List.mem_append]; simp at hz; rcases hz with rfl | rfl
        · exact .inr (.inl (.inl rfl))
        · exact .inr (.inl (.inr (.inl rfl)))
      · rw [hfpk]; exact hz
    · by_cases ha : (x.next s).at_ = 0
      · refine (sPopE h hN hB c0 c2 c4 hP ok hQ hq hu hik.row hd ha).mono ?_
        rintro e w' ⟨rfl, h', B', R', o'⟩
        refine ⟨rfl, _, _, h', len_pop ok, t.upd (t := ⟨.idle, pm, rm, ptr rm, v3, vh, hs⟩) hk hB B' (by simp [hs20]) ?_ (fun i hi => ?_) (o'.mono ?_) ⟨trivial, R'⟩ (fun z hz => .inl ?_) (by omega) (by show hs.length ≤ M + 1; exact Nat.le_succ_of_le hlk)⟩
        · intro j hj hjk i hi
          rw [get_set _ _ _ _ (by omega), if_neg (by omega)]
        · rw [get_set _ _ _ _ (by omega)]
          match i, hi with
          | 0, _ => rw [if_pos (by omega)]; rfl
          | 1, _ => rw [if_neg (by omega)]; exact c1
          | 2, _ => rw [if_neg (by omega)]; exact c2
          | 3, _ => rw [if_neg (by omega)]; exact c3
          | 4, _ => rw [if_neg (by omega)]; exact c4
        · rw [hfpk]; intro z hz; simp only [Wk.fp, Wk.mps, List.mem_cons, List.mem_append]; simp at hz; rcases hz with rfl | rfl | rfl
          · exact .inl rfl
          · exact .inr (.inl (.inl rfl))
          · exact .inr (.inl (.inr (.inl rfl)))
        · rw [hfpk]; simp only [Wk.fp, Wk.mps, List.mem_append, List.not_mem_nil, false_or] at hz ⊢; exact .inr hz
      · refine (sPopA h hN hB c0 c2 c4 hP ok hQ hq hu hik.row (Nat.le_trans hlk hM) hd ha).mono ?_
        rintro e w' ⟨rfl, h', vh', B', R', o', nR⟩
        refine ⟨rfl, _, _, h', len_pop ok, t.upd (t := ⟨.idle, pm, rm, ptr rm, v3, vh', hs ++ [(x.next s).at_]⟩) hk hB B' (by simp [hs20]) ?_ (fun i hi => ?_) (o'.mono ?_) ⟨trivial, R'⟩ (fun z hz => ?_) (by omega) (by simp at hlk ⊢; omega)⟩
        · intro j hj hjk i hi
          rw [get_set _ _ _ _ (by simp [hs20]; omega), if_neg (by omega), get_set _ _ _ _ (by omega), if_neg (by omega)]
        · rw [get_set _ _ _ _ (by simp [hs20]; omega), get_set _ _ _ _ (by omega)]
          match i, hi with
          | 0, _ => rw [if_pos (by omega)]; rfl
          | 1, _ => rw [if_neg (by omega), if_neg (by omega)]; exact c1
          | 2, _ => rw [if_neg (by omega), if_neg (by omega)]; exact c2
          | 3, _ => rw [if_neg (by omega), if_neg (by omega)]; exact c3
          | 4, _ => rw [if_neg (by omega), if_pos rfl]; rfl
        · rw [hfpk]; intro z hz; simp only [Wk.fp, Wk.mps, List.mem_cons, List.mem_append] at hz ⊢; rcases hz with rfl | rfl | rfl | hz
          · exact .inl rfl
          · exact .inr (.inl (.inl rfl))
          · exact .inr (.inl (.inr (.inl rfl)))
          · exact .inr (.inr hz)
        · rw [hfpk]; simp only [Wk.fp, Wk.mps, List.mem_append, List.not_mem_nil, false_or, Option.mem_toList] at hz ⊢
          exact (nR z hz).imp .inr id
  | push x =>
    obtain ⟨hP, ok, hQ⟩ := hik.mach
    rcases hd : ((x.next s).pc == 0) with _ | _
    · refine (sPushN h hN hB c0 c1 c3 c4 hP ok hQ hik.row hd).mono ?_
      rintro e w' ⟨rfl, h', B', P', Q', R', o'⟩
      refine ⟨rfl, _, _, h', len_push ok, t.upd (t := ⟨.push (x.next s), pm, rm, v2, v3, vh, hs⟩) hk hB B' hs20 (fun _ _ _ _ _ => rfl) (fun i hi => ?_) (o'.mono ?_) ⟨⟨P', ok.next h.rng1, Q'⟩, R'⟩ (fun z hz => .inl ?_) (by omega) (by show hs.length ≤ M + 1; exact Nat.le_succ_of_le hlk)⟩
      · match i, hi with
        | 0, _ => exact c0
        | 1, _ => exact c1
        | 2, _ => exact c2
        | 3, _ => exact c3
        | 4, _ => exact c4
      · rw [hfpk]; intro z hz; simp only [Wk.fp, Wk.mps, List.mem_cons, List.mem_append]; simp at hz; rcases hz with rfl | rfl
        · exact .inr (.inl (.inl rfl))
        · exact .inr (.inl (.inr (.inl rfl)))
      · rw [hfpk]; exact hz
    · refine (sPushD h hN hB c0 c1 c3 c4 hP ok hQ hik.row hd).mono ?_
      rintro e w' ⟨rfl, h', B', R', o'⟩
      refine ⟨rfl, _, _, h', len_push ok, t.upd (t := ⟨.idle, pm, rm, v2, ptr rm, vh, hs⟩) hk hB B' (by simp [hs20]) ?_ (fun i hi => ?_) (o'.mono ?_) ⟨trivial, R'⟩ (fun z hz => .inl ?_) (by omega) (by show hs.length ≤ M + 1; exact Nat.le_succ_of_le hlk)⟩
      · intro j hj hjk i hi
        rw [get_set _ _ _ _ (by omega), if_neg (by omega)]
      · rw [get_set _ _ _ _ (by omega)]
        match i, hi with
        | 0, _ => rw [if_neg (by omega)]; exact c0
        | 1, _ => rw [if_pos (by omega)]; rfl
        | 2, _ => rw [if_neg (by omega)]; exact c2
        | 3, _ => rw [if_neg (by omega)]; exact c3
        | 4, _ => rw [if_neg (by omega)]; exact c4
      · rw [hfpk]; intro z hz; simp only [Wk.fp, Wk.mps, List.mem_cons, List.mem_append]; simp at hz; rcases hz with rfl | rfl | rfl
        · exact .inl rfl
        · exact .inr (.inl (.inl rfl))
        · exact .inr (.inl (.inr (.inl rfl)))
      · rw [hfpk]; simp only [Wk.fp, Wk.mps, List.mem_append, List.not_mem_nil, false_or] at hz ⊢; exact .inr hz
end
end Go.Proofs.YteclgafdflmioaaDoor
