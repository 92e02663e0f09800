/-
  An access that steps alone, where nothing was moved: it comes to its end, and what it leaves. No program in sight.
-/
import Derived.Test.YtgakmpfmckikgaaDoorDr
import Derived.Test.YtgakmpfmckikgaaDoorGq
namespace Go.Proofs.YtgakmpfmckikgaaDoor
set_option linter.unusedVariables false
set_option maxRecDepth 100000
open S.Plain (t0 t1 tw nx)
open H.Plain (hw pS pC pN pM pG pT pL mv)

/-- it ends, with at most D steps, in what Q says -/
def Fin' (x : Sx) (s : St) (D : Nat) (Q : Sx → St → Prop) : Prop := ∃ d x' s', d ≤ D ∧ Ends x s d x' s' ∧ Q x' s'
section
variable {x : Sx} {s : St} {D : Nat} {Q : Sx → St → Prop}
theorem Fin'.stop (h : x.done = true) (q : Q x s) : Fin' x s D Q := ⟨0, x, s, Nat.zero_le _, Ends.zero h, q⟩
theorem Fin'.step (h : x.done = false) {x1 : Sx} {s1 : St} (e1 : x.next s = x1) (e2 : x.mem s = s1) (k : Fin' x1 s1 D Q) : Fin' x s (D + 1) Q := by
  obtain ⟨d, x', s', hd, E, q⟩ := k
  exact ⟨d + 1, x', s', by omega, Ends.step h e1 e2 E, q⟩
theorem Fin'.mono {D' : Nat} (k : Fin' x s D Q) (h : D ≤ D') : Fin' x s D' Q := by
  obtain ⟨d, x', s', hd, E, q⟩ := k
  exact ⟨d, x', s', by omega, E, q⟩
end
/-- nothing was moved: each object is where it stands, and has three fields -/
structure Calm (S : St) : Prop where
  len : S.ws.length = 160
  t : S.t = 0
  mv : ∀ i : Nat, i < 16 → mv (S.word (96 + 4 * (i : Int))) (96 + 4 * (i : Int)) = 96 + 4 * (i : Int)
  n : ∀ i : Nat, i < 16 → pN (S.word (96 + 4 * (i : Int))) = 3
/-- all fields are as they were -/
structure Near (S s : St) : Prop where
  len : s.ws.length = 160
  t : s.t = 0
  w : ∀ a, In a → 96 ≤ a → a % 4 ≠ 0 → s.word a = S.word a
theorem Calm.near {S : St} (h : Calm S) : Near S S := ⟨h.len, h.t, fun _ _ _ _ => rfl⟩
theorem Near.load {S s : St} (h : Near S s) {a : Int} (ha : In a) : Near S (s.load a) := ⟨h.len, by rw [t_load h.len ha]; exact h.t, h.w⟩
def Vl.Obj (v : Vl) : Prop := v.far = true → ∃ i : Nat, i < 16 ∧ v.n = 96 + 4 * (i : Int)
section
variable {S s : St} {D : Nat} {Q : Sx → St → Prop} {v : Vl} {h : Hw} {t : K}
/-- what is shaded first -/
theorem shadeK_fin (hv : v.Obj) (near : Near S s) (k : ∀ s1 hit, Near S s1 → Fin' ⟨some t, hit, Ou.zero⟩ s1 D Q) (hit : Bool) : Fin' ⟨some (shadeK v h t), hit, Ou.zero⟩ s (D + 5) Q := by
  unfold shadeK
  split
  · rename_i hh
    simp only [Bool.and_eq_true] at hh
    obtain ⟨i, hi, hn⟩ := hv hh.2
    have hin : In v.n := ⟨by omega, by omega⟩
    have h0 : v.n ≠ 0 := by omega
    have h1 : v.n ≠ 1 := by omega
    by_cases hs : skips (s.word v.n) h.mr
    · obtain ⟨x1, e1, e2, e3⟩ := shade_skip near.len hin h0 hs
      refine Fin'.mono (Fin'.step (D := D) rfl (x1 := ⟨some t, false, Ou.zero⟩) (s1 := s.load v.n) ?_ ?_ (k _ _ (near.load hin))) (by omega)
      · simp only [Sx.next, K.next, e1, e3, if_true]
      · simp only [Sx.mem, K.mem, e2]
    · obtain ⟨x1, x2, x3, x4, x5, s1, s2, s3, s4, s5, n1, m1, n2, m2, n3, m3, n4, m4, n5, m5, p1, p2, p3, p4, p5, l5, t5, _, _, w5⟩ := shade_alone near.len hin h0 h1 hs near.t
      have N5 : Near S s5 := ⟨l5, t5, fun a ha ha' ha4 => (w5 a ha (by omega) (by omega)).trans (near.w a ha ha' ha4)⟩
      have st : ∀ (x x' : ShadeS) (sa sb : St) (hit : Bool), x.next sa = x' → x'.pc ≠ 0 → (Sx.mk (some (.shade x t)) hit Ou.zero).next sa = ⟨some (.shade x' t), false, Ou.zero⟩ := fun x x' sa sb hit e p => by
        simp only [Sx.next, K.next, e, if_neg p]
      refine Fin'.step rfl (st _ _ s s1 _ n1 (by omega)) m1 ?_
      refine Fin'.step rfl (st _ _ s1 s2 _ n2 (by omega)) m2 ?_
      refine Fin'.step rfl (st _ _ s2 s3 _ n3 (by omega)) m3 ?_
      refine Fin'.step rfl (st _ _ s3 s4 _ n4 (by omega)) m4 ?_
      refine Fin'.step rfl (x1 := ⟨some t, false, Ou.zero⟩) ?_ m5 (k _ _ N5)
      simp only [Sx.next, K.next, n5, p5, if_true]
  · exact (k _ _ near).mono (by omega)
end
/-- what is left behind -/
structure Left (S : St) (f : Int) (r : Rq) (x' : Sx) (s' : St) : Prop where
  len : s'.ws.length = 160
  rest : ∀ a, In a → a ≠ f → 96 ≤ a → a % 4 ≠ 0 → s'.word a = S.word a
  rd : r.op = 1 → x'.o.c = 0 ∧ x'.o.v = Vl.of (S.word f) ∧ s'.word f = S.word f
  wr : r.op = 2 → x'.o.c = 0 ∧ s'.word f = r.y.w
  yes : r.op = 3 → Vl.of (S.word f) = r.x → x'.o.y = true ∧ s'.word f = r.y.w
  no : r.op = 3 → Vl.of (S.word f) ≠ r.x → x'.o.y = false ∧ s'.word f = S.word f
section
variable {S s : St} {f : Int} {r : Rq} {h : Hw}
theorem store_fin (near : Near S s) (hf : In f) (h96 : 96 ≤ f) (h4 : f % 4 ≠ 0) (h2 : r.op = 2) (hit : Bool) : Fin' ⟨some (.store f r.y), hit, Ou.zero⟩ s 1 (Left S f r) := by
  refine Fin'.step rfl (x1 := ⟨none, true, Ou.zero⟩) (s1 := s.store f r.y.w) rfl rfl (Fin'.stop rfl ⟨n_store' near.len _ _, fun a ha hne ha96 ha4 => ?_, fun e => by omega, fun _ => ⟨rfl, ?_⟩, fun e => by omega, fun e => by omega⟩)
  · rw [word_store near.len hf ha, if_neg (Ne.symm hne)]; exact near.w a ha ha96 ha4
  · rw [word_store near.len hf hf, if_pos rfl]
theorem exch_fin (hS : S.ws.length = 160) (near : Near S s) (hf : In f) (h96 : 96 ≤ f) (h4 : f % 4 ≠ 0) (h3 : r.op = 3) (he : Vl.of (S.word f) = r.x) (hit : Bool) : Fin' ⟨some (.exch f (S.word f) r h), hit, Ou.zero⟩ s 1 (Left S f r) := by
  have e : s.word f = S.word f := near.w f hf h96 h4
  refine Fin'.step rfl (x1 := ⟨none, true, ⟨0, Vl.zero, true⟩⟩) (s1 := s.cas f (S.word f) r.y.w) ?_ rfl (Fin'.stop rfl ⟨n_cas' near.len _ _ _, fun a ha hne ha96 ha4 => ?_, fun e => by omega, fun e => by omega, fun _ _ => ⟨rfl, ?_⟩, fun _ hne => absurd he hne⟩)
  · simp only [Sx.next, K.next, ok1_iff near.len hf, e, beq_self_eq_true, if_true]
  · rw [word_cas_ok near.len hf ha e, if_neg (Ne.symm hne)]; exact near.w a ha ha96 ha4
  · rw [word_cas_ok near.len hf hf e, if_pos rfl]
theorem direct_fin (C : Calm S) (ws : s.ws = S.ws) (ht : s.t = 0) (hf : In f) (h96 : 96 ≤ f) (h4 : f % 4 ≠ 0) (hop : r.op = 1 ∨ r.op = 2 ∨ r.op = 3) (hu : (Vl.of (S.word f)).Obj) (hx : r.x.Obj) (hy : r.y.Obj) : Fin' (Sx.new f r h) s 12 (Left S f r) := by
  have hw : ∀ a, s.word a = S.word a := fun a => by simp only [St.word, ws]
  have hl : s.ws.length = 160 := by rw [ws]; exact C.len
  have near : Near S s := ⟨hl, ht, fun a _ _ _ => hw a⟩
  have g : s.got f = S.word f := by rw [hf.got hl, hw]
  have same : ∀ {x' : Sx} {s' : St}, s'.ws = s.ws → (r.op = 1 → x'.o.c = 0 ∧ x'.o.v = Vl.of (S.word f)) → r.op ≠ 2 → (r.op = 3 → Vl.of (S.word f) ≠ r.x ∧ x'.o.y = false) → Left S f r x' s' := fun {x' s'} e h1 h2 h3 => by
    have hw' : ∀ a, s'.word a = S.word a := fun a => by simp only [St.word, e, ws]
    exact ⟨by rw [e]; exact hl, fun a _ _ _ _ => hw' a, fun e1 => ⟨(h1 e1).1, (h1 e1).2, hw' f⟩, fun e2 => absurd e2 h2, fun e3 he => absurd he (h3 e3).1, fun e3 _ => ⟨(h3 e3).2, hw' f⟩⟩
  rcases hop with h1 | h2 | h3
  · have e0 : Sx.new f r h = ⟨some (.read f h.fx), false, Ou.zero⟩ := by simp [Sx.new, firstK, h1]
    rw [e0]
    rcases hfx : (h.fx && (Vl.of (S.word f)).far) with _ | _
    · refine Fin'.mono (Fin'.step (D := 0) rfl (x1 := ⟨none, true, ⟨0, Vl.of (S.word f), false⟩⟩) (s1 := s.load f) ?_ rfl (Fin'.stop rfl (same rfl (fun _ => ⟨rfl, rfl⟩) (by omega) (fun e => by omega)))) (by omega)
      simp only [Sx.next, K.next, g, hfx, Bool.false_eq_true, if_false]
    · obtain ⟨i, hi, hn⟩ := hu (by simp only [Bool.and_eq_true] at hfx; exact hfx.2)
      have hk : (Vl.of (S.word f)).k = 1 := by simp only [Bool.and_eq_true, Vl.far, beq_iff_eq] at hfx; exact hfx.2.1
      have hin : In (Vl.of (S.word f)).n := ⟨by omega, by omega⟩
      have hm : mv ((s.load f).got (Vl.of (S.word f)).n) (Vl.of (S.word f)).n = (Vl.of (S.word f)).n := by rw [got_load, hin.got hl, hw, hn]; exact C.mv i hi
      refine Fin'.mono (Fin'.step (D := 1) rfl (x1 := ⟨some (.follow (Vl.of (S.word f)).n), true, Ou.zero⟩) (s1 := s.load f) ?_ rfl (Fin'.step (D := 0) rfl (x1 := ⟨none, false, ⟨0, Vl.of (S.word f), false⟩⟩) (s1 := (s.load f).load (Vl.of (S.word f)).n) ?_ rfl (Fin'.stop rfl (same rfl (fun _ => ⟨rfl, rfl⟩) (by omega) (fun e => by omega))))) (by omega)
      · simp only [Sx.next, K.next, g, hfx, if_true]
      · simp only [Sx.next, K.next, hm]
        rw [← hk]
  · rcases hsh : h.sh with _ | _
    · have e0 : Sx.new f r h = ⟨some (.store f r.y), false, Ou.zero⟩ := by simp [Sx.new, firstK, h2, hsh]
      rw [e0]
      exact (store_fin near hf h96 h4 h2 false).mono (by omega)
    · have e0 : Sx.new f r h = ⟨some (.load f r.y h), false, Ou.zero⟩ := by simp [Sx.new, firstK, h2, hsh]
      rw [e0]
      refine Fin'.step (D := 11) rfl (x1 := ⟨some (shadeK (Vl.of (S.word f)) h (shadeK r.y h (.store f r.y))), false, Ou.zero⟩) (s1 := s.load f) ?_ rfl ?_
      · simp only [Sx.next, K.next, g]
      · exact shadeK_fin (D := 6) hu (near.load hf) (fun s1 hit n1 => shadeK_fin (D := 1) hy n1 (fun s2 hit n2 => store_fin n2 hf h96 h4 h2 hit) hit) false
  · have e0 : Sx.new f r h = ⟨some (.swap f r h), false, Ou.zero⟩ := by simp [Sx.new, firstK, h3]
    rw [e0]
    by_cases he : Vl.of (S.word f) = r.x
    · refine Fin'.step (D := 11) rfl (x1 := ⟨some (behind f (S.word f) r h), true, Ou.zero⟩) (s1 := s.load f) ?_ rfl ?_
      · simp only [Sx.next, K.next, g, if_pos he]
      · exact shadeK_fin (D := 6) hu (near.load hf) (fun s1 hit n1 => shadeK_fin (D := 1) hy n1 (fun s2 hit n2 => exch_fin C.len n2 hf h96 h4 h3 he hit) hit) true
    · rcases hc : (h.ca && (Vl.of (S.word f)).far && r.x.far) with _ | _
      · refine Fin'.mono (Fin'.step (D := 0) rfl (x1 := ⟨none, true, Ou.zero⟩) (s1 := s.load f) ?_ rfl (Fin'.stop rfl (same rfl (fun e => by omega) (by omega) (fun _ => ⟨he, rfl⟩)))) (by omega)
        simp only [Sx.next, K.next, g, if_neg he, hc, Bool.false_eq_true, if_false]
      · have hc' := hc
        simp only [Bool.and_eq_true] at hc'
        obtain ⟨⟨_, c1⟩, c2⟩ := hc'
        obtain ⟨i, hi, hn⟩ := hu c1
        obtain ⟨j, hj, hm⟩ := hx c2
        have k1 : (Vl.of (S.word f)).k = 1 := by simp only [Bool.and_eq_true, Vl.far, beq_iff_eq] at c1; exact c1.1
        have k2 : r.x.k = 1 := by simp only [Bool.and_eq_true, Vl.far, beq_iff_eq] at c2; exact c2.1
        have ne : (Vl.of (S.word f)).n ≠ r.x.n := fun e => he (by
          have q1 : Vl.of (S.word f) = ⟨(Vl.of (S.word f)).k, (Vl.of (S.word f)).n⟩ := rfl
          have q2 : r.x = ⟨r.x.k, r.x.n⟩ := rfl
          rw [q1, q2, k1, k2, e])
        have in1 : In (Vl.of (S.word f)).n := ⟨by omega, by omega⟩
        have in2 : In r.x.n := ⟨by omega, by omega⟩
        have m1 : mv ((s.load f).got (Vl.of (S.word f)).n) (Vl.of (S.word f)).n = (Vl.of (S.word f)).n := by rw [got_load, in1.got hl, hw, hn]; exact C.mv i hi
        have m2 : mv (((s.load f).load (Vl.of (S.word f)).n).got r.x.n) r.x.n = r.x.n := by rw [got_load, got_load, in2.got hl, hw, hm]; exact C.mv j hj
        refine Fin'.mono (Fin'.step (D := 2) rfl (x1 := ⟨some (.compS (Vl.of (S.word f)).n r.x.n (behind f (S.word f) r h)), true, Ou.zero⟩) (s1 := s.load f) ?_ rfl
          (Fin'.step (D := 1) rfl (x1 := ⟨some (.comp2S (Vl.of (S.word f)).n r.x.n (behind f (S.word f) r h)), false, Ou.zero⟩) (s1 := (s.load f).load (Vl.of (S.word f)).n) ?_ rfl
            (Fin'.step (D := 0) rfl (x1 := ⟨none, false, Ou.zero⟩) (s1 := ((s.load f).load (Vl.of (S.word f)).n).load r.x.n) ?_ rfl (Fin'.stop rfl (same rfl (fun e => by omega) (by omega) (fun _ => ⟨he, rfl⟩)))))) (by omega)
        · simp only [Sx.next, K.next, g, if_neg he, hc, if_true]
        · simp only [Sx.next, K.next, m1]
        · simp only [Sx.next, K.next, m2, if_neg ne]
theorem plain_fin {e : En} (C : Calm S) {i : Nat} (hi : i < 16) (ha : r.at_ = 96 + 4 * (i : Int)) (hd : 0 ≤ r.fd) (hd3 : r.fd < 3) (hfe : f = r.at_ + 1 + r.fd) (hop : r.op = 1 ∨ r.op = 2 ∨ r.op = 3) (hu : (Vl.of (S.word f)).Obj) (hx : r.x.Obj) (hy : r.y.Obj) : Fin' (Sx.plain r e) S 13 (Left S f r) := by
  have hin : In r.at_ := ⟨by omega, by omega⟩
  have e0 : Sx.plain r e = ⟨some (.plain r e), false, Ou.zero⟩ := by rw [Sx.plain, if_neg (by omega)]
  rw [e0]
  refine Fin'.step (D := 12) rfl (x1 := Sx.new f r ⟨shadesM e.md, false, false, e.mr⟩) (s1 := S.load r.at_) ?_ rfl (direct_fin C rfl (by rw [t_load C.len hin]; exact C.t) ⟨by omega, by omega⟩ (by omega) (by omega) hop hu hx hy)
  have hn : pN (S.got r.at_) = 3 := by rw [hin.got C.len, ha]; exact C.n i hi
  simp only [Sx.next, K.next, hn]
  rw [if_neg (by omega), hfe]
end
section
variable {t : Nat → Bool} {l : Nat → Vl}
theorem laidF_t {s : St} (h : s.ws.length = 160) (ht : s.t = 0) (i f : Nat) (hi : i < 16) (hf : f ≤ 3) : (laidF s t l i f).t = 0 := by
  induction f with
  | zero => simp only [laidF]; rw [t_store h ⟨by omega, by omega⟩]; exact ht
  | succ f ih => simp only [laidF]; rw [t_store (laidF_len h i f) ⟨by omega, by omega⟩]; exact ih (by omega)
theorem laid_t (j : Nat) (hj : j ≤ 16) : (laidO t l j).t = 0 := by
  induction j with
  | zero => rfl
  | succ j ih => exact laidF_t (laid_len j) (ih (by omega)) j 3 (by omega) (Nat.le_refl _)
theorem calm_laid (zt : Nat → Int) : Calm (laidO (tagP 0 zt) l 16) := by
  have no : ∀ i, tagP 0 zt i = false := fun i => by simp [tagP]
  have P : ∀ i : Nat, i < 16 → pS (hdrW (tagP 0 zt) i) = 1 ∧ pN (hdrW (tagP 0 zt) i) = 3 ∧ pT (hdrW (tagP 0 zt) i) = 0 := fun i hi => by
    obtain ⟨a, b, _, c, _⟩ := hdr_parts (tagP 0 zt) (tagP_lt 0 zt) (i := i)
    exact ⟨a, b, by rw [c, tgP, no]; rfl⟩
  refine ⟨laid_len 16, laid_t 16 (Nat.le_refl _), fun i hi => ?_, fun i hi => ?_⟩
  · rw [laid_hdr hi]
    obtain ⟨a, b, c⟩ := P i hi
    unfold H.Plain.mv
    simp [a, c]
  · rw [laid_hdr hi]; exact (P i hi).2.1
end
end Go.Proofs.YtgakmpfmckikgaaDoor
