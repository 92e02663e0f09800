/-
  The list of grey objects in a memory, said plainly: no program in sight.
-/
import Derived.Test.YtkgmfnllhjedpaaDoorGt
namespace Go.Proofs.YtkgmfnllhjedpaaDoor
set_option linter.unusedVariables false
set_option maxRecDepth 100000
open S.Plain (t0 t1 tw nx)
open H.Plain (hw pS pC pN pM pG pT pL)

/-- the word of a grey object -/
def gw (L : Int) : Int := hw 1 0 1 1 1 0 L
theorem gw_parts {L : Int} (h : 0 ≤ L) (h' : L < 160) : pS (gw L) = 1 ∧ pM (gw L) = 1 ∧ pN (gw L) = 1 ∧ pL (gw L) = L := by
  unfold gw H.Plain.hw H.Plain.pS H.Plain.pM H.Plain.pN H.Plain.pL
  omega
theorem gw_of {L : Int} (h : 0 ≤ L) (h' : L < 160) : Hd.of (gw L) = ⟨1, 0, 1, 1, 1, 0, L⟩ := Hd.of_w ⟨1, 0, 1, 1, 1, 0, L⟩ (show (0:Int) ≤ 1 ∧ (1:Int) < 4 by decide) (show (0:Int) ≤ 0 ∧ (0:Int) < 4 by decide) (show (0:Int) ≤ 1 ∧ (1:Int) < 8 by decide) (show (0:Int) ≤ 1 ∧ (1:Int) < 2 by decide) (show (0:Int) ≤ 1 ∧ (1:Int) < 2 by decide) (show (0:Int) ≤ 0 ∧ (0:Int) < 8 by decide) ⟨h, show L < 4096 by omega⟩
def first : List Int → Int
  | [] => 0
  | c :: _ => c
def Ch (s : St) : List Int → Prop
  | [] => True
  | c :: r => s.word c = gw (first r) ∧ Ch s r
theorem Ch.same {s s' : St} {l : List Int} (h : Ch s l) (e : ∀ c ∈ l, s'.word c = s.word c) : Ch s' l := by
  induction l with
  | nil => trivial
  | cons c r ih => exact ⟨by rw [e c (by simp)]; exact h.1, ih h.2 fun d hd => e d (by simp [hd])⟩
theorem first_rfr {l : List Int} (h : ∀ c ∈ l, Hdr c) : Rfr (first l) := by
  cases l with
  | nil => exact .inl rfl
  | cons c r => exact .inr (h c (by simp))
theorem Ch.mem {s : St} {l : List Int} (h : Ch s l) (ho : ∀ c ∈ l, Hdr c) {a : Int} (ha : a ∈ l) : ∃ L, Rfr L ∧ s.word a = gw L := by
  induction l with
  | nil => simp at ha
  | cons c r ih =>
    simp at ha
    rcases ha with rfl | ha
    · exact ⟨first r, first_rfr fun d hd => ho d (by simp [hd]), h.1⟩
    · exact ih h.2 (fun d hd => ho d (by simp [hd])) ha
structure GL (s : St) (l : List Int) (v : Nat) : Prop where
  len : s.ws.length = 160
  t : s.t = 0
  head : s.word 1 = tw (first l) v
  chain : Ch s l
  objs : ∀ c ∈ l, Hdr c
  nodup : l.Nodup
/-- what was not shaded is as it was laid -/
def White (s : St) (l : List Int) : Prop := ∀ a, Hdr a → a ∉ l → s.word a = 17
theorem no_skip : ¬ skips 17 1 := by decide
theorem gw_skip {L : Int} (h : Rfr L) : skips (gw L) 1 := Or.inr (gw_parts h.bounds.1 h.bounds.2).2.1
section
variable {s : St} {l : List Int} {v : Nat} {a : Int}
theorem GL.t0 (h : GL s l v) : S.Plain.t0 (s.word 1) = first l := by
  have := (first_rfr h.objs).bounds
  rw [h.head]; exact t0_tw' this.1 this.2
/-- one more is shaded -/
theorem GL.shade (h : GL s l v) (hw' : White s l) (hv : v < 1000) (ha : Hdr a) (hn : a ∉ l) :
    ∃ x1 x2 x3 x4 x5 s1 s2 s3 s4 s5, (ShadeS.new a 1).next s = x1 ∧ (ShadeS.new a 1).mem s = s1 ∧ x1.next s1 = x2 ∧ x1.mem s1 = s2 ∧ x2.next s2 = x3 ∧ x2.mem s2 = s3 ∧ x3.next s3 = x4 ∧ x3.mem s3 = s4 ∧ x4.next s4 = x5 ∧ x4.mem s4 = s5 ∧
      x1.pc = 2 ∧ x2.pc = 3 ∧ x3.pc = 4 ∧ x4.pc = 5 ∧ x5.pc = 0 ∧ GL s5 (a :: l) (v + 1) ∧ White s5 (a :: l) := by
  have e17 := hw' a ha hn
  obtain ⟨x1, x2, x3, x4, x5, s1, s2, s3, s4, s5, q1, q2, q3, q4, q5, q6, q7, q8, q9, q10, p1, p2, p3, p4, p5, L5, T5, W1, Wa, Wo⟩ := shade_alone h.len ha.in_ ha.ne.1 ha.ne.2 (by rw [e17]; exact no_skip) h.t
  refine ⟨x1, x2, x3, x4, x5, s1, s2, s3, s4, s5, q1, q2, q3, q4, q5, q6, q7, q8, q9, q10, p1, p2, p3, p4, p5, ⟨L5, T5, ?_, ⟨?_, ?_⟩, ?_, ?_⟩, ?_⟩
  · rw [W1, h.head, nx_tw (by omega)]; rfl
  · rw [Wa, e17, h.t0]; rfl
  · exact h.chain.same fun c hc => Wo c (h.objs c hc).in_ (h.objs c hc).ne.2 (fun e => hn (e ▸ hc))
  · intro c hc
    simp at hc
    rcases hc with rfl | hc
    · exact ha
    · exact h.objs c hc
  · exact List.nodup_cons.2 ⟨hn, h.nodup⟩
  · intro b hb hbl
    simp at hbl
    rw [Wo b hb.in_ hb.ne.2 hbl.1]
    exact hw' b hb hbl.2
/-- what was shaded is left alone -/
theorem GL.skip (h : GL s l v) (ha : a ∈ l) : ∃ x1, (ShadeS.new a 1).next s = x1 ∧ (ShadeS.new a 1).mem s = s.load a ∧ x1.pc = 0 := by
  obtain ⟨L, hL, e⟩ := h.chain.mem h.objs ha
  exact shade_skip h.len (h.objs a ha).in_ (h.objs a ha).ne.1 (by rw [e]; exact gw_skip hL)
theorem GL.load (h : GL s l v) {b : Int} (hb : In b) : GL (s.load b) l v := ⟨h.len, by rw [t_load h.len hb]; exact h.t, h.head, h.chain.same fun _ _ => rfl, h.objs, h.nodup⟩
theorem GL.none (h : GL s [] v) : ∃ x1, NextS.new.next s = x1 ∧ NextS.new.mem s = s.load 1 ∧ x1.pc = 0 ∧ x1.cell = 0 ∧ x1.count = 0 := next_none h.len h.t0
theorem GL.next {c : Int} (h : GL s (c :: l) v) (hv : v < 1000) :
    ∃ x1 x2 x3 x4 s1 s2 s3 s4, NextS.new.next s = x1 ∧ NextS.new.mem s = s1 ∧ x1.next s1 = x2 ∧ x1.mem s1 = s2 ∧ x2.next s2 = x3 ∧ x2.mem s2 = s3 ∧ x3.next s3 = x4 ∧ x3.mem s3 = s4 ∧
      x1.pc = 2 ∧ x2.pc = 3 ∧ x3.pc = 4 ∧ x4.pc = 0 ∧ x4.cell = c ∧ x4.count = 1 ∧ GL s4 l (v + 1) := by
  have hc := h.objs c (by simp)
  have hf : Rfr (first l) := first_rfr fun d hd => h.objs d (by simp [hd])
  obtain ⟨x1, x2, x3, x4, s1, s2, s3, s4, q1, q2, q3, q4, q5, q6, q7, q8, p1, p2, p3, p4, a1, a2, L4, T4, W1, Wc, Wo⟩ := next_alone (c := c) h.len h.t0 hc.ne.1 hc.ne.2 hc.in_ h.t
  obtain ⟨_, _, g3, g4⟩ := gw_parts hf.bounds.1 hf.bounds.2
  refine ⟨x1, x2, x3, x4, s1, s2, s3, s4, q1, q2, q3, q4, q5, q6, q7, q8, p1, p2, p3, p4, a1, ?_, L4, T4, ?_, ?_, fun d hd => h.objs d (by simp [hd]), (List.nodup_cons.1 h.nodup).2⟩
  · rw [a2, h.chain.1, g3]
  · rw [W1, h.head, h.chain.1, g4, nx_tw (by omega)]
  · exact h.chain.2.same fun d hd => Wo d (h.objs d (by simp [hd])).in_ (h.objs d (by simp [hd])).ne.2 (fun e => (List.nodup_cons.1 h.nodup).1 (e ▸ hd))
end
theorem take_rev {R : List Int} {n : Nat} (h : n < R.length) : (R.take (n + 1)).reverse = R[n] :: (R.take n).reverse := by
  rw [List.take_succ_eq_append_getElem h]
  simp
/-- a row of truths, as cells -/
def bl (n : Nat) (f : Nat → Bool) : Array Value := ((List.range n).map fun i => Value.bool (f i)).toArray
theorem bl_at {n i : Nat} (f : Nat → Bool) (h : i < n) : (bl n f)[i]? = some (.bool (f i)) := by simp [bl, h]
theorem bl_size (n : Nat) (f : Nat → Bool) : (bl n f).size = n := by simp [bl]
theorem bl_set {n i : Nat} (f : Nat → Bool) (b : Bool) : (bl n f).setIfInBounds i (.bool b) = bl n (fun k => if k = i then b else f k) := by
  apply Array.ext_getElem?
  intro k
  rw [Array.getElem?_setIfInBounds]
  by_cases hk : k < n
  · rw [bl_at _ hk, bl_size]
    by_cases e : i = k
    · subst e; rw [bl_at _ hk]; simp [hk]
    · rw [bl_at _ hk]; simp [e, Ne.symm e]
  · have e1 : (bl n f)[k]? = none := by simp [bl]; omega
    have e2 : (bl n fun j => if j = i then b else f j)[k]? = none := by simp [bl]; omega
    rw [e1, e2, bl_size]
    by_cases e : i = k
    · subst e; simp [hk]
    · simp [e]
end Go.Proofs.YtkgmfnllhjedpaaDoor
