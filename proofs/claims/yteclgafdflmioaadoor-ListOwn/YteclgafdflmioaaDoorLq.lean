/-
  A list in a memory, said plainly: no program in sight.
-/
import Derived.Test.YteclgafdflmioaaDoorLp
namespace Go.Proofs.YteclgafdflmioaaDoor
set_option linter.unusedVariables false
open S.Plain (t0 t1 tw nx)
open H.Plain (hw pL)

/-- an address of a memory of 160 words -/
def In (a : Int) : Prop := 0 ≤ a ∧ a < 160
section
variable {s : St} {a b x : Int}
theorem In.is1 (h : s.ws.length = 160) (ha : In a) : s.is1 a = true := by
  simp only [St.is1, Bool.and_eq_true, decide_eq_true_eq]; rw [h]; exact ⟨ha.1, by have := ha.2; omega⟩
theorem In.got (h : s.ws.length = 160) (ha : In a) : s.got a = s.word a := by simp [St.got, ha.is1 h]
theorem word_put (h : s.ws.length = 160) (ha : In a) (hb : In b) : (s.put a x).word b = if a = b then x else s.word b := by
  obtain ⟨i, rfl⟩ : ∃ i : Nat, a = i := ⟨a.toNat, by have := ha.1; omega⟩
  obtain ⟨j, rfl⟩ : ∃ j : Nat, b = j := ⟨b.toNat, by have := hb.1; omega⟩
  have hj : j < s.ws.length := by have := hb.2; omega
  have hi : i < s.ws.length := by have := ha.2; omega
  simp only [St.word, St.put, Int.toNat_natCast, List.getD_eq_getElem?_getD, List.getElem?_set]
  by_cases e : i = j
  · subst e; simp [hi]
  · simp [e]; omega
theorem t_tell (h : s.ws.length = 160) (ha : In a) (op : Int) (ok : Bool) : (s.tell op a (s.is1 a) ok).t = s.t := by simp [St.tell, ha.is1 h]
theorem t_load (h : s.ws.length = 160) (ha : In a) : (s.load a).t = s.t := t_tell h ha _ _
theorem t_store (h : s.ws.length = 160) (ha : In a) : (s.store a x).t = s.t := by simp [St.store, St.tell, St.put, ha.is1 h]
theorem t_cas (h : s.ws.length = 160) (ha : In a) (o : Int) : (s.cas a o x).t = s.t := by unfold St.cas; split <;> simp [St.tell, St.put, ha.is1 h]
theorem word_load (s : St) (a b : Int) : (s.load a).word b = s.word b := rfl
theorem word_store (h : s.ws.length = 160) (ha : In a) (hb : In b) : (s.store a x).word b = if a = b then x else s.word b := by
  rw [← word_put h ha hb]; simp only [St.store, ha.is1 h, if_true]; rfl
theorem ok1_iff (h : s.ws.length = 160) (ha : In a) (o : Int) : s.ok1 a o = (s.word a == o) := by simp [St.ok1, ha.is1 h]
theorem word_cas_ok (h : s.ws.length = 160) (ha : In a) (hb : In b) {o : Int} (ho : s.word a = o) : (s.cas a o x).word b = if a = b then x else s.word b := by
  rw [← word_put h ha hb]; simp only [St.cas, ok1_iff h ha, ho, beq_self_eq_true, if_true]; rfl
theorem word_cas_no (h : s.ws.length = 160) (ha : In a) {o : Int} (ho : s.word a ≠ o) : (s.cas a o x).word b = s.word b := by
  simp only [St.cas, ok1_iff h ha, beq_eq_false_iff_ne.2 ho, Bool.false_eq_true, if_false]; rfl
end

/-- the first of a list of cells (0: none) -/
def first : List Int → Int
  | [] => 0
  | c :: _ => c
/-- each cell's link names the next -/
def Chain (s : St) : List Int → Prop
  | [] => True
  | c :: r => pL (s.word c) = first r ∧ Chain s r
/-- a row of cells, each linked to the next; the last one's link is not looked at -/
def RowOk (s : St) : List Int → Prop
  | [] => True
  | c :: r => (r ≠ [] → pL (s.word c) = first r) ∧ RowOk s r
/-- where a cell may lie -/
def Cl (c : Int) : Prop := 4 ≤ c ∧ c < 160
structure Lst (s : St) (l : List Int) (v : Nat) : Prop where
  len : s.ws.length = 160
  head : s.word 3 = tw (first l) v
  chain : Chain s l
  cells : ∀ c ∈ l, Cl c
  nodup : l.Nodup

theorem In3 : In 3 := ⟨by omega, by omega⟩
theorem Cl.in_ {c : Int} (h : Cl c) : In c := ⟨by have := h.1; omega, h.2⟩
theorem Cl.ne {c : Int} (h : Cl c) : (3 : Int) ≠ c := by have := h.1; omega
theorem first_cases {l : List Int} (h : ∀ c ∈ l, Cl c) : first l = 0 ∧ l = [] ∨ Cl (first l) ∧ l ≠ [] := by
  cases l with
  | nil => exact .inl ⟨rfl, rfl⟩
  | cons c r => exact .inr ⟨h c (by simp), by simp⟩
theorem first_bounds {l : List Int} (h : ∀ c ∈ l, Cl c) : 0 ≤ first l ∧ first l < 160 := by
  rcases first_cases h with ⟨e, _⟩ | ⟨e, _⟩
  · rw [e]; omega
  · exact ⟨by have := e.1; omega, e.2⟩
theorem t0_tw' {c v : Int} (h : 0 ≤ c) (h' : c < 160) : t0 (tw c v) = c := by rw [S.Plain.t0_tw]; omega
theorem t1_tw' {c : Int} {v : Nat} (h : v < 1099511627776) : t1 (tw c v) = v := by rw [S.Plain.t1_tw]; omega
theorem tw_inj {c d : Int} {v u : Nat} (hv : v < 1099511627776) (hu : u < 1099511627776) (h : tw c v = tw d u) : v = u := by
  have := congrArg t1 h
  rw [t1_tw' hv, t1_tw' hu] at this
  omega
theorem nx_tw {c d : Int} {v : Nat} (h : v < 1099511627776) : nx (tw c v) d = tw d ((v + 1 : Nat) : Int) := by
  unfold S.Plain.nx; rw [t1_tw' h]; rfl
theorem pL_hw {c l : Int} (h : 0 ≤ l) (h' : l < 160) (hc : 0 ≤ c) (hc' : c < 4) : pL (hw 0 c 0 0 0 0 l) = l := by unfold H.Plain.hw H.Plain.pL; omega

theorem Chain.same {s s' : St} {l : List Int} (h : Chain s l) (e : ∀ c ∈ l, s'.word c = s.word c) : Chain s' l := by
  induction l with
  | nil => trivial
  | cons c r ih => exact ⟨by rw [e c (by simp)]; exact h.1, ih h.2 fun d hd => e d (by simp [hd])⟩
theorem RowOk.same {s s' : St} {l : List Int} (h : RowOk s l) (e : ∀ c ∈ l.dropLast, s'.word c = s.word c) : RowOk s' l := by
  induction l with
  | nil => trivial
  | cons c r ih =>
    cases r with
    | nil => exact ⟨fun h => absurd rfl h, trivial⟩
    | cons d r => exact ⟨fun hr => by rw [e c (by simp [List.dropLast])]; exact h.1 hr, ih h.2 fun k hk => e k (by simp only [List.dropLast, List.mem_cons]; exact .inr hk)⟩
theorem chain_row {s : St} {l : List Int} : ∀ {row : List Int}, RowOk s row → (hr : row ≠ []) → pL (s.word (row.getLast hr)) = first l → Chain s l → Chain s (row ++ l) := by
  intro row
  induction row with
  | nil => intro _ hr; exact absurd rfl hr
  | cons c r ih =>
    intro h hr hl hc
    cases r with
    | nil => exact ⟨by simpa using hl, hc⟩
    | cons d r => exact ⟨h.1 (by simp), ih h.2 (by simp) (by simpa using hl) hc⟩
theorem first_append {row l : List Int} (h : row ≠ []) : first (row ++ l) = first row := by
  cases row with
  | nil => exact absurd rfl h
  | cons c r => rfl

namespace Lst
variable {s : St} {l : List Int} {v : Nat}
theorem fb (h : Lst s l v) : 0 ≤ first l ∧ first l < 160 := first_bounds h.cells
theorem load (h : Lst s l v) (a : Int) : Lst (s.load a) l v := ⟨h.len, h.head, h.chain.same fun _ _ => rfl, h.cells, h.nodup⟩
theorem cas_no (h : Lst s l v) {o x : Int} (ho : s.word 3 ≠ o) : Lst (s.cas 3 o x) l v :=
  ⟨by rw [St.n_cas]; exact h.len, by rw [word_cas_no h.len In3 ho]; exact h.head, h.chain.same fun c hc => word_cas_no h.len In3 ho, h.cells, h.nodup⟩
theorem store (h : Lst s l v) {a x : Int} (ha : Cl a) (hl : a ∉ l) : Lst (s.store a x) l v :=
  ⟨by rw [St.n_store]; exact h.len, by rw [word_store h.len ha.in_ In3, if_neg (Ne.symm ha.ne)]; exact h.head,
    h.chain.same fun c hc => by rw [word_store h.len ha.in_ (h.cells c hc).in_, if_neg (fun e : a = c => hl (e ▸ hc))], h.cells, h.nodup⟩
theorem pop {c : Int} {r : List Int} (h : Lst s (c :: r) v) (hv : v < 1099511627776) {o k : Int} (ho : s.word 3 = o) (hk : k = first r) : Lst (s.cas 3 o (nx o k)) r (v + 1) := by
  have hr : ∀ d ∈ r, Cl d := fun d hd => h.cells d (by simp [hd])
  refine ⟨by rw [St.n_cas]; exact h.len, ?_, h.chain.2.same fun d hd => ?_, hr, (List.nodup_cons.1 h.nodup).2⟩
  · rw [word_cas_ok h.len In3 In3 ho, if_pos rfl, ← ho, h.head, nx_tw hv, hk]
  · rw [word_cas_ok h.len In3 (hr d hd).in_ ho, if_neg (hr d hd).ne]
theorem push (h : Lst s l v) (hv : v < 1099511627776) {o : Int} (ho : s.word 3 = o) {row : List Int} (hr : row ≠ []) (hok : RowOk s row) (hl : pL (s.word (row.getLast hr)) = first l)
    (hc : ∀ c ∈ row, Cl c) (hn : (row ++ l).Nodup) : Lst (s.cas 3 o (nx o (first row))) (row ++ l) (v + 1) := by
  have hcl : ∀ c ∈ row ++ l, Cl c := fun c h' => (List.mem_append.1 h').elim (hc c) (h.cells c)
  refine ⟨by rw [St.n_cas]; exact h.len, ?_, (chain_row hok hr hl h.chain).same fun d hd => ?_, hcl, hn⟩
  · rw [word_cas_ok h.len In3 In3 ho, if_pos rfl, ← ho, h.head, nx_tw hv, first_append hr]
  · rw [word_cas_ok h.len In3 (hcl d hd).in_ ho, if_neg (hcl d hd).ne]
theorem push1 (h : Lst s l v) (hv : v < 1099511627776) {o c : Int} (ho : s.word 3 = o) (hl : pL (s.word c) = first l) (hc : Cl c) (hn : c ∉ l) : Lst (s.cas 3 o (nx o c)) (c :: l) (v + 1) :=
  h.push (row := [c]) hv ho (by simp) ⟨fun e => absurd rfl e, trivial⟩ hl (fun d hd => by simp at hd; subst hd; exact hc) (by simpa using ⟨hn, h.nodup⟩)
end Lst

/-- a new memory has an empty list -/
theorem lst_new : Lst (St.new 160) [] 0 where
  len := by simp [St.new]
  head := by simp [St.new, St.word, first, S.Plain.tw]
  chain := trivial
  cells := fun _ h => by simp at h
  nodup := List.nodup_nil

/-- three steps of a Pop, alone -/
theorem pop_alone {s : St} {c : Int} {r : List Int} {v : Nat} (h : Lst s (c :: r) v) (hv : v < 1099511627776) (ht : s.t = 0) :
    ∃ x1 x2 x3 s1 s2 s3, (PopS.new 3).next s = x1 ∧ (PopS.new 3).mem s = s1 ∧ x1.next s1 = x2 ∧ x1.mem s1 = s2 ∧ x2.next s2 = x3 ∧ x2.mem s2 = s3 ∧
      x1.pc = 2 ∧ x2.pc = 3 ∧ x3.pc = 0 ∧ x1.at_ = 0 ∧ x2.at_ = 0 ∧ x3.at_ = c ∧ x3.saw = s.word 3 ∧ Lst s3 r (v + 1) ∧ s3.t = 0 ∧ s3.c = s.c + 3 := by
  have hc := h.cells c (by simp)
  have hb : 0 ≤ c ∧ c < 160 := hc.in_
  have g3 : s.got 3 = tw c v := (In3.got h.len).trans h.head
  have e0 : t0 (tw c v) = c := t0_tw' hb.1 hb.2
  have n0 : c ≠ 0 := by have := hc.1; omega
  have h1 := h.load 3
  have gc : (s.load 3).got c = s.word c := (hc.in_.got h1.len).trans rfl
  have h2 := h1.load c
  have o3 : ((s.load 3).load c).word 3 = tw c v := h.head
  have ok : ((s.load 3).load c).ok1 3 (tw c v) = true := by rw [ok1_iff h2.len In3, o3]; simp
  have h3 := h2.pop hv o3 (k := pL (s.word c)) h.chain.1
  refine ⟨⟨3, 0, tw c v, 2⟩, ⟨3, pL (s.word c), tw c v, 3⟩, ⟨3, pL (s.word c), tw c v, 0⟩, s.load 3, (s.load 3).load c, _, ?_, rfl, ?_, ?_, ?_, rfl, rfl, rfl, rfl, rfl, rfl, ?_, ?_, ?_, ?_, ?_⟩
  · simp [PopS.new, PopS.next, g3, e0, n0]
  · simp [PopS.next, e0, gc]
  · simp [PopS.mem, e0]
  · simp [PopS.next, ok]
  · simp [PopS.at_, e0]
  · simp [PopS.saw, h.head, first]
  · exact h3
  · show (((s.load 3).load c).cas 3 _ _).t = 0
    rw [t_cas h2.len In3, t_load h1.len hc.in_, t_load h.len In3, ht]
  · show (((s.load 3).load c).cas 3 _ _).c = _
    rw [St.c_cas, St.c_load, St.c_load]; omega
/-- a Pop of an empty list -/
theorem pop_none {s : St} {v : Nat} (h : Lst s [] v) (ht : s.t = 0) :
    ∃ x1, (PopS.new 3).next s = x1 ∧ (PopS.new 3).mem s = s.load 3 ∧ x1.pc = 0 ∧ x1.at_ = 0 ∧ x1.saw = s.word 3 ∧ Lst (s.load 3) [] v ∧ (s.load 3).t = 0 := by
  have g3 : s.got 3 = tw 0 v := (In3.got h.len).trans h.head
  have e0 : t0 (tw 0 v) = 0 := t0_tw' (by omega) (by omega)
  refine ⟨⟨3, 0, tw 0 v, 0⟩, ?_, rfl, rfl, ?_, ?_, h.load 3, ?_⟩
  · simp [PopS.new, PopS.next, g3, e0]
  · simp [PopS.at_, e0]
  · simp [PopS.saw, h.head, first]
  · rw [t_load h.len In3, ht]
/-- three steps of a Push of a row, alone -/
theorem push_alone {s : St} {l row : List Int} {v : Nat} (h : Lst s l v) (hv : v < 1099511627776) (ht : s.t = 0) (hr : row ≠ []) (hok : RowOk s row) (hc : ∀ c ∈ row, Cl c) (hn : (row ++ l).Nodup) :
    ∃ x1 x2 x3 s1 s2 s3, (PushS.new 3 (first row) (row.getLast hr) 0).next s = x1 ∧ (PushS.new 3 (first row) (row.getLast hr) 0).mem s = s1 ∧ x1.next s1 = x2 ∧ x1.mem s1 = s2 ∧ x2.next s2 = x3 ∧ x2.mem s2 = s3 ∧
      x1.pc = 2 ∧ x2.pc = 3 ∧ x3.pc = 0 ∧ Lst s3 (row ++ l) (v + 1) ∧ s3.t = 0 ∧ s3.c = s.c + 3 := by
  have hl := hc (row.getLast hr) (List.getLast_mem hr)
  have hb := h.fb
  have g3 : s.got 3 = tw (first l) v := (In3.got h.len).trans h.head
  have e0 : t0 (tw (first l) v) = first l := t0_tw' hb.1 hb.2
  have h1 := h.load 3
  have hnl : row.getLast hr ∉ l := fun hm => (List.nodup_append.1 hn).2.2 _ (List.getLast_mem hr) _ hm rfl
  have h2 := h1.store (x := hw 0 0 0 0 0 0 (first l)) hl hnl
  have o3 : ((s.load 3).store (row.getLast hr) (hw 0 0 0 0 0 0 (first l))).word 3 = tw (first l) v := h2.head
  have ok : ((s.load 3).store (row.getLast hr) (hw 0 0 0 0 0 0 (first l))).ok1 3 (tw (first l) v) = true := by rw [ok1_iff h2.len In3, o3]; simp
  have hd : row.Nodup := (List.nodup_append.1 hn).1
  have hnd : row.getLast hr ∉ row.dropLast := by
    intro hm
    have e := List.dropLast_concat_getLast hr
    rw [← e] at hd
    exact (List.nodup_append.1 hd).2.2 _ hm _ (by simp) rfl
  have hok2 : RowOk ((s.load 3).store (row.getLast hr) (hw 0 0 0 0 0 0 (first l))) row := hok.same fun c hcm => by
    rw [word_store h1.len hl.in_ (hc c (List.dropLast_subset _ hcm)).in_, if_neg (fun e : row.getLast hr = c => hnd (e ▸ hcm))]; rfl
  have hpl : pL (((s.load 3).store (row.getLast hr) (hw 0 0 0 0 0 0 (first l))).word (row.getLast hr)) = first l := by
    rw [word_store h1.len hl.in_ hl.in_, if_pos rfl, pL_hw hb.1 hb.2 (by omega) (by omega)]
  have h3 := h2.push hv o3 hr hok2 hpl hc hn
  refine ⟨⟨3, first row, row.getLast hr, 0, tw (first l) v, 2⟩, ⟨3, first row, row.getLast hr, 0, tw (first l) v, 3⟩, ⟨3, first row, row.getLast hr, 0, tw (first l) v, 0⟩, s.load 3, (s.load 3).store (row.getLast hr) (hw 0 0 0 0 0 0 (first l)), _, ?_, rfl, rfl, ?_, ?_, rfl, rfl, rfl, rfl, ?_, ?_, ?_⟩
  · simp [PushS.new, PushS.next, g3]
  · simp [PushS.mem, e0]
  · simp [PushS.next, ok]
  · exact h3
  · show (((s.load 3).store _ _).cas 3 _ _).t = 0
    rw [t_cas h2.len In3, t_store h1.len hl.in_, t_load h.len In3, ht]
  · show (((s.load 3).store _ _).cas 3 _ _).c = _
    rw [St.c_cas, St.c_store, St.c_load]; omega
end Go.Proofs.YteclgafdflmioaaDoor
