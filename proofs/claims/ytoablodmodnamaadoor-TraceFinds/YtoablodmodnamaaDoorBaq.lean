/-
  A Reserve and an Alloc, plainly.
-/
import Derived.Test.YtoablodmodnamaaDoorBlq
namespace Go.Proofs.YtoablodmodnamaaDoor
set_option linter.unusedVariables false
set_option linter.unusedSimpArgs false
set_option maxRecDepth 100000
open Go.ChangeShapes Go.WideShapes Go.RowKit
open S.Plain (t0 t1 tw nx bw b0 b1 b2 b3)
open H.Plain (hw pS pC pN pM pG pT pL)

/-- a plan's numbers -/
structure Pl where
  t : Int
  b : Int
  tb : Int
  hp : Int
  sz : Int
structure Pl.Ok (q : Pl) : Prop where
  tb0 : 0 ≤ q.tb
  tb1 : q.tb ≤ 1000
  hp0 : 0 ≤ q.hp
  hp1 : q.hp ≤ 1000
/-- where a cell stands -/
def Pl.cell (q : Pl) (i c k : Int) : Int := q.hp + 32 * i + k * P.Plain.wd c
def Pl.val (q : Pl) : Value := .agg #[.int .i64 q.t, .int .i64 q.b, .int .i64 q.tb, .int .i64 q.hp, .int .i64 q.sz]
def Pl.cells (q : Pl) : Array Value := #[.int .i64 q.t, .int .i64 q.b, .int .i64 q.tb, .int .i64 q.hp, .int .i64 q.sz]
/-- a Take: the head that it saw, its next step (0: done), the table's word that it read, the cell that was linked last, its Push; us: its block is used -/
structure TakeS where
  pl : Pl
  seen : Int
  pc : Nat
  cls : Int
  set : Int
  raw : Int
  k : Int
  push : PushS
  us : Bool
structure GiveS where
  pl : Pl
  seen : Int
  pc : Nat
  blk : Int
def TakeS.new (q : Pl) (c e : Int) : TakeS := ⟨q, 0, 1, c, e, 0, 0, ⟨0, 0, 0, 0, 0, 0⟩, false⟩
def GiveS.new (q : Pl) (b : Int) : GiveS := ⟨q, 0, 1, b⟩
def TakeS.ent (x : TakeS) : Int := x.pl.tb + (t0 x.seen - 1)
def TakeS.ad (x : TakeS) (k : Int) : Int := x.pl.cell (t0 x.seen - 1) x.cls k
def TakeS.next (x : TakeS) (s : St) : TakeS :=
  match x.pc with
  | 1 => { x with seen := s.got 2, pc := if t0 (s.got 2) = 0 then 0 else 2 }
  | 2 => { x with raw := s.got x.ent, pc := 3 }
  | 3 => { x with pc := if s.ok1 2 x.seen then 4 else 1 }
  | 4 => { x with k := 0, us := true, pc := 5 }
  | 5 => if x.k + 2 < P.Plain.cs x.cls then { x with k := x.k + 1, pc := 5 } else { x with k := x.k + 1, push := PushS.new (3 + 3 * x.set + x.cls) (x.ad 1) (x.ad (x.k + 1)) x.cls, pc := 6 }
  | 6 => { x with push := x.push.next s, pc := if (x.push.next s).pc = 0 then 0 else 6 }
  | _ => x
def TakeS.mem (x : TakeS) (s : St) : St :=
  match x.pc with
  | 1 => s.load 2
  | 2 => s.load x.ent
  | 3 => s.cas 2 x.seen (nx x.seen (b3 x.raw))
  | 4 => s.store x.ent (bw 1 x.cls x.set 0)
  | 5 => s.store (x.ad (x.k + 1)) (hw 0 x.cls 0 0 0 0 (if x.k + 2 < P.Plain.cs x.cls then x.ad (x.k + 2) else 0))
  | 6 => x.push.mem s
  | _ => s
def GiveS.next (x : GiveS) (s : St) : GiveS :=
  match x.pc with
  | 1 => { x with seen := s.got 2, pc := 2 }
  | 2 => { x with pc := 3 }
  | 3 => { x with pc := if s.ok1 2 x.seen then 0 else 1 }
  | _ => x
def GiveS.mem (x : GiveS) (s : St) : St :=
  match x.pc with
  | 1 => s.load 2
  | 2 => s.store (x.pl.tb + x.blk) (bw 0 0 0 (t0 x.seen))
  | 3 => s.cas 2 x.seen (nx x.seen (x.blk + 1))
  | _ => s
/-- what a Take tells -/
def TakeS.cell (x : TakeS) : Int := if x.pc = 0 ∧ t0 x.seen ≠ 0 then x.ad 0 else 0
def TakeS.at_ (x : TakeS) (n : Nat) : TakeS := { x with pc := n }
def GiveS.at_ (x : GiveS) (n : Nat) : GiveS := { x with pc := n }
structure TakeS.Ok (x : TakeS) : Prop where
  pl : x.pl.Ok
  seen : U64 x.seen
  raw : U64 x.raw
  pc : x.pc ≤ 6
  c0 : 0 ≤ x.cls
  c2 : x.cls ≤ 2
  e0 : 0 ≤ x.set
  e1 : x.set ≤ 1
  k0 : 0 ≤ x.k
  k8 : x.k ≤ 8
  k5 : x.pc = 5 → x.k + 1 < P.Plain.cs x.cls
  push : x.push.Ok
structure GiveS.Ok (x : GiveS) : Prop where
  pl : x.pl.Ok
  seen : U64 x.seen
  pc : x.pc ≤ 3
  b0 : -1 ≤ x.blk
  b1 : x.blk ≤ 100
theorem pc6_cases {n : Nat} (h : n ≤ 6) : n = 0 ∨ n = 1 ∨ n = 2 ∨ n = 3 ∨ n = 4 ∨ n = 5 ∨ n = 6 := by omega
theorem cs_bounds {c : Int} (h : 0 ≤ c) (h' : c ≤ 2) : 2 ≤ P.Plain.cs c ∧ P.Plain.cs c ≤ 8 := by
  have : c = 0 ∨ c = 1 ∨ c = 2 := by omega
  rcases this with rfl | rfl | rfl <;> decide
theorem u64_bw (a b c d : Int) : U64 (bw a b c d) := ⟨S.Plain.bw_pos _ _ _ _, S.Plain.bw_le _ _ _ _⟩
theorem t0_bounds (a : Int) : 0 ≤ t0 a ∧ t0 a ≤ 4095 := by unfold S.Plain.t0; omega
theorem b3_bounds (a : Int) : 0 ≤ b3 a ∧ b3 a ≤ 127 := by unfold S.Plain.b3; omega
theorem TakeS.ok_new {q : Pl} {c e : Int} (h : q.Ok) (c0 : 0 ≤ c) (c2 : c ≤ 2) (e0 : 0 ≤ e) (e1 : e ≤ 1) : (TakeS.new q c e).Ok :=
  ⟨h, U64.zero, U64.zero, by simp [TakeS.new], c0, c2, e0, e1, by simp [TakeS.new], by simp [TakeS.new], by simp [TakeS.new], ⟨U64.zero, by simp [TakeS.new]⟩⟩
theorem GiveS.ok_new {q : Pl} {b : Int} (h : q.Ok) (b0 : -1 ≤ b) (b1 : b ≤ 100) : (GiveS.new q b).Ok := ⟨h, U64.zero, by simp [GiveS.new], b0, b1⟩
theorem TakeS.Ok.next {x : TakeS} {s : St} (h : x.Ok) (r : s.Rng) : (x.next s).Ok := by
  obtain ⟨q, z, pc, c, e, v, k, u, us⟩ := x
  obtain ⟨h1, h2, h3, h4, h5, h6, h7, h8, h9, h10, h11, h12⟩ := h
  simp only at h1 h2 h3 h4 h5 h6 h7 h8 h9 h10 h11 h12
  have cb := cs_bounds h5 h6
  rcases pc6_cases h4 with rfl | rfl | rfl | rfl | rfl | rfl | rfl
  · exact ⟨h1, h2, h3, h4, h5, h6, h7, h8, h9, h10, h11, h12⟩
  · exact ⟨h1, r.got _, h3, by simp only [TakeS.next]; split <;> omega, h5, h6, h7, h8, h9, h10, fun e => by simp only [TakeS.next] at e; split at e <;> omega, h12⟩
  · exact ⟨h1, h2, r.got _, by simp only [TakeS.next]; omega, h5, h6, h7, h8, h9, h10, fun e => by simp only [TakeS.next] at e; omega, h12⟩
  · exact ⟨h1, h2, h3, by simp only [TakeS.next]; split <;> omega, h5, h6, h7, h8, h9, h10, fun e => by simp only [TakeS.next] at e; split at e <;> omega, h12⟩
  · exact ⟨h1, h2, h3, by simp only [TakeS.next]; omega, h5, h6, h7, h8, by simp [TakeS.next], by simp [TakeS.next], fun _ => by simp only [TakeS.next]; omega, h12⟩
  · have h13 := h11 rfl
    simp only [TakeS.next]
    split
    case isTrue hk => exact ⟨h1, h2, h3, by simp only; omega, h5, h6, h7, h8, by simp only; omega, by simp only; omega, fun _ => by simp only; omega, h12⟩
    case isFalse hk => exact ⟨h1, h2, h3, by simp only; omega, h5, h6, h7, h8, by simp only; omega, by simp only; omega, fun e => by simp only at e; omega, PushS.ok_new _ _ _ _⟩
  · exact ⟨h1, h2, h3, by simp only [TakeS.next]; split <;> omega, h5, h6, h7, h8, h9, h10, fun e => by simp only [TakeS.next] at e; split at e <;> omega, h12.next r⟩
theorem GiveS.Ok.next {x : GiveS} {s : St} (h : x.Ok) (r : s.Rng) : (x.next s).Ok := by
  obtain ⟨q, z, pc, b⟩ := x
  rcases pc_cases h.pc with rfl | rfl | rfl | rfl
  · exact h
  · exact ⟨h.pl, r.got _, by simp [GiveS.next], h.b0, h.b1⟩
  · exact ⟨h.pl, h.seen, by simp [GiveS.next], h.b0, h.b1⟩
  · exact ⟨h.pl, h.seen, by simp only [GiveS.next]; split <;> omega, h.b0, h.b1⟩
theorem TakeS.rng {x : TakeS} {s : St} (h : x.Ok) (r : s.Rng) : (x.mem s).Rng := by
  obtain ⟨q, z, pc, c, e, v, k, u, us⟩ := x
  rcases pc6_cases h.pc with rfl | rfl | rfl | rfl | rfl | rfl | rfl
  · exact r
  · exact r
  · exact r
  · exact r.cas _ _ (u64_nx _ _)
  · exact r.store _ (u64_bw ..)
  · exact r.store _ (u64_hw ..)
  · exact PushS.rng h.push r
theorem GiveS.rng {x : GiveS} {s : St} (h : x.Ok) (r : s.Rng) : (x.mem s).Rng := by
  obtain ⟨q, z, pc, b⟩ := x
  rcases pc_cases h.pc with rfl | rfl | rfl | rfl
  · exact r
  · exact r
  · exact r.store _ (u64_bw ..)
  · exact r.cas _ _ (u64_nx _ _)
theorem TakeS.fit {x : TakeS} {s : St} (h : x.Ok) (f : s.Fit) (hc : s.c < 1000000) : (x.mem s).Fit := by
  obtain ⟨q, z, pc, c, e, v, k, u, us⟩ := x
  rcases pc6_cases h.pc with rfl | rfl | rfl | rfl | rfl | rfl | rfl
  · exact f
  · exact f.load hc _
  · exact f.load hc _
  · exact f.cas hc _ _ _
  · exact f.store hc _ _
  · exact f.store hc _ _
  · exact PushS.fit h.push f hc
theorem GiveS.fit {x : GiveS} {s : St} (h : x.Ok) (f : s.Fit) (hc : s.c < 1000000) : (x.mem s).Fit := by
  obtain ⟨q, z, pc, b⟩ := x
  rcases pc_cases h.pc with rfl | rfl | rfl | rfl
  · exact f
  · exact f.load hc _
  · exact f.store hc _ _
  · exact f.cas hc _ _ _
theorem TakeS.count {x : TakeS} {s : St} (h : x.Ok) : (x.mem s).c ≤ s.c + 1 := by
  obtain ⟨q, z, pc, c, e, v, k, u, us⟩ := x
  rcases pc6_cases h.pc with rfl | rfl | rfl | rfl | rfl | rfl | rfl
  · simp only [TakeS.mem]; omega
  · simp only [TakeS.mem, St.c_load]; omega
  · simp only [TakeS.mem, St.c_load]; omega
  · simp only [TakeS.mem, St.c_cas]; omega
  · simp only [TakeS.mem, St.c_store]; omega
  · simp only [TakeS.mem, St.c_store]; omega
  · exact PushS.count h.push
theorem GiveS.count {x : GiveS} {s : St} (h : x.Ok) : (x.mem s).c ≤ s.c + 1 := by
  obtain ⟨q, z, pc, b⟩ := x
  rcases pc_cases h.pc with rfl | rfl | rfl | rfl
  · simp only [GiveS.mem]; omega
  · simp only [GiveS.mem, St.c_load]; omega
  · simp only [GiveS.mem, St.c_store]; omega
  · simp only [GiveS.mem, St.c_cas]; omega
end Go.Proofs.YtoablodmodnamaaDoor

namespace Go.Proofs.YtoablodmodnamaaDoor
set_option linter.unusedVariables false
set_option linter.unusedSimpArgs false
set_option maxRecDepth 100000
open Go.ChangeShapes Go.WideShapes Go.RowKit
open S.Plain (t0 t1 tw nx bw b0 b1 b2 b3)
open H.Plain (hw pS pC pN pM pG pT pL)

namespace St
variable {s : St} {a b x o : Int}
/-- an address of the memory -/
def In (s : St) (a : Int) : Prop := 0 ≤ a ∧ a < s.ws.length
theorem In.is1 (h : s.In a) : s.is1 a = true := by
  simp only [St.is1, Bool.and_eq_true, decide_eq_true_eq]; exact h
theorem In.got (h : s.In a) : s.got a = s.word a := by simp [St.got, h.is1]
theorem word_put (ha : s.In a) (hb : s.In b) : (s.put a x).word b = if a = b then x else s.word b := by
  obtain ⟨i, rfl⟩ : ∃ i : Nat, a = i := ⟨a.toNat, by have := ha.1; omega⟩
  obtain ⟨j, rfl⟩ : ∃ j : Nat, b = j := ⟨b.toNat, by have := hb.1; omega⟩
  have hj : j < s.ws.length := by have := hb.2; omega
  have hi : i < s.ws.length := by have := ha.2; omega
  simp only [St.word, St.put, Int.toNat_natCast, List.getD_eq_getElem?_getD, List.getElem?_set]
  by_cases e : i = j
  · subst e; simp [hi]
  · simp [e]; omega
theorem t_load' (h : s.In a) : (s.load a).t = s.t := by simp [St.load, St.tell, h.is1]
theorem t_store' (h : s.In a) : (s.store a x).t = s.t := by simp [St.store, St.tell, St.put, h.is1]
theorem t_cas' (h : s.In a) : (s.cas a o x).t = s.t := by unfold St.cas; split <;> simp [St.tell, St.put, h.is1]
theorem word_load' (s : St) (a b : Int) : (s.load a).word b = s.word b := rfl
theorem word_store' (ha : s.In a) (hb : s.In b) : (s.store a x).word b = if a = b then x else s.word b := by
  rw [← word_put ha hb]; simp only [St.store, ha.is1, if_true]; rfl
theorem ok1_iff' (ha : s.In a) (o : Int) : s.ok1 a o = (s.word a == o) := by simp [St.ok1, ha.is1]
theorem word_cas_ok' (ha : s.In a) (hb : s.In b) (ho : s.word a = o) : (s.cas a o x).word b = if a = b then x else s.word b := by
  rw [← word_put ha hb]; simp only [St.cas, ok1_iff' ha, ho, beq_self_eq_true, if_true]; rfl
theorem word_cas_no' (ha : s.In a) (ho : s.word a ≠ o) : (s.cas a o x).word b = s.word b := by
  simp only [St.cas, ok1_iff' ha, beq_eq_false_iff_ne.2 ho, Bool.false_eq_true, if_false]; rfl
theorem In.len {s' : St} (h : s.In a) (e : s'.ws.length = s.ws.length) : s'.In a := ⟨h.1, by rw [e]; exact h.2⟩
end St
/-- two words that stand in different places: a write to one is not seen in the other -/
theorem word_other {s : St} {a b x : Int} (ha : s.In a) (hb : s.In b) (h : a ≠ b) : (s.store a x).word b = s.word b := by rw [St.word_store' ha hb, if_neg h]
theorem cas_other {s : St} {a b x o : Int} (ha : s.In a) (hb : s.In b) (h : a ≠ b) : (s.cas a o x).word b = s.word b := by
  by_cases e : s.word a = o
  · rw [St.word_cas_ok' ha hb e, if_neg h]
  · rw [St.word_cas_no' ha e]
/-- only the words matter -/
theorem got_ws {s s' : St} (h : s'.ws = s.ws) (a : Int) : s'.got a = s.got a := by
  have e1 : s'.is1 a = s.is1 a := by simp only [St.is1, h]
  have e2 : s'.word a = s.word a := by simp only [St.word, h]
  unfold St.got; rw [e1, e2]
theorem ok1_ws {s s' : St} (h : s'.ws = s.ws) (a o : Int) : s'.ok1 a o = s.ok1 a o := by simp only [St.ok1, St.is1, St.word, h]
theorem load_ws {s s' : St} (h : s'.ws = s.ws) (a : Int) : (s'.load a).ws = (s.load a).ws := h
theorem store_ws {s s' : St} (h : s'.ws = s.ws) (a x : Int) : (s'.store a x).ws = (s.store a x).ws := by
  have e : s'.is1 a = s.is1 a := by simp only [St.is1, h]
  simp only [St.store, e, St.tell]
  split
  · simp only [St.put, h]
  · exact h
theorem cas_ws {s s' : St} (h : s'.ws = s.ws) (a o x : Int) : (s'.cas a o x).ws = (s.cas a o x).ws := by
  simp only [St.cas, ok1_ws h, St.tell]
  split
  · simp only [St.put, h]
  · exact h
theorem PushS.next_ws {s s' : St} (h : s'.ws = s.ws) (x : PushS) : x.next s' = x.next s := by unfold PushS.next; simp only [got_ws h, ok1_ws h]
theorem PushS.mem_ws {s s' : St} (h : s'.ws = s.ws) (x : PushS) : (x.mem s').ws = (x.mem s).ws := by
  unfold PushS.mem; split
  · exact load_ws h _
  · exact store_ws h _ _
  · exact cas_ws h _ _ _
  · exact h
theorem TakeS.next_ws {s s' : St} (h : s'.ws = s.ws) (x : TakeS) : x.next s' = x.next s := by unfold TakeS.next; simp only [got_ws h, ok1_ws h, PushS.next_ws h]
theorem TakeS.mem_ws {s s' : St} (h : s'.ws = s.ws) (x : TakeS) : (x.mem s').ws = (x.mem s).ws := by
  unfold TakeS.mem; split
  · exact load_ws h _
  · exact load_ws h _
  · exact cas_ws h _ _ _
  · exact store_ws h _ _
  · exact store_ws h _ _
  · exact PushS.mem_ws h _
  · exact h
theorem GiveS.next_ws {s s' : St} (h : s'.ws = s.ws) (x : GiveS) : x.next s' = x.next s := by unfold GiveS.next; simp only [got_ws h, ok1_ws h]
theorem GiveS.mem_ws {s s' : St} (h : s'.ws = s.ws) (x : GiveS) : (x.mem s').ws = (x.mem s).ws := by
  unfold GiveS.mem; split
  · exact load_ws h _
  · exact store_ws h _ _
  · exact cas_ws h _ _ _
  · exact h
end Go.Proofs.YtoablodmodnamaaDoor

namespace Go.Proofs.YtoablodmodnamaaDoor
set_option linter.unusedVariables false
set_option linter.unusedSimpArgs false
set_option maxRecDepth 100000
open Go.ChangeShapes Go.WideShapes Go.RowKit
open S.Plain (t0 t1 tw nx bw b0 b1 b2 b3)
open H.Plain (hw pS pC pN pM pG pT pL)

def TakeS.zero : TakeS := ⟨⟨0, 0, 0, 0, 0⟩, 0, 0, 0, 0, 0, 0, ⟨0, 0, 0, 0, 0, 0⟩, false⟩
theorem TakeS.ok_zero : TakeS.zero.Ok := ⟨⟨by decide, by decide, by decide, by decide⟩, U64.zero, U64.zero, by decide, by decide, by decide, by decide, by decide, by decide, by decide, by decide, ⟨U64.zero, by decide⟩⟩
/-- a Reserve: its next part (0: done), its Pop and its Take, the head that the Pop saw, the cell -/
structure ResS where
  pl : Pl
  cls : Int
  set : Int
  pc : Nat
  pop : PopS
  take : TakeS
  seen : Int
  cell : Int
/-- where the head of its list stands -/
def ResS.hd (x : ResS) : Int := 3 + 3 * x.set + x.cls
def ResS.new (q : Pl) (c e : Int) : ResS := ⟨q, c, e, 1, PopS.new (3 + 3 * e + c), TakeS.zero, 0, 0⟩
def ResS.next (x : ResS) (s : St) : ResS :=
  match x.pc with
  | 1 => if (x.pop.next s).pc = 0 then
      (if t0 (x.pop.next s).seen = 0 then { x with pop := x.pop.next s, cell := 0, seen := (x.pop.next s).seen, take := TakeS.new x.pl x.cls x.set, pc := 2 }
        else { x with pop := x.pop.next s, cell := t0 (x.pop.next s).seen, seen := (x.pop.next s).seen, pc := 0 })
      else { x with pop := x.pop.next s }
  | 2 => if (x.take.next s).pc = 0 then { x with take := x.take.next s, cell := (x.take.next s).cell, pc := if (x.take.next s).cell = 0 then 3 else 0 } else { x with take := x.take.next s }
  | 3 => if s.got x.hd = x.seen then { x with pc := 0 } else { x with pop := PopS.new x.hd, pc := 1 }
  | _ => x
def ResS.mem (x : ResS) (s : St) : St :=
  match x.pc with
  | 1 => x.pop.mem s
  | 2 => x.take.mem s
  | 3 => s.load x.hd
  | _ => s
structure ResS.Ok (x : ResS) : Prop where
  pl : x.pl.Ok
  c0 : 0 ≤ x.cls
  c2 : x.cls ≤ 2
  e0 : 0 ≤ x.set
  e1 : x.set ≤ 1
  pc : x.pc ≤ 3
  pop : x.pop.Ok
  take : x.take.Ok
  seen : U64 x.seen
  l0 : 0 ≤ x.cell
  l1 : x.cell ≤ 1000000
/-- an Alloc: its Reserve, its class, count and mark, its next part (0: done), how many fields are cleared, the cell that is told -/
structure AllS where
  res : ResS
  cls : Int
  cnt : Int
  mark : Int
  pc : Nat
  fld : Int
  cell : Int
def AllS.new (q : Pl) (n m e : Int) : AllS := ⟨ResS.new q (P.Plain.cl n) e, P.Plain.cl n, n, m, 1, 0, 0⟩
def AllS.next (x : AllS) (s : St) : AllS :=
  match x.pc with
  | 1 => if (x.res.next s).pc = 0 then
      (if (x.res.next s).cell = 0 then { x with res := x.res.next s, pc := 0 } else { x with res := x.res.next s, pc := if x.fld < x.cnt then 2 else 3 })
      else { x with res := x.res.next s }
  | 2 => { x with fld := x.fld + 1, pc := if x.fld + 1 < x.cnt then 2 else 3 }
  | 3 => { x with cell := x.res.cell, pc := 0 }
  | _ => x
def AllS.mem (x : AllS) (s : St) : St :=
  match x.pc with
  | 1 => x.res.mem s
  | 2 => s.store (x.res.cell + (x.fld + 1)) 0
  | 3 => s.store x.res.cell (hw 1 x.cls x.cnt x.mark 0 0 0)
  | _ => s
structure AllS.Ok (x : AllS) : Prop where
  res : x.res.Ok
  pc : x.pc ≤ 3
  f0 : 0 ≤ x.fld
  f8 : x.fld ≤ 8
  n8 : x.cnt ≤ 8
  f2 : x.pc = 2 → x.fld < x.cnt
def ResS.at_ (x : ResS) (n : Nat) : ResS := { x with pc := n }
def AllS.at_ (x : AllS) (n : Nat) : AllS := { x with pc := n }
theorem ResS.ok_new {q : Pl} {c e : Int} (h : q.Ok) (c0 : 0 ≤ c) (c2 : c ≤ 2) (e0 : 0 ≤ e) (e1 : e ≤ 1) : (ResS.new q c e).Ok :=
  ⟨h, c0, c2, e0, e1, by simp [ResS.new], PopS.ok_new _, TakeS.ok_zero, U64.zero, by simp [ResS.new], by simp [ResS.new]⟩
theorem TakeS.cell_bounds {x : TakeS} (ok : x.Ok) : 0 ≤ x.cell + 1000 ∧ x.cell ≤ 1000000 := by
  have h1 := t0_bounds x.seen
  have h2 := ok.pl.hp0
  have h3 := ok.pl.hp1
  unfold TakeS.cell
  split
  · unfold TakeS.ad Pl.cell
    rw [Int.zero_mul]
    omega
  · omega
theorem TakeS.cell_pos {x : TakeS} (ok : x.Ok) : 0 ≤ x.cell := by
  have h1 := t0_bounds x.seen
  have h2 := ok.pl.hp0
  unfold TakeS.cell
  split
  case isTrue h =>
    unfold TakeS.ad Pl.cell
    rw [Int.zero_mul]
    have := h.2
    omega
  · omega
theorem ResS.Ok.next {x : ResS} {s : St} (h : x.Ok) (r : s.Rng) : (x.next s).Ok := by
  obtain ⟨q, c, e, pc, pop, tk, z, cl⟩ := x
  obtain ⟨h1, h2, h3, h4, h5, h6, h7, h8, h9, h10, h11⟩ := h
  simp only at h1 h2 h3 h4 h5 h6 h7 h8 h9 h10 h11
  have p1 := h7.next r
  have k1 := h8.next r
  have tb := t0_bounds (pop.next s).seen
  rcases pc_cases h6 with rfl | rfl | rfl | rfl
  · exact ⟨h1, h2, h3, h4, h5, h6, h7, h8, h9, h10, h11⟩
  · simp only [ResS.next]
    split
    · split
      · exact ⟨h1, h2, h3, h4, h5, by simp only; omega, p1, TakeS.ok_new h1 h2 h3 h4 h5, p1.seen, by simp only; omega, by simp only; omega⟩
      · exact ⟨h1, h2, h3, h4, h5, by simp only; omega, p1, h8, p1.seen, by simp only; omega, by simp only; omega⟩
    · exact ⟨h1, h2, h3, h4, h5, h6, p1, h8, h9, h10, h11⟩
  · simp only [ResS.next]
    split
    · exact ⟨h1, h2, h3, h4, h5, by simp only; split <;> omega, h7, k1, h9, TakeS.cell_pos k1, (TakeS.cell_bounds k1).2⟩
    · exact ⟨h1, h2, h3, h4, h5, h6, h7, k1, h9, h10, h11⟩
  · simp only [ResS.next]
    split
    · exact ⟨h1, h2, h3, h4, h5, by simp only; omega, h7, h8, h9, h10, h11⟩
    · exact ⟨h1, h2, h3, h4, h5, by simp only; omega, PopS.ok_new _, h8, h9, h10, h11⟩
theorem ResS.rng {x : ResS} {s : St} (h : x.Ok) (r : s.Rng) : (x.mem s).Rng := by
  obtain ⟨q, c, e, pc, pop, tk, z, cl⟩ := x
  rcases pc_cases h.pc with rfl | rfl | rfl | rfl
  · exact r
  · exact PopS.rng h.pop r
  · exact TakeS.rng h.take r
  · exact r
theorem ResS.fit {x : ResS} {s : St} (h : x.Ok) (f : s.Fit) (hc : s.c < 1000000) : (x.mem s).Fit := by
  obtain ⟨q, c, e, pc, pop, tk, z, cl⟩ := x
  rcases pc_cases h.pc with rfl | rfl | rfl | rfl
  · exact f
  · exact PopS.fit h.pop f hc
  · exact TakeS.fit h.take f hc
  · exact f.load hc _
theorem ResS.count {x : ResS} {s : St} (h : x.Ok) : (x.mem s).c ≤ s.c + 1 := by
  obtain ⟨q, c, e, pc, pop, tk, z, cl⟩ := x
  rcases pc_cases h.pc with rfl | rfl | rfl | rfl
  · simp only [ResS.mem]; omega
  · exact PopS.count h.pop
  · exact TakeS.count h.take
  · simp only [ResS.mem, St.c_load]; omega
theorem AllS.Ok.next {x : AllS} {s : St} (h : x.Ok) (r : s.Rng) : (x.next s).Ok := by
  obtain ⟨y, c, n, m, pc, f, cl⟩ := x
  obtain ⟨h1, h2, h3, h4, h5, h6⟩ := h
  simp only at h1 h2 h3 h4 h5 h6
  have p1 := h1.next r
  rcases pc_cases h2 with rfl | rfl | rfl | rfl
  · exact ⟨h1, h2, h3, h4, h5, h6⟩
  · simp only [AllS.next]
    split
    · split
      · exact ⟨p1, by simp only; omega, h3, h4, h5, fun e => by simp only at e; omega⟩
      · exact ⟨p1, by simp only; split <;> omega, h3, h4, h5, fun e => by simp only at e ⊢; split at e <;> omega⟩
    · exact ⟨p1, h2, h3, h4, h5, h6⟩
  · have := h6 rfl
    exact ⟨h1, by simp only [AllS.next]; split <;> omega, by simp only [AllS.next]; omega, by simp only [AllS.next]; omega, h5, fun e => by simp only [AllS.next] at e ⊢; split at e <;> omega⟩
  · exact ⟨h1, by simp only [AllS.next]; omega, h3, h4, h5, fun e => by simp only [AllS.next] at e; omega⟩
theorem AllS.rng {x : AllS} {s : St} (h : x.Ok) (r : s.Rng) : (x.mem s).Rng := by
  obtain ⟨y, c, n, m, pc, f, cl⟩ := x
  rcases pc_cases h.pc with rfl | rfl | rfl | rfl
  · exact r
  · exact ResS.rng h.res r
  · exact r.store _ U64.zero
  · exact r.store _ (u64_hw ..)
theorem AllS.fit {x : AllS} {s : St} (h : x.Ok) (f : s.Fit) (hc : s.c < 1000000) : (x.mem s).Fit := by
  obtain ⟨y, c, n, m, pc, fl, cl⟩ := x
  rcases pc_cases h.pc with rfl | rfl | rfl | rfl
  · exact f
  · exact ResS.fit h.res f hc
  · exact f.store hc _ _
  · exact f.store hc _ _
theorem AllS.count {x : AllS} {s : St} (h : x.Ok) : (x.mem s).c ≤ s.c + 1 := by
  obtain ⟨y, c, n, m, pc, fl, cl⟩ := x
  rcases pc_cases h.pc with rfl | rfl | rfl | rfl
  · simp only [AllS.mem]; omega
  · exact ResS.count h.res
  · simp only [AllS.mem, St.c_store]; omega
  · simp only [AllS.mem, St.c_store]; omega
theorem PopS.next_ws {s s' : St} (h : s'.ws = s.ws) (x : PopS) : x.next s' = x.next s := by unfold PopS.next; simp only [got_ws h, ok1_ws h]
theorem PopS.mem_ws {s s' : St} (h : s'.ws = s.ws) (x : PopS) : (x.mem s').ws = (x.mem s).ws := by
  unfold PopS.mem; split
  · exact load_ws h _
  · exact load_ws h _
  · exact cas_ws h _ _ _
  · exact h
theorem ResS.next_ws {s s' : St} (h : s'.ws = s.ws) (x : ResS) : x.next s' = x.next s := by unfold ResS.next; simp only [got_ws h, PopS.next_ws h, TakeS.next_ws h]
theorem ResS.mem_ws {s s' : St} (h : s'.ws = s.ws) (x : ResS) : (x.mem s').ws = (x.mem s).ws := by
  unfold ResS.mem; split
  · exact PopS.mem_ws h _
  · exact TakeS.mem_ws h _
  · exact load_ws h _
  · exact h
theorem AllS.next_ws {s s' : St} (h : s'.ws = s.ws) (x : AllS) : x.next s' = x.next s := by unfold AllS.next; simp only [ResS.next_ws h]
theorem AllS.mem_ws {s s' : St} (h : s'.ws = s.ws) (x : AllS) : (x.mem s').ws = (x.mem s).ws := by
  unfold AllS.mem; split
  · exact ResS.mem_ws h _
  · exact store_ws h _ _
  · exact store_ws h _ _
  · exact h
end Go.Proofs.YtoablodmodnamaaDoor
