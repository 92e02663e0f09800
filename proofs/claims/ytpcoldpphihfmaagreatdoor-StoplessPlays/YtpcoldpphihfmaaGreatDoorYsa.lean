import Derived.Test.YtpcoldpphihfmaaGreatDoorVx
import Derived.Test.YtpcoldpphihfmaaGreatDoorYn
import Derived.Test.YtpcoldpphihfmaaGreatDoorVa
import Derived.Deep.RegionHeld3
namespace Go.Proofs.YtpcoldpphihfmaaGreatDoor
set_option linter.unusedVariables false
set_option linter.unusedSimpArgs false
set_option maxRecDepth 100000
section
variable {s t : St}
theorem y_got (e : s.ws = t.ws) (a : Int) : s.got a = t.got a := by
 have h : s.is1 a = t.is1 a := by simp only [St.is1, e]
 have h2 : s.word a = t.word a := by simp only [St.word, e]
 unfold St.got
 rw [h, h2]
theorem y_ok1 (e : s.ws = t.ws) (a o : Int) : s.ok1 a o = t.ok1 a o := by simp only [St.ok1, St.is1, St.word, e]
theorem y_ok2 (e : s.ws = t.ws) (a o0 o1 : Int) : s.ok2 a o0 o1 = t.ok2 a o0 o1 := by simp only [St.ok2, St.is2, St.word, e]
theorem y_load (e : s.ws = t.ws) (a : Int) : (s.load a).ws = (t.load a).ws := e
theorem y_put (e : s.ws = t.ws) (a x : Int) : (s.put a x).ws = (t.put a x).ws := by simp only [St.put, e]
theorem y_store (e : s.ws = t.ws) (a x : Int) : (s.store a x).ws = (t.store a x).ws := by
 have h : s.is1 a = t.is1 a := by simp only [St.is1, e]
 simp only [St.store, St.tell, h]
 split
 ·exact y_put e _ _
 ·exact e
theorem y_cas (e : s.ws = t.ws) (a o x : Int) : (s.cas a o x).ws = (t.cas a o x).ws := by
 have h := y_ok1 e a o
 simp only [St.cas, St.tell, h]
 split
 ·exact y_put e _ _
 ·exact e
theorem y_cas2 (e : s.ws = t.ws) (a o0 o1 x0 x1 : Int) : (s.cas2 a o0 o1 x0 x1).ws = (t.cas2 a o0 o1 x0 x1).ws := by
 have h := y_ok2 e a o0 o1
 simp only [St.cas2, St.tell, h]
 split
 ·exact y_put (y_put e _ _) _ _
 ·exact e
theorem y_shade (e : s.ws = t.ws) (x : ShadeS) : x.next s = x.next t ∧ (x.mem s).ws = (x.mem t).ws := by
 constructor
 ·simp only [ShadeS.next, y_got e, y_ok1 e]
 ·simp only [ShadeS.mem]
  (repeat' split) <;> first | exact e | exact y_load e _ | exact y_cas e _ _ _ | exact y_store e _ _
theorem y_k (e : s.ws = t.ws) (k : K) : k.next s = k.next t ∧ (k.mem s).ws = (k.mem t).ws := by
 cases k with
 | shade x u => exact ⟨by simp only [K.next, (y_shade e x).1], (y_shade e x).2⟩
 | store f v => exact ⟨rfl, y_store e _ _⟩
 | exch f w r h => exact ⟨by simp only [K.next, y_ok1 e], y_cas e _ _ _⟩
 | _ => exact ⟨by simp only [K.next, y_got e], y_load e _⟩
theorem y_sx (e : s.ws = t.ws) (x : Sx) : x.next s = x.next t ∧ (x.mem s).ws = (x.mem t).ws := by
 obtain ⟨k, h, o⟩ := x
 cases k with
 | none => exact ⟨rfl, e⟩
 | some k => exact y_k e k
theorem Cw.next_ws (e : s.ws = t.ws) (x : Cw) : x.next s = x.next t := by
 cases x with
 | fin b o => rfl
 | pl x => simp only [Cw.next, (y_sx e x).1]
 | dr b x => simp only [Cw.next, (y_sx e x).1]
 | _ => simp only [Cw.next, y_got e, y_ok1 e, y_ok2 e]
theorem Cw.mem_ws (e : s.ws = t.ws) (x : Cw) : (x.mem s).ws = (x.mem t).ws := by
 cases x with
 | fin b o => exact e
 | a4 q wd w => exact y_cas e _ _ _
 | a5 q wd w => exact y_cas2 e _ _ _ _ _
 | a9 q wd w =>
  simp only [Cw.mem]
  split
  ·exact y_cas2 e _ _ _ _ _
  ·exact y_cas2 e _ _ _ _ _
 | a13 q wd w l => exact y_cas e _ _ _
 | a14 q wd w => exact y_cas2 e _ _ _ _ _
 | pl x => exact (y_sx e x).2
 | dr b x => exact (y_sx e x).2
 | _ => exact e
end
end Go.Proofs.YtpcoldpphihfmaaGreatDoor
namespace Go.Proofs.YtpcoldpphihfmaaGreatDoor
set_option linter.unusedVariables false
set_option linter.unusedSimpArgs false
set_option maxRecDepth 100000
open Go.ChangeShapes Go.WideShapes Go.RowKit
theorem fts_bts : ∀ T ∈ FTs, T ∉ BTs := by decide
section
variable {w0 w w' w1 w2 : World} {F G F' F2 : List Nat} {p q k : Nat} {T : TypeId} {c : Array Value} {va vr : Value} {x x' : Cw}
theorem Foot.lt (f : Foot w0 w F) : ∀ q ∈ F, q < w.heap.size := fun q hq => by
 obtain ⟨T, cs, _, B⟩ := f q hq
 exact B.lt
theorem Foot.ne (f : Foot w0 w F) (B : Blk w0 w p T c) (hT : T ∉ FTs) : ∀ q ∈ F, q ≠ p := fun q hq e => by
 obtain ⟨T', cs', h1, h2⟩ := f q hq
 exact (B.ne (e ▸ h2) (fun e' => hT (e' ▸ h1))) rfl
theorem Foot.at (f : Foot w0 w F) : ∀ q ∈ F, ∃ cs T fz, w.heap[q]? = some (.cells cs T fz) ∧ T ∉ BTs := fun q hq => by
 obtain ⟨T', cs', h1, h2⟩ := f q hq
 exact ⟨_, _, _, h2.at_, fts_bts _ h1⟩
theorem RCm.ne (h : RCm w0 w q F x) (B : Blk w0 w p 114 c) : ∀ k ∈ q :: F, k ≠ p := by
 obtain ⟨d, Bq, S, hpF⟩ := h
 intro k hk e
 subst e
 simp only [List.mem_cons] at hk
 rcases hk with rfl | hk
 ·exact (B.ne Bq (by decide)) rfl
 ·obtain ⟨T, cs, hT, B'⟩ := S.foot k hk
  exact (B.ne B' (fun e => (show 114 ∉ RTs by decide) (e ▸ hT))) rfl
def Wrk (w0 w : World) (va vr : Value) (F : List Nat) (x : Cw) : Prop :=
 (va = .pointer none ∧ F = []) ∨ ∃ p q F', va = pt p ∧ vr = pt q ∧ F = p :: q :: F' ∧ Cm w0 w p x ∧ RCm w0 w q F' x
theorem Wrk.foot (h : Wrk w0 w va vr F x) : Foot w0 w F := by
 rcases h with ⟨_, rfl⟩ | ⟨p, q, F', _, _, rfl, m, M⟩
 ·intro k hk
  simp at hk
 ·intro k hk
  rw [List.mem_cons] at hk
  rcases hk with rfl | hk
  ·obtain ⟨cs, B⟩ := m.blk
   exact ⟨_, _, by decide, B⟩
  ·exact M.foot k hk
theorem Wrk.oth (h : Wrk w0 w va vr F x) (ot : Oth G w w') (hd : ∀ q ∈ F, q ∉ G) (hG : ∀ q ∈ G, ∃ cs T fz, w.heap[q]? = some (.cells cs T fz) ∧ T ∉ BTs) : Wrk w0 w' va vr F x := by
 rcases h with ⟨h1, h2⟩ | ⟨p, q, F', h1, h2, rfl, m, M⟩
 ·exact .inl ⟨h1, h2⟩
 ·exact .inr ⟨p, q, F', h1, h2, rfl, m.oth ot (hd p (by simp)) hG, M.oth ot (hd q (by simp)) (fun k hk => hd k (by simp [hk]))⟩
end
structure Team (w0 w : World) (pa pr : Nat → Value) (F : Nat → List Nat) (x : Nat → Cw) : Prop where
 it : ∀ k, k < 3 → Wrk w0 w (pa k) (pr k) (F k) (x k)
 apart : ∀ j k, j < 3 → k < 3 → j ≠ k → ∀ q ∈ F j, q ∉ F k
section
variable {w0 w w' w1 w2 : World} {pa pr : Nat → Value} {F : Nat → List Nat} {x : Nat → Cw} {G F' F2 : List Nat} {k p q : Nat} {x' : Cw} {T T' : TypeId} {c c' : Array Value}
theorem Team.foot (h : Team w0 w pa pr F x) (hk : k < 3) : Foot w0 w (F k) := (h.it k hk).foot
theorem Team.oth (h : Team w0 w pa pr F x) (ot : Oth G w w') (hd : ∀ k, k < 3 → ∀ q ∈ F k, q ∉ G) (hG : ∀ q ∈ G, ∃ cs T fz, w.heap[q]? = some (.cells cs T fz) ∧ T ∉ BTs) : Team w0 w' pa pr F x :=
 ⟨fun k hk => (h.it k hk).oth ot (hd k hk) hG, h.apart⟩
theorem Team.below (h : Team w0 w pa pr F x) (hb : Below w.heap.size w w') : Team w0 w' pa pr F x := h.oth (G := []) (Oth.below hb) (by simp) (by simp)
theorem Team.oth0 (h : Team w0 w pa pr F x) (ot : Oth [] w w') : Team w0 w' pa pr F x := h.oth ot (by simp) (by simp)
theorem team_none {w0 w : World} : Team w0 w (fun _ => .pointer none) (fun _ => .pointer none) (fun _ => []) (fun _ => .fin false Ou.zero) := ⟨fun k hk => .inl ⟨rfl, rfl⟩, fun _ _ _ _ _ q hq => by simp at hq⟩
theorem Team.either (M : Team w0 w pa pr F x) (hk : k < 3) : pa k = .pointer none ∨ ∃ p, pa k = pt p := by
 rcases M.it k hk with ⟨h, _⟩ | ⟨p, _, _, h, _⟩
 ·exact .inl h
 ·exact .inr ⟨p, h⟩
theorem Team.busy (M : Team w0 w pa pr F x) (hk : k < 3) (h : pa k = pt p) : ∃ q F', pr k = pt q ∧ F k = p :: q :: F' ∧ Cm w0 w p (x k) ∧ RCm w0 w q F' (x k) := by
 rcases M.it k hk with ⟨e, _⟩ | ⟨p', q, F', e, e2, e3, m, M⟩
 ·rw [h] at e
  simp at e
 ·rw [h] at e
  simp at e
  subst e
  exact ⟨q, F', e2, e3, m, M⟩
theorem Team.stepped (M : Team w0 w pa pr F x) (hk : k < 3) (ha : pa k = pt p) (hr : pr k = pt q) (e : F k = p :: q :: F') (o1 : Oth [p] w w1) (o2 : Oth (q :: F') w1 w2) (m2 : Cm w0 w2 p x') (M2 : RCm w0 w2 q F2 x') (fr : ∀ j ∈ F2, j ∈ F' ∨ w1.heap.size ≤ j) :
  Team w0 w2 pa pr (updN F k (p :: q :: F2)) (updN x k x') := by
 have O : Oth (F k) w w2 := by
  rw [e]
  exact (o1.mono (by simp)).trans (o2.mono (by simp +contextual))
 have hG := (M.foot hk).at
 have key : ∀ j ∈ p :: q :: F2, ∀ i, i < 3 → i ≠ k → j ∉ F i := fun j hj i hi hik hj' => by
  simp only [List.mem_cons] at hj
  have in_ : j ∈ F k → False := fun h => M.apart k i hk hi (Ne.symm hik) j h hj'
  rcases hj with rfl | rfl | hj
  ·exact in_ (by rw [e]; simp)
  ·exact in_ (by rw [e]; simp)
  ·rcases fr j hj with h | h
   ·exact in_ (by rw [e]; simp [h])
   ·have := (M.foot hi).lt j hj'
    have := o1.size
    omega
 refine ⟨fun j hj => ?_, fun i j hi hj hij u hu => ?_⟩
 ·by_cases ej : j = k
  ·subst ej
   rw [updN_at, updN_at]
   exact .inr ⟨p, q, F2, ha, hr, rfl, m2, M2⟩
  ·rw [updN_ne _ _ ej, updN_ne _ _ ej]
   exact (M.it j hj).oth O (M.apart j k hj hk ej) hG
 ·by_cases ei : i = k
  ·subst ei
   rw [updN_at] at hu
   rw [updN_ne _ _ (Ne.symm hij)]
   exact key u hu j hj (Ne.symm hij)
  ·rw [updN_ne _ _ ei] at hu
   by_cases ej : j = k
   ·subst ej
    rw [updN_at]
    exact fun hu' => key u hu' i hi ei hu
   ·rw [updN_ne _ _ ej]
    exact M.apart i j hi hj hij u hu
theorem Team.begun (M : Team w0 w pa pr F x) (hk : k < 3) {a r : Nat} (A : Blk w0 w a T c) (R : Blk w0 w r T' c') (hT : T ∉ FTs) (hT' : T' ∉ FTs) (hB : T ∉ BTs) (hB' : T' ∉ BTs) (O : Oth [a, r] w w') (hp : w.heap.size ≤ p) (hq : w.heap.size ≤ q) (hF : ∀ j ∈ F', w.heap.size ≤ j) (m : Cm w0 w' p x') (M' : RCm w0 w' q F' x') :
  Team w0 w' (updN pa k (pt p)) (updN pr k (pt q)) (updN F k (p :: q :: F')) (updN x k x') := by
 have new : ∀ j ∈ p :: q :: F', w.heap.size ≤ j := fun j hj => by
  simp only [List.mem_cons] at hj
  rcases hj with rfl | rfl | hj
  ·exact hp
  ·exact hq
  ·exact hF j hj
 have hG : ∀ q ∈ [a, r], ∃ cs T fz, w.heap[q]? = some (.cells cs T fz) ∧ T ∉ BTs := fun j hj => by
  simp at hj
  rcases hj with rfl | rfl
  ·exact ⟨_, _, _, A.at_, hB⟩
  ·exact ⟨_, _, _, R.at_, hB'⟩
 refine ⟨fun j hj => ?_, fun i j hi hj hij u hu => ?_⟩
 ·by_cases ej : j = k
  ·subst ej
   rw [updN_at, updN_at, updN_at, updN_at]
   exact .inr ⟨p, q, F', rfl, rfl, rfl, m, M'⟩
  ·rw [updN_ne _ _ ej, updN_ne _ _ ej, updN_ne _ _ ej, updN_ne _ _ ej]
   refine (M.it j hj).oth O (fun u hu => ?_) hG
   have h1 := (M.foot hj).ne A hT u hu
   have h2 := (M.foot hj).ne R hT' u hu
   simp [h1, h2]
 ·by_cases ei : i = k
  ·subst ei
   rw [updN_at] at hu
   rw [updN_ne _ _ (Ne.symm hij)]
   intro hu'
   have h1 := new u hu
   have h2 := (M.foot hj).lt u hu'
   omega
  ·rw [updN_ne _ _ ei] at hu
   by_cases ej : j = k
   ·subst ej
    rw [updN_at]
    intro hu'
    have h1 := new u hu'
    have h2 := (M.foot hi).lt u hu
    omega
   ·rw [updN_ne _ _ ej]
    exact M.apart i j hi hj hij u hu
theorem Team.off (M : Team w0 w pa pr F x) (hk : k < 3) {a i : Nat} {v : Value} (A : Blk w0 w a T c) (hT : T ∉ FTs) (hB : T ∉ BTs) : Team w0 (w.setCell ⟨a, i, none⟩ v) (updN pa k (.pointer none)) pr (updN F k []) x := by
 refine ⟨fun j hj => ?_, fun i j hi hj hij u hu => ?_⟩
 ·by_cases ej : j = k
  ·subst ej
   rw [updN_at, updN_at]
   exact .inl ⟨rfl, rfl⟩
  ·rw [updN_ne _ _ ej, updN_ne _ _ ej]
   exact (M.it j hj).oth (G := [a]) (Oth.set _ _ _ _ (by simp)) (fun u hu => by simpa using (M.foot hj).ne A hT u hu) (fun u hu => by simp at hu; subst hu; exact ⟨_, _, _, A.at_, hB⟩)
 ·by_cases ei : i = k
  ·subst ei
   rw [updN_at] at hu
   simp at hu
  ·rw [updN_ne _ _ ei] at hu
   by_cases ej : j = k
   ·subst ej
    rw [updN_at]
    simp
   ·rw [updN_ne _ _ ej]
    exact M.apart i j hi hj hij u hu
end
def arr3 (f : Nat → Value) : Array Value := #[f 0, f 1, f 2]
theorem arr3_set (f : Nat → Value) {k : Nat} (h : k < 3) (v : Value) : (arr3 f).setIfInBounds k v = arr3 (updN f k v) := by
 rcases (show k = 0 ∨ k = 1 ∨ k = 2 by omega) with rfl | rfl | rfl <;> rfl
theorem arr3_get (f : Nat → Value) {k : Nat} (h : k < 3) : (arr3 f)[k]? = some (f k) := by
 rcases (show k = 0 ∨ k = 1 ∨ k = 2 by omega) with rfl | rfl | rfl <;> rfl
structure Now (w wr : World) (b y ab rb N : Nat) (pa pr : Nat → Value) (F : Nat → List Nat) (x : Nat → Cw) (s1 s2 : St) : Prop where
 two : Two w wr b y s1 s2 N
 len : s1.ws.length = 160
 ws : s1.ws = s2.ws
 ab : Blk w wr ab 33 (arr3 pa)
 rb : Blk w wr rb 35 (arr3 pr)
 team : Team w wr pa pr F x
section
variable {w wr w' w1 w2 : World} {b y ab rb N : Nat} {pa pr : Nat → Value} {F : Nat → List Nat} {x : Nat → Cw} {s1 s2 s1' s2' : St} {k p q : Nat} {F' F2 : List Nat} {x' : Cw}
theorem Now.below (h : Now w wr b y ab rb N pa pr F x s1 s2) (hb : Below wr.heap.size wr w') : Now w w' b y ab rb N pa pr F x s1 s2 := ⟨h.two.below hb, h.len, h.ws, h.ab.below hb, h.rb.below hb, h.team.below hb⟩
theorem Now.mono {N' : Nat} (h : Now w wr b y ab rb N pa pr F x s1 s2) (hN : N ≤ N') : Now w wr b y ab rb N' pa pr F x s1 s2 := ⟨h.two.mono hN, h.len, h.ws, h.ab, h.rb, h.team⟩
theorem Now.ca (h : Now w wr b y ab rb N pa pr F x s1 s2) (hk : k < 3) {v : Value} (e : pa k = v) : wr.cell? ⟨ab, k, none⟩ = some v := (h.ab.cell k).trans (by rw [arr3_get _ hk, e])
theorem Now.cr (h : Now w wr b y ab rb N pa pr F x s1 s2) (hk : k < 3) {v : Value} (e : pr k = v) : wr.cell? ⟨rb, k, none⟩ = some v := (h.rb.cell k).trans (by rw [arr3_get _ hk, e])
theorem Now.stored (h : Now w wr b y ab rb N pa pr F x s1 s2) (T2 : Two w w2 b y s1' s2' (N + 2)) (l : s1'.ws.length = 160) (ew : s1'.ws = s2'.ws) (o : Oth [] wr w2) : Now w w2 b y ab rb (N + 2) pa pr F x s1' s2' := ⟨T2, l, ew, h.ab.oth o (by simp), h.rb.oth o (by simp), h.team.oth0 o⟩
theorem Now.half (h : Now w wr b y ab rb N pa pr F x s1 s2) {x0 : Cw} (m : Cm w wr p x0) (M : RCm w wr q F' x0) (o1 : Oth [p] wr w1) : RCm w w1 q F' x0 ∧ Blk w w1 ab 33 (arr3 pa) ∧ Blk w w1 rb 35 (arr3 pr) := by
 obtain ⟨cs, B⟩ := m.blk
 refine ⟨M.oth o1 (by simpa using M.ne B q (by simp)) (fun k hk => by simpa using M.ne B k (by simp [hk])), h.ab.oth o1 (by simpa using h.ab.ne B (by decide)), h.rb.oth o1 (by simpa using h.rb.ne B (by decide))⟩
theorem Now.whole (h : Now w wr b y ab rb N pa pr F x s1 s2) (hk : k < 3) {x0 : Cw} (ha : pa k = pt p) (hr : pr k = pt q) (e : F k = p :: q :: F') (m : Cm w wr p x0) (M : RCm w wr q F' x0) (o1 : Oth [p] wr w1) (m1 : Cm w w1 p x') (o2 : Oth (q :: F') w1 w2) (T2 : Two w w2 b y s1' s2' (N + 2)) (l : s1'.ws.length = 160) (ew : s1'.ws = s2'.ws) (M2 : RCm w w2 q F2 x') (fr : ∀ j ∈ F2, j ∈ F' ∨ w1.heap.size ≤ j) :
  Now w w2 b y ab rb (N + 2) pa pr (updN F k (p :: q :: F2)) (updN x k x') s1' s2' ∧ Cm w w2 p x' := by
 obtain ⟨M1, A1, R1⟩ := h.half m M o1
 obtain ⟨cs, B⟩ := m1.blk
 have m2 := m1.oth o2 (fun hp => M1.ne B p hp rfl) M1.foot.at
 exact ⟨⟨T2, l, ew, A1.oth o2 (fun hh => M1.foot.ne A1 (by decide) _ hh rfl), R1.oth o2 (fun hh => M1.foot.ne R1 (by decide) _ hh rfl), h.team.stepped hk ha hr e o1 o2 m2 M2 fr⟩, m2⟩
theorem Now.off (h : Now w wr b y ab rb N pa pr F x s1 s2) (hk : k < 3) : Now w (wr.setCell ⟨ab, k, none⟩ (.pointer none)) b y ab rb N (updN pa k (.pointer none)) pr (updN F k []) x s1 s2 :=
 ⟨h.two.set h.ab k _, h.len, h.ws, arr3_set pa hk _ ▸ h.ab.set k _, h.rb.oth (Oth.set (F := [ab]) _ _ _ _ (by simp)) (by simpa using h.rb.ne h.ab (by decide)), h.team.off hk h.ab (by decide) (by decide)⟩
end
structure Mid (w wr wi : World) (b y ab rb ob N : Nat) (pa pr : Nat → Value) (s1 s2 : St) (oc : Array Value) : Prop where
 oth : Oth [ab, rb] wr wi
 two : Two w wi b y s1 s2 N
 ab : Blk w wi ab 33 (arr3 pa)
 rb : Blk w wi rb 35 (arr3 pr)
 op : Blk w wi ob 42 oc
section
variable {w wr wi w' : World} {b y ab rb ob N : Nat} {pa pr : Nat → Value} {F : Nat → List Nat} {x : Nat → Cw} {s1 s2 : St} {oc : Array Value} {k p q : Nat} {F' : List Nat} {x' : Cw}
theorem Mid.below (h : Mid w wr wi b y ab rb ob N pa pr s1 s2 oc) (hb : Below wi.heap.size wi w') : Mid w wr w' b y ab rb ob N pa pr s1 s2 oc := ⟨h.oth.trans (Oth.below hb), h.two.below hb, h.ab.below hb, h.rb.below hb, h.op.below hb⟩
theorem Mid.setA (h : Mid w wr wi b y ab rb ob N pa pr s1 s2 oc) (hk : k < 3) (v : Value) : Mid w wr (wi.setCell ⟨ab, k, none⟩ v) b y ab rb ob N (updN pa k v) pr s1 s2 oc :=
 ⟨h.oth.trans (Oth.set _ _ _ _ (by simp)), h.two.set h.ab k _, arr3_set pa hk v ▸ h.ab.set k _, h.rb.oth (Oth.set (F := [ab]) _ _ _ _ (by simp)) (by simpa using h.rb.ne h.ab (by decide)), h.op.oth (Oth.set (F := [ab]) _ _ _ _ (by simp)) (by simpa using h.op.ne h.ab (by decide))⟩
theorem Mid.setR (h : Mid w wr wi b y ab rb ob N pa pr s1 s2 oc) (hk : k < 3) (v : Value) : Mid w wr (wi.setCell ⟨rb, k, none⟩ v) b y ab rb ob N pa (updN pr k v) s1 s2 oc :=
 ⟨h.oth.trans (Oth.set _ _ _ _ (by simp)), h.two.set h.rb k _, h.ab.oth (Oth.set (F := [rb]) _ _ _ _ (by simp)) (by simpa using h.ab.ne h.rb (by decide)), arr3_set pr hk v ▸ h.rb.set k _, h.op.oth (Oth.set (F := [rb]) _ _ _ _ (by simp)) (by simpa using h.op.ne h.rb (by decide))⟩
theorem Mid.cmA (h : Mid w wr wi b y ab rb ob N pa pr s1 s2 oc) (m : Cm w wi p x') (v : Value) : Cm w (wi.setCell ⟨ab, k, none⟩ v) p x' := by
 obtain ⟨cs, B⟩ := m.blk
 exact m.oth1 (Oth.set _ _ _ _ (by simp)) h.ab (by decide) (B.ne h.ab (by decide))
theorem Mid.cmR (h : Mid w wr wi b y ab rb ob N pa pr s1 s2 oc) (m : Cm w wi p x') (v : Value) : Cm w (wi.setCell ⟨rb, k, none⟩ v) p x' := by
 obtain ⟨cs, B⟩ := m.blk
 exact m.oth1 (Oth.set _ _ _ _ (by simp)) h.rb (by decide) (B.ne h.rb (by decide))
theorem Mid.rcR (h : Mid w wr wi b y ab rb ob N pa pr s1 s2 oc) (M : RCm w wi q F' x') (v : Value) : RCm w (wi.setCell ⟨rb, k, none⟩ v) q F' x' :=
 M.oth (G := [rb]) (Oth.set _ _ _ _ (by simp)) (by simpa using M.foot.ne h.rb (by decide) q (by simp)) (fun j hj => by simpa using M.foot.ne h.rb (by decide) j (by simp [hj]))
theorem Mid.now (h0 : Now w wr b y ab rb N pa pr F x s1 s2) (h : Mid w wr wi b y ab rb ob N (updN pa k (pt p)) (updN pr k (pt q)) s1 s2 oc) (hk : k < 3) (hp : wr.heap.size ≤ p) (hq : wr.heap.size ≤ q) (hF : ∀ j ∈ F', wr.heap.size ≤ j) (m : Cm w wi p x') (M : RCm w wi q F' x') :
  Now w wi b y ab rb N (updN pa k (pt p)) (updN pr k (pt q)) (updN F k (p :: q :: F')) (updN x k x') s1 s2 := ⟨h.two, h0.len, h0.ws, h.ab, h.rb, h0.team.begun hk h0.ab h0.rb (by decide) (by decide) (by decide) (by decide) h.oth hp hq hF m M⟩
end
end Go.Proofs.YtpcoldpphihfmaaGreatDoor
namespace Go.Proofs.YtpcoldpphihfmaaGreatDoor
set_option linter.unusedVariables false
set_option linter.unusedSimpArgs false
set_option maxRecDepth 100000
open Go.ChangeShapes Go.WideShapes Go.RowKit
set_option maxHeartbeats 4000000 in
theorem cSame2 {w w0 : World} {b y N : Nat} {s1 s2 : St} (h : Two w0 w b y s1 s2 N) (h160 : s1.ws.length = 160) (ew : s1.ws = s2.ws) (hN : N ≤ 100000) :
  Calls Tryz.prog 24 #[.pointer (some ⟨b, 0, none⟩), .pointer (some ⟨y, 0, none⟩)] w fun e w' => e = .returned (.bool true) ∧ Below w.heap.size w w' := by
 obtain ⟨g, cp, hS⟩ : ∃ g cp, Seen2 w y g cp (⟨s1.ws, s2.c, s2.t, s2.l⟩ : St) := by
  rw [ew]
  obtain ⟨⟨L, M, e1, rfl, hm, hr, hl, hl2⟩, _⟩ := h
  exact ⟨M.g, M.cp, hr.cell0, hr.cell2, fun j hj => hr.wcell j hj, hr.lt _ (by simp [Loc.fp]), hr.lt _ (by simp [Loc.fp])⟩
 have h1 := h.one
 have tb := h.fit1.t0
 have tc := h.fit1.tc
 have tc1 := h.fit1.c1
 have c0 := hS.c0
 rw [h160] at c0
 go_enter Tryz.func24, Tryz.ntmps24
 go_wp2_with (go_at_call 33; refine (hClone h1).mono ?_; rintro e w1 ⟨c, rfl, q0⟩)
 have d0 : w1.drew.cell? ⟨y, 0, none⟩ = some (.slice (some ⟨g, 0, none⟩) 160 cp) := (q0.bel.cell hS.ly).trans c0
 go_region_held3 (fun w' => w'.cell? ⟨y, 0, none⟩ = some (.slice (some ⟨g, 0, none⟩) 160 cp)) (first | assumption)
  ((go_at_call 61; refine (hLen q0.drew).mono ?_; rintro e w2 ⟨rfl, hw2⟩; rw [hw2, h160]; clear hw2 w2))
 all_goals go_wp2
 go_loopw [6] (fun i wr => ∃ j : Nat, j ≤ 160 ∧ i = .int .i64 j ∧ ∃ s3, Hand w wr c s3 (N + j) ∧ s3.ws = s1.ws) (fun i _ => 160 - (intOf i).toNat)
 case atStart => exact ⟨0, Nat.zero_le _, rfl, s1, q0.drew, rfl⟩
 case round =>
  obtain ⟨j, hj, rfl, s3, q1, q2⟩ := hrel
  have hS1 := hS.below q1.bel
  have x0 := hS1.c0
  rw [h160] at x0
  by_cases hj8 : j < 160
  case pos =>
   have xj := hS1.cw j (by show j < s1.ws.length; omega)
   have gj : s3.got j = s1.ws.getD j 0 := by
    rw [In.got (a := (j : Int)) (by rw [q2]; exact h160) ⟨by omega, by omega⟩]
    simp only [St.word, q2, Int.toNat_natCast]
   obtain ⟨v, hv⟩ : ∃ v, s1.ws.getD j 0 = v := ⟨_, rfl⟩
   rw [hv] at xj gj
   clear hv d0 c0 hS1
   go_wp2
   have x0d : wr.drew.cell? ⟨y, 0, none⟩ = some (.slice (some ⟨g, 0, none⟩) 160 cp) := x0
   have xjd : wr.drew.cell? ⟨g, j, none⟩ = some (.int .u64 v) := xj
   go_region_held3 (fun w' => w'.cell? ⟨y, 0, none⟩ = some (.slice (some ⟨g, 0, none⟩) 160 cp) ∧ w'.cell? ⟨g, j, none⟩ = some (.int .u64 v)) (first | assumption | exact ⟨x0d, xjd⟩)
    ((go_at_call 34; refine (hLoad q1.drew (by omega) j).mono ?_; rintro e w7 ⟨rfl, h7, _⟩; rw [gj]; have hS7 := hS.below h7.bel; have x7 : w7.cell? ⟨y, 0, none⟩ = some (.slice (some ⟨g, 0, none⟩) 160 cp) ∧ w7.cell? ⟨g, j, none⟩ = some (.int .u64 v) := ⟨(h7.bel.cell hS.ly).trans ((q1.bel.cell hS.ly).symm.trans x0), (h7.bel.cell hS.lg).trans ((q1.bel.cell hS.lg).symm.trans xj)⟩; clear hS7))
   all_goals go_wp2
   all_goals go_roundw
   case rel => exact ⟨j + 1, by omega, by go_num, _, h7, q2⟩
   case measure => simp [intOf]; omega
  case neg =>
   clear d0 c0
   go_wp2
   go_ret
   exact ⟨rfl, q1.bel⟩
end Go.Proofs.YtpcoldpphihfmaaGreatDoor
