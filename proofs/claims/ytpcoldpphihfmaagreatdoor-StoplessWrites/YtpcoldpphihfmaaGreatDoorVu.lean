/-
  An access in a law's hand: it is made, steps, and is told.
-/
import Derived.Test.YtpcoldpphihfmaaGreatDoorVt2
namespace Go.Proofs.YtpcoldpphihfmaaGreatDoor
set_option linter.unusedVariables false
set_option linter.unusedSimpArgs false
set_option maxRecDepth 100000
open Go.ChangeShapes Go.WideShapes Go.RowKit
open H.Plain (hw pS pC pN pM pG pT pL mv)

theorem Ax.On.put {a : Ax} {q : Wq} (h : a.On q) (n : Int) : ({ a with pc := n } : Ax).On q := ⟨h.r, h.cl, h.h, h.o⟩
theorem Ax.As.put {w : World} {a : Ax} {x : Cw} (h : a.As w x) (n : Int) : ({ a with pc := n } : Ax).As w x := by
  cases x with
  | fin b o => exact h
  | pl x => exact h
  | dr b x => exact h
  | hd q => exact ⟨h.1, h.2.put n⟩
  | _ => exact ⟨h.1, h.2.1.put n, h.2.2⟩
theorem Ax.On.off {a : Ax} {q : Wq} (h : a.On q) : ({ a with hit := false } : Ax).On q := ⟨h.r, h.cl, h.h, h.o⟩
section
variable {ow : Bool} {w0 w w' : World} {b y p : Nat} {s1 s2 s' : St} {N : Nat} {a : Ax} {x' : Cw}
set_option maxHeartbeats 1000000
theorem sStep0 (B : Blk w0 w p 114 a.cells) (hpc : a.pc = 0) : Calls Tryz.prog 19 #[pt p, pt b] w fun e w' => e = .returned (.bool true) ∧ w' = w := by
  have c12 : w.cell? ⟨p, 12, none⟩ = some (.int .i64 0) := hpc ▸ B.cell 12
  go_enter Tryz.func19, Tryz.ntmps19
  go_wp2
  go_ret
  exact ⟨rfl, rfl⟩
theorem sStep (h : TwoT ow w0 w b y s1 s2 N) (B : Blk w0 w p 114 a.cells) (hpc : (a.pc != 0) = true)
    (hdo : ∀ w1, To ow w0 w w1 b y p s1 s2 N ({ a with hit := false } : Ax) → Calls Tryz.prog 49 #[pt p, pt b] w1 fun e w' => Lf ow w0 w1 b y p s' s2 (N + 1) x' e w') :
    Calls Tryz.prog 19 #[pt p, pt b] w fun e w' => e = .returned (.bool x'.done) ∧ ∃ a' : Ax, To ow w0 w w' b y p s' s2 (N + 1) a' ∧ a'.Is w' x' := by
  have c12 : w.cell? ⟨p, 12, none⟩ = some (.int .i64 a.pc) := B.cell 12
  have c29 : w.cell? ⟨p, 29, none⟩ = some (.bool a.hit) := B.cell 29
  have f29 := B.free 29
  have t1 : To ow w0 w (w.setCell ⟨p, 29, none⟩ (.bool false)) b y p s1 s2 N ({ a with hit := false } : Ax) := (To.refl h B).kept (Kept.one ..) (B.s_hit false)
  rw [← Cw.pc_done]
  obtain ⟨n, hn⟩ : ∃ n, x'.pc = n := ⟨_, rfl⟩
  rw [hn]
  refine viaQ fun Q k => ?_
  go_enter Tryz.func19, Tryz.ntmps19
  go_upto_region 3 with (fail)
  generalize w.setCell ⟨p, 29, none⟩ (.bool false) = w1 at t1 ⊢
  clear c12 c29 f29
  go_wp2_with (go_at_call 49; refine (hdo w1 t1).mono ?_; rintro e w2 ⟨rfl, a', t2, I2⟩; rw [hn]; have c12 : w2.cell? ⟨p, 12, none⟩ = some (.int .i64 a'.pc) := t2.blk.cell 12; have f12 := t2.blk.free 12)
  exact k.out _ _ ⟨rfl, _, (t1.tr t2).kept (Kept.one ..) (t2.blk.s_pc n), hn.symm, (I2.put n).oth (F := [p]) (Oth.kept (Kept.one ..)) fun q hq => by simp at hq; subst hq; exact ⟨_, _, _, t2.blk.at_, by decide⟩⟩
end
structure Cm (w0 w : World) (p : Nat) (x : Cw) : Prop where
  it : ∃ a : Ax, Blk w0 w p 114 a.cells ∧ a.Is w x
  ok : x.Ok
  bh : Bh w0
section
variable {ow : Bool} {w0 w w' : World} {b y p q : Nat} {s1 s2 : St} {N : Nat} {x : Cw} {T : TypeId} {cs : Array Value} {F : List Nat}
theorem Cm.oth (h : Cm w0 w p x) (o : Oth F w w') (hp : p ∉ F) (hF : ∀ q ∈ F, ∃ cs T fz, w.heap[q]? = some (.cells cs T fz) ∧ T ∉ BTs) : Cm w0 w' p x := by
  obtain ⟨⟨a, B, I⟩, ok, bh⟩ := h
  exact ⟨⟨a, B.oth o hp, I.1, I.2.oth o hF⟩, ok, bh⟩
theorem Cm.oth0 (h : Cm w0 w p x) (o : Oth [] w w') : Cm w0 w' p x := h.oth o (by simp) (by simp)
theorem Cm.oth1 (h : Cm w0 w p x) (o : Oth [q] w w') (hq : Blk w0 w q T cs) (hT : T ∉ BTs) (hp : p ≠ q) : Cm w0 w' p x := h.oth o (by simpa using hp) fun k hk => by simp at hk; subst hk; exact ⟨_, _, _, hq.at_, hT⟩
theorem Cm.below (h : Cm w0 w p x) (hb : Below w.heap.size w w') : Cm w0 w' p x := h.oth0 (Oth.below hb)
theorem Cm.blk (h : Cm w0 w p x) : ∃ cs, Blk w0 w p 114 cs := by obtain ⟨⟨a, B, I⟩, ok, bh⟩ := h; exact ⟨_, B⟩
theorem Cm.lt (h : Cm w0 w p x) : p < w.heap.size := by obtain ⟨cs, B⟩ := h.blk; exact B.lt
/-- it steps -/
theorem tC (h : TwoT ow w0 w b y s1 s2 N) (m : Cm w0 w p x) (hN : N + 5 < 1000000) :
    Calls Tryz.prog 19 #[pt p, pt b] w fun e w' => e = .returned (.bool (x.next s1).done) ∧ TwoT ow w0 w' b y (x.mem s1) s2 (N + 1) ∧ Cm w0 w' p (x.next s1) ∧ Oth [p] w w' := by
  have hR := h.rng1
  obtain ⟨⟨a, B, I⟩, ok, bh⟩ := m
  have okn := ok.next hR
  have fin : ∀ {e : Ending} {w' : World}, (e = .returned (.bool (x.next s1).done) ∧ ∃ a' : Ax, To ow w0 w w' b y p (x.mem s1) s2 (N + 1) a' ∧ a'.Is w' (x.next s1)) → e = .returned (.bool (x.next s1).done) ∧ TwoT ow w0 w' b y (x.mem s1) s2 (N + 1) ∧ Cm w0 w' p (x.next s1) ∧ Oth [p] w w' := by
    rintro e w' ⟨rfl, a', t, I'⟩
    exact ⟨rfl, t.two, ⟨⟨a', t.blk, I'⟩, okn, bh⟩, t.oth⟩
  have ne : ∀ {n : Int}, a.pc = n → n ≠ 0 → (a.pc != 0) = true := fun h1 h2 => by rw [h1]; simpa using h2
  obtain ⟨I1, I2⟩ := I
  cases x with
  | fin c o =>
    refine (sStep0 B I1).mono ?_
    rintro e w' ⟨rfl, rfl⟩
    exact ⟨rfl, h.mono (by omega), ⟨⟨a, B, I1, I2⟩, ok, bh⟩, Oth.refl _ _⟩
  | hd q => exact (sStep h B (ne (n := 1) I1 (by decide)) fun w1 t1 => d1 t1.two t1.blk hN I1 rfl I2.2.off ok).mono fun _ _ => fin
  | a2 q wd => exact (sStep h B (ne (n := 2) I1 (by decide)) fun w1 t1 => d2 t1.two t1.blk hN I1 bh rfl I2.2.1.off ok.1 I2.2.2 ok.2).mono fun _ _ => fin
  | a3 q wd => exact (sStep h B (ne (n := 3) I1 (by decide)) fun w1 t1 => d3 t1.two t1.blk hN I1 I2.2.1.off ok.1 I2.2.2).mono fun _ _ => fin
  | a4 q wd z => exact (sStep h B (ne (n := 4) I1 (by decide)) fun w1 t1 => d4 t1.two t1.blk hN I1 rfl I2.2.1.off ok.1 I2.2.2.1 I2.2.2.2 ok.2.2.1).mono fun _ _ => fin
  | a5 q wd z => exact (sStep h B (ne (n := 5) I1 (by decide)) fun w1 t1 => d5 t1.two t1.blk hN I1 rfl I2.2.1.off ok.1 I2.2.2.1 I2.2.2.2 ok.2.1 ok.2.2).mono fun _ _ => fin
  | a6 q wd st =>
    obtain ⟨ok1, ok2, ok3⟩ := ok
    rcases ok3 with rfl | rfl
    · exact (sStep h B (ne (show a.pc = 6 from I1) (by decide)) fun w1 t1 => d6 t1.two t1.blk hN (show a.pc = 6 from I1) I2.2.1.off ok1 I2.2.2.1 I2.2.2.2 ok2 rfl).mono fun _ _ => fin
    · exact (sStep h B (ne (show a.pc = 8 from I1) (by decide)) fun w1 t1 => d8 t1.two t1.blk hN (show a.pc = 8 from I1) I2.2.1.off ok1 I2.2.2.1 I2.2.2.2 ok2 rfl).mono fun _ _ => fin
  | a7 q wd st z => exact (sStep h B (ne (n := 7) I1 (by decide)) fun w1 t1 => d7 t1.two t1.blk hN I1 bh rfl I2.2.1.off ok.1 I2.2.2.1 I2.2.2.2.1 I2.2.2.2.2 ok.2.1 ok.2.2.2.1 ok.2.2.2.2).mono fun _ _ => fin
  | a9 q wd z => exact (sStep h B (ne (n := 9) I1 (by decide)) fun w1 t1 => d9 t1.two t1.blk hN I1 rfl I2.2.1.off ok.1 I2.2.2.1 I2.2.2.2.1 I2.2.2.2.2 ok.2.1 ok.2.2.1).mono fun _ _ => fin
  | a11 q wd => exact (sStep h B (ne (n := 11) I1 (by decide)) fun w1 t1 => d11 t1.two t1.blk hN I1 rfl I2.2.1.off ok.1 I2.2.2).mono fun _ _ => fin
  | a12 q wd z => exact (sStep h B (ne (n := 12) I1 (by decide)) fun w1 t1 => d12 t1.two t1.blk hN I1 rfl I2.2.1.off ok.1 I2.2.2.1 I2.2.2.2.1 I2.2.2.2.2).mono fun _ _ => fin
  | a13 q wd z l => exact (sStep h B (ne (n := 13) I1 (by decide)) fun w1 t1 => d13 t1.two t1.blk hN I1 rfl I2.2.1.off ok.1 I2.2.2.1 I2.2.2.2.1 I2.2.2.2.2.1 I2.2.2.2.2.2 ok.2.2.2.1 ok.2.2.1).mono fun _ _ => fin
  | a14 q wd z => exact (sStep h B (ne (n := 14) I1 (by decide)) fun w1 t1 => d14 t1.two t1.blk hN I1 rfl I2.2.1.off ok.1 I2.2.2.1 I2.2.2.2.1 I2.2.2.2.2 ok.2.1 ok.2.2.1).mono fun _ _ => fin
  | pl x => exact (sStep h B (ne (n := 15) I1 (by decide)) fun w1 t1 => d15 (c := false) t1.two t1.blk hN I1 I2.2.2.1 (oth_rep B t1.oth I2.2.2.2) ok.1).mono fun _ _ => fin
  | dr c x => exact (sStep h B (ne (n := 16) I1 (by decide)) fun w1 t1 => d16 (c := c) t1.two t1.blk hN I1 I2.2.2.1 (oth_rep B t1.oth I2.2.2.2) ok.1).mono fun _ _ => fin
theorem cCHit (m : Cm w0 w p x) : Calls Tryz.prog 21 #[pt p] w fun e w' => e = .returned (.bool x.hit) ∧ w' = w := by
  obtain ⟨⟨a, B, I⟩, ok, bh⟩ := m
  rw [← I.2.1]
  have c1 : w.cell? ⟨p, 29, none⟩ = some (.bool a.hit) := B.cell 29
  go_enter Tryz.func21, Tryz.ntmps21
  go_wp2
  go_ret
  exact ⟨rfl, rfl⟩
theorem cCResult (m : Cm w0 w p x) : Calls Tryz.prog 22 #[pt p] w fun e w' => e = .returned x.o.val ∧ Below w.heap.size w w' := by
  obtain ⟨⟨a, B, I⟩, ok, bh⟩ := m
  rw [← I.2.out]
  have c2 : w.cell? ⟨p, 30, none⟩ = some (.int .i64 a.o.c) := B.cell 30
  have c3 : w.cell? ⟨p, 31, none⟩ = some (.int .i64 a.o.v.k) := B.cell 31
  have c4 : w.cell? ⟨p, 32, none⟩ = some (.int .i64 a.o.v.n) := B.cell 32
  have c5 : w.cell? ⟨p, 33, none⟩ = some (.bool a.o.y) := B.cell 33
  have l := B.lt
  go_enter Tryz.func22, Tryz.ntmps22
  go_wp2
  exact bodyPost_ret (v := a.o.val) (by simp [results, Tryz.results22, go_sem, Ou.val]) rfl ⟨rfl, by go_grown⟩
end
/-- one that was made just now -/
structure MadeC (w w' : World) (p : Nat) (x : Cw) : Prop where
  blk : ∃ a : Ax, w'.heap[p]? = some (.cells a.cells 114 (0, 0)) ∧ a.Is w' x
  bel : Below w.heap.size w w'
  new : w.heap.size ≤ p
theorem MadeC.cm {w0 w w' : World} {p : Nat} {x : Cw} (M : MadeC w w' p x) (hs : w0.heap.size ≤ w.heap.size) (ok : x.Ok) (bh : Bh w0) : Cm w0 w' p x := by
  obtain ⟨a, e, I⟩ := M.blk
  exact ⟨⟨a, ⟨e, Nat.le_trans hs M.new, by decide⟩, I⟩, ok, bh⟩
def Ax.zero (r : Rq) (cl : Bool) (h : Hw) (pc : Int) (p : Sx) (vp : Value) (o : Ou) : Ax := ⟨r, cl, h, pc, 0, 0, 0, 0, p, vp, ⟨none, false, Ou.zero⟩, .nilFunc, false, o⟩
section
set_option maxHeartbeats 2000000
theorem cNewC (r : Rq) (e : En) (w : World) :
    Calls Tryz.prog 15 #[.agg #[.int .i64 r.op, .int .i64 r.at_, .int .i64 r.fd, .int .i64 r.x.k, .int .i64 r.x.n, .int .i64 r.y.k, .int .i64 r.y.n], .agg #[.int .i64 e.md, .int .i64 e.mr, .int .i64 e.al]] w fun e' w' => ∃ p, e' = .returned (pt p) ∧ MadeC w w' p (Cw.new r e) := by
  unfold Cw.new
  by_cases h : r.at_ = 0
  · rw [if_pos h]
    have q : (r.at_ == 0) = true := by simp [h]
    clear h
    go_enter Tryz.func15, Tryz.ntmps15
    go_wp2
    go_ret
    exact ⟨_, rfl, ⟨Ax.zero ⟨0, 0, 0, ⟨0, 0⟩, ⟨0, 0⟩⟩ false ⟨false, false, false, 0⟩ 0 ⟨none, false, Ou.zero⟩ .nilFunc ⟨14, Vl.zero, false⟩, by first | exact newAt (by simp) | exact newAt rfl, rfl, rfl, rfl⟩, by go_grown, by first | omega | (simp; omega) | simp⟩
  · rw [if_neg h]
    have q : (r.at_ == 0) = false := by simpa using h
    by_cases h5 : e.md < 5
    · rw [if_pos h5]
      have q2 : decide (e.md < 5) = true := by simpa using h5
      have hpl : Sx.plain r e = ⟨some (.plain r e), false, Ou.zero⟩ := by unfold Sx.plain; rw [if_neg h]
      clear h5 h
      go_enter Tryz.func15, Tryz.ntmps15
      go_wp2_with (go_at_call 46; refine (cNewPlain r e _).mono ?_; rintro e' w1 ⟨p1, rfl, M⟩; rw [hpl] at M; have hb : Below w.heap.size w w1 := bel_trans (by go_grown) M.bel; obtain ⟨v, eb, R⟩ := M.blk; obtain ⟨nf, cf, hv⟩ := Rep.fn R; rw [hv] at eb R; have x0 : w1.cell? ⟨p1, 0, none⟩ = some (.func (.func nf) #[] cf) := cell_of_row w1 _ _ _ _ _ eb; have x1 : w1.cell? ⟨p1, 1, none⟩ = some (.bool false) := cell_of_row w1 _ _ _ _ _ eb; have x2 : w1.cell? ⟨p1, 2, none⟩ = some (.int .i64 0) := cell_of_row w1 _ _ _ _ _ eb; have x3 : w1.cell? ⟨p1, 3, none⟩ = some (.int .i64 0) := cell_of_row w1 _ _ _ _ _ eb; have x4 : w1.cell? ⟨p1, 4, none⟩ = some (.int .i64 0) := cell_of_row w1 _ _ _ _ _ eb; have x5 : w1.cell? ⟨p1, 5, none⟩ = some (.bool false) := cell_of_row w1 _ _ _ _ _ eb; have hs1 := hb.size; clear M eb hv)
      go_ret
      rw [hpl]
      exact ⟨_, rfl, ⟨Ax.zero ⟨0, 0, 0, ⟨0, 0⟩, ⟨0, 0⟩⟩ false ⟨false, false, false, 0⟩ 15 ⟨some (.plain r e), false, Ou.zero⟩ (.func (.func nf) #[] cf) Ou.zero, by first | exact newAt (by simp) | exact newAt rfl, rfl, rfl, rfl, rfl, Rep.below R ((Below.refl _ _).alloc (Nat.le_refl _) _)⟩, hb.alloc hs1 _, by first | exact hs1 | omega | (simp; omega) | simp⟩
    · rw [if_neg h5]
      have q2 : decide (e.md < 5) = false := by simpa using h5
      clear h5 h
      obtain ⟨fx, hfx⟩ : ∃ fx, (e.md == 8) = fx := ⟨_, rfl⟩
      obtain ⟨sh, hsh⟩ : ∃ sh, decide (7 ≤ e.md) = sh := ⟨_, rfl⟩
      have hlo : decide (e.md < 7) = !sh := by rw [← hsh]; by_cases hm : e.md < 7 <;> simp [hm] <;> omega
      rw [hfx, hlo]
      clear hlo
      go_enter Tryz.func15, Tryz.ntmps15
      go_wp2
      go_ret
      exact ⟨_, rfl, ⟨Ax.zero r sh (hwC fx) 1 ⟨none, false, Ou.zero⟩ .nilFunc Ou.zero, by first | exact newAt (by simp) | exact newAt rfl, rfl, rfl, rfl, by simp [Ax.zero], rfl, rfl⟩, by go_grown, by first | omega | (simp; omega) | simp⟩
end
end Go.Proofs.YtpcoldpphihfmaaGreatDoor
