/-
  The reference's CAS2, Take and Same.
-/
import Derived.Test.YtmidhhigopjkhaaRef
import Derived.Laws.StructEq
namespace Go.Proofs.Ytmidhhigopjkhaa
set_option linter.unusedVariables false
open Go.ChangeShapes Go.WideShapes Go.RowKit

theorem rCAS2bad {w : World} {L : Loc} {s : St} (hm : Rm w L s) (f : s.Fit) (hc : s.c < 1000000) (a o0 o1 x0 x1 : Int) (hi : s.is2 a = false) :
    Calls Try.prog 19 #[.pointer (some ⟨L.b, 0, none⟩), .int .i64 a, .int .u64 o0, .int .u64 o1, .int .u64 x0, .int .u64 x1] w fun e w' => e = .returned (.bool false) ∧ ∃ L', Rm w' L' (s.tell 4 a false false) ∧ Step w L w' L' := by
  have n4 := f.n4
  have n1 := f.n1
  have c0 := hm.cell0
  have hw : a < 0 ∨ (0 ≤ a ∧ ¬ a % 2 = 0) ∨ (0 ≤ a ∧ a % 2 = 0 ∧ (s.ws.length : Int) - 1 ≤ a) := by simp [St.is2] at hi; omega
  rcases hw with h0 | ⟨h0, h1⟩ | ⟨h0, h1, h2⟩
  case inr.inl => 
    have h1' : (a % 2 == 0) = false := by simpa using h1
    clear h1
    go_enter Try.func19, Try.ntmps19
    go_wp2_with (go_at_call 31; refine (rTold hm f hc 4 a false false).mono ?_; rintro e w2 ⟨rfl, hm'⟩)
    go_ret
    exact ⟨rfl, hm'⟩
  case inr.inr =>
    have h1' : (a % 2 == 0) = true := by simpa using h1
    clear h1
    go_enter Try.func19, Try.ntmps19
    go_wp2_with (go_at_call 31; refine (rTold hm f hc 4 a false false).mono ?_; rintro e w2 ⟨rfl, hm'⟩)
    go_ret
    exact ⟨rfl, hm'⟩
  case inl =>
    go_enter Try.func19, Try.ntmps19
    go_wp2_with (go_at_call 31; refine (rTold hm f hc 4 a false false).mono ?_; rintro e w2 ⟨rfl, hm'⟩)
    go_ret
    exact ⟨rfl, hm'⟩

set_option maxHeartbeats 400000 in
theorem rCAS2 {w : World} {L : Loc} {s : St} (hm : Rm w L s) (f : s.Fit) (hc : s.c < 1000000) (a o0 o1 x0 x1 : Int) :
    Calls Try.prog 19 #[.pointer (some ⟨L.b, 0, none⟩), .int .i64 a, .int .u64 o0, .int .u64 o1, .int .u64 x0, .int .u64 x1] w fun e w' => e = .returned (.bool (s.ok2 a o0 o1)) ∧ ∃ L', Rm w' L' (s.cas2 a o0 o1 x0 x1) ∧ Step w L w' L' := by
  cases hi : s.is2 a
  case false =>
    have hk : s.ok2 a o0 o1 = false := by simp [St.ok2, hi]
    have hl : s.cas2 a o0 o1 x0 x1 = s.tell 4 a false false := by simp [St.cas2, hk, hi]
    rw [hl, hk]
    exact rCAS2bad hm f hc a o0 o1 x0 x1 hi
  case true =>
    have n4 := f.n4
    have c0 := hm.cell0
    obtain ⟨j, rfl, hj⟩ := St.is2_nat hi
    have he : (j : Int) % 2 = 0 := by simp [St.is2] at hi; omega
    have he' : ((j : Int) % 2 == 0) = true := by simpa using he
    have hj' : (j : Int) < (s.ws.length : Int) - 1 := by omega
    have hj0 : (0 : Int) ≤ j := by omega
    have hji : (j : Int) + 1 < s.ws.length := by omega
    clear he
    obtain ⟨v, hv⟩ : ∃ v, s.ws.getD j 0 = v := ⟨_, rfl⟩
    obtain ⟨u, hu⟩ : ∃ u, s.ws.getD (j + 1) 0 = u := ⟨_, rfl⟩
    have cw := hm.wcell j (by omega)
    rw [hv] at cw
    have cu := hm.wcell (j + 1) hj
    rw [hu] at cu
    have hwv : s.word j = v := by simp only [St.word, Int.toNat_natCast]; exact hv
    have hwu : s.word ((j : Int) + 1) = u := by rw [← hu]; rfl
    by_cases ho : v = o0 ∧ u = o1
    · have hk : s.ok2 j o0 o1 = true := by simp only [St.ok2, hi, Bool.true_and, hwv, hwu]; simpa using ho
      have hl : s.cas2 j o0 o1 x0 x1 = ((s.tell 4 j true true).put j x0).put (j + 1 : Nat) x1 := by simp [St.cas2, hk, hi]; rfl
      have hd0 : (v == o0) = true := by simpa using ho.1
      have hd1 : (u == o1) = true := by simpa using ho.2
      rw [hl, hk]
      clear ho
      go_enter Try.func19, Try.ntmps19
      go_wp2_with (go_at_call 31; refine (rTold hm f hc 4 j true true).mono ?_; rintro e w2 ⟨rfl, L', hm', st⟩; have k0 := hm'.cell0; rw [st.b] at k0; have kw := hm'.wcell j (by show j < s.ws.length; omega); have ku := hm'.wcell (j + 1) hj; have kf := hm'.wfree j; have kg := hm'.wfree (j + 1); change w2.cell? _ = some (.slice _ s.ws.length _) at k0; change w2.cell? _ = some (.int .u64 (s.ws.getD j 0)) at kw; change w2.cell? _ = some (.int .u64 (s.ws.getD (j + 1) 0)) at ku; rw [hv] at kw; rw [hu] at ku; have P := put_cell hm' j x0; have p0 := P.cell0; rw [st.b] at p0; have pu := P.wcell (j + 1) (by show j + 1 < (s.ws.set _ _).length; rw [List.length_set]; exact hj); have pg := P.wfree (j + 1); rw [show ((s.tell 4 j true true).put j x0).ws.length = s.ws.length from List.length_set ..] at p0; generalize ((s.tell 4 j true true).put j x0).ws.getD (j + 1) 0 = u' at pu; clear ku kg)
      go_ret
      exact ⟨rfl, L', put_cell (put_cell hm' j x0) (j + 1) x1, put_step (put_step st j x0) (j + 1) x1⟩
    · have hk : s.ok2 j o0 o1 = false := by simp only [St.ok2, hi, Bool.true_and, hwv, hwu]; simpa using ho
      have hl : s.cas2 j o0 o1 x0 x1 = s.tell 4 j true false := by simp [St.cas2, hk, hi]
      rw [hl, hk]
      by_cases ho0 : v = o0
      · have hd0 : (v == o0) = true := by simpa using ho0
        have hd1 : (u == o1) = false := by simp; exact fun h => ho ⟨ho0, h⟩
        clear ho ho0
        go_enter Try.func19, Try.ntmps19
        go_wp2_with (go_at_call 31; refine (rTold hm f hc 4 j true false).mono ?_; rintro e w2 ⟨rfl, hm'⟩)
        go_ret
        exact ⟨rfl, hm'⟩
      · have hd0 : (v == o0) = false := by simpa using ho0
        clear ho ho0
        go_enter Try.func19, Try.ntmps19
        go_wp2_with (go_at_call 31; refine (rTold hm f hc 4 j true false).mono ?_; rintro e w2 ⟨rfl, hm'⟩)
        go_ret
        exact ⟨rfl, hm'⟩

theorem rTake {w : World} {L : Loc} {s : St} (h : Rm w L s) :
    Calls Try.prog 22 #[.pointer (some ⟨L.b, 0, none⟩)] w fun e w' => e = .returned L.vu ∧ Rm w' ⟨L.b, L.g, L.cp, .slice none 0 0⟩ s.took ∧ Step w L w' ⟨L.b, L.g, L.cp, .slice none 0 0⟩ ∧
      w'.ownsRow 0 44 3 L.vu s.l.length (accs s.l) ∧ ∀ k, L.vu.ownBlock = some k → k ≠ L.b ∧ k ≠ L.g := by
  have c3 := h.cell3
  have f3 := h.free 3
  have R := took_at h
  have R2 := took_step h
  have R3 : (w.setCell ⟨L.b, 3, none⟩ (.slice none 0 0)).ownsRow 0 44 3 L.vu s.l.length (accs s.l) := ownsRow_setCell_other h.unt h.bu _
  have R4 : ∀ k, L.vu.ownBlock = some k → k ≠ L.b ∧ k ≠ L.g := fun k hk => ⟨fun e => h.bu (e ▸ hk), fun e => h.gu (e ▸ hk)⟩
  obtain ⟨ao, n, cp, hv⟩ : ∃ ao n cp, L.vu = .slice ao n cp := by
    rcases h.unt.2 with ⟨h', _⟩ | ⟨g, cp, _, h', _⟩
    · exact ⟨_, _, _, h'⟩
    · exact ⟨_, _, _, h'⟩
  rw [hv] at c3 R3 R4 ⊢
  go_enter Try.func22, Try.ntmps22
  go_wp2
  go_ret
  exact ⟨rfl, R, R2, R3, R4⟩
end Go.Proofs.Ytmidhhigopjkhaa
