/- PlanGone answers true. -/
import Derived.Test.YtibjihdeknndoaaPlnBegun2
namespace Go.Proofs.Ytibjihdeknndoaa.pl
open Go.ChangeShapes Go.WideShapes Go.ChangeAt Go.RowKit
open vl
set_option linter.unusedVariables false
set_option linter.unusedSimpArgs false
set_option maxRecDepth 10000 in
set_option maxHeartbeats 8000000 in
theorem goneLaw_walk (p : Pln) (x : PA) (side mark : Int) (w : World) (hw : wfPlan p) (hp : planAt w p x) :
    Calls Try.prog 5 #[planV p x, .int .i64 side, .int .i64 mark] w fun e w' => e = .returned (.bool true) ∧ Below w.heap.size w w' := by
  have K1 : Hid (∀ w1, Below w.heap.size w w1 → Calls Try.prog 17 #[planV p x, .int .i64 side, .int .i64 mark] w1 fun e w' => e = .returned (.tuple #[.int .i64 (goneV p side mark), .int .i64 (goneErr p side mark)]) ∧ Below w1.heap.size w1 w') := fun w1 hb => gone_any p x side mark w1 hw (planAt_below hp hb)
  have K2 : Hid (∀ w1, Below w.heap.size w w1 → Calls Try.prog 8 #[planV p x] w1 fun e w' => e = .returned (.int .i64 (planErr p)) ∧ Below w1.heap.size w1 w') := fun w1 hb => checkPlan_any p x w1 hw (planAt_below hp hb)
  have K3 : Hid (∀ w1, planErr p = 0 → fit mark → Calls Try.prog 19 #[planV p x, .int .i64 side, .int .i64 mark] w1 fun e w' => e = .returned (.int .i64 (goneAt p side mark)) ∧ Below w1.heap.size w1 w') := fun w1 h hm => rgone_any p x side mark w1 h hm
  have HE : Hid (goneErr p side mark = gErr (planErr p) (sideB side) (tm.fitB mark)) := rfl
  have HV : Hid (goneV p side mark = if gErr (planErr p) (sideB side) (tm.fitB mark) = 0 then goneAt p side mark else 0) := rfl
  obtain ⟨pe, hpe⟩ : ∃ z, planErr p = z := ⟨_, rfl⟩
  obtain ⟨gv, hgv⟩ : ∃ z, goneV p side mark = z := ⟨_, rfl⟩
  obtain ⟨ge, hge⟩ : ∃ z, goneErr p side mark = z := ⟨_, rfl⟩
  obtain ⟨ga, hga⟩ : ∃ z, goneAt p side mark = z := ⟨_, rfl⟩
  rw [hgv, hge] at K1
  rw [hpe] at K2 K3 HE HV
  rw [hga] at K3 HV
  rw [hge] at HE
  rw [hgv] at HV
  clear hpe hgv hge hga hw hp
  obtain ⟨kind, mode, low, high, size, limit, left, right, lkeys, rkeys, grouped, group, aggs⟩ := p
  obtain ⟨l, lc, r, rc, lk, lkc, rk, rkc, g, gc, a, ac⟩ := x
  unfold planV at K1 K2 K3 ⊢
  dsimp only at K1 K2 K3 ⊢
  obtain ⟨n6, h6⟩ : ∃ n, left.length = n := ⟨_, rfl⟩
  obtain ⟨n7, h7⟩ : ∃ n, right.length = n := ⟨_, rfl⟩
  obtain ⟨n8, h8⟩ : ∃ n, lkeys.length = n := ⟨_, rfl⟩
  obtain ⟨n9, h9⟩ : ∃ n, rkeys.length = n := ⟨_, rfl⟩
  obtain ⟨n11, h11⟩ : ∃ n, group.length = n := ⟨_, rfl⟩
  obtain ⟨n12, h12⟩ : ∃ n, aggs.length = n := ⟨_, rfl⟩
  rw [h6, h7, h8, h9, h11, h12] at K1 K2 K3
  rw [h6, h7, h8, h9, h11, h12]
  clear h6 h7 h8 h9 h11 h12
  go_enter Try.func5, Try.ntmps5
  go_wp2_with fail
  refine (K1.out _ ((Below.refl _ _).alloc (Nat.le_refl _) _)).mono ?_
  rintro e w1 ⟨rfl, hb1⟩
  have h1 := ((Below.refl _ _).alloc (Nat.le_refl _) _).trans (hb1.mono (by simp))
  obtain ⟨hc1, hf1⟩ := bcell hb1
  have hz1 : w.heap.size < w1.heap.size := (by have := hb1.size; simp at this; omega)
  go_wp2_with fail
  refine (K2.out _ h1).mono ?_
  rintro e w2 ⟨rfl, hb2⟩
  have h2 := h1.trans (hb2.mono h1.size)
  obtain ⟨hc2, hf2⟩ := bcell hb2
  have hz2 : w.heap.size < w2.heap.size := (by have := hb2.size; omega)
  by_cases h0 : pe = 0
  · subst h0
    cases hsb : sideB side
    · have hns : ¬ (side = 1 ∨ side = 2) := of_decide_eq_false hsb
      have s1 : (side != 1) = true := by simp; omega
      have s2 : (side != 2) = true := by simp; omega
      rw [hsb] at HE HV
      have e1 : ge = 4 := HE.out
      have e2 : gv = 0 := HV.out
      subst e1 e2
      clear hns HE HV hsb
      go_wp2_with
        (go_at_call 9; refine (begun_any _).mono ?_; rintro e w3 ⟨rfl, hb3⟩; have h3 := h2.trans (hb3.mono h2.size); obtain ⟨hc3, hf3⟩ := bcell hb3)
      go_ret
      exact ⟨rfl, h3⟩
    · have hsd : side = 1 ∨ side = 2 := of_decide_eq_true hsb
      rw [hsb] at HE HV
      cases hfb : tm.fitB mark
      · rw [hfb] at HE HV
        have e1 : ge = 3 := HE.out
        have e2 : gv = 0 := HV.out
        subst e1 e2
        clear HE HV hsb
        rcases hsd with rfl | rfl
        all_goals
          go_wp2_with (first
            | 
              (go_at_call 9; refine (begun_any _).mono ?_; rintro e w3 ⟨rfl, hb3⟩; have h3 := h2.trans (hb3.mono h2.size); obtain ⟨hc3, hf3⟩ := bcell hb3)
            | 
              (go_at_call 18; refine (tm.rfits_any _ _).mono ?_; rintro e w' ⟨rfl, hw⟩; subst hw)
              )
          go_ret
          exact ⟨rfl, h3⟩
      · rw [hfb] at HE HV
        have e1 : ge = 0 := HE.out
        have e2 : gv = ga := HV.out
        subst e1 e2
        have HFM : Hid (fit mark) := fit_fitB.2 hfb
        clear HE HV hsb
        rcases hsd with rfl | rfl
        all_goals
          go_wp2_with (first
            | 
              (go_at_call 9; refine (begun_any _).mono ?_; rintro e w3 ⟨rfl, hb3⟩; have h3 := h2.trans (hb3.mono h2.size); obtain ⟨hc3, hf3⟩ := bcell hb3)
            | 
              (go_at_call 18; refine (tm.rfits_any _ _).mono ?_; rintro e w' ⟨rfl, hw⟩; subst hw)
            | (go_at_call 19; refine (K3.out _ (by trivial) HFM.out).mono ?_; rintro e w4 ⟨rfl, hb4⟩; have h4 := h3.trans (hb4.mono h3.size)))
          go_ret
          exact ⟨rfl, by first | exact h4 | exact h3⟩
  · have h0' : (pe == 0) = false := by simpa using h0
    have h0'' : (pe != 0) = true := by simpa using h0
    have e1 : ge = pe := by rw [HE.out]; exact if_neg h0
    have e2 : gv = 0 := by
      rw [HV.out, if_neg]
      unfold gErr
      rw [if_neg h0]; exact h0
    subst e1 e2
    clear h0 HE HV
    go_wp2_with
      (go_at_call 9; refine (begun_any _).mono ?_; rintro e w3 ⟨rfl, hb3⟩; have h3 := h2.trans (hb3.mono h2.size); obtain ⟨hc3, hf3⟩ := bcell hb3)
    go_ret
    exact ⟨rfl, h3⟩
end Go.Proofs.Ytibjihdeknndoaa.pl
