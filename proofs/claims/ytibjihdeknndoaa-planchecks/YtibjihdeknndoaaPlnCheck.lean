/- Check: what is wrong with a plan. -/
import Derived.Test.YtibjihdeknndoaaPlnForm
namespace Go.Proofs.Ytibjihdeknndoaa.pl
open Go.ChangeShapes Go.WideShapes Go.ChangeAt Go.RowKit
open vl
set_option linter.unusedVariables false
set_option linter.unusedSimpArgs false
def err5 (a b c d e : Bool) : Int := if a = false then 4 else if b = false then 3 else if c = false then 2 else if d = false then 5 else if e = false then 1 else 0
theorem planErr_5 (p : Pln) : planErr p = err5 (decide (kindsOk p)) (decide (rangesOk p)) (decide (manyOk p)) (decide (typesOk p)) (decide (formOk p)) := by
  unfold planErr err5
  simp only [decide_eq_false_iff_not]
theorem many_len {p : Pln} (h : manyOk p) : (0 < p.left.length ∧ p.left.length ≤ 4) ∧ (0 < p.right.length ∧ p.right.length ≤ 4) ∧ (0 < p.lkeys.length ∧ p.lkeys.length ≤ 4) ∧ (0 < p.rkeys.length ∧ p.rkeys.length ≤ 4) ∧ p.aggs.length ≤ 4 ∧ p.group.length ≤ 8 := by
  obtain ⟨⟨h1, h2, h3, h4⟩, h5⟩ := h
  unfold len14 at h1 h2 h3 h4 h5
  split at h5
  · omega
  · omega
set_option maxRecDepth 10000 in
set_option maxHeartbeats 4000000 in
theorem planCheck_any (p : Pln) (x : PA) (w : World) (hw : wfPlan p) (hp : planAt w p x) :
    Calls Try.prog 10 #[planV p x] w fun e w' => e = .returned (.int .i64 (planErr p)) ∧ Below w.heap.size w w' := by
  have K1 : Hid (∀ w1, Below w.heap.size w w1 → Calls Try.prog 34 #[planV p x] w1 fun e w' => e = .returned (.bool (decide (kindsOk p))) ∧ Below w1.heap.size w1 w') := fun w1 hb => kindsRight_any p x w1 (planAt_below hp hb) hw
  have K2 : Hid (∀ w1, Below w.heap.size w w1 → Calls Try.prog 35 #[planV p x] w1 fun e w' => e = .returned (.bool (decide (rangesOk p))) ∧ Below w1.heap.size w1 w') := fun w1 hb => rangesRight_any p x w1
  have K3 : Hid (∀ w1, Below w.heap.size w w1 → Calls Try.prog 36 #[planV p x] w1 fun e w' => e = .returned (.bool (decide (manyOk p))) ∧ Below w1.heap.size w1 w') := fun w1 hb => countsRight_any p x w1 hw
  have K4 : Hid (∀ w1, Below w.heap.size w w1 → yes (decide (manyOk p)) (Calls Try.prog 37 #[planV p x] w1 fun e w' => e = .returned (.bool (decide (typesOk p))) ∧ Below w1.heap.size w1 w')) := fun w1 hb hm => by
    have hm' := many_len (of_decide_eq_true hm)
    exact typesRight_any p x w1 (planAt_below hp hb) (by omega) (by omega) (by omega) (by omega)
  have K5 : Hid (∀ w1, Below w.heap.size w w1 → yes (decide (manyOk p)) (Calls Try.prog 38 #[planV p x] w1 fun e w' => e = .returned (.bool (decide (formOk p))) ∧ Below w1.heap.size w1 w')) := fun w1 hb hm => by
    have hm' := many_len (of_decide_eq_true hm)
    exact formRight_any p x w1 hw (planAt_below hp hb) (by omega) (by omega) (by omega) (by omega)
  have HK : Hid (planErr p = err5 (decide (kindsOk p)) (decide (rangesOk p)) (decide (manyOk p)) (decide (typesOk p)) (decide (formOk p))) := planErr_5 p
  obtain ⟨q1, hq1⟩ : ∃ z, decide (kindsOk p) = z := ⟨_, rfl⟩
  obtain ⟨q2, hq2⟩ : ∃ z, decide (rangesOk p) = z := ⟨_, rfl⟩
  obtain ⟨q3, hq3⟩ : ∃ z, decide (manyOk p) = z := ⟨_, rfl⟩
  obtain ⟨q4, hq4⟩ : ∃ z, decide (typesOk p) = z := ⟨_, rfl⟩
  obtain ⟨q5, hq5⟩ : ∃ z, decide (formOk p) = z := ⟨_, rfl⟩
  rw [hq1] at K1 HK
  rw [hq2] at K2 HK
  rw [hq3] at K3 K4 K5 HK
  rw [hq4] at K4 HK
  rw [hq5] at K5 HK
  clear hq1 hq2 hq3 hq4 hq5 hw hp
  obtain ⟨kind, mode, low, high, size, limit, left, right, lkeys, rkeys, grouped, group, aggs⟩ := p
  obtain ⟨l, lc, r, rc, lk, lkc, rk, rkc, g, gc, a, ac⟩ := x
  unfold planV at K1 K2 K3 K4 K5 ⊢
  dsimp only at K1 K2 K3 K4 K5 ⊢
  obtain ⟨n6, h6⟩ : ∃ n, left.length = n := ⟨_, rfl⟩
  obtain ⟨n7, h7⟩ : ∃ n, right.length = n := ⟨_, rfl⟩
  obtain ⟨n8, h8⟩ : ∃ n, lkeys.length = n := ⟨_, rfl⟩
  obtain ⟨n9, h9⟩ : ∃ n, rkeys.length = n := ⟨_, rfl⟩
  obtain ⟨n11, h11⟩ : ∃ n, group.length = n := ⟨_, rfl⟩
  obtain ⟨n12, h12⟩ : ∃ n, aggs.length = n := ⟨_, rfl⟩
  rw [h6, h7, h8, h9, h11, h12] at K1 K2 K3 K4 K5
  rw [h6, h7, h8, h9, h11, h12]
  clear h6 h7 h8 h9 h11 h12
  obtain ⟨pe, hpe⟩ : ∃ z, planErr ⟨kind, mode, low, high, size, limit, left, right, lkeys, rkeys, grouped, group, aggs⟩ = z := ⟨_, rfl⟩
  rw [hpe] at HK ⊢
  clear hpe
  go_enter Try.func10, Try.ntmps10
  go_wp2_with fail
  refine (K1.out _ ((Below.refl _ _).alloc (Nat.le_refl _) _)).mono ?_
  rintro e w1 ⟨rfl, hb1⟩
  have hba := ((Below.refl _ _).alloc (Nat.le_refl _) _).trans (hb1.mono (by simp))
  obtain ⟨hc1, hf1⟩ := bcell hb1
  have hz1 : w.heap.size < w1.heap.size := (by have := hb1.size; simp at this; omega)
  cases q1
  · go_wp2
    go_ret
    exact ⟨ret_int HK.out.symm, hba⟩
  go_wp2_with fail
  refine (K2.out _ hba).mono ?_
  rintro e w2 ⟨rfl, hb2⟩
  have hbb := hba.trans (hb2.mono hba.size)
  obtain ⟨hc2, hf2⟩ := bcell hb2
  have hz2 : w.heap.size < w2.heap.size := (by have := hb2.size; omega)
  cases q2
  · go_wp2
    go_ret
    exact ⟨ret_int HK.out.symm, hbb⟩
  go_wp2_with fail
  refine (K3.out _ hbb).mono ?_
  rintro e w3 ⟨rfl, hb3⟩
  have hbc := hbb.trans (hb3.mono hbb.size)
  obtain ⟨hc3, hf3⟩ := bcell hb3
  have hz3 : w.heap.size < w3.heap.size := (by have := hb3.size; omega)
  cases q3
  · go_wp2
    go_ret
    exact ⟨ret_int HK.out.symm, hbc⟩
  go_wp2_with fail
  refine (K4.out _ hbc rfl).mono ?_
  rintro e w4 ⟨rfl, hb4⟩
  have hbd := hbc.trans (hb4.mono hbc.size)
  obtain ⟨hc4, hf4⟩ := bcell hb4
  have hz4 : w.heap.size < w4.heap.size := (by have := hb4.size; omega)
  cases q4
  · go_wp2
    go_ret
    exact ⟨ret_int HK.out.symm, hbd⟩
  go_wp2_with fail
  refine (K5.out _ hbd rfl).mono ?_
  rintro e w5 ⟨rfl, hb5⟩
  have hbe := hbd.trans (hb5.mono hbd.size)
  cases q5
  all_goals
    go_wp2
    go_ret
    exact ⟨ret_int HK.out.symm, hbe⟩
end Go.Proofs.Ytibjihdeknndoaa.pl
