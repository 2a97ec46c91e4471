/- rangesRight, countsRight: the second and third row of D1. -/
import Derived.Test.YtibjihdeknndoaaPlnKinds
namespace Go.Proofs.Ytibjihdeknndoaa.pl
open Go.ChangeShapes Go.WideShapes Go.ChangeAt Go.RowKit
open vl
set_option linter.unusedVariables false
set_option linter.unusedSimpArgs false
def spanB (p : Pln) : Bool := if p.kind = 1 then tm.fitB p.low && tm.fitB p.high else decide (p.low = 0) && decide (p.high = 0)
def sizeB (p : Pln) : Bool := if p.kind = 2 then betw p.size 1 1099511627776 else decide (p.size = 0)
theorem ranges_iff (p : Pln) : decide (rangesOk p) = (spanB p && sizeB p && betw p.limit 1 64) := by
  refine (dec_bool ?_).symm
  unfold rangesOk spanB sizeB
  simp only [Bool.and_eq_true, betw_iff, and_assoc]
  refine and_congr ?_ (and_congr ?_ Iff.rfl)
  · split
    · simp only [Bool.and_eq_true, tm.fit_iff, fit]
    · simp
  · split
    · simp only [betw_iff]
    · simp
set_option maxHeartbeats 1000000 in
theorem spanRight_any (p : Pln) (x : PA) (w : World) :
    Calls Try.prog 60 #[planV p x] w fun e w' => e = .returned (.bool (spanB p)) ∧ Below w.heap.size w w' := by
  have HS : Hid (spanB p = if p.kind = 1 then tm.fitB p.low && tm.fitB p.high else decide (p.low = 0) && decide (p.high = 0)) := rfl
  obtain ⟨kind, mode, low, high, size, limit, left, right, lkeys, rkeys, grouped, group, aggs⟩ := p
  obtain ⟨l, lc, r, rc, lk, lkc, rk, rkc, g, gc, a, ac⟩ := x
  unfold planV
  dsimp only at HS ⊢
  by_cases hk : kind = 1
  · subst hk
    rw [if_pos rfl] at HS
    cases h0 : tm.fitB low <;> rw [h0] at HS
    all_goals
      go_enter Try.func60, Try.ntmps60
      go_wp2_with (go_at_call 20; refine (tm.fits_any _ _).mono ?_; rintro e w' ⟨rfl, hw⟩; subst hw)
      go_ret
      exact ⟨ret_bool (by rw [HS.out]; rfl), (Below.refl _ _).alloc (Nat.le_refl _) _⟩
  · have hk3 : (kind == 1) = false := by simpa using hk
    rw [if_neg hk] at HS
    clear hk
    by_cases h0 : low = 0
    · subst h0
      go_enter Try.func60, Try.ntmps60
      go_wp2
      go_ret
      exact ⟨ret_bool (by rw [HS.out]; exact Bool.eq_iff_iff.2 (by simp)), (Below.refl _ _).alloc (Nat.le_refl _) _⟩
    · have hb : (low == 0) = false := by simpa using h0
      rw [decide_eq_false h0] at HS
      clear h0
      go_enter Try.func60, Try.ntmps60
      go_wp2
      go_ret
      exact ⟨ret_bool (by rw [HS.out]; rfl), (Below.refl _ _).alloc (Nat.le_refl _) _⟩
theorem sizeRight_any (p : Pln) (x : PA) (w : World) :
    Calls Try.prog 61 #[planV p x] w fun e w' => e = .returned (.bool (sizeB p)) ∧ Below w.heap.size w w' := by
  have HS : Hid (sizeB p = if p.kind = 2 then betw p.size 1 1099511627776 else decide (p.size = 0)) := rfl
  obtain ⟨kind, mode, low, high, size, limit, left, right, lkeys, rkeys, grouped, group, aggs⟩ := p
  obtain ⟨l, lc, r, rc, lk, lkc, rk, rkc, g, gc, a, ac⟩ := x
  unfold planV
  dsimp only at HS ⊢
  by_cases hk : kind = 2
  · subst hk
    rw [if_pos rfl] at HS
    go_enter Try.func61, Try.ntmps61
    go_wp2_with (go_at_call 58; refine (between_any _ _ _ _).mono ?_; rintro e w' ⟨rfl, hw⟩; subst hw)
    go_ret
    exact ⟨ret_bool HS.out.symm, (Below.refl _ _).alloc (Nat.le_refl _) _⟩
  · have hk3 : (kind == 2) = false := by simpa using hk
    rw [if_neg hk] at HS
    clear hk
    go_enter Try.func61, Try.ntmps61
    go_wp2
    go_ret
    exact ⟨ret_bool (by rw [HS.out]; exact Bool.eq_iff_iff.2 (by simp)), (Below.refl _ _).alloc (Nat.le_refl _) _⟩
theorem rangesRight_any (p : Pln) (x : PA) (w : World) :
    Calls Try.prog 35 #[planV p x] w fun e w' => e = .returned (.bool (decide (rangesOk p))) ∧ Below w.heap.size w w' := by
  have K1 : Hid (∀ w1, Calls Try.prog 60 #[planV p x] w1 fun e w' => e = .returned (.bool (spanB p)) ∧ Below w1.heap.size w1 w') := fun w1 => spanRight_any p x w1
  have K2 : Hid (∀ w1, Calls Try.prog 61 #[planV p x] w1 fun e w' => e = .returned (.bool (sizeB p)) ∧ Below w1.heap.size w1 w') := fun w1 => sizeRight_any p x w1
  have HK : Hid (decide (rangesOk p) = (spanB p && sizeB p && betw p.limit 1 64)) := ranges_iff p
  obtain ⟨b1, h1⟩ : ∃ z, spanB p = z := ⟨_, rfl⟩
  obtain ⟨b2, h2⟩ : ∃ z, sizeB p = z := ⟨_, rfl⟩
  rw [h1] at K1 HK
  rw [h2] at K2 HK
  clear h1 h2
  obtain ⟨kind, mode, low, high, size, limit, left, right, lkeys, rkeys, grouped, group, aggs⟩ := p
  obtain ⟨l, lc, r, rc, lk, lkc, rk, rkc, g, gc, a, ac⟩ := x
  unfold planV at K1 K2 ⊢
  dsimp only at K1 K2 HK ⊢
  cases b1 <;> cases b2
  all_goals
    go_enter Try.func35, Try.ntmps35
    go_wp2_with (first
      | (go_at_call 60; refine (K1.out _).mono ?_; rintro e w1 ⟨rfl, hb1⟩; have hba := ((Below.refl _ _).alloc (Nat.le_refl _) _).trans (hb1.mono (by simp)); obtain ⟨hc1, hf1⟩ := bcell hb1)
      | (go_at_call 61; refine (K2.out _).mono ?_; rintro e w2 ⟨rfl, hb2⟩; have hbb := hba.trans (hb2.mono hba.size); obtain ⟨hc2, hf2⟩ := bcell hb2; have hz : w.heap.size < w1.heap.size := by have := hb1.size; simp at this; omega)
      | (go_at_call 58; refine (between_any _ _ _ _).mono ?_; rintro e w' ⟨rfl, hw⟩; subst hw))
    go_ret
    refine ⟨ret_bool (by rw [HK.out]; simp), ?_⟩
    first
      | exact hbb
      | exact hba
end Go.Proofs.Ytibjihdeknndoaa.pl
