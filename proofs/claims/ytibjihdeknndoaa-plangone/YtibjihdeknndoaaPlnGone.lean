/- Gone, and the document's GoneAt. -/
import Derived.Test.YtibjihdeknndoaaPlnRCheck2
namespace Go.Proofs.Ytibjihdeknndoaa.pl
open Go.ChangeShapes Go.WideShapes Go.ChangeAt Go.RowKit
open vl
set_option linter.unusedVariables false
set_option linter.unusedSimpArgs false
theorem fit_fitB {t : Int} : fit t ↔ tm.fitB t = true := by rw [tm.fit_iff]; exact Iff.rfl
theorem fit_of {t : Int} (h : fit t) : tm.fitB t = true := fit_fitB.1 h
def untilV (m s : Int) : Int := if m = 1099511627776 then 1099511627776 else m - s
theorem ret_two {a b c d : Int} (h1 : a = c) (h2 : b = d) : Ending.returned (.tuple #[.int .i64 a, .int .i64 b]) = .returned (.tuple #[.int .i64 c, .int .i64 d]) := by rw [h1, h2]
theorem until_b (m s : Int) (w : World) (hm : fit m) (hs : fit s) :
    Calls Try.prog 49 #[.int .i64 m, .int .i64 s] w fun e w' => e = .returned (.tuple #[.int .i64 (untilV m s), .int .i64 0]) ∧ Below w.heap.size w w' := by
  have h : tm.fit2 m s = true := by unfold tm.fit2; rw [fit_of hm, fit_of hs]; rfl
  obtain ⟨b1, b2⟩ := hm
  obtain ⟨b3, b4⟩ := hs
  by_cases e : m = 1099511627776
  · subst e
    have HU : Hid (untilV 1099511627776 s = 1099511627776) := rfl
    go_enter Try.func49, Try.ntmps49
    go_wp2_with (go_at_call 54; refine (tm.allFit2 _ 1099511627776 s _ (by go_simp) (by go_simp)).mono ?_; rintro e w' ⟨rfl, hw⟩; subst hw)
    go_ret2
    refine ⟨ret_two HU.out.symm rfl, ?_⟩
    repeat (first | exact Below.refl _ _ | apply Below.drew | (refine Below.alloc ?_ (by simp <;> omega) _))
  · have hm' : (m == 1099511627776) = false := by simpa using e
    have HU : Hid (untilV m s = m - s) := if_neg e
    clear e
    go_enter Try.func49, Try.ntmps49
    go_wp2_with (go_at_call 54; refine (tm.allFit2 _ m s _ (by go_simp) (by go_simp)).mono ?_; rintro e w' ⟨rfl, hw⟩; subst hw)
    go_ret2
    refine ⟨ret_two HU.out.symm rfl, ?_⟩
    repeat (first | exact Below.refl _ _ | apply Below.drew | (refine Below.alloc ?_ (by simp <;> omega) _))
theorem meets_b (l r lo hi : Int) (w : World) (h1 : fit l) (h2 : fit r) (h3 : fit lo) (h4 : fit hi) (hle : lo ≤ hi) :
    Calls Try.prog 21 #[.int .i64 l, .int .i64 r, .int .i64 lo, .int .i64 hi] w fun e w' => e = .returned (.tuple #[.bool (tm.meetB l r lo hi), .int .i64 0]) ∧ Below w.heap.size w w' := by
  have h : tm.fit4 l r lo hi = true := by unfold tm.fit4; rw [fit_of h1, fit_of h2, fit_of h3, fit_of h4]; rfl
  obtain ⟨b1, b2⟩ := h1
  obtain ⟨b3, b4⟩ := h2
  obtain ⟨b5, b6⟩ := h3
  obtain ⟨b7, b8⟩ := h4
  have hle' : ¬ hi < lo := by omega
  by_cases g1 : l + lo ≤ r
  · by_cases g2 : r ≤ l + hi
    · have hf : tm.meetB l r lo hi = true := by unfold tm.meetB; exact decide_eq_true ⟨by omega, by omega⟩
      rw [hf]
      go_enter Try.func21, Try.ntmps21
      go_wp2_with (go_at_call 54; refine (tm.allFit4 _ l r lo hi _ (by go_simp) (by go_simp) (by go_simp) (by go_simp)).mono ?_; rintro e w' ⟨rfl, hw⟩; subst hw)
      go_ret2
      refine ⟨rfl, ?_⟩
      repeat (first | exact Below.refl _ _ | apply Below.drew | (refine Below.alloc ?_ (by simp <;> omega) _))
    · have hf : tm.meetB l r lo hi = false := by unfold tm.meetB; exact decide_eq_false (by omega)
      have hd : decide (r ≤ l + hi) = false := decide_eq_false g2
      rw [hf]
      go_enter Try.func21, Try.ntmps21
      go_wp2_with (go_at_call 54; refine (tm.allFit4 _ l r lo hi _ (by go_simp) (by go_simp) (by go_simp) (by go_simp)).mono ?_; rintro e w' ⟨rfl, hw⟩; subst hw)
      go_ret2
      refine ⟨rfl, ?_⟩
      repeat (first | exact Below.refl _ _ | apply Below.drew | (refine Below.alloc ?_ (by simp <;> omega) _))
  · have hf : tm.meetB l r lo hi = false := by unfold tm.meetB; exact decide_eq_false (by omega)
    rw [hf]
    go_enter Try.func21, Try.ntmps21
    go_wp2_with (go_at_call 54; refine (tm.allFit4 _ l r lo hi _ (by go_simp) (by go_simp) (by go_simp) (by go_simp)).mono ?_; rintro e w' ⟨rfl, hw⟩; subst hw)
    go_ret2
    refine ⟨rfl, ?_⟩
    repeat (first | exact Below.refl _ _ | apply Below.drew | (refine Below.alloc ?_ (by simp <;> omega) _))

/-- D4: when this side's rows are gone -/
def winV (mark size : Int) : Int := if mark = 1099511627776 then 1099511627776 else tm.start (mark + 1) size - 1
def goneAt (p : Pln) (side mark : Int) : Int :=
  if p.kind = 1 then untilV mark (if side = 2 then -p.low else p.high) else if p.kind = 2 then winV mark p.size else if side = 2 then -1099511627777 else mark
def sideB (side : Int) : Bool := decide (side = 1 ∨ side = 2)
def goneErr (p : Pln) (side mark : Int) : Int := if planErr p = 0 then (if sideB side = true then (if tm.fitB mark = true then 0 else 3) else 4) else planErr p
def goneV (p : Pln) (side mark : Int) : Int := if goneErr p side mark = 0 then goneAt p side mark else 0

theorem isSide_any (side : Int) (w : World) : Calls Try.prog 44 #[.int .i64 side] w fun e w' => e = .returned (.bool (sideB side)) ∧ w' = w := by
  by_cases h1 : side = 1
  · subst h1
    go_enter Try.func44, Try.ntmps44
    go_wp2
    go_ret
    exact ⟨rfl, rfl⟩
  · have h1' : (side == 1) = false := by simpa using h1
    have HS : Hid (sideB side = (side == 2)) := by show sideB side = _; unfold sideB; exact Bool.eq_iff_iff.2 (by simp [h1])
    clear h1
    go_enter Try.func44, Try.ntmps44
    go_wp2
    go_ret
    exact ⟨ret_bool HS.out.symm, rfl⟩
theorem reach_any (p : Pln) (x : PA) (side : Int) (w : World) (hl : fit p.low) :
    Calls Try.prog 50 #[planV p x, .int .i64 side] w fun e w' => e = .returned (.int .i64 (if side = 2 then -p.low else p.high)) ∧ Below w.heap.size w w' := by
  obtain ⟨kind, mode, low, high, size, limit, left, right, lkeys, rkeys, grouped, group, aggs⟩ := p
  obtain ⟨l, lc, r, rc, lk, lkc, rk, rkc, g, gc, a, ac⟩ := x
  unfold planV
  dsimp only at hl ⊢
  obtain ⟨h1, h2⟩ := hl
  by_cases hs : side = 2
  · subst hs
    rw [if_pos rfl]
    go_enter Try.func50, Try.ntmps50
    go_wp2
    go_ret
    exact ⟨ret_int (by first | rfl | omega), (Below.refl _ _).alloc (Nat.le_refl _) _⟩
  · have hs' : (side == 2) = false := by simpa using hs
    rw [if_neg hs]
    clear hs
    go_enter Try.func50, Try.ntmps50
    go_wp2
    go_ret
    exact ⟨rfl, (Below.refl _ _).alloc (Nat.le_refl _) _⟩
theorem goneWin_any (mark size : Int) (w : World) (hm : fit mark) (h1 : 1 ≤ size) (h2 : size ≤ 1099511627776) :
    Calls Try.prog 51 #[.int .i64 mark, .int .i64 size] w fun e w' => e = .returned (.tuple #[.int .i64 (winV mark size), .int .i64 0]) ∧ Below w.heap.size w w' := by
  obtain ⟨b1, b2⟩ := hm
  by_cases e : mark = 1099511627776
  · subst e
    have HU : Hid (winV 1099511627776 size = 1099511627776) := rfl
    go_enter Try.func51, Try.ntmps51
    go_wp2
    go_ret2
    exact ⟨ret_two HU.out.symm rfl, Below.refl _ _⟩
  · have hm' : (mark == 1099511627776) = false := by simpa using e
    have hf : tm.fitB (mark + 1) = true := fit_of ⟨by omega, by omega⟩
    have HU : Hid (winV mark size = tm.start (mark + 1) size - 1) := if_neg e
    have sb := tm.start_bd (mark + 1) size (by omega)
    obtain ⟨sb1, sb2⟩ := sb
    clear e
    have K : Hid (∀ w1, Calls Try.prog 22 #[.int .i64 (mark + 1), .int .i64 size] w1 fun e w' => e = .returned (.tuple #[.int .i64 (tm.start (mark + 1) size), .int .i64 (tm.start (mark + 1) size + size), .int .i64 0]) ∧ w' = w1) := fun w1 => tm.window_yes (mark + 1) size w1 hf h1 h2
    obtain ⟨sv, hsv⟩ : ∃ z, tm.start (mark + 1) size = z := ⟨_, rfl⟩
    rw [hsv] at K HU sb1 sb2
    clear hsv
    go_enter Try.func51, Try.ntmps51
    go_wp2_with (go_at_call 22; refine (K.out _).mono ?_; rintro e w' ⟨rfl, hw⟩; subst hw)
    go_ret2
    exact ⟨ret_two HU.out.symm rfl, Below.refl _ _⟩
end Go.Proofs.Ytibjihdeknndoaa.pl
