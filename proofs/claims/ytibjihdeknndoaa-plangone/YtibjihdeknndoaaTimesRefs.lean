/- The contracts of the reference's Until and Start. -/
import Derived.Test.YtibjihdeknndoaaTimesCalls
namespace Go.Proofs.Ytibjihdeknndoaa.tm
open Go.ChangeShapes Go.WideShapes Go.ChangeAt Go.RowKit
set_option linter.unusedVariables false

/-! ### the reference -/
theorem runtil_any (m s : Int) (w : World) (h : fit2 m s = true) :
    Calls Try.prog 52 #[.int .i64 m, .int .i64 s] w fun e w' => e = .returned (.int .i64 (if m = 1099511627776 then 1099511627776 else m - s)) ∧ w' = w := by
  simp only [fit2, Bool.and_eq_true, fit_iff] at h
  obtain ⟨⟨b1, b2⟩, b3, b4⟩ := h
  by_cases hm : m = 1099511627776
  · subst hm
    go_enter Try.func52, Try.ntmps52
    go_wp2
    go_ret
    exact ⟨ret_int (by omega), rfl⟩
  · have hm' : (m == 1099511627776) = false := by simpa using hm
    go_enter Try.func52, Try.ntmps52
    go_wp2
    go_ret
    exact ⟨ret_int (by omega), rfl⟩
theorem start_any (t s : Int) (w : World) (b1 : -1099511627776 ≤ t) (b2 : t ≤ 1099511627776) (h1 : 1 ≤ s) (h2 : s ≤ 1099511627776) :
    Calls Try.prog 53 #[.int .i64 t, .int .i64 s] w fun e w' => e = .returned (.int .i64 (start t s)) ∧ w' = w := by
  have s0 : (s == 0) = false := by simp; omega
  by_cases ht : 0 ≤ t
  · have e1 := Int.emod_nonneg t (show s ≠ 0 by omega)
    have e2 := Int.emod_lt_of_pos t (show 0 < s by omega)
    have HD : Hid (s * (t / s) + t % s = t) := Int.mul_ediv_add_emod t s
    have m1 : 0 ≤ t / s := Int.ediv_nonneg ht (by omega)
    have m2 : t / s ≤ t := Int.ediv_le_self s ht
    have c1 : t / s * s = t - t % s := by have := HD.out; rw [Int.mul_comm]; omega
    go_enter Try.func53, Try.ntmps53
    go_wp2
    go_ret
    exact ⟨ret_int (by unfold start; omega), rfl⟩
  · have e0 : t.tdiv s = -(-t / s) := by
      have := Int.neg_tdiv (-t) s
      rw [Int.neg_neg] at this
      rw [this, Int.tdiv_eq_ediv_of_nonneg (by omega)]
    have e1 := Int.emod_nonneg (-t) (show s ≠ 0 by omega)
    have e2 := Int.emod_lt_of_pos (-t) (show 0 < s by omega)
    have HD : Hid (s * (-t / s) + -t % s = -t) := Int.mul_ediv_add_emod (-t) s
    have m1 : 0 ≤ -t / s := Int.ediv_nonneg (by omega) (by omega)
    have m2 : -t / s ≤ -t := Int.ediv_le_self s (by omega)
    have c1 : -(-t / s) * s = t + -t % s := by have := HD.out; rw [Int.mul_comm, Int.mul_neg]; omega
    have HM : Hid ((-t % s = 0 ∧ t % s = 0) ∨ (0 < -t % s ∧ t % s = s - -t % s)) := neg_mod t s (by omega)
    go_enter Try.func53, Try.ntmps53
    go_wp2
    all_goals
      have hm := HM.out
      go_ret
      exact ⟨ret_int (by unfold start; omega), rfl⟩
end Go.Proofs.Ytibjihdeknndoaa.tm
