/- timesBegun answers true, and memory only grows. -/
import Derived.Test.YtkjiaeolodemladTimesCalls
namespace Go.Proofs.Ytkjiaeolodemlad.tm
open Go.ChangeShapes Go.WideShapes Go.ChangeAt Go.RowKit
set_option linter.unusedVariables false

theorem begun_window (w : World) : Calls Try.prog 37 #[.int .i64 (-1), .int .i64 10] w fun e w' => e = .returned (.tuple #[.int .i64 (-10), .int .i64 0, .int .i64 0]) ∧ w' = w := by
  refine (window_yes (-1) 10 w (by decide) (by decide) (by decide)).mono fun e w' ⟨he, hw⟩ => ⟨he.trans (tup3 (by decide) (by decide) rfl), hw⟩
theorem begun_meets (w : World) : Calls Try.prog 38 #[.int .i64 5, .int .i64 7, .int .i64 (-1), .int .i64 2] w fun e w' => e = .returned (.tuple #[.bool true, .int .i64 0]) ∧ Grown w w' := by
  have hm : meetB 5 7 (-1) 2 = true := by decide
  refine (meets_yes 5 7 (-1) 2 w (by decide) (by decide)).mono fun e w' ⟨he, hw⟩ => ⟨he.trans (by rw [hm]), hw⟩
theorem begun_until (w : World) : Calls Try.prog 39 #[.int .i64 10, .int .i64 3] w fun e w' => e = .returned (.tuple #[.int .i64 7, .int .i64 0]) ∧ Grown w w' :=
  (until_yes 10 3 w (by decide) (by decide) (by decide) (by decide) (by decide) (by decide)).mono fun e w' ⟨he, hw⟩ => ⟨he, hw⟩
theorem begun_fits (w : World) : Calls Try.prog 22 #[.int .i64 (-1099511627776)] w fun e w' => e = .returned (.bool true) ∧ w' = w :=
  (fits_any (-1099511627776) w).mono fun e w' ⟨he, hw⟩ => ⟨he.trans (by rw [show fitB (-1099511627776) = true by decide]), hw⟩
theorem begun_add (w : World) : Calls Try.prog 24 #[.int .i64 1099511627776, .int .i64 1] w fun e w' => e = .returned (.int .i64 1099511627776) ∧ w' = w :=
  (add_any 1099511627776 1 w (by decide) (by decide)).mono fun e w' ⟨he, hw⟩ => ⟨he.trans (ret_int (by decide)), hw⟩

set_option maxHeartbeats 1000000 in
theorem begun_any (w : World) : Calls Try.prog 21 #[] w fun e w' => e = .returned (.bool true) ∧ Grown w w' := by
  go_enter Try.func21, Try.ntmps21
  go_wp2_with (first
    | (go_at_call 37; refine (begun_window _).mono ?_; rintro e w' ⟨rfl, hw⟩; subst hw)
    | (go_at_call 38; refine (begun_meets _).mono ?_; rintro e wm ⟨rfl, hgm⟩)
    | (go_at_call 39; refine (begun_until _).mono ?_; rintro e wu ⟨rfl, hgu⟩)
    | (go_at_call 22; refine (begun_fits _).mono ?_; rintro e w' ⟨rfl, hw⟩; subst hw)
    | (go_at_call 24; refine (begun_add _).mono ?_; rintro e w' ⟨rfl, hw⟩; subst hw))
  go_ret
  exact ⟨rfl, grown_trans hgm hgu⟩

end Go.Proofs.Ytkjiaeolodemlad.tm
