/- Several texts in one: TimesBase, TimesCalls, TimesRefs. -/
import Derived.Test.YtbfbgdinhiglaaaGreatRows
import Derived.WalkKit
import Derived.ProofKit
import Derived.OpenShut
/- What the functions of package times (and their mirrors in the reference) do, one contract each: Fits, allFit, Until, Meets, Window, Add and the fixed examples of timesBegun. -/
namespace Go.Proofs.YtbfbgdinhiglaaaGreat.tm
open Go.ChangeShapes Go.WideShapes Go.ChangeAt Go.RowKit
set_option linter.unusedVariables false

/-- a time: from -2^40 to 2^40 -/
def fitB (t : Int) : Bool := decide (-1099511627776 ≤ t ∧ t ≤ 1099511627776)
theorem fit_iff (t : Int) : fitB t = true ↔ (-1099511627776 ≤ t ∧ t ≤ 1099511627776) := by simp [fitB]
theorem fit_no (t : Int) : fitB t = false ↔ ¬ (-1099511627776 ≤ t ∧ t ≤ 1099511627776) := by
  unfold fitB; exact decide_eq_false_iff_not

theorem fits_any (t : Int) (w : World) :
    Calls Tryz.prog 147 #[.int .i64 t] w fun e w' => e = .returned (.bool (fitB t)) ∧ w' = w := by
  by_cases h1 : -1099511627776 ≤ t
  · by_cases h2 : t ≤ 1099511627776
    · have hf : fitB t = true := (fit_iff t).2 ⟨h1, h2⟩
      rw [hf]
      go_enter Tryz.func147, Tryz.ntmps147
      go_wp2
      go_ret
      exact ⟨rfl, rfl⟩
    · have hf : fitB t = false := (fit_no t).2 (by omega)
      rw [hf]
      go_enter Tryz.func147, Tryz.ntmps147
      go_wp2
      go_ret
      exact ⟨rfl, rfl⟩
  · have hf : fitB t = false := (fit_no t).2 (by omega)
    rw [hf]
    go_enter Tryz.func147, Tryz.ntmps147
    go_wp2
    go_ret
    exact ⟨rfl, rfl⟩

theorem rfits_any (t : Int) (w : World) :
    Calls Tryz.prog 107 #[.int .i64 t] w fun e w' => e = .returned (.bool (fitB t)) ∧ w' = w := by
  by_cases h1 : -1099511627776 ≤ t
  · by_cases h2 : t ≤ 1099511627776
    · have hf : fitB t = true := (fit_iff t).2 ⟨h1, h2⟩
      rw [hf]
      go_enter Tryz.func107, Tryz.ntmps107
      go_wp2
      go_ret
      exact ⟨rfl, rfl⟩
    · have hf : fitB t = false := (fit_no t).2 (by omega)
      rw [hf]
      go_enter Tryz.func107, Tryz.ntmps107
      go_wp2
      go_ret
      exact ⟨rfl, rfl⟩
  · have hf : fitB t = false := (fit_no t).2 (by omega)
    rw [hf]
    go_enter Tryz.func107, Tryz.ntmps107
    go_wp2
    go_ret
    exact ⟨rfl, rfl⟩

theorem all_snoc (zs : List Int) (k : Nat) (h : k < zs.length) : (zs.take (k + 1)).all fitB = ((zs.take k).all fitB && fitB (zs[k]?.getD 0)) := by
  rw [List.take_succ_eq_append_getElem h, List.all_append, List.getElem?_eq_getElem h]
  simp only [List.all_cons, List.all_nil, Bool.and_true, Option.getD_some]
theorem all_no (zs : List Int) (k : Nat) (h : k < zs.length) (hf : fitB (zs[k]?.getD 0) = false) : zs.all fitB = false := by
  rw [List.all_eq_false]
  exact ⟨zs[k], List.getElem_mem h, by simpa [List.getElem?_eq_getElem h] using hf⟩

end Go.Proofs.YtbfbgdinhiglaaaGreat.tm

/- The contracts of times.Until, Meets, Window, Add, of the reference's Until and Start, and of timesBegun: each answers the plain function that is laid here beside it, and memory only grows. -/
namespace Go.Proofs.YtbfbgdinhiglaaaGreat.tm
open Go.ChangeShapes Go.WideShapes Go.ChangeAt Go.RowKit
set_option linter.unusedVariables false

def fit2 (a b : Int) : Bool := fitB a && fitB b
def fit4 (a b c d : Int) : Bool := fitB a && (fitB b && (fitB c && fitB d))

theorem grown_trans {a b c : World} (h : Grown a b) (k : Grown b c) : Grown a c :=
  ⟨World.keptBut_trans h.1 k.1, fun x => (k.2.1 x).trans (h.2.1 x), Nat.le_trans h.2.2 k.2.2⟩

/-! ### Meets -/
def meetB (l r lo hi : Int) : Bool := decide (lo ≤ r - l ∧ r - l ≤ hi)

theorem fit4_bd {l r lo hi : Int} (h : fit4 l r lo hi = true) :
    (-1099511627776 ≤ l ∧ l ≤ 1099511627776) ∧ (-1099511627776 ≤ r ∧ r ≤ 1099511627776) ∧ (-1099511627776 ≤ lo ∧ lo ≤ 1099511627776) ∧ (-1099511627776 ≤ hi ∧ hi ≤ 1099511627776) := by
  simp only [fit4, Bool.and_eq_true, fit_iff] at h
  exact h

/-- where the window of a time begins: the floor -/
def start (t s : Int) : Int := t - t % s

theorem tmod_neg (t s : Int) (ht : t < 0) (hs : 0 < s) : t.tmod s = -((-t) % s) := by
  have := Int.neg_tmod (-t) s
  rw [Int.neg_neg] at this
  rw [this, Int.tmod_eq_emod_of_nonneg (by omega)]

theorem neg_mod (t s : Int) (hs : 0 < s) : (-t % s = 0 ∧ t % s = 0) ∨ (0 < -t % s ∧ t % s = s - -t % s) := by
  have n1 := Int.emod_nonneg t (show s ≠ 0 by omega)
  have n2 := Int.emod_lt_of_pos t hs
  have n3 := Int.emod_nonneg (-t) (show s ≠ 0 by omega)
  have n4 := Int.emod_lt_of_pos (-t) hs
  have d1 := Int.mul_ediv_add_emod t s
  have d2 := Int.mul_ediv_add_emod (-t) s
  have d3 : s * (t / s + -t / s) = -(t % s + -t % s) := by rw [Int.mul_add]; omega
  obtain ⟨k, hk⟩ : ∃ k, t / s + -t / s = k := ⟨_, rfl⟩
  rw [hk] at d3
  have k1 : k ≤ 0 := by
    rcases Int.lt_or_le 0 k with h | h
    · have := Int.mul_pos hs h; omega
    · exact h
  have k2 : -2 < k := by
    rcases Int.lt_or_le (-2) k with h | h
    · exact h
    · have := Int.mul_le_mul_of_nonneg_left h (Int.le_of_lt hs); omega
  have k3 : k = 0 ∨ k = -1 := by omega
  rcases k3 with rfl | rfl <;> omega

theorem tup3 {a b c a' b' c' : Int} (h1 : a = a') (h2 : b = b') (h3 : c = c') :
    Ending.returned (.tuple #[.int .i64 a, .int .i64 b, .int .i64 c]) = .returned (.tuple #[.int .i64 a', .int .i64 b', .int .i64 c']) := by rw [h1, h2, h3]

theorem start_bd (t s : Int) (hs : 0 < s) : start t s ≤ t ∧ t < start t s + s := by
  unfold start
  have := Int.emod_nonneg t (show s ≠ 0 by omega)
  have := Int.emod_lt_of_pos t hs
  omega

/-- the sum, held to the bounds of times -/
def clamp (x : Int) : Int := if x < -1099511627776 then -1099511627776 else if 1099511627776 < x then 1099511627776 else x

theorem ret_int {k : IntKind} {a b : Int} (h : a = b) : Ending.returned (.int k a) = .returned (.int k b) := by rw [h]

end Go.Proofs.YtbfbgdinhiglaaaGreat.tm

/- The contracts of the reference's Until and Start. -/
namespace Go.Proofs.YtbfbgdinhiglaaaGreat.tm
open Go.ChangeShapes Go.WideShapes Go.ChangeAt Go.RowKit
set_option linter.unusedVariables false

/-! ### the reference -/
end Go.Proofs.YtbfbgdinhiglaaaGreat.tm
