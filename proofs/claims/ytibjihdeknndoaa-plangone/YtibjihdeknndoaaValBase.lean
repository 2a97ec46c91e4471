/- What the smallest functions of package value and of the reference do, one contract each: cmp.Compare, strings.Compare, first, Compare, Check, and their mirrors. -/
import Derived.Test.YtibjihdeknndoaaRows
import Derived.WalkKit
import Derived.ProofKit
import Derived.OpenShut
import Derived.WalkSpells
import Derived.WalkLawsBesides
import Derived.Shelf.Small.Strs
import Derived.Deep.RegionHeld3
import Derived.Deep.DrawnRows
namespace Go.Proofs
open Go.Shelf
end Go.Proofs
namespace Go.Proofs.Ytibjihdeknndoaa.vl
open Go.ChangeShapes Go.WideShapes Go.ChangeAt Go.RowKit
set_option linter.unusedVariables false
set_option linter.unusedSimpArgs false

theorem ret_int {k : IntKind} {a b : Int} (h : a = b) : Ending.returned (.int k a) = .returned (.int k b) := by rw [h]

/-- the order of two numbers -/
def ordI (a b : Int) : Int := if a < b then -1 else if b < a then 1 else 0

/-- the first of the orders that is not 0 -/
def firstNZ : List Int → Int
  | [] => 0
  | x :: r => if x = 0 then firstNZ r else x
theorem firstNZ_zero (zs : List Int) (k : Nat) (h : ∀ i, i < k → zs[i]?.getD 0 = 0) : firstNZ zs = firstNZ (zs.drop k) := by
  induction zs generalizing k with
  | nil => simp
  | cons x r ih =>
    cases k with
    | zero => rfl
    | succ k =>
      have h0 : x = 0 := by simpa using h 0 (by omega)
      subst h0
      simp only [firstNZ, if_true, List.drop_succ_cons]
      exact ih k (fun i hi => by simpa using h (i + 1) (by omega))
theorem firstNZ_at (zs : List Int) (k : Nat) (h : ∀ i, i < k → zs[i]?.getD 0 = 0) (hk : k < zs.length) (hz : zs[k]?.getD 0 ≠ 0) : firstNZ zs = zs[k]?.getD 0 := by
  rw [firstNZ_zero zs k h, List.drop_eq_getElem_cons hk, firstNZ]
  simp only [List.getElem?_eq_getElem hk, Option.getD_some] at hz ⊢
  rw [if_neg hz]

/-- the order of two values -/
def cmpV (k1 n1 : Int) (s1 : ByteArray) (k2 n2 : Int) (s2 : ByteArray) : Int :=
  firstNZ [ordI k1 k2, ordI n1 n2, Lib.compareBytes s1.data.toList s2.data.toList]

attribute [local go_sem ↓] Go.wp_at_zero Go.wp_at_succ
end Go.Proofs.Ytibjihdeknndoaa.vl
