/- CompareRows, CompareFunc and Rows answer the order of two rows. -/
import Derived.Test.YtibjihdeknndoaaValRows
namespace Go.Proofs.Ytibjihdeknndoaa.vl
open Go.ChangeShapes Go.WideShapes Go.ChangeAt Go.RowKit
set_option linter.unusedVariables false
set_option linter.unusedSimpArgs false

def cmpC (a b : Cel) : Int := cmpV a.k a.n a.s b.k b.n b.s
def cmpRows : List Cel → List Cel → Int
  | [], [] => 0
  | [], _ :: _ => -1
  | _ :: _, [] => 1
  | a :: x, b :: y => if cmpC a b = 0 then cmpRows x y else cmpC a b

theorem cmpRows_drop (r1 r2 : List Cel) (k : Nat) (h1 : k ≤ r1.length) (h2 : k ≤ r2.length) (h : ∀ i, i < k → cmpC (r1.getD i default) (r2.getD i default) = 0) :
    cmpRows r1 r2 = cmpRows (r1.drop k) (r2.drop k) := by
  induction k generalizing r1 r2 with
  | zero => rfl
  | succ k ih =>
    match r1, r2, h1, h2 with
    | a :: x, b :: y, h1, h2 =>
      have h0 : cmpC a b = 0 := h 0 (by omega)
      rw [cmpRows, if_pos h0, List.drop_succ_cons, List.drop_succ_cons]
      exact ih x y (by simpa using h1) (by simpa using h2) (fun i hi => h (i + 1) (by omega))
theorem drop_getD (r : List Cel) (k : Nat) (h : k < r.length) : r.drop k = r.getD k default :: r.drop (k + 1) := by
  rw [List.drop_eq_getElem_cons h]; simp [List.getD_eq_getElem?_getD, h]
theorem cmpRows_at (r1 r2 : List Cel) (k : Nat) (h1 : k < r1.length) (h2 : k < r2.length) (h : ∀ i, i < k → cmpC (r1.getD i default) (r2.getD i default) = 0)
    (hne : cmpC (r1.getD k default) (r2.getD k default) ≠ 0) : cmpRows r1 r2 = cmpC (r1.getD k default) (r2.getD k default) := by
  rw [cmpRows_drop r1 r2 k (by omega) (by omega) h, drop_getD r1 k h1, drop_getD r2 k h2, cmpRows, if_neg hne]
theorem cmpRows_end (r1 r2 : List Cel) (k : Nat) (h1 : k ≤ r1.length) (h2 : k ≤ r2.length) (h : ∀ i, i < k → cmpC (r1.getD i default) (r2.getD i default) = 0)
    (he : k = r1.length ∨ k = r2.length) : cmpRows r1 r2 = ordI r1.length r2.length := by
  rw [cmpRows_drop r1 r2 k h1 h2 h]
  unfold ordI
  by_cases e1 : k = r1.length
  · rw [List.drop_of_length_le (show r1.length ≤ k by omega)]
    by_cases e2 : k = r2.length
    · rw [List.drop_of_length_le (show r2.length ≤ k by omega), cmpRows, if_neg (by omega), if_neg (by omega)]
    · rw [drop_getD r2 k (by omega), cmpRows, if_pos (by omega)]
  · have e2 : k = r2.length := by omega
    rw [List.drop_of_length_le (show r2.length ≤ k by omega), drop_getD r1 k (by omega), cmpRows, if_neg (by omega), if_pos (by omega)]

attribute [local go_sem ↓] Go.wp_at_zero Go.wp_at_succ
end Go.Proofs.Ytibjihdeknndoaa.vl
