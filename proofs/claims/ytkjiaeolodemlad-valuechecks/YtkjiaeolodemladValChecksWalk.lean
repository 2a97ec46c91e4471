/- The walk of the law ValueChecks. -/
import Derived.Test.YtkjiaeolodemladValBegun
namespace Go.Proofs.Ytkjiaeolodemlad.vl
open Go.ChangeShapes Go.WideShapes Go.ChangeAt Go.RowKit
set_option linter.unusedVariables false
set_option linter.unusedSimpArgs false

attribute [local go_sem ↓] Go.wp_at_zero Go.wp_at_succ
set_option maxRecDepth 100000 in
set_option maxHeartbeats 8000000 in
theorem checks_walk (k1 n1 : Int) (s1 : ByteArray) (k2 n2 : Int) (s2 : ByteArray) (w : World) (h1 : s1.size ≤ maxLen) (h2 : s2.size ≤ maxLen) :
    Calls Try.prog 3 #[.agg #[.int .i64 k1, .int .i64 n1, .string s1], .agg #[.int .i64 k2, .int .i64 n2, .string s2]] w
      fun e w' => e = .returned (.bool true) ∧ Below w.heap.size w w' := by
  go_enter Try.func3, Try.ntmps3
  go_wp2
  have hbl : Below w.heap.size w ((w.alloc (.cells #[.int .i64 k1, .int .i64 n1, .string s1] 23)).alloc (.cells #[.int .i64 k2, .int .i64 n2, .string s2] 23)) := ((Below.refl _ _).alloc (Nat.le_refl _) _).alloc (by simp) _
  go_region_held3 (fun w' => w'.cell? ⟨w.heap.size, 0, none⟩ = some (.int .i64 k1) ∧ w'.cell? ⟨w.heap.size, 1, none⟩ = some (.int .i64 n1) ∧ w'.cell? ⟨w.heap.size, 2, none⟩ = some (.string s1) ∧ w'.cell? ⟨w.heap.size + 1, 0, none⟩ = some (.int .i64 k2) ∧ w'.cell? ⟨w.heap.size + 1, 1, none⟩ = some (.int .i64 n2) ∧ w'.cell? ⟨w.heap.size + 1, 2, none⟩ = some (.string s2))
    (first | go_keep | (go_split_ands; exact ⟨cell_later hb1 (by assumption), cell_later hb1 (by assumption), cell_later hb1 (by assumption), cell_later hb1 (by assumption), cell_later hb1 (by assumption), cell_later hb1 (by assumption)⟩))
    (first
      | (go_at_call 8; refine (begun_any _).mono ?_; rintro e w1 ⟨rfl, hb1⟩; have hl1 : Below w.heap.size w w1 := by first | exact hbl.trans (hb1.mono hbl.size) | exact hbl.drew.trans (hb1.mono hbl.size))
      | (go_at_call 9; refine (check_any _ _ _ _ h1).mono ?_; rintro e w2 ⟨rfl, hb1⟩; have hl2 : Below w.heap.size w w2 := by first | exact hl1.trans (hb1.mono hl1.size) | exact hl1.drew.trans (hb1.mono hl1.size))
      | (go_at_call 10; refine (rcheck_any _ _ _ _ h1).mono ?_; rintro e w3 ⟨rfl, hb1⟩; have hl3 : Below w.heap.size w w3 := by first | exact hl2.trans (hb1.mono hl2.size) | exact hl2.drew.trans (hb1.mono hl2.size))
      | (go_at_call 11; refine (compare_any _ _ _ _ _ _ _).mono ?_; rintro e w4 ⟨rfl, hb1⟩; have hl4 : Below w.heap.size w w4 := by first | exact hl3.trans (hb1.mono hl3.size) | exact hl3.drew.trans (hb1.mono hl3.size))
      | (go_at_call 12; refine (rcompare_any _ _ _ _ _ _ _).mono ?_; rintro e w5 ⟨rfl, hb1⟩; have hl5 : Below w.heap.size w w5 := by first | exact hl4.trans (hb1.mono hl4.size) | exact hl4.drew.trans (hb1.mono hl4.size)))
  all_goals go_wp2
  all_goals
    go_ret
    exact ⟨rfl, hl5⟩
end Go.Proofs.Ytkjiaeolodemlad.vl
