/- What New answers, in one; a buffer's variable, written over. -/
import Derived.Test.YtnfknkihiapgiaaBufBegun
namespace Go.Proofs.Ytnfknkihiapgiaa.bf
open Go.ChangeShapes Go.WideShapes Go.ChangeAt Go.RowKit
open vl
set_option linter.unusedVariables false
set_option linter.unusedSimpArgs false
def limN (k : Int) : Int := if betw k 1 64 = true then k else 0
def newE (k : Int) : Int := if betw k 1 64 = true then 0 else 3
theorem new_uni (k : Int) (w : World) : Calls Try.prog 7 #[.int .i64 k] w fun e w' => e = .returned (.tuple #[.agg #[.int .i64 (limN k), .slice none 0 0, .slice none 0 0], .int .i64 (newE k)]) ∧ Below w.heap.size w w' := by
  unfold limN newE
  cases h : betw k 1 64 with
  | false => exact new_bad k w h
  | true => exact new_ok k w h
theorem below_three {N : Nat} {w W : World} {B : Nat} (h : Below N w W) (hB : N ≤ B) (u0 u1 u2 : Value) : Below N w (((W.setCell ⟨B, 0, none⟩ u0).setCell ⟨B, 1, none⟩ u1).setCell ⟨B, 2, none⟩ u2) := ((h.setCell hB _).setCell hB _).setCell hB _
theorem cell_three {W : World} {C b o : Nat} {v : Value} (h : W.cell? ⟨b, o, none⟩ = some v) (hne : b ≠ C) (u0 u1 u2 : Value) : (((W.setCell ⟨C, 0, none⟩ u0).setCell ⟨C, 1, none⟩ u1).setCell ⟨C, 2, none⟩ u2).cell? ⟨b, o, none⟩ = some v :=
  (World.cell?_of_block (a := ⟨b, o, none⟩) (set3_other W C b u0 u1 u2 hne)).trans h
theorem trio_0 {W : World} {C : Nat} {a b c : Value} (h0 : W.cell? ⟨C, 0, none⟩ = some a) (h1 : W.cell? ⟨C, 1, none⟩ = some b) (h2 : W.cell? ⟨C, 2, none⟩ = some c) (u0 u1 u2 : Value) : (((W.setCell ⟨C, 0, none⟩ u0).setCell ⟨C, 1, none⟩ u1).setCell ⟨C, 2, none⟩ u2).cell? ⟨C, 0, none⟩ = some u0 := by go_simp
theorem trio_1 {W : World} {C : Nat} {a b c : Value} (h0 : W.cell? ⟨C, 0, none⟩ = some a) (h1 : W.cell? ⟨C, 1, none⟩ = some b) (h2 : W.cell? ⟨C, 2, none⟩ = some c) (u0 u1 u2 : Value) : (((W.setCell ⟨C, 0, none⟩ u0).setCell ⟨C, 1, none⟩ u1).setCell ⟨C, 2, none⟩ u2).cell? ⟨C, 1, none⟩ = some u1 := by go_simp
theorem trio_2 {W : World} {C : Nat} {a b c : Value} (h0 : W.cell? ⟨C, 0, none⟩ = some a) (h1 : W.cell? ⟨C, 1, none⟩ = some b) (h2 : W.cell? ⟨C, 2, none⟩ = some c) (u0 u1 u2 : Value) : (((W.setCell ⟨C, 0, none⟩ u0).setCell ⟨C, 1, none⟩ u1).setCell ⟨C, 2, none⟩ u2).cell? ⟨C, 2, none⟩ = some u2 := by go_simp
end Go.Proofs.Ytnfknkihiapgiaa.bf
