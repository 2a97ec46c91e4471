/- valueBegun answers true. -/
import Derived.Test.YtibjihdeknndoaaValGen
namespace Go.Proofs.Ytibjihdeknndoaa.vl
open Go.ChangeShapes Go.WideShapes Go.ChangeAt Go.RowKit
set_option linter.unusedVariables false
set_option linter.unusedSimpArgs false

def R4 : List Cel := [⟨2, -1, ⟨#[]⟩⟩, ⟨3, 0, ⟨#[97, 0]⟩⟩, ⟨1, 1, ⟨#[]⟩⟩, ⟨0, 0, ⟨#[]⟩⟩]
theorem R4_ok : rowOk R4 := by
  refine ⟨by decide, ?_⟩
  intro c hc
  simp only [R4, List.mem_cons, List.not_mem_nil, or_false] at hc
  rcases hc with rfl | rfl | rfl | rfl
  · exact ⟨int_ok _, wf0 _ _ (by decide) (by decide)⟩
  · exact ⟨chk_ok _ _ _ (by decide), wf3 (by decide)⟩
  · exact ⟨chk_ok _ _ _ (by decide), wf0 _ _ (by decide) (by decide)⟩
  · exact ⟨chk_ok _ _ _ (by decide), wf0 _ _ (by decide) (by decide)⟩
theorem row4 (w : World) (b : Nat) (h0 : w.cell? ⟨b, 0, none⟩ = some (.int .i64 2)) (h1 : w.cell? ⟨b, 1, none⟩ = some (.int .i64 (-1))) (h2 : w.cell? ⟨b, 2, none⟩ = some (.string ⟨#[]⟩))
    (h3 : w.cell? ⟨b, 3, none⟩ = some (.int .i64 3)) (h4 : w.cell? ⟨b, 4, none⟩ = some (.int .i64 0)) (h5 : w.cell? ⟨b, 5, none⟩ = some (.string ⟨#[97, 0]⟩))
    (h6 : w.cell? ⟨b, 6, none⟩ = some (.int .i64 1)) (h7 : w.cell? ⟨b, 7, none⟩ = some (.int .i64 1)) (h8 : w.cell? ⟨b, 8, none⟩ = some (.string ⟨#[]⟩))
    (h9 : w.cell? ⟨b, 9, none⟩ = some (.int .i64 0)) (h10 : w.cell? ⟨b, 10, none⟩ = some (.int .i64 0)) (h11 : w.cell? ⟨b, 11, none⟩ = some (.string ⟨#[]⟩)) : rowAt w (some ⟨b, 0, none⟩) R4 := by
  intro i hi
  refine ⟨b, 0, rfl, ?_⟩
  match i, hi with
  | 0, _ => exact ⟨h0, h1, h2⟩
  | 1, _ => exact ⟨h3, h4, h5⟩
  | 2, _ => exact ⟨h6, h7, h8⟩
  | 3, _ => exact ⟨h9, h10, h11⟩
theorem begun_key (a : Option Addr) (cap : Nat) (w : World) (hr : rowAt w a R4) : Calls Try.prog 41 #[.slice a 4 cap] w fun e w' => e = .returned (.tuple #[.string (keyS R4), .int .i64 0]) ∧ Below w.heap.size w w' :=
  key_ok a cap R4 w hr R4_ok
theorem num_any (n : Int) (w : World) : Calls Try.prog 57 #[.int .i64 n] w fun e w' => e = .returned (.agg #[.int .i64 2, .int .i64 n, .string ⟨#[]⟩]) ∧ Below w.heap.size w w' := by
  go_enter Try.func57, Try.ntmps57
  go_wp2
  exact bodyPost_ret (v := .agg #[.int .i64 2, .int .i64 n, .string ⟨#[]⟩]) (by simp [results, Try.results57, go_sem]) rfl ⟨rfl, by repeat (first | exact Below.refl _ _ | apply Below.drew | (refine Below.setCell ?_ (by simp) _) | (refine Below.alloc ?_ (by simp <;> omega) _))⟩
end Go.Proofs.Ytibjihdeknndoaa.vl
