/- What is done with whole rows: Same, CompareRows, CompareFunc and Rows. -/
import Derived.Test.YtibjihdeknndoaaValCheck
import Derived.Deep.QuietTactic
import Derived.BigQuiet
namespace Go.Proofs.Ytibjihdeknndoaa.vl
open Go.ChangeShapes Go.WideShapes Go.ChangeAt Go.RowKit
set_option linter.unusedVariables false
set_option linter.unusedSimpArgs false

/-- a cell of a row -/
structure Cel where
  k : Int
  n : Int
  s : ByteArray
deriving DecidableEq
instance : Inhabited Cel := ⟨⟨0, 0, ⟨#[]⟩⟩⟩
def Cel.val (c : Cel) : Value := .agg #[.int .i64 c.k, .int .i64 c.n, .string c.s]

/-- a slice that begins at a has the cells of r -/
def rowAt (w : World) (a : Option Addr) (r : List Cel) : Prop :=
  ∀ i, i < r.length → ∃ b off, a = some ⟨b, off, none⟩ ∧ w.cell? ⟨b, off + i * 3, none⟩ = some (.int .i64 (r.getD i default).k) ∧ w.cell? ⟨b, off + i * 3 + 1, none⟩ = some (.int .i64 (r.getD i default).n) ∧ w.cell? ⟨b, off + i * 3 + 1 + 1, none⟩ = some (.string (r.getD i default).s)

theorem ret_bool {a b : Bool} (h : a = b) : Ending.returned (.bool a) = .returned (.bool b) := by rw [h]
theorem take_eq_succ {r1 r2 : List Cel} {k : Nat} (h1 : k < r1.length) (h2 : k < r2.length) (h : r1.take k = r2.take k) (hk : r1.getD k default = r2.getD k default) : r1.take (k + 1) = r2.take (k + 1) := by
  rw [List.take_succ_eq_append_getElem h1, List.take_succ_eq_append_getElem h2, h]
  simp only [List.getD_eq_getElem?_getD, List.getElem?_eq_getElem h1, List.getElem?_eq_getElem h2, Option.getD_some] at hk
  rw [hk]

end Go.Proofs.Ytibjihdeknndoaa.vl
