/- What is read of entries that came in, as a slice. -/
import Derived.Test.YtnfknkihiapgiaaBufOpen
namespace Go.Proofs.Ytnfknkihiapgiaa.bf
open Go.ChangeShapes Go.WideShapes Go.ChangeAt Go.RowKit Go.Joins Go.Deep
open vl
set_option linter.unusedVariables false
set_option linter.unusedSimpArgs false
section
variable {H : Type} {enc : TypeId × Value → H} {w : World} {base : Nat} {spare : Nat → Bool} {held : Bool}
theorem open_entries {a : Option Addr} {len cap : Nat} {d : DataW H} {p : List MemPlace} (h : DataW.Trod enc Try.prog w base spare held 22 (.slice a len cap) d p) :
    ∃ (es : List EM) (l : List Ent), es.length = len ∧ emsAt w a es ∧ es.length = l.length ∧ es.length ≤ 9223372036854775807 ∧ ∀ i, i < l.length → inE w (es.getD i default) (l.getD i default) := by
  obtain ⟨fuel, hf⟩ := h
  obtain ⟨a', cap', es, l, hv, h1, h2, h3, h4⟩ := open_ents (v := .slice a len cap) (by simpa [Value.cells] using hf)
  injection hv with e1 e2 e3
  subst e1 e2
  exact ⟨es, l, rfl, h1, h2, h3, h4⟩
end
end Go.Proofs.Ytnfknkihiapgiaa.bf
