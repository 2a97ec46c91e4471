/- The walk of Back. -/
import Derived.Test.YtibjihdeknndoaaValRead
namespace Go.Proofs.Ytibjihdeknndoaa.vl
open Go.ChangeShapes Go.WideShapes Go.ChangeAt Go.RowKit
set_option linter.unusedVariables false
set_option linter.unusedSimpArgs false

def strLen : Value → Nat
  | .string q => q.size
  | _ => 0
theorem strLen_mk (q : ByteArray) : strLen (.string q) = q.size := rfl

def backRes (s : ByteArray) (base : Nat) (e : Ending) (w' : World) : Prop :=
  (∃ r ad cap, e = .returned (.tuple #[.slice ad r.length cap, .int .i64 0]) ∧ rowOk r ∧ encR r = s.data.toList ∧ ownV w' base (.slice ad r.length cap) r) ∨
  (e = .returned (.tuple #[.slice none 0 0, .int .i64 1]) ∧ noKey s.data.toList)
theorem list_ne {q : ByteArray} (h : 0 < q.size) : q.data.toList ≠ [] := fun e => by
  have := list_len q
  rw [e] at this
  simp at this
  omega

end Go.Proofs.Ytibjihdeknndoaa.vl
