import Derived.Test.YtbfbgdinhiglaaaGreatMgPlnA
import Derived.Deep.Light
import Derived.Test.YtbfbgdinhiglaaaGreatMgPlnB
import Derived.Deep.AppendLies
import Derived.Deep.QuietTactic
import Derived.BigQuiet
/- Several texts in one: PlnRef, PlnRef2. -/
/- The document's wrongKind, wrongRange, wrongMany. -/
namespace Go.Proofs.YtbfbgdinhiglaaaGreat.pl
open Go.ChangeShapes Go.WideShapes Go.ChangeAt Go.RowKit
open vl
set_option linter.unusedVariables false
set_option linter.unusedSimpArgs false
end Go.Proofs.YtbfbgdinhiglaaaGreat.pl

/- The document's wrongRange, wrongMany. -/
namespace Go.Proofs.YtbfbgdinhiglaaaGreat.pl
open Go.ChangeShapes Go.WideShapes Go.ChangeAt Go.RowKit
open vl
set_option linter.unusedVariables false
set_option linter.unusedSimpArgs false
end Go.Proofs.YtbfbgdinhiglaaaGreat.pl
/- Several texts in one: PlnTypes, PlnWForm. -/
/- The document's Types and once. -/
namespace Go.Proofs.YtbfbgdinhiglaaaGreat.pl
open Go.ChangeShapes Go.WideShapes Go.ChangeAt Go.RowKit
open vl
set_option linter.unusedVariables false
set_option linter.unusedSimpArgs false
end Go.Proofs.YtbfbgdinhiglaaaGreat.pl

/- The document's wrongForm: the fifth row of D1. -/
namespace Go.Proofs.YtbfbgdinhiglaaaGreat.pl
open Go.ChangeShapes Go.WideShapes Go.ChangeAt Go.RowKit
open vl
set_option linter.unusedVariables false
set_option linter.unusedSimpArgs false
theorem below_dn {B : Nat} {a w : World} (h : Below B a w) (q : Nat) : Below B a (w.drewN q) := ⟨h.os, h.tape, h.output, h.size, h.block⟩
end Go.Proofs.YtbfbgdinhiglaaaGreat.pl
