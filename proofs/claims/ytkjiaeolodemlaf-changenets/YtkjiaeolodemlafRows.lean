/-
  No cell of these rows narrows 'for every input' (looked for: loops, veiled, ifaces, maps, wideKeys, modest, calm, conditions, laid).
  DERIVED. THE GIVEN ROWS OF THIS SEAT. 5 by the template 'for every input the law returns true; each argument reads behind the call as it read before'; 0 by the template 'total and deterministic' (their statements: YtkjiaeolodemlafTotals.lean).
  GIVEN WITH THE SEED: the statements are not yours to turn. If you find one false, say at which input.
  Laid BY PROGRAM, IN A SANDBOX (cutbox-rows.mjs): the forced cells as the released guide's own fill.sh prints them over the translation fee064b443de8715… (all of the seat's roots in one cut). By AI agents, Wed Nov 11 2026. No macro, syntax, notation, axiom, sorry.
-/
import Derived.Test.YtkjiaeolodemlafChecked
import GoSem.Claim
import GoSem.ClaimJoined
import GoSem.ClaimMapViews
import Derived.JoinedTies
import Derived.KernelRfl
namespace Go.Proofs.Ytkjiaeolodemlaf
/- THE CELL 'sum', in the pinned program and in every row, IS THE sha256 OF THE DUMP (.gsa) THAT YtkjiaeolodemlafProg.lean LOADS. Nothing in Lean hashes anything: it is a label: what it is worth is what the hold of that sum in a sandbox is worth. -/
noncomputable def Try.pinned : Pinned := { name := "ytkjiaeolodemlaf", sum := "fee064b443de8715420a46a097d8caf259e6de97043c11f66db74179713fd6db", checked := Try.checked }
namespace Rows
def none {H : Type} : Left H := { results := [], args := [] }

/-- 'meetwaterlaw.ChangeDiffs': WHATEVER THE INPUT: true; the input reads as it did. -/
def changeDiffsSpec : ChangeSpec := { name := "changeDiffs", fn := fun _ => fun
  | [d1, d2] => { results := [.lit (.bool true)], args := [d1, d2] }
  | _ => none }
def changeDiffsRow : OpenClaim := { program := "ytkjiaeolodemlaf", sum := "fee064b443de8715420a46a097d8caf259e6de97043c11f66db74179713fd6db", func := "meetwater/meetwaterlaw.ChangeDiffs", spec := "changeDiffs", inPlace := ["internal/bytealg.abigen_runtime_cmpstring"], unfollowed := true, recurses := true, apart := false }
def ChangeDiffsSaid : Prop := changeDiffsRow.holds Try.pinned (OpenSpec.ofChange changeDiffsSpec)

/-- ITS FALSE NEIGHBOUR: 'it returns false'. Refute it at one input. -/
def changeDiffsWrong : ChangeSpec := { name := "changeDiffs", fn := fun _ => fun
  | [d1, d2] => { results := [.lit (.bool false)], args := [d1, d2] }
  | _ => none }
def ChangeDiffsWrongFalsely : Prop := changeDiffsRow.holds Try.pinned (OpenSpec.ofChange changeDiffsWrong)

/-- 'meetwaterlaw.ChangeNets': WHATEVER THE INPUT: true; the input reads as it did. -/
def changeNetsSpec : ChangeSpec := { name := "changeNets", fn := fun _ => fun
  | [d] => { results := [.lit (.bool true)], args := [d] }
  | _ => none }
def changeNetsRow : OpenClaim := { program := "ytkjiaeolodemlaf", sum := "fee064b443de8715420a46a097d8caf259e6de97043c11f66db74179713fd6db", func := "meetwater/meetwaterlaw.ChangeNets", spec := "changeNets", inPlace := ["internal/bytealg.abigen_runtime_cmpstring"], unfollowed := true, recurses := true, apart := false }
def ChangeNetsSaid : Prop := changeNetsRow.holds Try.pinned (OpenSpec.ofChange changeNetsSpec)

/-- ITS FALSE NEIGHBOUR: 'it returns false'. Refute it at one input. -/
def changeNetsWrong : ChangeSpec := { name := "changeNets", fn := fun _ => fun
  | [d] => { results := [.lit (.bool false)], args := [d] }
  | _ => none }
def ChangeNetsWrongFalsely : Prop := changeNetsRow.holds Try.pinned (OpenSpec.ofChange changeNetsWrong)

/-- 'meetwaterlaw.ChangeMakes': WHATEVER THE INPUT: true; the input reads as it did. -/
def changeMakesSpec : ChangeSpec := { name := "changeMakes", fn := fun _ => fun
  | [d1, d2] => { results := [.lit (.bool true)], args := [d1, d2] }
  | _ => none }
def changeMakesRow : OpenClaim := { program := "ytkjiaeolodemlaf", sum := "fee064b443de8715420a46a097d8caf259e6de97043c11f66db74179713fd6db", func := "meetwater/meetwaterlaw.ChangeMakes", spec := "changeMakes", inPlace := ["internal/bytealg.abigen_runtime_cmpstring"], unfollowed := true, recurses := true, apart := false }
def ChangeMakesSaid : Prop := changeMakesRow.holds Try.pinned (OpenSpec.ofChange changeMakesSpec)

/-- ITS FALSE NEIGHBOUR: 'it returns false'. Refute it at one input. -/
def changeMakesWrong : ChangeSpec := { name := "changeMakes", fn := fun _ => fun
  | [d1, d2] => { results := [.lit (.bool false)], args := [d1, d2] }
  | _ => none }
def ChangeMakesWrongFalsely : Prop := changeMakesRow.holds Try.pinned (OpenSpec.ofChange changeMakesWrong)

/-- 'meetwaterlaw.ChangeUndoes': WHATEVER THE INPUT: true; the input reads as it did. -/
def changeUndoesSpec : ChangeSpec := { name := "changeUndoes", fn := fun _ => fun
  | [d1, d2] => { results := [.lit (.bool true)], args := [d1, d2] }
  | _ => none }
def changeUndoesRow : OpenClaim := { program := "ytkjiaeolodemlaf", sum := "fee064b443de8715420a46a097d8caf259e6de97043c11f66db74179713fd6db", func := "meetwater/meetwaterlaw.ChangeUndoes", spec := "changeUndoes", inPlace := ["internal/bytealg.abigen_runtime_cmpstring"], unfollowed := true, recurses := true, apart := false }
def ChangeUndoesSaid : Prop := changeUndoesRow.holds Try.pinned (OpenSpec.ofChange changeUndoesSpec)

/-- ITS FALSE NEIGHBOUR: 'it returns false'. Refute it at one input. -/
def changeUndoesWrong : ChangeSpec := { name := "changeUndoes", fn := fun _ => fun
  | [d1, d2] => { results := [.lit (.bool false)], args := [d1, d2] }
  | _ => none }
def ChangeUndoesWrongFalsely : Prop := changeUndoesRow.holds Try.pinned (OpenSpec.ofChange changeUndoesWrong)

/-- 'meetwaterlaw.ChangeCuts': WHATEVER THE INPUT: true; the input reads as it did. -/
def changeCutsSpec : ChangeSpec := { name := "changeCuts", fn := fun _ => fun
  | [d1, d2, d3] => { results := [.lit (.bool true)], args := [d1, d2, d3] }
  | _ => none }
def changeCutsRow : OpenClaim := { program := "ytkjiaeolodemlaf", sum := "fee064b443de8715420a46a097d8caf259e6de97043c11f66db74179713fd6db", func := "meetwater/meetwaterlaw.ChangeCuts", spec := "changeCuts", inPlace := ["internal/bytealg.abigen_runtime_cmpstring"], unfollowed := true, recurses := true, apart := false }
def ChangeCutsSaid : Prop := changeCutsRow.holds Try.pinned (OpenSpec.ofChange changeCutsSpec)

/-- ITS FALSE NEIGHBOUR: 'it returns false'. Refute it at one input. -/
def changeCutsWrong : ChangeSpec := { name := "changeCuts", fn := fun _ => fun
  | [d1, d2, d3] => { results := [.lit (.bool false)], args := [d1, d2, d3] }
  | _ => none }
def ChangeCutsWrongFalsely : Prop := changeCutsRow.holds Try.pinned (OpenSpec.ofChange changeCutsWrong)

/- THE SECOND FORM. 'bulk': how many values and letters a reading holds, each counted each time it is reached (what is shared counts as often as it is met; a slice's spare places count too). A statement '..UptoSaid' is the law's where the arguments, and the package variables that the reading takes, are together of bulk at most 1048576: NARROWER than '..Said'. Prove '..Said' where nothing that the law and all that it calls make is longer than what came in: it says more and counts as full. Else prove '..UptoSaid'. A law counts once. -/
mutual
def uptoBulk {H : Type} : DataW H → Nat
  | .lit (.string bytes) => bytes.length + 1
  | .lit _ => 1
  | .nil => 1
  | .ptr d => uptoBulk d + 1
  | .slice elems spare => uptoBulkAll elems + uptoBulkAll spare + 1
  | .agg parts => uptoBulkAll parts + 1
  | .iface _ d => uptoBulk d + 1
  | .map entries => uptoBulkEntries entries + 1
  | .held _ => 1
def uptoBulkAll {H : Type} : List (DataW H) → Nat
  | [] => 0
  | d :: r => uptoBulk d + uptoBulkAll r
def uptoBulkEntries {H : Type} : List (Lit × DataW H) → Nat
  | [] => 0
  | x :: r => uptoBulkEntry x + uptoBulkEntries r
def uptoBulkEntry {H : Type} : Lit × DataW H → Nat
  | (.string bytes, d) => bytes.length + uptoBulk d + 1
  | (_, d) => uptoBulk d + 1
 end
def uptoSmall : (H : Type) → List (DataW H) → Bool := fun _ ds => decide (uptoBulkAll ds ≤ 1048576)
def OpenSpec.upto (s : _root_.Go.ChangeSpec) : _root_.Go.OpenSpec := { _root_.Go.OpenSpec.ofChange s with cond := some uptoSmall }

/-- 'meetwaterlaw.ChangeDiffs', WHERE WHAT IT READS IS OF BULK AT MOST 1048576: true; the input reads as it did. -/
def changeDiffsUptoRow : OpenClaim := { program := "ytkjiaeolodemlaf", sum := "fee064b443de8715420a46a097d8caf259e6de97043c11f66db74179713fd6db", func := "meetwater/meetwaterlaw.ChangeDiffs", spec := "changeDiffs", inPlace := ["internal/bytealg.abigen_runtime_cmpstring"], unfollowed := true, recurses := true, apart := false, narrowed := true }
def ChangeDiffsUptoSaid : Prop := changeDiffsUptoRow.holds Try.pinned (OpenSpec.upto changeDiffsSpec)

/-- 'meetwaterlaw.ChangeNets', WHERE WHAT IT READS IS OF BULK AT MOST 1048576: true; the input reads as it did. -/
def changeNetsUptoRow : OpenClaim := { program := "ytkjiaeolodemlaf", sum := "fee064b443de8715420a46a097d8caf259e6de97043c11f66db74179713fd6db", func := "meetwater/meetwaterlaw.ChangeNets", spec := "changeNets", inPlace := ["internal/bytealg.abigen_runtime_cmpstring"], unfollowed := true, recurses := true, apart := false, narrowed := true }
def ChangeNetsUptoSaid : Prop := changeNetsUptoRow.holds Try.pinned (OpenSpec.upto changeNetsSpec)

/-- 'meetwaterlaw.ChangeMakes', WHERE WHAT IT READS IS OF BULK AT MOST 1048576: true; the input reads as it did. -/
def changeMakesUptoRow : OpenClaim := { program := "ytkjiaeolodemlaf", sum := "fee064b443de8715420a46a097d8caf259e6de97043c11f66db74179713fd6db", func := "meetwater/meetwaterlaw.ChangeMakes", spec := "changeMakes", inPlace := ["internal/bytealg.abigen_runtime_cmpstring"], unfollowed := true, recurses := true, apart := false, narrowed := true }
def ChangeMakesUptoSaid : Prop := changeMakesUptoRow.holds Try.pinned (OpenSpec.upto changeMakesSpec)

/-- 'meetwaterlaw.ChangeUndoes', WHERE WHAT IT READS IS OF BULK AT MOST 1048576: true; the input reads as it did. -/
def changeUndoesUptoRow : OpenClaim := { program := "ytkjiaeolodemlaf", sum := "fee064b443de8715420a46a097d8caf259e6de97043c11f66db74179713fd6db", func := "meetwater/meetwaterlaw.ChangeUndoes", spec := "changeUndoes", inPlace := ["internal/bytealg.abigen_runtime_cmpstring"], unfollowed := true, recurses := true, apart := false, narrowed := true }
def ChangeUndoesUptoSaid : Prop := changeUndoesUptoRow.holds Try.pinned (OpenSpec.upto changeUndoesSpec)

/-- 'meetwaterlaw.ChangeCuts', WHERE WHAT IT READS IS OF BULK AT MOST 1048576: true; the input reads as it did. -/
def changeCutsUptoRow : OpenClaim := { program := "ytkjiaeolodemlaf", sum := "fee064b443de8715420a46a097d8caf259e6de97043c11f66db74179713fd6db", func := "meetwater/meetwaterlaw.ChangeCuts", spec := "changeCuts", inPlace := ["internal/bytealg.abigen_runtime_cmpstring"], unfollowed := true, recurses := true, apart := false, narrowed := true }
def ChangeCutsUptoSaid : Prop := changeCutsUptoRow.holds Try.pinned (OpenSpec.upto changeCutsSpec)

end Rows
end Go.Proofs.Ytkjiaeolodemlaf
