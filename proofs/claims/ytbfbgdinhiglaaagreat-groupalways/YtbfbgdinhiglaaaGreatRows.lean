/-
  No cell of these rows narrows 'for every input' (looked for: loops, veiled, ifaces, maps, wideKeys, modest, calm, conditions, laid).
  DERIVED. THE GIVEN ROWS OF THIS SEAT. 3 by the template 'for every input the law returns true; each argument reads behind the call as it read before'; 0 by the template 'total and deterministic' (their statements: YtbfbgdinhiglaaaGreatTotals.lean).
  GIVEN WITH THE SEED: the statements are not yours to turn. If you find one false, say at which input.
  Laid BY PROGRAM, IN A SANDBOX (cutbox-rows.mjs): the forced cells as the released guide's own fill.sh prints them over the translation 7b2fb745c9ac8448… (all of the seat's roots in one cut). By AI agents, Wed Nov 11 2026. No macro, syntax, notation, axiom, sorry.
-/
import Derived.Test.YtbfbgdinhiglaaaGreatChecked
import GoSem.Claim
import GoSem.ClaimJoined
import GoSem.ClaimMapViews
import Derived.JoinedTies
import Derived.KernelRfl
namespace Go.Proofs.YtbfbgdinhiglaaaGreat
/- THE CELL 'sum', in the pinned program and in every row, IS THE sha256 OF THE DUMP (.gsa) THAT YtbfbgdinhiglaaaGreatProg.lean LOADS. Nothing in Lean hashes anything: it is a label: what it is worth is what the hold of that sum in a sandbox is worth. -/
noncomputable def Tryz.pinned : Pinned := { name := "ytbfbgdinhiglaaagreat", sum := "7b2fb745c9ac84489eee7e3550e4a9dedd2b33e3195f4ef9100ad4787bdfb9d7", checked := Tryz.checked }
namespace Rows
def none {H : Type} : Left H := { results := [], args := [] }

/-- 'meetwaterlaw.GroupChecks': WHATEVER THE INPUT: true; the input reads as it did. -/
def groupChecksSpec : ChangeSpec := { name := "groupChecks", fn := fun _ => fun
  | [d1, d2] => { results := [.lit (.bool true)], args := [d1, d2] }
  | _ => none }
def groupChecksRow : OpenClaim := { program := "ytbfbgdinhiglaaagreat", sum := "7b2fb745c9ac84489eee7e3550e4a9dedd2b33e3195f4ef9100ad4787bdfb9d7", func := "meetwater/meetwaterlaw.GroupChecks", spec := "groupChecks", inPlace := ["internal/bytealg.abigen_runtime_cmpstring", "slices.overlaps[meetwater/api.Group]", "slices.overlaps[meetwater/api.Tally]"], unfollowed := true, recurses := true, apart := false }
def GroupChecksSaid : Prop := groupChecksRow.holds Tryz.pinned (OpenSpec.ofChange groupChecksSpec)

/-- ITS FALSE NEIGHBOUR: 'it returns false'. Refute it at one input. -/
def groupChecksWrong : ChangeSpec := { name := "groupChecks", fn := fun _ => fun
  | [d1, d2] => { results := [.lit (.bool false)], args := [d1, d2] }
  | _ => none }
def GroupChecksWrongFalsely : Prop := groupChecksRow.holds Tryz.pinned (OpenSpec.ofChange groupChecksWrong)

/-- 'meetwaterlaw.GroupSteps': WHATEVER THE INPUT: true; the input reads as it did. -/
def groupStepsSpec : ChangeSpec := { name := "groupSteps", fn := fun _ => fun
  | [d1, d2, d3] => { results := [.lit (.bool true)], args := [d1, d2, d3] }
  | _ => none }
def groupStepsRow : OpenClaim := { program := "ytbfbgdinhiglaaagreat", sum := "7b2fb745c9ac84489eee7e3550e4a9dedd2b33e3195f4ef9100ad4787bdfb9d7", func := "meetwater/meetwaterlaw.GroupSteps", spec := "groupSteps", inPlace := ["internal/bytealg.abigen_runtime_cmpstring", "slices.overlaps[meetwater/api.Group]", "slices.overlaps[meetwater/api.Tally]"], unfollowed := true, recurses := true, apart := false }
def GroupStepsSaid : Prop := groupStepsRow.holds Tryz.pinned (OpenSpec.ofChange groupStepsSpec)

/-- ITS FALSE NEIGHBOUR: 'it returns false'. Refute it at one input. -/
def groupStepsWrong : ChangeSpec := { name := "groupSteps", fn := fun _ => fun
  | [d1, d2, d3] => { results := [.lit (.bool false)], args := [d1, d2, d3] }
  | _ => none }
def GroupStepsWrongFalsely : Prop := groupStepsRow.holds Tryz.pinned (OpenSpec.ofChange groupStepsWrong)

/-- 'meetwaterlaw.GroupAlways': WHATEVER THE INPUT: true; the input reads as it did. -/
def groupAlwaysSpec : ChangeSpec := { name := "groupAlways", fn := fun _ => fun
  | [d1, d2, d3] => { results := [.lit (.bool true)], args := [d1, d2, d3] }
  | _ => none }
def groupAlwaysRow : OpenClaim := { program := "ytbfbgdinhiglaaagreat", sum := "7b2fb745c9ac84489eee7e3550e4a9dedd2b33e3195f4ef9100ad4787bdfb9d7", func := "meetwater/meetwaterlaw.GroupAlways", spec := "groupAlways", inPlace := ["internal/bytealg.abigen_runtime_cmpstring", "slices.overlaps[meetwater/api.Group]", "slices.overlaps[meetwater/api.Tally]"], unfollowed := true, recurses := true, apart := false }
def GroupAlwaysSaid : Prop := groupAlwaysRow.holds Tryz.pinned (OpenSpec.ofChange groupAlwaysSpec)

/-- ITS FALSE NEIGHBOUR: 'it returns false'. Refute it at one input. -/
def groupAlwaysWrong : ChangeSpec := { name := "groupAlways", fn := fun _ => fun
  | [d1, d2, d3] => { results := [.lit (.bool false)], args := [d1, d2, d3] }
  | _ => none }
def GroupAlwaysWrongFalsely : Prop := groupAlwaysRow.holds Tryz.pinned (OpenSpec.ofChange groupAlwaysWrong)

/- THE SECOND FORM. 'bulk': how many values and letters a reading holds, each counted each time it is reached (what is shared counts as often as it is met; a slice's spare places count too). A statement '..UptoSaid' is the law's where the arguments, and the package variables that the reading takes, are together of bulk at most 1048576: NARROWER than '..Said'. Prove '..Said' where nothing that the law and all that it calls make is longer than what came in: it says more and counts as full. Else prove '..UptoSaid'. A law counts once. -/
mutual
def uptoBulk {H : Type} : DataW H → Nat
  | .lit (.string bytes) => bytes.length + 1
  | .lit _ => 1
  | .nil => 1
  | .ptr d => uptoBulk d + 1
  | .slice elems spare => uptoBulkAll elems + uptoBulkAll spare + 1
  | .agg parts => uptoBulkAll parts + 1
  | .iface _ d => uptoBulk d + 1
  | .map entries => uptoBulkEntries entries + 1
  | .held _ => 1
def uptoBulkAll {H : Type} : List (DataW H) → Nat
  | [] => 0
  | d :: r => uptoBulk d + uptoBulkAll r
def uptoBulkEntries {H : Type} : List (Lit × DataW H) → Nat
  | [] => 0
  | x :: r => uptoBulkEntry x + uptoBulkEntries r
def uptoBulkEntry {H : Type} : Lit × DataW H → Nat
  | (.string bytes, d) => bytes.length + uptoBulk d + 1
  | (_, d) => uptoBulk d + 1
 end
def uptoSmall : (H : Type) → List (DataW H) → Bool := fun _ ds => decide (uptoBulkAll ds ≤ 1048576)
def OpenSpec.upto (s : _root_.Go.ChangeSpec) : _root_.Go.OpenSpec := { _root_.Go.OpenSpec.ofChange s with cond := some uptoSmall }

/-- 'meetwaterlaw.GroupChecks', WHERE WHAT IT READS IS OF BULK AT MOST 1048576: true; the input reads as it did. -/
def groupChecksUptoRow : OpenClaim := { program := "ytbfbgdinhiglaaagreat", sum := "7b2fb745c9ac84489eee7e3550e4a9dedd2b33e3195f4ef9100ad4787bdfb9d7", func := "meetwater/meetwaterlaw.GroupChecks", spec := "groupChecks", inPlace := ["internal/bytealg.abigen_runtime_cmpstring", "slices.overlaps[meetwater/api.Group]", "slices.overlaps[meetwater/api.Tally]"], unfollowed := true, recurses := true, apart := false, narrowed := true }
def GroupChecksUptoSaid : Prop := groupChecksUptoRow.holds Tryz.pinned (OpenSpec.upto groupChecksSpec)

/-- 'meetwaterlaw.GroupSteps', WHERE WHAT IT READS IS OF BULK AT MOST 1048576: true; the input reads as it did. -/
def groupStepsUptoRow : OpenClaim := { program := "ytbfbgdinhiglaaagreat", sum := "7b2fb745c9ac84489eee7e3550e4a9dedd2b33e3195f4ef9100ad4787bdfb9d7", func := "meetwater/meetwaterlaw.GroupSteps", spec := "groupSteps", inPlace := ["internal/bytealg.abigen_runtime_cmpstring", "slices.overlaps[meetwater/api.Group]", "slices.overlaps[meetwater/api.Tally]"], unfollowed := true, recurses := true, apart := false, narrowed := true }
def GroupStepsUptoSaid : Prop := groupStepsUptoRow.holds Tryz.pinned (OpenSpec.upto groupStepsSpec)

/-- 'meetwaterlaw.GroupAlways', WHERE WHAT IT READS IS OF BULK AT MOST 1048576: true; the input reads as it did. -/
def groupAlwaysUptoRow : OpenClaim := { program := "ytbfbgdinhiglaaagreat", sum := "7b2fb745c9ac84489eee7e3550e4a9dedd2b33e3195f4ef9100ad4787bdfb9d7", func := "meetwater/meetwaterlaw.GroupAlways", spec := "groupAlways", inPlace := ["internal/bytealg.abigen_runtime_cmpstring", "slices.overlaps[meetwater/api.Group]", "slices.overlaps[meetwater/api.Tally]"], unfollowed := true, recurses := true, apart := false, narrowed := true }
def GroupAlwaysUptoSaid : Prop := groupAlwaysUptoRow.holds Tryz.pinned (OpenSpec.upto groupAlwaysSpec)

end Rows
end Go.Proofs.YtbfbgdinhiglaaaGreat
