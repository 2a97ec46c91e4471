/-
  No cell of these rows narrows 'for every input' (looked for: loops, veiled, ifaces, maps, wideKeys, modest, calm, conditions, laid).
  DERIVED. THE GIVEN ROWS OF THIS SEAT. 4 by the template 'for every input the law returns true; each argument reads behind the call as it read before'; 0 by the template 'total and deterministic' (their statements: YtibjihdeknndoaaTotals.lean).
  GIVEN WITH THE SEED: the statements are not yours to turn. If you find one false, say at which input.
  Laid BY PROGRAM, IN A SANDBOX (cutbox-rows.mjs): the forced cells as the released guide's own fill.sh prints them over the translation 055b6890b922a369… (all of the seat's roots in one cut). By AI agents, Wed Nov 11 2026. No macro, syntax, notation, axiom, sorry.
-/
import Derived.Test.YtibjihdeknndoaaChecked
import GoSem.Claim
import GoSem.ClaimJoined
import GoSem.ClaimMapViews
import Derived.JoinedTies
import Derived.KernelRfl
namespace Go.Proofs.Ytibjihdeknndoaa
/- THE CELL 'sum', in the pinned program and in every row, IS THE sha256 OF THE DUMP (.gsa) THAT YtibjihdeknndoaaProg.lean LOADS. Nothing in Lean hashes anything: it is a label: what it is worth is what the hold of that sum in a sandbox is worth. -/
noncomputable def Try.pinned : Pinned := { name := "ytibjihdeknndoaa", sum := "055b6890b922a36940de51c3b1a61f844d8370a98212aba0a445da162d62f10c", checked := Try.checked }
namespace Rows
def none {H : Type} : Left H := { results := [], args := [] }

/-- 'meetwaterlaw.PlanChecks': WHATEVER THE INPUT: true; the input reads as it did. -/
def planChecksSpec : ChangeSpec := { name := "planChecks", fn := fun _ => fun
  | [d] => { results := [.lit (.bool true)], args := [d] }
  | _ => none }
def planChecksRow : OpenClaim := { program := "ytibjihdeknndoaa", sum := "055b6890b922a36940de51c3b1a61f844d8370a98212aba0a445da162d62f10c", func := "meetwater/meetwaterlaw.PlanChecks", spec := "planChecks", unfollowed := true, recurses := true, apart := false }
def PlanChecksSaid : Prop := planChecksRow.holds Try.pinned (OpenSpec.ofChange planChecksSpec)

/-- ITS FALSE NEIGHBOUR: 'it returns false'. Refute it at one input. -/
def planChecksWrong : ChangeSpec := { name := "planChecks", fn := fun _ => fun
  | [d] => { results := [.lit (.bool false)], args := [d] }
  | _ => none }
def PlanChecksWrongFalsely : Prop := planChecksRow.holds Try.pinned (OpenSpec.ofChange planChecksWrong)

/-- 'meetwaterlaw.PlanRows': WHATEVER THE INPUT: true; the input reads as it did. -/
def planRowsSpec : ChangeSpec := { name := "planRows", fn := fun _ => fun
  | [d1, d2, d3] => { results := [.lit (.bool true)], args := [d1, d2, d3] }
  | _ => none }
def planRowsRow : OpenClaim := { program := "ytibjihdeknndoaa", sum := "055b6890b922a36940de51c3b1a61f844d8370a98212aba0a445da162d62f10c", func := "meetwater/meetwaterlaw.PlanRows", spec := "planRows", unfollowed := true, recurses := true, apart := false }
def PlanRowsSaid : Prop := planRowsRow.holds Try.pinned (OpenSpec.ofChange planRowsSpec)

/-- ITS FALSE NEIGHBOUR: 'it returns false'. Refute it at one input. -/
def planRowsWrong : ChangeSpec := { name := "planRows", fn := fun _ => fun
  | [d1, d2, d3] => { results := [.lit (.bool false)], args := [d1, d2, d3] }
  | _ => none }
def PlanRowsWrongFalsely : Prop := planRowsRow.holds Try.pinned (OpenSpec.ofChange planRowsWrong)

/-- 'meetwaterlaw.PlanGone': WHATEVER THE INPUT: true; the input reads as it did. -/
def planGoneSpec : ChangeSpec := { name := "planGone", fn := fun _ => fun
  | [d1, d2, d3] => { results := [.lit (.bool true)], args := [d1, d2, d3] }
  | _ => none }
def planGoneRow : OpenClaim := { program := "ytibjihdeknndoaa", sum := "055b6890b922a36940de51c3b1a61f844d8370a98212aba0a445da162d62f10c", func := "meetwater/meetwaterlaw.PlanGone", spec := "planGone", unfollowed := true, recurses := true, apart := false }
def PlanGoneSaid : Prop := planGoneRow.holds Try.pinned (OpenSpec.ofChange planGoneSpec)

/-- ITS FALSE NEIGHBOUR: 'it returns false'. Refute it at one input. -/
def planGoneWrong : ChangeSpec := { name := "planGone", fn := fun _ => fun
  | [d1, d2, d3] => { results := [.lit (.bool false)], args := [d1, d2, d3] }
  | _ => none }
def PlanGoneWrongFalsely : Prop := planGoneRow.holds Try.pinned (OpenSpec.ofChange planGoneWrong)

/-- 'meetwaterlaw.PlanPasses': WHATEVER THE INPUT: true; the input reads as it did. -/
def planPassesSpec : ChangeSpec := { name := "planPasses", fn := fun _ => fun
  | [d1, d2, d3, d4, d5] => { results := [.lit (.bool true)], args := [d1, d2, d3, d4, d5] }
  | _ => none }
def planPassesRow : OpenClaim := { program := "ytibjihdeknndoaa", sum := "055b6890b922a36940de51c3b1a61f844d8370a98212aba0a445da162d62f10c", func := "meetwater/meetwaterlaw.PlanPasses", spec := "planPasses", unfollowed := true, recurses := true, apart := false }
def PlanPassesSaid : Prop := planPassesRow.holds Try.pinned (OpenSpec.ofChange planPassesSpec)

/-- ITS FALSE NEIGHBOUR: 'it returns false'. Refute it at one input. -/
def planPassesWrong : ChangeSpec := { name := "planPasses", fn := fun _ => fun
  | [d1, d2, d3, d4, d5] => { results := [.lit (.bool false)], args := [d1, d2, d3, d4, d5] }
  | _ => none }
def PlanPassesWrongFalsely : Prop := planPassesRow.holds Try.pinned (OpenSpec.ofChange planPassesWrong)

/- THE SECOND FORM. 'bulk': how many values and letters a reading holds, each counted each time it is reached (what is shared counts as often as it is met; a slice's spare places count too). A statement '..UptoSaid' is the law's where the arguments, and the package variables that the reading takes, are together of bulk at most 1048576: NARROWER than '..Said'. Prove '..Said' where nothing that the law and all that it calls make is longer than what came in: it says more and counts as full. Else prove '..UptoSaid'. A law counts once. -/
mutual
def uptoBulk {H : Type} : DataW H → Nat
  | .lit (.string bytes) => bytes.length + 1
  | .lit _ => 1
  | .nil => 1
  | .ptr d => uptoBulk d + 1
  | .slice elems spare => uptoBulkAll elems + uptoBulkAll spare + 1
  | .agg parts => uptoBulkAll parts + 1
  | .iface _ d => uptoBulk d + 1
  | .map entries => uptoBulkEntries entries + 1
  | .held _ => 1
def uptoBulkAll {H : Type} : List (DataW H) → Nat
  | [] => 0
  | d :: r => uptoBulk d + uptoBulkAll r
def uptoBulkEntries {H : Type} : List (Lit × DataW H) → Nat
  | [] => 0
  | x :: r => uptoBulkEntry x + uptoBulkEntries r
def uptoBulkEntry {H : Type} : Lit × DataW H → Nat
  | (.string bytes, d) => bytes.length + uptoBulk d + 1
  | (_, d) => uptoBulk d + 1
 end
def uptoSmall : (H : Type) → List (DataW H) → Bool := fun _ ds => decide (uptoBulkAll ds ≤ 1048576)
def OpenSpec.upto (s : _root_.Go.ChangeSpec) : _root_.Go.OpenSpec := { _root_.Go.OpenSpec.ofChange s with cond := some uptoSmall }

/-- 'meetwaterlaw.PlanChecks', WHERE WHAT IT READS IS OF BULK AT MOST 1048576: true; the input reads as it did. -/
def planChecksUptoRow : OpenClaim := { program := "ytibjihdeknndoaa", sum := "055b6890b922a36940de51c3b1a61f844d8370a98212aba0a445da162d62f10c", func := "meetwater/meetwaterlaw.PlanChecks", spec := "planChecks", unfollowed := true, recurses := true, apart := false, narrowed := true }
def PlanChecksUptoSaid : Prop := planChecksUptoRow.holds Try.pinned (OpenSpec.upto planChecksSpec)

/-- 'meetwaterlaw.PlanRows', WHERE WHAT IT READS IS OF BULK AT MOST 1048576: true; the input reads as it did. -/
def planRowsUptoRow : OpenClaim := { program := "ytibjihdeknndoaa", sum := "055b6890b922a36940de51c3b1a61f844d8370a98212aba0a445da162d62f10c", func := "meetwater/meetwaterlaw.PlanRows", spec := "planRows", unfollowed := true, recurses := true, apart := false, narrowed := true }
def PlanRowsUptoSaid : Prop := planRowsUptoRow.holds Try.pinned (OpenSpec.upto planRowsSpec)

/-- 'meetwaterlaw.PlanGone', WHERE WHAT IT READS IS OF BULK AT MOST 1048576: true; the input reads as it did. -/
def planGoneUptoRow : OpenClaim := { program := "ytibjihdeknndoaa", sum := "055b6890b922a36940de51c3b1a61f844d8370a98212aba0a445da162d62f10c", func := "meetwater/meetwaterlaw.PlanGone", spec := "planGone", unfollowed := true, recurses := true, apart := false, narrowed := true }
def PlanGoneUptoSaid : Prop := planGoneUptoRow.holds Try.pinned (OpenSpec.upto planGoneSpec)

/-- 'meetwaterlaw.PlanPasses', WHERE WHAT IT READS IS OF BULK AT MOST 1048576: true; the input reads as it did. -/
def planPassesUptoRow : OpenClaim := { program := "ytibjihdeknndoaa", sum := "055b6890b922a36940de51c3b1a61f844d8370a98212aba0a445da162d62f10c", func := "meetwater/meetwaterlaw.PlanPasses", spec := "planPasses", unfollowed := true, recurses := true, apart := false, narrowed := true }
def PlanPassesUptoSaid : Prop := planPassesUptoRow.holds Try.pinned (OpenSpec.upto planPassesSpec)

end Rows
end Go.Proofs.Ytibjihdeknndoaa
