/-
  No cell of these rows narrows 'for every input' (looked for: loops, veiled, ifaces, maps, wideKeys, modest, calm, conditions, laid).
  DERIVED. THE GIVEN ROWS OF THIS SEAT. 6 by the template 'for every input the law returns true; each argument reads behind the call as it read before'; 0 by the template 'total and deterministic' (their statements: YtkjiaeolodemlaeTotals.lean).
  GIVEN WITH THE SEED: the statements are not yours to turn. If you find one false, say at which input.
  Laid BY PROGRAM, IN A SANDBOX (cutbox-rows.mjs): the forced cells as the released guide's own fill.sh prints them over the translation f9cd2c50b055e561… (all of the seat's roots in one cut). By AI agents, Wed Nov 11 2026. No macro, syntax, notation, axiom, sorry.
-/
import Derived.Test.YtkjiaeolodemlaeChecked
import GoSem.Claim
import GoSem.ClaimJoined
import GoSem.ClaimMapViews
import Derived.JoinedTies
import Derived.KernelRfl
namespace Go.Proofs.Ytkjiaeolodemlae
/- THE CELL 'sum', in the pinned program and in every row, IS THE sha256 OF THE DUMP (.gsa) THAT YtkjiaeolodemlaeProg.lean LOADS. Nothing in Lean hashes anything: it is a label: what it is worth is what the hold of that sum in a sandbox is worth. -/
noncomputable def Try.pinned : Pinned := { name := "ytkjiaeolodemlae", sum := "f9cd2c50b055e5615462472b6637e34209ba2e70563c2e005f4c0e5a487bad5a", checked := Try.checked }
namespace Rows
def none {H : Type} : Left H := { results := [], args := [] }

/-- 'meetwaterlaw.TimesWindow': WHATEVER THE INPUT: true; the input reads as it did. -/
def timesWindowSpec : ChangeSpec := { name := "timesWindow", fn := fun _ => fun
  | [d1, d2] => { results := [.lit (.bool true)], args := [d1, d2] }
  | _ => none }
def timesWindowRow : OpenClaim := { program := "ytkjiaeolodemlae", sum := "f9cd2c50b055e5615462472b6637e34209ba2e70563c2e005f4c0e5a487bad5a", func := "meetwater/meetwaterlaw.TimesWindow", spec := "timesWindow", apart := false }
def TimesWindowSaid : Prop := timesWindowRow.holds Try.pinned (OpenSpec.ofChange timesWindowSpec)

/-- ITS FALSE NEIGHBOUR: 'it returns false'. Refute it at one input. -/
def timesWindowWrong : ChangeSpec := { name := "timesWindow", fn := fun _ => fun
  | [d1, d2] => { results := [.lit (.bool false)], args := [d1, d2] }
  | _ => none }
def TimesWindowWrongFalsely : Prop := timesWindowRow.holds Try.pinned (OpenSpec.ofChange timesWindowWrong)

/-- 'meetwaterlaw.TimesMeets': WHATEVER THE INPUT: true; the input reads as it did. -/
def timesMeetsSpec : ChangeSpec := { name := "timesMeets", fn := fun _ => fun
  | [d1, d2, d3, d4] => { results := [.lit (.bool true)], args := [d1, d2, d3, d4] }
  | _ => none }
def timesMeetsRow : OpenClaim := { program := "ytkjiaeolodemlae", sum := "f9cd2c50b055e5615462472b6637e34209ba2e70563c2e005f4c0e5a487bad5a", func := "meetwater/meetwaterlaw.TimesMeets", spec := "timesMeets", apart := false }
def TimesMeetsSaid : Prop := timesMeetsRow.holds Try.pinned (OpenSpec.ofChange timesMeetsSpec)

/-- ITS FALSE NEIGHBOUR: 'it returns false'. Refute it at one input. -/
def timesMeetsWrong : ChangeSpec := { name := "timesMeets", fn := fun _ => fun
  | [d1, d2, d3, d4] => { results := [.lit (.bool false)], args := [d1, d2, d3, d4] }
  | _ => none }
def TimesMeetsWrongFalsely : Prop := timesMeetsRow.holds Try.pinned (OpenSpec.ofChange timesMeetsWrong)

/-- 'meetwaterlaw.TimesUntil': WHATEVER THE INPUT: true; the input reads as it did. -/
def timesUntilSpec : ChangeSpec := { name := "timesUntil", fn := fun _ => fun
  | [d1, d2] => { results := [.lit (.bool true)], args := [d1, d2] }
  | _ => none }
def timesUntilRow : OpenClaim := { program := "ytkjiaeolodemlae", sum := "f9cd2c50b055e5615462472b6637e34209ba2e70563c2e005f4c0e5a487bad5a", func := "meetwater/meetwaterlaw.TimesUntil", spec := "timesUntil", apart := false }
def TimesUntilSaid : Prop := timesUntilRow.holds Try.pinned (OpenSpec.ofChange timesUntilSpec)

/-- ITS FALSE NEIGHBOUR: 'it returns false'. Refute it at one input. -/
def timesUntilWrong : ChangeSpec := { name := "timesUntil", fn := fun _ => fun
  | [d1, d2] => { results := [.lit (.bool false)], args := [d1, d2] }
  | _ => none }
def TimesUntilWrongFalsely : Prop := timesUntilRow.holds Try.pinned (OpenSpec.ofChange timesUntilWrong)

/-- 'meetwaterlaw.TimesPass': WHATEVER THE INPUT: true; the input reads as it did. -/
def timesPassSpec : ChangeSpec := { name := "timesPass", fn := fun _ => fun
  | [d1, d2, d3, d4, d5, d6] => { results := [.lit (.bool true)], args := [d1, d2, d3, d4, d5, d6] }
  | _ => none }
def timesPassRow : OpenClaim := { program := "ytkjiaeolodemlae", sum := "f9cd2c50b055e5615462472b6637e34209ba2e70563c2e005f4c0e5a487bad5a", func := "meetwater/meetwaterlaw.TimesPass", spec := "timesPass", apart := false }
def TimesPassSaid : Prop := timesPassRow.holds Try.pinned (OpenSpec.ofChange timesPassSpec)

/-- ITS FALSE NEIGHBOUR: 'it returns false'. Refute it at one input. -/
def timesPassWrong : ChangeSpec := { name := "timesPass", fn := fun _ => fun
  | [d1, d2, d3, d4, d5, d6] => { results := [.lit (.bool false)], args := [d1, d2, d3, d4, d5, d6] }
  | _ => none }
def TimesPassWrongFalsely : Prop := timesPassRow.holds Try.pinned (OpenSpec.ofChange timesPassWrong)

/-- 'meetwaterlaw.ChangeAdds': WHATEVER THE INPUT: true; the input reads as it did. -/
def changeAddsSpec : ChangeSpec := { name := "changeAdds", fn := fun _ => fun
  | [d1, d2, d3] => { results := [.lit (.bool true)], args := [d1, d2, d3] }
  | _ => none }
def changeAddsRow : OpenClaim := { program := "ytkjiaeolodemlae", sum := "f9cd2c50b055e5615462472b6637e34209ba2e70563c2e005f4c0e5a487bad5a", func := "meetwater/meetwaterlaw.ChangeAdds", spec := "changeAdds", inPlace := ["internal/bytealg.abigen_runtime_cmpstring"], unfollowed := true, recurses := true, apart := false }
def ChangeAddsSaid : Prop := changeAddsRow.holds Try.pinned (OpenSpec.ofChange changeAddsSpec)

/-- ITS FALSE NEIGHBOUR: 'it returns false'. Refute it at one input. -/
def changeAddsWrong : ChangeSpec := { name := "changeAdds", fn := fun _ => fun
  | [d1, d2, d3] => { results := [.lit (.bool false)], args := [d1, d2, d3] }
  | _ => none }
def ChangeAddsWrongFalsely : Prop := changeAddsRow.holds Try.pinned (OpenSpec.ofChange changeAddsWrong)

/-- 'meetwaterlaw.ChangeFolds': WHATEVER THE INPUT: true; the input reads as it did. -/
def changeFoldsSpec : ChangeSpec := { name := "changeFolds", fn := fun _ => fun
  | [d1, d2] => { results := [.lit (.bool true)], args := [d1, d2] }
  | _ => none }
def changeFoldsRow : OpenClaim := { program := "ytkjiaeolodemlae", sum := "f9cd2c50b055e5615462472b6637e34209ba2e70563c2e005f4c0e5a487bad5a", func := "meetwater/meetwaterlaw.ChangeFolds", spec := "changeFolds", inPlace := ["internal/bytealg.abigen_runtime_cmpstring"], unfollowed := true, recurses := true, apart := false }
def ChangeFoldsSaid : Prop := changeFoldsRow.holds Try.pinned (OpenSpec.ofChange changeFoldsSpec)

/-- ITS FALSE NEIGHBOUR: 'it returns false'. Refute it at one input. -/
def changeFoldsWrong : ChangeSpec := { name := "changeFolds", fn := fun _ => fun
  | [d1, d2] => { results := [.lit (.bool false)], args := [d1, d2] }
  | _ => none }
def ChangeFoldsWrongFalsely : Prop := changeFoldsRow.holds Try.pinned (OpenSpec.ofChange changeFoldsWrong)

/- THE SECOND FORM. 'bulk': how many values and letters a reading holds, each counted each time it is reached (what is shared counts as often as it is met; a slice's spare places count too). A statement '..UptoSaid' is the law's where the arguments, and the package variables that the reading takes, are together of bulk at most 1048576: NARROWER than '..Said'. Prove '..Said' where nothing that the law and all that it calls make is longer than what came in: it says more and counts as full. Else prove '..UptoSaid'. A law counts once. -/
mutual
def uptoBulk {H : Type} : DataW H → Nat
  | .lit (.string bytes) => bytes.length + 1
  | .lit _ => 1
  | .nil => 1
  | .ptr d => uptoBulk d + 1
  | .slice elems spare => uptoBulkAll elems + uptoBulkAll spare + 1
  | .agg parts => uptoBulkAll parts + 1
  | .iface _ d => uptoBulk d + 1
  | .map entries => uptoBulkEntries entries + 1
  | .held _ => 1
def uptoBulkAll {H : Type} : List (DataW H) → Nat
  | [] => 0
  | d :: r => uptoBulk d + uptoBulkAll r
def uptoBulkEntries {H : Type} : List (Lit × DataW H) → Nat
  | [] => 0
  | x :: r => uptoBulkEntry x + uptoBulkEntries r
def uptoBulkEntry {H : Type} : Lit × DataW H → Nat
  | (.string bytes, d) => bytes.length + uptoBulk d + 1
  | (_, d) => uptoBulk d + 1
 end
def uptoSmall : (H : Type) → List (DataW H) → Bool := fun _ ds => decide (uptoBulkAll ds ≤ 1048576)
def OpenSpec.upto (s : _root_.Go.ChangeSpec) : _root_.Go.OpenSpec := { _root_.Go.OpenSpec.ofChange s with cond := some uptoSmall }

/-- 'meetwaterlaw.TimesWindow', WHERE WHAT IT READS IS OF BULK AT MOST 1048576: true; the input reads as it did. -/
def timesWindowUptoRow : OpenClaim := { program := "ytkjiaeolodemlae", sum := "f9cd2c50b055e5615462472b6637e34209ba2e70563c2e005f4c0e5a487bad5a", func := "meetwater/meetwaterlaw.TimesWindow", spec := "timesWindow", apart := false, narrowed := true }
def TimesWindowUptoSaid : Prop := timesWindowUptoRow.holds Try.pinned (OpenSpec.upto timesWindowSpec)

/-- 'meetwaterlaw.TimesMeets', WHERE WHAT IT READS IS OF BULK AT MOST 1048576: true; the input reads as it did. -/
def timesMeetsUptoRow : OpenClaim := { program := "ytkjiaeolodemlae", sum := "f9cd2c50b055e5615462472b6637e34209ba2e70563c2e005f4c0e5a487bad5a", func := "meetwater/meetwaterlaw.TimesMeets", spec := "timesMeets", apart := false, narrowed := true }
def TimesMeetsUptoSaid : Prop := timesMeetsUptoRow.holds Try.pinned (OpenSpec.upto timesMeetsSpec)

/-- 'meetwaterlaw.TimesUntil', WHERE WHAT IT READS IS OF BULK AT MOST 1048576: true; the input reads as it did. -/
def timesUntilUptoRow : OpenClaim := { program := "ytkjiaeolodemlae", sum := "f9cd2c50b055e5615462472b6637e34209ba2e70563c2e005f4c0e5a487bad5a", func := "meetwater/meetwaterlaw.TimesUntil", spec := "timesUntil", apart := false, narrowed := true }
def TimesUntilUptoSaid : Prop := timesUntilUptoRow.holds Try.pinned (OpenSpec.upto timesUntilSpec)

/-- 'meetwaterlaw.TimesPass', WHERE WHAT IT READS IS OF BULK AT MOST 1048576: true; the input reads as it did. -/
def timesPassUptoRow : OpenClaim := { program := "ytkjiaeolodemlae", sum := "f9cd2c50b055e5615462472b6637e34209ba2e70563c2e005f4c0e5a487bad5a", func := "meetwater/meetwaterlaw.TimesPass", spec := "timesPass", apart := false, narrowed := true }
def TimesPassUptoSaid : Prop := timesPassUptoRow.holds Try.pinned (OpenSpec.upto timesPassSpec)

/-- 'meetwaterlaw.ChangeAdds', WHERE WHAT IT READS IS OF BULK AT MOST 1048576: true; the input reads as it did. -/
def changeAddsUptoRow : OpenClaim := { program := "ytkjiaeolodemlae", sum := "f9cd2c50b055e5615462472b6637e34209ba2e70563c2e005f4c0e5a487bad5a", func := "meetwater/meetwaterlaw.ChangeAdds", spec := "changeAdds", inPlace := ["internal/bytealg.abigen_runtime_cmpstring"], unfollowed := true, recurses := true, apart := false, narrowed := true }
def ChangeAddsUptoSaid : Prop := changeAddsUptoRow.holds Try.pinned (OpenSpec.upto changeAddsSpec)

/-- 'meetwaterlaw.ChangeFolds', WHERE WHAT IT READS IS OF BULK AT MOST 1048576: true; the input reads as it did. -/
def changeFoldsUptoRow : OpenClaim := { program := "ytkjiaeolodemlae", sum := "f9cd2c50b055e5615462472b6637e34209ba2e70563c2e005f4c0e5a487bad5a", func := "meetwater/meetwaterlaw.ChangeFolds", spec := "changeFolds", inPlace := ["internal/bytealg.abigen_runtime_cmpstring"], unfollowed := true, recurses := true, apart := false, narrowed := true }
def ChangeFoldsUptoSaid : Prop := changeFoldsUptoRow.holds Try.pinned (OpenSpec.upto changeFoldsSpec)

end Rows
end Go.Proofs.Ytkjiaeolodemlae
