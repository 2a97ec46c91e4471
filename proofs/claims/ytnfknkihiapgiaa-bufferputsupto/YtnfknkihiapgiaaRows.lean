/-
  No cell of these rows narrows 'for every input' (looked for: loops, veiled, ifaces, maps, wideKeys, modest, calm, conditions, laid).
  DERIVED. THE GIVEN ROWS OF THIS SEAT. 4 by the template 'for every input the law returns true; each argument reads behind the call as it read before'; 0 by the template 'total and deterministic' (their statements: YtnfknkihiapgiaaTotals.lean).
  GIVEN WITH THE SEED: the statements are not yours to turn. If you find one false, say at which input.
  Laid BY PROGRAM, IN A SANDBOX (cutbox-rows.mjs): the forced cells as the released guide's own fill.sh prints them over the translation 3df25e767adcdc44… (all of the seat's roots in one cut). By AI agents, Wed Nov 11 2026. No macro, syntax, notation, axiom, sorry.
-/
import Derived.Test.YtnfknkihiapgiaaChecked
import GoSem.Claim
import GoSem.ClaimJoined
import GoSem.ClaimMapViews
import Derived.JoinedTies
import Derived.KernelRfl
namespace Go.Proofs.Ytnfknkihiapgiaa
/- THE CELL 'sum', in the pinned program and in every row, IS THE sha256 OF THE DUMP (.gsa) THAT YtnfknkihiapgiaaProg.lean LOADS. Nothing in Lean hashes anything: it is a label: what it is worth is what the hold of that sum in a sandbox is worth. -/
noncomputable def Try.pinned : Pinned := { name := "ytnfknkihiapgiaa", sum := "3df25e767adcdc445af2897bf378cbfe03e268a4291e3bf828a277ea6ca9ce72", checked := Try.checked }
namespace Rows
def none {H : Type} : Left H := { results := [], args := [] }

/-- 'meetwaterlaw.BufferPuts': WHATEVER THE INPUT: true; the input reads as it did. -/
def bufferPutsSpec : ChangeSpec := { name := "bufferPuts", fn := fun _ => fun
  | [d1, d2, d3] => { results := [.lit (.bool true)], args := [d1, d2, d3] }
  | _ => none }
def bufferPutsRow : OpenClaim := { program := "ytnfknkihiapgiaa", sum := "3df25e767adcdc445af2897bf378cbfe03e268a4291e3bf828a277ea6ca9ce72", func := "meetwater/meetwaterlaw.BufferPuts", spec := "bufferPuts", inPlace := ["internal/bytealg.abigen_runtime_cmpstring"], unfollowed := true, recurses := true, plainKeys := false, apart := false }
def BufferPutsSaid : Prop := bufferPutsRow.holds Try.pinned (OpenSpec.ofChange bufferPutsSpec)

/-- ITS FALSE NEIGHBOUR: 'it returns false'. Refute it at one input. -/
def bufferPutsWrong : ChangeSpec := { name := "bufferPuts", fn := fun _ => fun
  | [d1, d2, d3] => { results := [.lit (.bool false)], args := [d1, d2, d3] }
  | _ => none }
def BufferPutsWrongFalsely : Prop := bufferPutsRow.holds Try.pinned (OpenSpec.ofChange bufferPutsWrong)

/-- 'meetwaterlaw.BufferTurns': WHATEVER THE INPUT: true; the input reads as it did. -/
def bufferTurnsSpec : ChangeSpec := { name := "bufferTurns", fn := fun _ => fun
  | [d1, d2, d3, d4] => { results := [.lit (.bool true)], args := [d1, d2, d3, d4] }
  | _ => none }
def bufferTurnsRow : OpenClaim := { program := "ytnfknkihiapgiaa", sum := "3df25e767adcdc445af2897bf378cbfe03e268a4291e3bf828a277ea6ca9ce72", func := "meetwater/meetwaterlaw.BufferTurns", spec := "bufferTurns", inPlace := ["internal/bytealg.abigen_runtime_cmpstring"], unfollowed := true, recurses := true, plainKeys := false, apart := false }
def BufferTurnsSaid : Prop := bufferTurnsRow.holds Try.pinned (OpenSpec.ofChange bufferTurnsSpec)

/-- ITS FALSE NEIGHBOUR: 'it returns false'. Refute it at one input. -/
def bufferTurnsWrong : ChangeSpec := { name := "bufferTurns", fn := fun _ => fun
  | [d1, d2, d3, d4] => { results := [.lit (.bool false)], args := [d1, d2, d3, d4] }
  | _ => none }
def BufferTurnsWrongFalsely : Prop := bufferTurnsRow.holds Try.pinned (OpenSpec.ofChange bufferTurnsWrong)

/-- 'meetwaterlaw.BufferTells': WHATEVER THE INPUT: true; the input reads as it did. -/
def bufferTellsSpec : ChangeSpec := { name := "bufferTells", fn := fun _ => fun
  | [d1, d2, d3, d4] => { results := [.lit (.bool true)], args := [d1, d2, d3, d4] }
  | _ => none }
def bufferTellsRow : OpenClaim := { program := "ytnfknkihiapgiaa", sum := "3df25e767adcdc445af2897bf378cbfe03e268a4291e3bf828a277ea6ca9ce72", func := "meetwater/meetwaterlaw.BufferTells", spec := "bufferTells", inPlace := ["internal/bytealg.abigen_runtime_cmpstring"], unfollowed := true, recurses := true, plainKeys := false, apart := false }
def BufferTellsSaid : Prop := bufferTellsRow.holds Try.pinned (OpenSpec.ofChange bufferTellsSpec)

/-- ITS FALSE NEIGHBOUR: 'it returns false'. Refute it at one input. -/
def bufferTellsWrong : ChangeSpec := { name := "bufferTells", fn := fun _ => fun
  | [d1, d2, d3, d4] => { results := [.lit (.bool false)], args := [d1, d2, d3, d4] }
  | _ => none }
def BufferTellsWrongFalsely : Prop := bufferTellsRow.holds Try.pinned (OpenSpec.ofChange bufferTellsWrong)

/-- 'meetwaterlaw.BufferAlike': WHATEVER THE INPUT: true; the input reads as it did. -/
def bufferAlikeSpec : ChangeSpec := { name := "bufferAlike", fn := fun _ => fun
  | [d1, d2, d3, d4] => { results := [.lit (.bool true)], args := [d1, d2, d3, d4] }
  | _ => none }
def bufferAlikeRow : OpenClaim := { program := "ytnfknkihiapgiaa", sum := "3df25e767adcdc445af2897bf378cbfe03e268a4291e3bf828a277ea6ca9ce72", func := "meetwater/meetwaterlaw.BufferAlike", spec := "bufferAlike", inPlace := ["internal/bytealg.abigen_runtime_cmpstring"], unfollowed := true, recurses := true, plainKeys := false, apart := false }
def BufferAlikeSaid : Prop := bufferAlikeRow.holds Try.pinned (OpenSpec.ofChange bufferAlikeSpec)

/-- ITS FALSE NEIGHBOUR: 'it returns false'. Refute it at one input. -/
def bufferAlikeWrong : ChangeSpec := { name := "bufferAlike", fn := fun _ => fun
  | [d1, d2, d3, d4] => { results := [.lit (.bool false)], args := [d1, d2, d3, d4] }
  | _ => none }
def BufferAlikeWrongFalsely : Prop := bufferAlikeRow.holds Try.pinned (OpenSpec.ofChange bufferAlikeWrong)

/- THE SECOND FORM. 'bulk': how many values and letters a reading holds, each counted each time it is reached (what is shared counts as often as it is met; a slice's spare places count too). A statement '..UptoSaid' is the law's where the arguments, and the package variables that the reading takes, are together of bulk at most 1048576: NARROWER than '..Said'. Prove '..Said' where nothing that the law and all that it calls make is longer than what came in: it says more and counts as full. Else prove '..UptoSaid'. A law counts once. -/
mutual
def uptoBulk {H : Type} : DataW H → Nat
  | .lit (.string bytes) => bytes.length + 1
  | .lit _ => 1
  | .nil => 1
  | .ptr d => uptoBulk d + 1
  | .slice elems spare => uptoBulkAll elems + uptoBulkAll spare + 1
  | .agg parts => uptoBulkAll parts + 1
  | .iface _ d => uptoBulk d + 1
  | .map entries => uptoBulkEntries entries + 1
  | .held _ => 1
def uptoBulkAll {H : Type} : List (DataW H) → Nat
  | [] => 0
  | d :: r => uptoBulk d + uptoBulkAll r
def uptoBulkEntries {H : Type} : List (Lit × DataW H) → Nat
  | [] => 0
  | x :: r => uptoBulkEntry x + uptoBulkEntries r
def uptoBulkEntry {H : Type} : Lit × DataW H → Nat
  | (.string bytes, d) => bytes.length + uptoBulk d + 1
  | (_, d) => uptoBulk d + 1
 end
def uptoSmall : (H : Type) → List (DataW H) → Bool := fun _ ds => decide (uptoBulkAll ds ≤ 1048576)
def OpenSpec.upto (s : _root_.Go.ChangeSpec) : _root_.Go.OpenSpec := { _root_.Go.OpenSpec.ofChange s with cond := some uptoSmall }

/-- 'meetwaterlaw.BufferPuts', WHERE WHAT IT READS IS OF BULK AT MOST 1048576: true; the input reads as it did. -/
def bufferPutsUptoRow : OpenClaim := { program := "ytnfknkihiapgiaa", sum := "3df25e767adcdc445af2897bf378cbfe03e268a4291e3bf828a277ea6ca9ce72", func := "meetwater/meetwaterlaw.BufferPuts", spec := "bufferPuts", inPlace := ["internal/bytealg.abigen_runtime_cmpstring"], unfollowed := true, recurses := true, plainKeys := false, apart := false, narrowed := true }
def BufferPutsUptoSaid : Prop := bufferPutsUptoRow.holds Try.pinned (OpenSpec.upto bufferPutsSpec)

/-- 'meetwaterlaw.BufferTurns', WHERE WHAT IT READS IS OF BULK AT MOST 1048576: true; the input reads as it did. -/
def bufferTurnsUptoRow : OpenClaim := { program := "ytnfknkihiapgiaa", sum := "3df25e767adcdc445af2897bf378cbfe03e268a4291e3bf828a277ea6ca9ce72", func := "meetwater/meetwaterlaw.BufferTurns", spec := "bufferTurns", inPlace := ["internal/bytealg.abigen_runtime_cmpstring"], unfollowed := true, recurses := true, plainKeys := false, apart := false, narrowed := true }
def BufferTurnsUptoSaid : Prop := bufferTurnsUptoRow.holds Try.pinned (OpenSpec.upto bufferTurnsSpec)

/-- 'meetwaterlaw.BufferTells', WHERE WHAT IT READS IS OF BULK AT MOST 1048576: true; the input reads as it did. -/
def bufferTellsUptoRow : OpenClaim := { program := "ytnfknkihiapgiaa", sum := "3df25e767adcdc445af2897bf378cbfe03e268a4291e3bf828a277ea6ca9ce72", func := "meetwater/meetwaterlaw.BufferTells", spec := "bufferTells", inPlace := ["internal/bytealg.abigen_runtime_cmpstring"], unfollowed := true, recurses := true, plainKeys := false, apart := false, narrowed := true }
def BufferTellsUptoSaid : Prop := bufferTellsUptoRow.holds Try.pinned (OpenSpec.upto bufferTellsSpec)

/-- 'meetwaterlaw.BufferAlike', WHERE WHAT IT READS IS OF BULK AT MOST 1048576: true; the input reads as it did. -/
def bufferAlikeUptoRow : OpenClaim := { program := "ytnfknkihiapgiaa", sum := "3df25e767adcdc445af2897bf378cbfe03e268a4291e3bf828a277ea6ca9ce72", func := "meetwater/meetwaterlaw.BufferAlike", spec := "bufferAlike", inPlace := ["internal/bytealg.abigen_runtime_cmpstring"], unfollowed := true, recurses := true, plainKeys := false, apart := false, narrowed := true }
def BufferAlikeUptoSaid : Prop := bufferAlikeUptoRow.holds Try.pinned (OpenSpec.upto bufferAlikeSpec)

end Rows
end Go.Proofs.Ytnfknkihiapgiaa
