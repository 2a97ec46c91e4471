/- Two steps of a region that draws its order: an operation that yields, and one that its guard leaves out. -/
import Derived.Test.YtibjihdeknndoaaPlnKeys
import Derived.Deep.RegionHeld3
namespace Go.Proofs.Ytibjihdeknndoaa.pl
open Go.ChangeShapes Go.WideShapes Go.ChangeAt Go.RowKit
set_option linter.unusedVariables false
set_option linter.unusedSimpArgs false

theorem skipH {P : Program} {md : Region.Mode} {ops : Array Oper} {Q : Exit → Act → World → Prop} {S : World → Prop} {fuel : Nat} {listed : Array Bool} {a : Act} {w : World} {oi : Oper} (i : Nat) (d : Option Tmp) (hi : ops[i]? = some oi)
    (hs : Region.noSelect ops = true) (hf : Region.free md ops listed i = true) (hr : (Region.ready md ops listed).contains i = true) (hQ : ∀ c a w, Q (.panic c) (a.put oi.dst undef) w → Q (.panic c) a w) (hd : oi.dst = d)
    (hw : Region.wanted oi (yielded ops a.tmps) = false) (hS : S w) (h : wpAnyH P md ops Q S fuel (listed.setIfInBounds i true) (a.put d undef) w) : wpAnyH P md ops Q S (fuel + 1) listed a w :=
  wpAnyH_take hi hs hf hr hQ (Or.inr ⟨hw, rfl⟩) hS (by rw [hd]; exact h)
theorem takeH {P : Program} {md : Region.Mode} {ops : Array Oper} {Q : Exit → Act → World → Prop} {S : World → Prop} {fuel : Nat} {listed : Array Bool} {a : Act} {w : World} {oi : Oper} {v : Value} (i : Nat) (d : Option Tmp) (hi : ops[i]? = some oi)
    (hs : Region.noSelect ops = true) (hf : Region.free md ops listed i = true) (hr : (Region.ready md ops listed).contains i = true) (hQ : ∀ c a w, Q (.panic c) (a.put oi.dst v) w → Q (.panic c) a w) (hd : oi.dst = d)
    (hw : Region.wanted oi (yielded ops a.tmps) = true) (hy : ∀ w, S w → (execOp a.eval oi).run P w = .ok (.value v) w) (hS : S w) (h : wpAnyH P md ops Q S fuel (listed.setIfInBounds i true) (a.put d v) w) : wpAnyH P md ops Q S (fuel + 1) listed a w :=
  wpAnyH_take hi hs hf hr hQ (Or.inl ⟨hw, hy⟩) hS (by rw [hd]; exact h)
theorem leq_is {x y : Int} (b : Bool) (h : decide (x ≤ y) = b) : ∀ t, binOp .leq t (.int .i64 x) (.int .i64 y) = pure (.bool b) := fun t => by rw [binOp_leq, h]
theorem neq_is {x y : Int} (b : Bool) (h : (x != y) = b) : ∀ t, binOp .neq t (.int .i64 x) (.int .i64 y) = pure (.bool b) := fun t => by rw [binOp_neq, h]
theorem eql_is {x y : Int} (b : Bool) (h : (x == y) = b) : ∀ t, binOp .eql t (.int .i64 x) (.int .i64 y) = pure (.bool b) := fun t => by rw [binOp_eql, h]
theorem lss_is {x y : Int} (b : Bool) (h : decide (x < y) = b) : ∀ t, binOp .lss t (.int .i64 x) (.int .i64 y) = pure (.bool b) := fun t => by rw [binOp_lss, h]
theorem gtr_is {x y : Int} (b : Bool) (h : decide (x > y) = b) : ∀ t, binOp .gtr t (.int .i64 x) (.int .i64 y) = pure (.bool b) := fun t => by rw [binOp_gtr, h]
theorem geq_is {x y : Int} (b : Bool) (h : decide (x ≥ y) = b) : ∀ t, binOp .geq t (.int .i64 x) (.int .i64 y) = pure (.bool b) := fun t => by rw [binOp_geq, h]
end Go.Proofs.Ytibjihdeknndoaa.pl
