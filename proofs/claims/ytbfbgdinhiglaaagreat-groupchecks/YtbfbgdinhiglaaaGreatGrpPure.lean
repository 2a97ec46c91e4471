/- Groups as lists, in memory, and what is wrong with them (H1). -/
import Derived.Test.YtbfbgdinhiglaaaGreatMgBatI
import Derived.Test.YtbfbgdinhiglaaaGreatMgPlnG
import Derived.Test.YtbfbgdinhiglaaaGreatMgPlnA
namespace Go.Proofs.YtbfbgdinhiglaaaGreat.gr
open Go.ChangeShapes Go.WideShapes Go.ChangeAt Go.RowKit
open vl pl bt
set_option linter.unusedVariables false
set_option linter.unusedSimpArgs false
structure Grp where
  row : List Cel
  n : Int
  bags : List (List Tal)
instance : Inhabited Grp := ⟨⟨[], 0, []⟩⟩
/-- where a group's lists lie -/
structure GX where
  r : Option Addr
  rc : Nat
  b : Option Addr
  bc : Nat
  hs : List (Option Addr × Nat × Nat)
instance : Inhabited GX := ⟨⟨none, 0, none, 0, []⟩⟩
def grpV (x : GX) (g : Grp) : Value := .agg #[.slice x.r g.row.length x.rc, .int .i64 g.n, .slice x.b g.bags.length x.bc]
/-- a group in memory -/
structure gAt (w : World) (x : GX) (g : Grp) : Prop where
  row : vl.rowAt w x.r g.row
  hs : hdrsAt w x.b x.hs
  len : x.hs.length = g.bags.length
  hl : ∀ i, i < g.bags.length → (x.hs.getD i (none, 0, 0)).2.1 = (g.bags.getD i []).length
  bag : ∀ i, i < g.bags.length → bagAt w (x.hs.getD i (none, 0, 0)).1 (g.bags.getD i [])
theorem rowAt_later {w w' : World} {a : Option Addr} {r : List Cel} (h : vl.rowAt w a r) (hb : Below w.heap.size w w') : vl.rowAt w' a r := vl.rowAt_below h hb
theorem hdrsAt_below {w w' : World} {a : Option Addr} {l : List (Option Addr × Nat × Nat)} (h : hdrsAt w a l) (hb : Below w.heap.size w w') : hdrsAt w' a l := fun i hi => by
  obtain ⟨b, o, e, x⟩ := h i hi
  exact ⟨b, o, e, cell_later hb x⟩
theorem gAt.below {w w' : World} {x : GX} {g : Grp} (h : gAt w x g) (hb : Below w.heap.size w w') : gAt w' x g :=
  ⟨rowAt_later h.row hb, hdrsAt_below h.hs hb, h.len, h.hl, fun i hi => bagAt_below (h.bag i hi) hb⟩
structure gsAt (w : World) (a : Option Addr) (xs : List GX) (gs : List Grp) : Prop where
  len : xs.length = gs.length
  cells : ∀ i, i < gs.length → ∃ b o, a = some ⟨b, o, none⟩ ∧ w.cell? ⟨b, o + i * 3, none⟩ = some (.slice (xs.getD i default).r (gs.getD i default).row.length (xs.getD i default).rc) ∧ w.cell? ⟨b, o + i * 3 + 1, none⟩ = some (.int .i64 (gs.getD i default).n) ∧ w.cell? ⟨b, o + i * 3 + 2, none⟩ = some (.slice (xs.getD i default).b (gs.getD i default).bags.length (xs.getD i default).bc)
  each : ∀ i, i < gs.length → gAt w (xs.getD i default) (gs.getD i default)
theorem gsAt.below {w w' : World} {a : Option Addr} {xs : List GX} {gs : List Grp} (h : gsAt w a xs gs) (hb : Below w.heap.size w w') : gsAt w' a xs gs :=
  ⟨h.len, fun i hi => by
    obtain ⟨b, o, e, x1, x2, x3⟩ := h.cells i hi
    exact ⟨b, o, e, cell_later hb x1, cell_later hb x2, cell_later hb x3⟩, fun i hi => (h.each i hi).below hb⟩
/-- what any group is -/
structure wfG (g : Grp) : Prop where
  row : wfRow g.row
  rl : g.row.length ≤ 9223372036854775807
  n : i64 g.n
  bl : g.bags.length ≤ 9223372036854775807
  tl : ∀ l ∈ g.bags, l.length ≤ 9223372036854775807 ∧ ∀ t ∈ l, t.1.s.size ≤ maxLen ∧ i64 t.1.n ∧ i64 t.2
/-- a value of a column's type, or Null -/
def valB (c : Cel) (col : Int) : Bool := decide (chk c.k c.n c.s = 0) && (decide (c.k = 0) || decide (c.k = col))
/-- one tally behind others -/
def talB (col rest : Int) (prev : Option Cel) (t : Tal) : Bool := valB t.1 col && decide (1 ≤ t.2) && decide (t.2 ≤ rest) && (match prev with | none => true | some c => decide (cmpC c t.1 < 0))
def talsB (col : Int) : Int → Option Cel → List Tal → Bool
  | rest, _, [] => decide (rest = 0)
  | rest, prev, t :: l => talB col rest prev t && talsB col (rest - t.2) (some t.1) l
def prevOf (l : List Tal) (k : Nat) : Option Cel := if k = 0 then none else some (l.getD (k - 1) default).1
theorem tals_step {col rest : Int} {l : List Tal} {k : Nat} (h : k < l.length) : talsB col rest (prevOf l k) (l.drop k) = (talB col rest (prevOf l k) (l.getD k default) && talsB col (rest - (l.getD k default).2) (prevOf l (k + 1)) (l.drop (k + 1))) := by
  have e : l.drop k = l.getD k default :: l.drop (k + 1) := by
    rw [List.drop_eq_getElem_cons h, List.getD_eq_getElem?_getD, List.getElem?_eq_getElem h]; rfl
  rw [e, talsB]
  unfold prevOf
  simp
theorem tals_end {col rest : Int} {l : List Tal} {k : Nat} (h : l.length ≤ k) : talsB col rest (prevOf l k) (l.drop k) = decide (rest = 0) := by
  rw [List.drop_of_length_le h, talsB]
/-- a figure's bag in a group of n rows -/
def bagB (c : List Int) (a : Int × Int) (n : Int) (l : List Tal) : Bool := if a.1 = 1 then decide (l.length = 0) else talsB (c.getD a.2.toNat 0) n none l
def bagsB (c : List Int) (aggs : List (Int × Int)) (g : Grp) : Bool := decide (g.bags.length = aggs.length) && allB g.bags.length (fun i => bagB c (aggs.getD i (0, 0)) g.n (g.bags.getD i []))
def ownCols (p : Pln) : List Int := p.group.map fun at1 => (cols p).getD at1.toNat 0
/-- the group at a place is right -/
def grpB (p : Pln) (gs : List Grp) (i : Nat) : Bool :=
  decide (keyErr (gs.getD i default).row = 0) && typedB (gs.getD i default).row (ownCols p) && (decide (1 ≤ (gs.getD i default).n) && decide ((gs.getD i default).n ≤ 1073741824)) && (decide (i = 0) || decide (cmpRows (gs.getD (i - 1) default).row (gs.getD i default).row < 0)) && bagsB (cols p) p.aggs (gs.getD i default)
/-- what is wrong with groups -/
noncomputable def grpsErr (p : Pln) (gs : List Grp) : Int := if planErr p ≠ 0 then planErr p else if p.grouped = false then 1 else if 4096 < gs.length then 2 else if allB gs.length (grpB p gs) = false then 1 else 0
end Go.Proofs.YtbfbgdinhiglaaaGreat.gr
