import Derived.Test.YtbfbgdinhiglaaaGreatMgBatI
import Derived.Test.YtbfbgdinhiglaaaGreatS8
import Derived.Test.YtbfbgdinhiglaaaGreatMgPlnA
import Derived.Test.YtbfbgdinhiglaaaGreatS2
import Derived.ChangeSame
import Derived.Lib.SmallJoins
import Derived.Test.YtbfbgdinhiglaaaGreatMgChgD
import Derived.Test.YtbfbgdinhiglaaaGreatS11
namespace Go.Proofs.YtbfbgdinhiglaaaGreat.gr
open Go.ChangeShapes Go.WideShapes Go.ChangeAt Go.RowKit
open vl pl bt
set_option linter.unusedVariables false
set_option linter.unusedSimpArgs false
structure Grp where
 row : List Cel
 n : Int
 bags : List (List Tal)
instance : Inhabited Grp := ⟨⟨[], 0, []⟩⟩
structure GX where
 r : Option Addr
 rc : Nat
 b : Option Addr
 bc : Nat
 hs : List (Option Addr × Nat × Nat)
instance : Inhabited GX := ⟨⟨none, 0, none, 0, []⟩⟩
def grpV (x : GX) (g : Grp) : Value := .agg #[.slice x.r g.row.length x.rc, .int .i64 g.n, .slice x.b g.bags.length x.bc]
structure gAt (w : World) (x : GX) (g : Grp) : Prop where
 row : vl.rowAt w x.r g.row
 hs : hdrsAt w x.b x.hs
 len : x.hs.length = g.bags.length
 hl : ∀ i, i < g.bags.length → (x.hs.getD i (none, 0, 0)).2.1 = (g.bags.getD i []).length
 bag : ∀ i, i < g.bags.length → bagAt w (x.hs.getD i (none, 0, 0)).1 (g.bags.getD i [])
theorem rowAt_later {w w' : World} {a : Option Addr} {r : List Cel} (h : vl.rowAt w a r) (hb : Below w.heap.size w w') : vl.rowAt w' a r := vl.rowAt_below h hb
theorem hdrsAt_below {w w' : World} {a : Option Addr} {l : List (Option Addr × Nat × Nat)} (h : hdrsAt w a l) (hb : Below w.heap.size w w') : hdrsAt w' a l := fun i hi => by
 obtain ⟨b, o, e, x⟩ := h i hi
 exact ⟨b, o, e, cL hb x⟩
theorem gAt.below {w w' : World} {x : GX} {g : Grp} (h : gAt w x g) (hb : Below w.heap.size w w') : gAt w' x g :=
 ⟨rowAt_later h.row hb, hdrsAt_below h.hs hb, h.len, h.hl, fun i hi => bagAt_below (h.bag i hi) hb⟩
structure gsAt (w : World) (a : Option Addr) (xs : List GX) (gs : List Grp) : Prop where
 len : xs.length = gs.length
 cells : ∀ i, i < gs.length → ∃ b o, a = some ⟨b, o, none⟩ ∧ w.cell? ⟨b, o + i * 3, none⟩ = some (.slice (xs.getD i default).r (gs.getD i default).row.length (xs.getD i default).rc) ∧ w.cell? ⟨b, o + i * 3 + 1, none⟩ = some (.int .i64 (gs.getD i default).n) ∧ w.cell? ⟨b, o + i * 3 + 2, none⟩ = some (.slice (xs.getD i default).b (gs.getD i default).bags.length (xs.getD i default).bc)
 each : ∀ i, i < gs.length → gAt w (xs.getD i default) (gs.getD i default)
theorem gsAt.below {w w' : World} {a : Option Addr} {xs : List GX} {gs : List Grp} (h : gsAt w a xs gs) (hb : Below w.heap.size w w') : gsAt w' a xs gs :=
 ⟨h.len, fun i hi => by
  obtain ⟨b, o, e, x1, x2, x3⟩ := h.cells i hi
  exact ⟨b, o, e, cL hb x1, cL hb x2, cL hb x3⟩, fun i hi => (h.each i hi).below hb⟩
structure wfG (g : Grp) : Prop where
 row : wfRow g.row
 rl : g.row.length ≤ 9223372036854775807
 n : i64 g.n
 bl : g.bags.length ≤ 9223372036854775807
 tl : ∀ l ∈ g.bags, l.length ≤ 9223372036854775807 ∧ ∀ t ∈ l, t.1.s.size ≤ maxLen ∧ i64 t.1.n ∧ i64 t.2
def valB (c : Cel) (col : Int) : Bool := decide (chk c.k c.n c.s = 0) && (decide (c.k = 0) || decide (c.k = col))
def talB (col rest : Int) (prev : Option Cel) (t : Tal) : Bool := valB t.1 col && decide (1 ≤ t.2) && decide (t.2 ≤ rest) && (match prev with | none => true | some c => decide (cmpC c t.1 < 0))
def talsB (col : Int) : Int → Option Cel → List Tal → Bool
 | rest, _, [] => decide (rest = 0)
 | rest, prev, t :: l => talB col rest prev t && talsB col (rest - t.2) (some t.1) l
def prevOf (l : List Tal) (k : Nat) : Option Cel := if k = 0 then none else some (l.getD (k - 1) default).1
theorem tals_step {col rest : Int} {l : List Tal} {k : Nat} (h : k < l.length) : talsB col rest (prevOf l k) (l.drop k) = (talB col rest (prevOf l k) (l.getD k default) && talsB col (rest - (l.getD k default).2) (prevOf l (k + 1)) (l.drop (k + 1))) := by
 have e : l.drop k = l.getD k default :: l.drop (k + 1) := by
  rw [List.drop_eq_getElem_cons h, List.getD_eq_getElem?_getD, List.getElem?_eq_getElem h]; rfl
 rw [e, talsB]
 unfold prevOf
 simp
theorem tals_end {col rest : Int} {l : List Tal} {k : Nat} (h : l.length ≤ k) : talsB col rest (prevOf l k) (l.drop k) = decide (rest = 0) := by
 rw [List.drop_of_length_le h, talsB]
def bagB (c : List Int) (a : Int × Int) (n : Int) (l : List Tal) : Bool := if a.1 = 1 then decide (l.length = 0) else talsB (c.getD a.2.toNat 0) n none l
def bagsB (c : List Int) (aggs : List (Int × Int)) (g : Grp) : Bool := decide (g.bags.length = aggs.length) && allB g.bags.length (fun i => bagB c (aggs.getD i (0, 0)) g.n (g.bags.getD i []))
def ownCols (p : Pln) : List Int := p.group.map fun at1 => (cols p).getD at1.toNat 0
def grpB (p : Pln) (gs : List Grp) (i : Nat) : Bool :=
 decide (keyErr (gs.getD i default).row = 0) && typedB (gs.getD i default).row (ownCols p) && (decide (1 ≤ (gs.getD i default).n) && decide ((gs.getD i default).n ≤ 1073741824)) && (decide (i = 0) || decide (cmpRows (gs.getD (i - 1) default).row (gs.getD i default).row < 0)) && bagsB (cols p) p.aggs (gs.getD i default)
noncomputable def grpsErr (p : Pln) (gs : List Grp) : Int := if planErr p ≠ 0 then planErr p else if p.grouped = false then 1 else if 4096 < gs.length then 2 else if allB gs.length (grpB p gs) = false then 1 else 0
end Go.Proofs.YtbfbgdinhiglaaaGreat.gr
namespace Go.Proofs.YtbfbgdinhiglaaaGreat.gr
open Go.ChangeShapes Go.WideShapes Go.ChangeAt Go.RowKit Go.Joins Go.Deep
open vl pl bt
set_option linter.unusedVariables false
set_option linter.unusedSimpArgs false
theorem cellsT : Tryz.prog.cellsOf 82 = 4 := by kernel_rfl
theorem cellsGr : Tryz.prog.cellsOf 53 = 3 := by kernel_rfl
theorem cellsBg : Tryz.prog.cellsOf 61 = 1 := by kernel_rfl
theorem cellsBs : Tryz.prog.cellsOf 51 = 1 := by kernel_rfl
theorem cellsRow : Tryz.prog.cellsOf 50 = 1 := by kernel_rfl
def wfT (t : Tal) : Prop := t.1.s.size ≤ maxLen ∧ i64 t.1.n ∧ i64 t.2
section
variable {H : Type} {enc : TypeId × Value → H} {w : World} {base : Nat} {spare : Nat → Bool} {held : Bool}
theorem open_one {v : Value} {y : DataW H × List MemPlace} {fuel : Nat} (h : DataW.trod enc Tryz.prog w base spare held fuel 50 [v] = some y) :
 ∃ a len cap r, v = .slice a len cap ∧ List.length (α := Cel) r = len ∧ vl.rowAt w a r ∧ wfRow r ∧ len ≤ 9223372036854775807 := by
 rcases open_slice Tryz.underlying50 h with ⟨hcs, _⟩ | ⟨x, l, c, m, n, D, Pl, hcs, _⟩
 ·simp at hcs
  subst hcs
  obtain ⟨r, h1, h2, h3, h4⟩ := open_row (a := none) (len := 0) (cap := 0) (d := y.1) (p := y.2) ⟨fuel, h⟩
  exact ⟨_, _, _, r, rfl, h1, h2, h3, h4⟩
 ·simp at hcs
  subst hcs
  obtain ⟨r, h1, h2, h3, h4⟩ := open_row (a := some x) (len := l) (cap := c) (d := y.1) (p := y.2) ⟨fuel, h⟩
  exact ⟨_, _, _, r, rfl, h1, h2, h3, h4⟩
set_option maxRecDepth 100000 in
theorem open_tal {x : Addr} {cs : List Value} {y : DataW H × List MemPlace} {fuel : Nat} (hc : w.cells? base x 4 = some cs) (ht : DataW.trod enc Tryz.prog w base spare held fuel 82 cs = some y) :
 ∃ (b off : Nat) (t : Tal), x = ⟨b, off, none⟩ ∧ w.cell? ⟨b, off, none⟩ = some (.int .i64 t.1.k) ∧ w.cell? ⟨b, off + 1, none⟩ = some (.int .i64 t.1.n) ∧ w.cell? ⟨b, off + 2, none⟩ = some (.string t.1.s) ∧ w.cell? ⟨b, off + 3, none⟩ = some (.int .i64 t.2) ∧ wfT t := by
 obtain ⟨_, hlen, hat⟩ := World.cells?_some hc
 obtain ⟨y0, y1, n, _, _, h0, h1⟩ := trod_struct2 Tryz.underlying82 ht
 match cs, hlen with
 | [a0, a1, a2, a3], _ =>
  simp [cellsV] at h0
  obtain ⟨z0, z1, z2, n2, _, _, g0, g1, g2⟩ := trod_struct3 Tryz.underlying68 h0
  obtain ⟨k, e0, _, wk⟩ := DataW.trod_int Tryz.underlying3 g0
  obtain ⟨m, e1, _, wm⟩ := DataW.trod_int Tryz.underlying3 g1
  obtain ⟨s, e2, _, hs⟩ := DataW.trod_string Tryz.underlying9 g2
  obtain ⟨q, e3, _, wq⟩ := DataW.trod_int Tryz.underlying3 h1
  simp [cellsInt] at e0
  simp [cellsInt] at e1
  simp [cellsStr] at e2
  simp [cellsInt] at e3
  subst e0 e1 e2 e3
  obtain ⟨b, off, spot⟩ := x
  have g0 := hat 0 (by omega)
  have g1 := hat 1 (by omega)
  have g2 := hat 2 (by omega)
  have g3 := hat 3 (by omega)
  have hspot : spot = none := by simpa [Addr.add] using World.cell?_spot g0
  subst hspot
  refine ⟨b, off, (⟨k, m, s⟩, q), rfl, ?_, ?_, ?_, ?_, hs, bounds_i64 wm, bounds_i64 wq⟩
  ·simpa [Addr.add] using g0
  ·simpa [Addr.add] using g1
  ·simpa [Addr.add] using g2
  ·simpa [Addr.add] using g3
theorem add_at4 (b off j : Nat) : (⟨b, off, none⟩ : Addr).add j = ⟨b, off + j, none⟩ := by unfold Addr.add; split <;> simp_all
theorem open_bag {v : Value} {y : DataW H × List MemPlace} {fuel : Nat} (hf : DataW.trod enc Tryz.prog w base spare held fuel 61 [v] = some y) :
 ∃ (h : Option Addr × Nat × Nat) (l : List Tal), v = .slice h.1 h.2.1 h.2.2 ∧ h.2.1 = l.length ∧ bagAt w h.1 l ∧ l.length ≤ 9223372036854775807 ∧ ∀ t ∈ l, wfT t := by
 rcases open_slice Tryz.underlying61 hf with ⟨hcs, _⟩ | ⟨x, len, c, m, n, D, Pl, hcs, _, hl, hm, hmm, _, hel⟩
 ·simp at hcs
  subst hcs
  exact ⟨(none, 0, 0), [], rfl, rfl, fun i hi => absurd hi (Nat.not_lt_zero i), by simp, fun t ht => by cases ht⟩
 ·simp at hcs
  subst hcs
  have hle : len ≤ m := by rw [hmm]; split <;> omega
  rw [cellsT] at hel
  obtain ⟨f, hfam⟩ := choose_lt (α := Tal) (n := len) (p := fun i t => ∃ b off, x = ⟨b, off, none⟩ ∧ w.cell? ⟨b, off + i * 4, none⟩ = some (.int .i64 t.1.k) ∧ w.cell? ⟨b, off + i * 4 + 1, none⟩ = some (.int .i64 t.1.n) ∧ w.cell? ⟨b, off + i * 4 + 2, none⟩ = some (.string t.1.s) ∧ w.cell? ⟨b, off + i * 4 + 3, none⟩ = some (.int .i64 t.2) ∧ wfT t) (fun i hi => by
   obtain ⟨cs', h1, h2⟩ := hel i (by omega)
   obtain ⟨b, off, t, e, g0, g1, g2, g3, hw⟩ := open_tal h1 h2
   obtain ⟨cs0, z1, z2⟩ := hel 0 (by omega)
   obtain ⟨b0, off0, c0, e0, _⟩ := open_tal z1 z2
   have ex : x = ⟨b0, off0, none⟩ := by simpa [Addr.add] using e0
   subst ex
   rw [add_at4] at e
   cases e
   exact ⟨t, b, off0, rfl, g0, g1, g2, g3, hw⟩)
  refine ⟨(some x, len, c), (List.range len).map f, rfl, by simp, fun i hi => ?_, by unfold maxLen at hm; simp; omega, fun t ht => ?_⟩
  ·have hi' : i < len := by simpa using hi
   obtain ⟨b, off, rfl, g0, g1, g2, g3, _⟩ := hfam i hi'
   have e : ((List.range len).map f).getD i default = f i := by simp [List.getD_eq_getElem?_getD, hi']
   rw [e]
   exact ⟨b, off, rfl, g0, g1, g2, g3⟩
  ·obtain ⟨i, hi, rfl⟩ := List.mem_map.1 ht
   obtain ⟨_, _, _, _, _, _, _, hw⟩ := hfam i (List.mem_range.1 hi)
   exact hw
theorem open_bags {v : Value} {y : DataW H × List MemPlace} {fuel : Nat} (hf : DataW.trod enc Tryz.prog w base spare held fuel 51 [v] = some y) :
 ∃ (ba : Option Addr) (bc : Nat) (hs : List (Option Addr × Nat × Nat)) (bags : List (List Tal)), v = .slice ba bags.length bc ∧ hdrsAt w ba hs ∧ hs.length = bags.length ∧ bags.length ≤ 9223372036854775807 ∧
  (∀ i, i < bags.length → (hs.getD i (none, 0, 0)).2.1 = (bags.getD i []).length ∧ bagAt w (hs.getD i (none, 0, 0)).1 (bags.getD i [])) ∧ ∀ l ∈ bags, l.length ≤ 9223372036854775807 ∧ ∀ t ∈ l, wfT t := by
 rcases open_slice Tryz.underlying51 hf with ⟨hcs, _⟩ | ⟨x, len, c, m, n, D, Pl, hcs, _, hl, hm, hmm, _, hel⟩
 ·simp at hcs
  subst hcs
  exact ⟨none, 0, [], [], rfl, fun i hi => absurd hi (Nat.not_lt_zero i), rfl, by simp, fun i hi => absurd hi (Nat.not_lt_zero i), fun l hl => by cases hl⟩
 ·simp at hcs
  subst hcs
  have hle : len ≤ m := by rw [hmm]; split <;> omega
  rw [cellsBg] at hel
  obtain ⟨f, hfam⟩ := choose_lt (α := (Option Addr × Nat × Nat) × List Tal) (n := len) (p := fun i q => ∃ b off, x = ⟨b, off, none⟩ ∧ w.cell? ⟨b, off + i, none⟩ = some (.slice q.1.1 q.1.2.1 q.1.2.2) ∧ q.1.2.1 = q.2.length ∧ bagAt w q.1.1 q.2 ∧ q.2.length ≤ 9223372036854775807 ∧ ∀ t ∈ q.2, wfT t) (fun i hi => by
   obtain ⟨cs', h1, h2⟩ := hel i (by omega)
   obtain ⟨_, hlen, hat⟩ := World.cells?_some h1
   match cs', hlen with
   | [u], _ =>
    obtain ⟨h, l, hv, r1, r2, r3, r4⟩ := open_bag h2
    have g0 := hat 0 (by omega)
    obtain ⟨b, off, spot⟩ := x
    obtain ⟨cs0, z1, _⟩ := hel 0 (by omega)
    obtain ⟨_, hl0, hat0⟩ := World.cells?_some z1
    obtain ⟨u0, hu0⟩ : ∃ u0, cs0 = [u0] := by
     match cs0, hl0 with
     | [u0], _ => exact ⟨u0, rfl⟩
    subst hu0
    have g00 : w.cell? ((Addr.mk b off spot).add (0 * 1) |>.add 0) = some u0 := hat0 0 (by omega)
    have hspot : spot = none := by simpa [Addr.add] using World.cell?_spot g00
    subst hspot
    rw [Nat.mul_one, add_at4] at g0
    rw [add_at4] at g0
    simp at g0
    subst hv
    exact ⟨(h, l), b, off, rfl, g0, r1, r2, r3, r4⟩)
  refine ⟨some x, c, (List.range len).map fun i => (f i).1, (List.range len).map fun i => (f i).2, by simp, fun i hi => ?_, by simp, by unfold maxLen at hm; simp; omega, fun i hi => ?_, fun l hl => ?_⟩
  ·have hi' : i < len := by simpa using hi
   obtain ⟨b, off, rfl, g0, _⟩ := hfam i hi'
   refine ⟨b, off, rfl, ?_⟩
   have e : ((List.range len).map fun i => (f i).1).getD i (none, 0, 0) = (f i).1 := by simp [List.getD_eq_getElem?_getD, hi']
   rw [e]; exact g0
  ·have hi' : i < len := by simpa using hi
   obtain ⟨_, _, _, _, r1, r2, _⟩ := hfam i hi'
   have e1 : ((List.range len).map fun i => (f i).1).getD i (none, 0, 0) = (f i).1 := by simp [List.getD_eq_getElem?_getD, hi']
   have e2 : ((List.range len).map fun i => (f i).2).getD i [] = (f i).2 := by simp [List.getD_eq_getElem?_getD, hi']
   rw [e1, e2]
   exact ⟨r1, r2⟩
  ·obtain ⟨i, hi, rfl⟩ := List.mem_map.1 hl
   obtain ⟨_, _, _, _, _, _, r3, r4⟩ := hfam i (List.mem_range.1 hi)
   exact ⟨r3, r4⟩
set_option maxRecDepth 100000 in
theorem open_grp {x : Addr} {cs : List Value} {y : DataW H × List MemPlace} {fuel : Nat} (hc : w.cells? base x 3 = some cs) (ht : DataW.trod enc Tryz.prog w base spare held fuel 53 cs = some y) :
 ∃ (b off : Nat) (q : GX × Grp), x = ⟨b, off, none⟩ ∧ w.cell? ⟨b, off, none⟩ = some (.slice q.1.r q.2.row.length q.1.rc) ∧ w.cell? ⟨b, off + 1, none⟩ = some (.int .i64 q.2.n) ∧ w.cell? ⟨b, off + 2, none⟩ = some (.slice q.1.b q.2.bags.length q.1.bc) ∧ gAt w q.1 q.2 ∧ wfG q.2 := by
 obtain ⟨_, hlen, hat⟩ := World.cells?_some hc
 obtain ⟨y0, y1, y2, n, _, _, h0, h1, h2⟩ := trod_struct3 Tryz.underlying53 ht
 match cs, hlen with
 | [a0, a1, a2], _ =>
  simp [cellsRow] at h0
  simp [cellsBs] at h2
  obtain ⟨ra, rl, rc, r, e0, hl, hr, hw, hm⟩ := open_one h0
  obtain ⟨q, e1, _, wq⟩ := DataW.trod_int Tryz.underlying3 h1
  obtain ⟨ba, bc, hs, bags, e2, b1, b2, b3, b4, b5⟩ := open_bags h2
  simp [cellsInt] at e1
  subst e0 e1 e2 hl
  obtain ⟨b, off, spot⟩ := x
  have g0 := hat 0 (by omega)
  have g1 := hat 1 (by omega)
  have g2 := hat 2 (by omega)
  have hspot : spot = none := by simpa [Addr.add] using World.cell?_spot g0
  subst hspot
  refine ⟨b, off, (⟨ra, rc, ba, bc, hs⟩, ⟨r, q, bags⟩), rfl, ?_, ?_, ?_, ⟨hr, b1, b2, fun i hi => (b4 i hi).1, fun i hi => (b4 i hi).2⟩, ⟨hw, hm, bounds_i64 wq, b3, fun l hl => ⟨(b5 l hl).1, fun t ht => (b5 l hl).2 t ht⟩⟩⟩
  ·simpa [Addr.add] using g0
  ·simpa [Addr.add] using g1
  ·simpa [Addr.add] using g2
theorem open_groups {a : Option Addr} {len cap : Nat} {d : DataW H} {p : List MemPlace} (h : DataW.Trod enc Tryz.prog w base spare held 26 (.slice a len cap) d p) :
 ∃ (xs : List GX) (gs : List Grp), gs.length = len ∧ gsAt w a xs gs ∧ (∀ g ∈ gs, wfG g) ∧ len ≤ 9223372036854775807 := by
 obtain ⟨fuel, hf⟩ := h
 rcases open_slice Tryz.underlying26 hf with ⟨hcs, _⟩ | ⟨x, l, c, m, n, D, Pl, hcs, _, hl, hm, hmm, _, hel⟩
 ·simp [Value.cells] at hcs
  obtain ⟨rfl, rfl, rfl⟩ := hcs
  exact ⟨[], [], rfl, ⟨rfl, fun i hi => absurd hi (Nat.not_lt_zero i), fun i hi => absurd hi (Nat.not_lt_zero i)⟩, (fun g hg => by cases hg), by omega⟩
 ·simp [Value.cells] at hcs
  obtain ⟨rfl, rfl, rfl⟩ := hcs
  have hle : len ≤ m := by rw [hmm]; split <;> omega
  rw [cellsGr] at hel
  obtain ⟨f, hfam⟩ := choose_lt (α := GX × Grp) (n := len) (p := fun i q => ∃ b off, x = ⟨b, off, none⟩ ∧ w.cell? ⟨b, off + i * 3, none⟩ = some (.slice q.1.r q.2.row.length q.1.rc) ∧ w.cell? ⟨b, off + i * 3 + 1, none⟩ = some (.int .i64 q.2.n) ∧ w.cell? ⟨b, off + i * 3 + 2, none⟩ = some (.slice q.1.b q.2.bags.length q.1.bc) ∧ gAt w q.1 q.2 ∧ wfG q.2) (fun i hi => by
   obtain ⟨cs', h1, h2⟩ := hel i (by omega)
   obtain ⟨b, off, q, e, g0, g1, g2, g3, g4⟩ := open_grp h1 h2
   obtain ⟨cs0, z1, z2⟩ := hel 0 (by omega)
   obtain ⟨b0, off0, c0, e0, _⟩ := open_grp z1 z2
   have ex : x = ⟨b0, off0, none⟩ := by simpa [Addr.add] using e0
   subst ex
   rw [add_at4] at e
   cases e
   exact ⟨q, b, off0, rfl, g0, g1, g2, g3, g4⟩)
  refine ⟨(List.range len).map fun i => (f i).1, (List.range len).map fun i => (f i).2, by simp, ⟨by simp, fun i hi => ?_, fun i hi => ?_⟩, fun g hg => ?_, by unfold maxLen at hm; omega⟩
  ·have hi' : i < len := by simpa using hi
   obtain ⟨b, off, rfl, g0, g1, g2, _⟩ := hfam i hi'
   have e1 : ((List.range len).map fun i => (f i).1).getD i default = (f i).1 := by simp [List.getD_eq_getElem?_getD, hi']
   have e2 : ((List.range len).map fun i => (f i).2).getD i default = (f i).2 := by simp [List.getD_eq_getElem?_getD, hi']
   rw [e1, e2]
   exact ⟨b, off, rfl, g0, g1, g2⟩
  ·have hi' : i < len := by simpa using hi
   obtain ⟨_, _, _, _, _, _, g3, _⟩ := hfam i hi'
   have e1 : ((List.range len).map fun i => (f i).1).getD i default = (f i).1 := by simp [List.getD_eq_getElem?_getD, hi']
   have e2 : ((List.range len).map fun i => (f i).2).getD i default = (f i).2 := by simp [List.getD_eq_getElem?_getD, hi']
   rw [e1, e2]
   exact g3
  ·obtain ⟨i, hi, rfl⟩ := List.mem_map.1 hg
   obtain ⟨_, _, _, _, _, _, _, g4⟩ := hfam i (List.mem_range.1 hi)
   exact g4
end
end Go.Proofs.YtbfbgdinhiglaaaGreat.gr
namespace Go.Proofs.YtbfbgdinhiglaaaGreat.ch
open Go.ChangeShapes Go.WideShapes Go.ChangeAt Go.RowKit Go.Joins Go.Deep
open vl
set_option linter.unusedVariables false
set_option linter.unusedSimpArgs false
theorem cellsG : Tryz.prog.cellsOf 65 = 2 := by kernel_rfl
theorem cellsR : Tryz.prog.cellsOf 50 = 1 := by kernel_rfl
section
variable {H : Type} {enc : TypeId × Value → H} {w : World} {base : Nat} {spare : Nat → Bool} {held : Bool}
theorem open_one {v : Value} {y : DataW H × List MemPlace} {fuel : Nat} (h : DataW.trod enc Tryz.prog w base spare held fuel 50 [v] = some y) :
 ∃ a len cap r, v = .slice a len cap ∧ List.length (α := Cel) r = len ∧ vl.rowAt w a r ∧ wfRow r ∧ len ≤ 9223372036854775807 := by
 rcases open_slice Tryz.underlying50 h with ⟨hcs, _⟩ | ⟨x, l, c, m, n, D, Pl, hcs, _⟩
 ·simp at hcs
  subst hcs
  obtain ⟨r, h1, h2, h3, h4⟩ := open_row (a := none) (len := 0) (cap := 0) (d := y.1) (p := y.2) ⟨fuel, h⟩
  exact ⟨_, _, _, r, rfl, h1, h2, h3, h4⟩
 ·simp at hcs
  subst hcs
  obtain ⟨r, h1, h2, h3, h4⟩ := open_row (a := some x) (len := l) (cap := c) (d := y.1) (p := y.2) ⟨fuel, h⟩
  exact ⟨_, _, _, r, rfl, h1, h2, h3, h4⟩
set_option maxRecDepth 100000 in
theorem open_chg {x : Addr} {cs : List Value} {y : DataW H × List MemPlace} {fuel : Nat} (hc : w.cells? base x 2 = some cs) (ht : DataW.trod enc Tryz.prog w base spare held fuel 65 cs = some y) :
 ∃ (b off : Nat) (c : Chg) (ra : Option Addr) (rc : Nat), x = ⟨b, off, none⟩ ∧ w.cell? ⟨b, off, none⟩ = some (.int .i64 c.k) ∧ w.cell? ⟨b, off + 1, none⟩ = some (.slice ra c.r.length rc) ∧ vl.rowAt w ra c.r ∧ wfRow c.r ∧ c.r.length ≤ 9223372036854775807 ∧ (-9223372036854775808 ≤ c.k ∧ c.k ≤ 9223372036854775807) := by
 obtain ⟨_, hlen, hat⟩ := World.cells?_some hc
 obtain ⟨y0, y1, n, _, _, h0, h1⟩ := trod_struct2 Tryz.underlying65 ht
 match cs, hlen with
 | [a0, a1], _ =>
  obtain ⟨m, e1, _, wm⟩ := DataW.trod_int Tryz.underlying3 h0
  simp [cellsInt] at e1
  subst e1
  simp [cellsR, cellsInt] at h1
  obtain ⟨ra, rl, rc, r, e0, hl, hr, hw, hm⟩ := open_one h1
  subst e0 hl
  obtain ⟨b, off, spot⟩ := x
  have g0 := hat 0 (by omega)
  have g1 := hat 1 (by omega)
  have hspot : spot = none := by simpa [Addr.add] using World.cell?_spot g0
  subst hspot
  refine ⟨b, off, ⟨m, r⟩, ra, rc, rfl, ?_, ?_, hr, hw, hm, bounds_i64 wm⟩
  ·simpa [Addr.add] using g0
  ·simpa [Addr.add] using g1
theorem open_changes {a : Option Addr} {len cap : Nat} {d : DataW H} {p : List MemPlace} (h : DataW.Trod enc Tryz.prog w base spare held 36 (.slice a len cap) d p) :
 ∃ r : List Chg, r.length = len ∧ chgsAt w a r ∧ wfChgs r ∧ (len ≤ 9223372036854775807 ∧ len ≤ cap) := by
 obtain ⟨fuel, hf⟩ := h
 rcases open_slice Tryz.underlying36 hf with ⟨hcs, _⟩ | ⟨x, l, c, m, n, D, Pl, hcs, _, hl, hm, hmm, _, hel⟩
 ·simp [Value.cells] at hcs
  obtain ⟨rfl, rfl, rfl⟩ := hcs
  exact ⟨[], rfl, fun i hi => absurd hi (Nat.not_lt_zero i), (fun c hc => by cases hc), by omega, by omega⟩
 ·simp [Value.cells] at hcs
  obtain ⟨rfl, rfl, rfl⟩ := hcs
  have hle : len ≤ m := by rw [hmm]; split <;> omega
  rw [cellsG] at hel
  obtain ⟨f, hfam⟩ := choose_lt (α := Chg) (n := len) (p := fun i c => ∃ b off ra rc, x = ⟨b, off, none⟩ ∧ w.cell? ⟨b, off + i * 2, none⟩ = some (.int .i64 c.k) ∧ w.cell? ⟨b, off + i * 2 + 1, none⟩ = some (.slice ra c.r.length rc) ∧ vl.rowAt w ra c.r ∧ wfRow c.r ∧ c.r.length ≤ 9223372036854775807 ∧ (-9223372036854775808 ≤ c.k ∧ c.k ≤ 9223372036854775807)) (fun i hi => by
   obtain ⟨cs', h1, h2⟩ := hel i (by omega)
   obtain ⟨b, off, c, ra, rc, e, g0, g1, g2, hw⟩ := open_chg h1 h2
   obtain ⟨cs0, z1, z2⟩ := hel 0 (by omega)
   obtain ⟨b0, off0, c0, ra0, rc0, e0, _⟩ := open_chg z1 z2
   have ex : x = ⟨b0, off0, none⟩ := by simpa [Addr.add] using e0
   subst ex
   have ea : (⟨b0, off0, none⟩ : Addr).add (i * 2) = ⟨b0, off0 + i * 2, none⟩ := by unfold Addr.add; split <;> simp_all
   rw [ea] at e
   cases e
   exact ⟨c, b, off0, ra, rc, rfl, g0, g1, g2, hw⟩)
  refine ⟨(List.range len).map f, by simp, ?_, ?_, by unfold maxLen at hm; omega, hl⟩
  ·intro i hi
   have hi' : i < len := by simpa using hi
   obtain ⟨b, off, ra, rc, rfl, g0, g1, g2, _⟩ := hfam i hi'
   have e : ((List.range len).map f).getD i default = f i := by simp [List.getD_eq_getElem?_getD, hi']
   rw [e]
   exact ⟨b, off, ra, rc, rfl, g0, g1, g2⟩
  ·intro c hc
   obtain ⟨i, hi, rfl⟩ := List.mem_map.1 hc
   obtain ⟨_, _, _, _, _, _, _, _, hw⟩ := hfam i (by simpa using hi)
   exact hw
end
end Go.Proofs.YtbfbgdinhiglaaaGreat.ch
namespace Go.Proofs.YtbfbgdinhiglaaaGreat.bt
open Go.ChangeShapes Go.WideShapes Go.ChangeAt Go.RowKit
open vl
set_option linter.unusedVariables false
set_option linter.unusedSimpArgs false
structure Own1 where
 v : Value
 e : TypeId
 s : Nat
 n : Nat
 xs : List Value
def Own1.here (x : Own1) (w : World) (base : Nat) : Prop := w.ownsRow base x.e x.s x.v x.n x.xs
def apart (x y : Own1) : Prop := ∀ g, x.v.ownBlock = some g → y.v.ownBlock ≠ some g
theorem apart_symm {x y : Own1} (h : apart x y) : apart y x := fun g h1 h2 => h g h2 h1
structure Est (w : World) (base : Nat) (E : List Own1) : Prop where
 low : base ≤ w.heap.size
 own : ∀ x ∈ E, x.here w base
 two : E.Pairwise apart
theorem Est_perm {w : World} {base : Nat} {E E' : List Own1} (h : Est w base E) (hp : E.Perm E') : Est w base E' :=
 ⟨h.low, fun x hx => h.own x (hp.mem_iff.2 hx), hp.pairwise h.two (fun h => apart_symm h)⟩
theorem Est_tail {w : World} {base : Nat} {x : Own1} {E : List Own1} (h : Est w base (x :: E)) : Est w base E :=
 ⟨h.low, fun y hy => h.own y (List.mem_cons_of_mem _ hy), (List.pairwise_cons.1 h.two).2⟩
theorem Est_below {w w' : World} {base : Nat} {E : List Own1} (h : Est w base E) (hb : Below w.heap.size w w') : Est w' base E :=
 ⟨Nat.le_trans h.low hb.size, fun x hx => ch.own_below (h.own x hx) hb, h.two⟩
theorem Est_frame {w w2 : World} {base : Nat} {x x' : Own1} {E : List Own1} (h : Est w base (x :: E)) (hs : w.heap.size ≤ w2.heap.size) (hblk : ∀ b, b < w.heap.size → x.v.ownBlock ≠ some b → w2.heap[b]? = w.heap[b]?) (hx : x'.here w2 base)
 (hat : ∀ g, x'.v.ownBlock = some g → x.v.ownBlock = some g ∨ w.heap.size ≤ g) : Est w2 base (x' :: E) := by
 have h2 := List.pairwise_cons.1 h.two
 refine ⟨Nat.le_trans h.low hs, fun y hy => ?_, List.pairwise_cons.2 ⟨fun y hy g hg => ?_, h2.2⟩⟩
 ·rcases List.mem_cons.1 hy with rfl | hy
  ·exact hx
  ·have hy' := h.own y (List.mem_cons_of_mem _ hy)
   exact ch.own_same hy' (fun g hg => hblk g (ch.own_lt hy' hg).2 (fun e => h2.1 y hy g e hg))
 ·rcases hat g hg with h3 | h3
  ·exact h2.1 y hy g h3
  ·intro e
   have := (ch.own_lt (h.own y (List.mem_cons_of_mem _ hy)) e).2
   omega
theorem Est_grow {w w2 : World} {base : Nat} {x x' : Own1} {E : List Own1} (h : Est w base (x :: E)) (hg : w.grownBy w2 x.v.ownBlock) (hx : x'.here w2 base) (hat : ∀ g, x'.v.ownBlock = some g → x.v.ownBlock = some g ∨ w.heap.size ≤ g) : Est w2 base (x' :: E) :=
 Est_frame h hg.size (fun b hb ho => hg.block b hb (fun e => ho e.symm)) hx hat
theorem Est_new {w w' : World} {base : Nat} {x : Own1} {E : List Own1} (h : Est w base E) (hb : Below w.heap.size w w') (hx : x.here w' base) (hn : ∀ g, x.v.ownBlock = some g → w.heap.size ≤ g) : Est w' base (x :: E) := by
 have h' := Est_below h hb
 refine ⟨h'.low, fun y hy => ?_, List.pairwise_cons.2 ⟨fun y hy g hg e => ?_, h.two⟩⟩
 ·rcases List.mem_cons.1 hy with rfl | hy
  ·exact hx
  ·exact h'.own y hy
 ·have := (ch.own_lt (h.own y hy) e).2
  have := hn g hg
  omega
theorem Est_set {w : World} {base g n cap j : Nat} {e : TypeId} {s : Nat} {xs : List Value} {E : List Own1} (h : Est w base (⟨.slice (some ⟨g, 0, none⟩) n cap, e, s, n, xs⟩ :: E)) (hj : j < n * s) (x : Value) :
 Est (w.setCell ⟨g, j, none⟩ x) base (⟨.slice (some ⟨g, 0, none⟩) n cap, e, s, n, xs.set j x⟩ :: E) := by
 have h1 : w.ownsRow base e s (.slice (some ⟨g, 0, none⟩) n cap) n xs := h.own _ (List.mem_cons_self ..)
 refine Est_frame h (by simp [World.setCell]) (fun b hb ho => Below.heap_setCell _ _ _ b (fun e => ho (by rw [e]; rfl))) (ch.own_set h1 j hj x) (fun b hb => .inl hb)
theorem run_copyS {w : World} (t e : TypeId) (i0 : TypeInfo) (s : Nat) (hu : Tryz.prog.underlying t = some (.slice e)) (hi : Tryz.prog.info? e = some i0) (hz1 : i0.size = s) (ty : TypeId) (g o dLen dCap : Nat) (a : Addr) (sLen sCap : Nat) (cur : Array Value) (te : TypeId) (cs : List Value) (hg : w.heap[g]? = some (.cells cur te (0, 0))) (hn : cs.length = Nat.min sLen dLen * s)
 (hsrc : ∀ j v, cs[j]? = some v → w.cell? (a.add j) = some v) (hfit : o + cs.length ≤ cur.size) (h1 : ∀ v ∈ cs, v.oneCell' = true) :
 (Builtin.copy_ #[t, t] ty #[.slice (some ⟨g, o, none⟩) dLen dCap, .slice (some a) sLen sCap]).run Tryz.prog w = .ok (goInt (Nat.min sLen dLen)) (w.setRow g (cur.toList.take o ++ cs ++ cur.toList.drop (o + cs.length)).toArray) := by
 have hl := run_loadCells_list (P := Tryz.prog) w a cs hsrc
 have hst := run_storeCells_at Tryz.prog g o te cs 0 cur w hg (by simpa using hfit) h1
 simp [Builtin.copy_, run_underlying hu, Builtin.lenOf, Builtin.firstCells, sizeOf, typeInfo, hi, hz1, ← hn, hl, hst]
theorem run_copyS_none {w : World} (t e : TypeId) (i0 : TypeInfo) (s : Nat) (hu : Tryz.prog.underlying t = some (.slice e)) (hi : Tryz.prog.info? e = some i0) (hz1 : i0.size = s) (ty : TypeId) (d : Option Addr) (dLen dCap : Nat) (a : Option Addr) (sLen sCap : Nat) (hn : Nat.min sLen dLen = 0) :
 (Builtin.copy_ #[t, t] ty #[.slice d dLen dCap, .slice a sLen sCap]).run Tryz.prog w = .ok (goInt 0) w := by
 have hl : ∀ x, (loadCells x 0).run Tryz.prog w = .ok #[] w := fun x => run_loadCells_list (P := Tryz.prog) w x [] (fun j v h => by cases h)
 cases a <;> cases d <;> simp [Builtin.copy_, run_underlying hu, Builtin.lenOf, Builtin.firstCells, sizeOf, typeInfo, hi, hz1, hn, hl, storeCells]
theorem copy_listS (s : Nat) (fA fB z S : List Value) (hz : z.length = s) : ((fA ++ (fB ++ z) ++ S).take (fA.length + s) ++ fB ++ (fA ++ (fB ++ z) ++ S).drop (fA.length + s + fB.length)) = (fA ++ (fB ++ z).take s ++ fB) ++ S := by
 have h1 : (fA ++ (fB ++ z) ++ S).take (fA.length + s) = fA ++ (fB ++ z).take s := by
  rw [List.append_assoc, List.take_length_add_append, List.take_append_of_le_length (by rw [List.length_append]; omega)]
 have h2 : (fA ++ (fB ++ z) ++ S).drop (fA.length + s + fB.length) = S := by
  rw [show fA.length + s + fB.length = (fA ++ (fB ++ z)).length by rw [List.length_append, List.length_append]; omega]
  exact List.drop_left
 rw [h1, h2]
theorem own_room {w2 : World} {base g cap n na nb s : Nat} {fA fB z : List Value} (t e : TypeId) (i0 : TypeInfo) (hu : Tryz.prog.underlying t = some (.slice e)) (hi : Tryz.prog.info? e = some i0) (hz1 : i0.size = s)
 (hown2 : w2.ownsRow base e s (.slice (some ⟨g, 0, none⟩) (n + 1) cap) (n + 1) (fA ++ fB ++ z)) (hA : fA.length = na * s) (hB : fB.length = nb * s) (hz : z.length = s) (hn : na + nb = n) (hone : ∀ u ∈ fB, u.oneCell' = true)
 (d2 s2 : Option Addr) (dc sc : Nat) (hd : 0 < nb → d2 = some ⟨g, (na + 1) * s, none⟩) (hs : 0 < nb → s2 = some ⟨g, na * s, none⟩) (ty : TypeId) :
 ∃ w3, (Builtin.copy_ #[t, t] ty #[.slice d2 nb dc, .slice s2 (nb + 1) sc]).run Tryz.prog w2 = .ok (goInt nb) w3 ∧
  (∃ y, y.length = s ∧ w3.ownsRow base e s (.slice (some ⟨g, 0, none⟩) (n + 1) cap) (n + 1) (fA ++ y ++ fB)) ∧ w3.heap.size = w2.heap.size ∧ (∀ b, b ≠ g → w3.heap[b]? = w2.heap[b]?) ∧ Below g w2 w3 := by
 have hmin : Nat.min (nb + 1) nb = nb := Nat.min_eq_right (by omega)
 have hyl : ((fB ++ z).take s).length = s := by rw [List.length_take, List.length_append, hz]; omega
 by_cases hnb : 0 < nb
 ·have ed := hd hnb
  have es := hs hnb
  subst ed es
  rcases hown2.2 with ⟨hv, _⟩ | ⟨g', cap', cur, hv, h1, hg, h2, h3, h4, h5⟩
  ·cases hv
  ·injection hv with e1 e2 e3
   injection e1 with e1
   injection e1 with e1 _ _
   subst e1 e3
   have hcs : ∀ j u, fB[j]? = some u → w2.cell? ((⟨g, na * s, none⟩ : Addr).add j) = some u := fun j u hu => by
    rw [ch.add_at]
    have hc := World.ownsRow.cells hown2 (g := g) rfl (na * s + j) u (by
     have hj : j < fB.length := by
      rcases Nat.lt_or_ge j fB.length with h | h
      ·exact h
      ·rw [List.getElem?_eq_none h] at hu; cases hu
     rw [List.append_assoc, List.getElem?_append_right (by omega), hA, show na * s + j - na * s = j by omega, List.getElem?_append_left hj]
     exact hu)
    rw [ch.addr_add, Nat.zero_add] at hc
    exact hc
   have hfit : (na + 1) * s + fB.length ≤ cur.size := by
    have h6 : (n + 1) * s ≤ cap * s := Nat.mul_le_mul_right _ h2
    have h7 : (n + 1) * s = (na + 1) * s + nb * s := by rw [← hn, show na + nb + 1 = (na + 1) + nb by omega, Nat.add_mul]
    omega
   have hrun := run_copyS t e i0 s hu hi hz1 ty g ((na + 1) * s) nb dc ⟨g, na * s, none⟩ (nb + 1) sc cur e fB hg (by rw [hmin, hB]) hcs hfit hone
   rw [hmin] at hrun
   obtain ⟨S, hS⟩ : ∃ S, cur.toList = fA ++ (fB ++ z) ++ S := ⟨cur.toList.drop ((n + 1) * s), by
    have e := List.take_append_drop ((n + 1) * s) cur.toList
    rw [h5, List.append_assoc fA fB z] at e
    exact e.symm⟩
   have h8 : (na + 1) * s = fA.length + s := by rw [Nat.add_mul, Nat.one_mul, hA]
   have hnew : cur.toList.take ((na + 1) * s) ++ fB ++ cur.toList.drop ((na + 1) * s + fB.length) = (fA ++ (fB ++ z).take s ++ fB) ++ S := by
    rw [hS, h8]
    exact copy_listS s fA fB z S hz
   rw [hnew] at hrun
   have hlen : (fA ++ (fB ++ z).take s ++ fB).length = (n + 1) * s := by
    simp only [List.length_append, hyl, hA, hB]
    have h7 : (n + 1) * s = (na + 1) * s + nb * s := by rw [← hn, show na + nb + 1 = (na + 1) + nb by omega, Nat.add_mul]
    rw [h7, Nat.add_mul, Nat.one_mul]
   have hsz : cur.size = ((fA ++ (fB ++ z).take s ++ fB) ++ S).length := by
    have h9 : cur.size = cur.toList.length := Array.length_toList.symm
    rw [h9, hS]
    simp only [List.length_append, hyl, hz]
    omega
   refine ⟨_, hrun, ⟨(fB ++ z).take s, hyl, hlen, .inr ⟨g, cap, _, rfl, h1, setRow_heap w2 g cur _ _ _ hg, h2, h3, ?_, ?_⟩⟩, by simp [World.setRow], fun b hb => setRow_other w2 g b _ hb, ⟨rfl, rfl, rfl, by simp [World.setRow], fun k hk => setRow_other w2 g k _ (by omega)⟩⟩
   ·rw [List.size_toArray, ← hsz]; exact h4
   ·rw [← hlen]
    exact List.take_left
 ·have hB0 : fB = [] := List.length_eq_zero_iff.1 (by rw [hB, show nb = 0 by omega, Nat.zero_mul])
  have hb0 : nb = 0 := by omega
  subst hB0 hb0
  have hrun := run_copyS_none (w := w2) t e i0 s hu hi hz1 ty d2 0 dc s2 1 sc rfl
  refine ⟨w2, hrun, ⟨z, hz, by rw [List.append_nil] at hown2 ⊢; exact hown2⟩, rfl, fun b _ => rfl, bR⟩
end Go.Proofs.YtbfbgdinhiglaaaGreat.bt
namespace Go.Proofs.YtbfbgdinhiglaaaGreat.gr
open Go.ChangeShapes Go.WideShapes Go.ChangeAt Go.RowKit
open vl bt
set_option linter.unusedVariables false
set_option linter.unusedSimpArgs false
theorem own_more {w : World} {base : Nat} {e : TypeId} {s n cap g : Nat} {xs : List Value} (h : w.ownsRow base e s (.slice (some ⟨g, 0, none⟩) n cap) n xs) (hc : n + 1 ≤ cap) : ∃ z, z.length = s ∧ w.ownsRow base e s (.slice (some ⟨g, 0, none⟩) (n + 1) cap) (n + 1) (xs ++ z) := by
 rcases h.2 with ⟨hv, _⟩ | ⟨g', cap', cur, hv, h1, hg, h2, h3, h4, h5⟩
 ·cases hv
 ·cases hv
  have hm : (n + 1) * s ≤ cap * s := Nat.mul_le_mul_right _ hc
  have hs : (n + 1) * s = n * s + s := by rw [Nat.add_mul, Nat.one_mul]
  have hcl : cur.toList.length = cap * s := by rw [Array.length_toList]; exact h4
  have e1 : cur.toList.take ((n + 1) * s) = xs ++ (cur.toList.drop (n * s)).take s := by
   rw [hs, List.take_add, h5]
  have hzl : ((cur.toList.drop (n * s)).take s).length = s := by rw [List.length_take, List.length_drop, hcl]; omega
  refine ⟨(cur.toList.drop (n * s)).take s, hzl, ?_, .inr ⟨g, cap, cur, rfl, h1, hg, hc, h3, h4, e1⟩⟩
  rw [List.length_append, hzl, h.1, hs]
theorem own_write {w : World} {base : Nat} {e : TypeId} {s n cap g : Nat} {xs : List Value} (h : w.ownsRow base e s (.slice (some ⟨g, 0, none⟩) n cap) n xs) (t : TypeId) (i0 : TypeInfo) (hu : Tryz.prog.underlying t = some (.slice e)) (hi : Tryz.prog.info? e = some i0) (hz1 : i0.size = s) (ty : TypeId)
 (A y B news : List Value) (na : Nat) (hx : xs = A ++ y ++ B) (hA : A.length = na * s) (hy : y.length = news.length) (hnl : news.length = s) (dLen dCap : Nat) (hd : 0 < dLen) (a : Addr) (sCap : Nat) (hsrc : ∀ j v, news[j]? = some v → w.cell? (a.add j) = some v) (hone : ∀ v ∈ news, v.oneCell' = true) :
 ∃ w3, (Builtin.copy_ #[t, t] ty #[.slice (some ⟨g, na * s, none⟩) dLen dCap, .slice (some a) 1 sCap]).run Tryz.prog w = .ok (goInt 1) w3 ∧ w3.ownsRow base e s (.slice (some ⟨g, 0, none⟩) n cap) n (A ++ news ++ B) ∧ w3.heap.size = w.heap.size ∧ (∀ b, b ≠ g → w3.heap[b]? = w.heap[b]?) ∧ Below g w w3 := by
 rcases h.2 with ⟨hv, _⟩ | ⟨g', cap', cur, hv, h1, hg, h2, h3, h4, h5⟩
 ·cases hv
 ·cases hv
  have hxl : xs.length = n * s := h.1
  have hm : n * s ≤ cap * s := Nat.mul_le_mul_right _ h2
  have hmin : Nat.min 1 dLen = 1 := Nat.min_eq_left hd
  have hl : A.length + news.length + B.length = n * s := by rw [← hxl, hx]; simp only [List.length_append, hy]
  have hrun := run_copyS t e i0 s hu hi hz1 ty g (na * s) dLen dCap a 1 sCap cur e news hg (by rw [hmin, Nat.one_mul]; exact hnl) hsrc (by rw [h4, ← hA]; omega) hone
  rw [hmin] at hrun
  obtain ⟨S, hS⟩ : ∃ S, cur.toList = A ++ y ++ B ++ S := ⟨cur.toList.drop (n * s), by
   have e := List.take_append_drop (n * s) cur.toList
   rw [h5, hx] at e
   exact e.symm⟩
  have hnew : cur.toList.take (na * s) ++ news ++ cur.toList.drop (na * s + news.length) = (A ++ news ++ B) ++ S := by
   rw [hS, ← hA, ← hy]
   have e1 : (A ++ y ++ B ++ S).take A.length = A := by rw [List.append_assoc, List.append_assoc]; exact List.take_left
   have e2 : (A ++ y ++ B ++ S).drop (A.length + y.length) = B ++ S := by
    rw [← List.length_append, List.append_assoc (A ++ y)]; exact List.drop_left
   rw [e1, e2]
   simp only [List.append_assoc]
  rw [hnew] at hrun
  have hsz : ((A ++ news ++ B) ++ S).length = cur.size := by
   have h9 : cur.size = cur.toList.length := Array.length_toList.symm
   rw [h9, hS]
   simp only [List.length_append, hy]
  refine ⟨_, hrun, ⟨by simp only [List.length_append]; exact hl, .inr ⟨g, cap, _, rfl, h1, setRow_heap w g cur _ _ _ hg, h2, h3, ?_, ?_⟩⟩, by simp [World.setRow], fun b hb => setRow_other w g b _ hb, ⟨rfl, rfl, rfl, by simp [World.setRow], fun k hk => setRow_other w g k _ (by omega)⟩⟩
  ·rw [List.size_toArray, hsz]; exact h4
  ·rw [show n * s = (A ++ news ++ B).length by simp only [List.length_append]; omega]
   exact List.take_left
end Go.Proofs.YtbfbgdinhiglaaaGreat.gr
namespace Go.Proofs.YtbfbgdinhiglaaaGreat.gr
open Go.ChangeShapes Go.WideShapes Go.ChangeAt Go.RowKit
open vl pl bt
set_option linter.unusedVariables false
set_option linter.unusedSimpArgs false
attribute [local go_sem] Oper.semAt_some
theorem infoG : (Tryz.prog.info? 53).map (fun i => (i.zero, i.size, i.bytes)) = some (some (.agg #[.slice none 0 0, .int .i64 0, .slice none 0 0]), 3, 56) := by kernel_rfl
set_option maxRecDepth 100000 in
set_option maxHeartbeats 4000000 in
theorem insT_end (ad : Option Addr) (n cap : Nat) (xs : List Value) (base X : Nat) (k1 k2 : Int) (ks : ByteArray) (m : Int) (w : World) (ho : w.ownsRow base 82 4 (.slice ad n cap) n xs) (hn : n ≤ 1073741824) (hb : base ≤ w.heap.size) (c0 : w.cell? ⟨X, 0, none⟩ = some (.int .i64 k1)) (c1 : w.cell? ⟨X, 1, none⟩ = some (.int .i64 k2)) (c2 : w.cell? ⟨X, 2, none⟩ = some (.string ks)) (c3 : w.cell? ⟨X, 3, none⟩ = some (.int .i64 m)) :
 Calls Tryz.prog 132 #[.slice ad n cap, .int .i64 n, .slice (some ⟨X, 0, none⟩) 1 1] w fun e w' => ∃ g cap2, e = .returned (.slice (some ⟨g, 0, none⟩) (n + 1) cap2) ∧ w'.ownsRow base 82 4 (.slice (some ⟨g, 0, none⟩) (n + 1) cap2) (n + 1) (xs ++ [.int .i64 k1, .int .i64 k2, .string ks, .int .i64 m]) ∧ w.grownBy w' (Value.slice ad n cap).ownBlock ∧ ((Value.slice ad n cap).ownBlock = some g ∨ g = w.heap.size) ∧ g < w'.heap.size := by
 obtain ⟨i0, hii, hz0, hz1, hz2⟩ := info_parts infoT
 have HI : Hid (Tryz.prog.info? 82 = some i0 ∧ i0.zero = some (.agg #[.int .i64 0, .int .i64 0, .string ⟨#[]⟩, .int .i64 0]) ∧ i0.size = 4 ∧ i0.bytes = 40) := ⟨hii, hz0, hz1, hz2⟩
 have HO : Hid (w.ownsRow base 82 4 (.slice ad n cap) n xs) := ho
 have HC : Hid (∀ j u, [.int .i64 k1, .int .i64 k2, .string ks, .int .i64 m][j]? = some u → w.cell? ((⟨X, 0, none⟩ : Addr).add j) = some u) := fun j u hu => by
  match j, hu with
  | 0, hu => simp at hu; subst hu; exact c0
  | 1, hu => simp at hu; subst hu; exact c1
  | 2, hu => simp at hu; subst hu; exact c2
  | 3, hu => simp at hu; subst hu; exact c3
  | j + 4, hu => simp at hu
 have hform : (ad = none ∧ n = 0 ∧ cap = 0) ∨ ∃ g, ad = some ⟨g, 0, none⟩ ∧ n ≤ cap := by
  rcases ho.2 with ⟨hv, h0⟩ | ⟨g, cap', cur, hv, h1, hg, h2, h3, h4, h5⟩
  ·cases hv; exact .inl ⟨rfl, rfl, rfl⟩
  ·cases hv; exact .inr ⟨g, rfl, h2⟩
 clear c0 c1 c2 c3 ho hii hz0 hz1 hz2
 rcases hform with ⟨rfl, rfl, rfl⟩ | ⟨g0, rfl, hcap⟩
 ·go_enter Tryz.func132, Tryz.ntmps132
  go_wp2_with (at_builtin; refine wpList_append_lies _ rfl (.tmp 23) (.tmp 24) 61 rfl base 82 i0 (.agg #[.int .i64 0, .int .i64 0, .string ⟨#[]⟩, .int .i64 0]) 4 40 Tryz.underlying61 HI.out.1 HI.out.2.1 HI.out.2.2.1 HI.out.2.2.2 rfl (by decide) _ 0 xs rfl HO.out ⟨X, 0, none⟩ 1 1 [.int .i64 k1, .int .i64 k2, .string ks, .int .i64 m] rfl rfl HC.out (by intro u hu; simp at hu; rcases hu with rfl | rfl | rfl | rfl <;> rfl) (by decide) (by unfold maxLen; omega) (by omega) hb _ rfl ?_; intro g cap4 w4 hown4 hgrow4 hat4 hlt4)
  go_ret
  exact ⟨g, cap4, rfl, hown4, hgrow4, hat4, hlt4⟩
 ·have i1 : (0 : Int) ≤ (n : Int) := by omega
  have i2 : (n : Int) ≤ (n : Int) := by omega
  have i3 : (n : Int) ≤ (cap : Int) := by omega
  have i4 : ((n : Int) == (n : Int)) = true := by simp
  go_enter Tryz.func132, Tryz.ntmps132
  go_wp2_with (at_builtin; refine wpList_append_lies _ rfl (.tmp 23) (.tmp 24) 61 rfl base 82 i0 (.agg #[.int .i64 0, .int .i64 0, .string ⟨#[]⟩, .int .i64 0]) 4 40 Tryz.underlying61 HI.out.1 HI.out.2.1 HI.out.2.2.1 HI.out.2.2.2 rfl (by decide) _ n xs rfl HO.out ⟨X, 0, none⟩ 1 1 [.int .i64 k1, .int .i64 k2, .string ks, .int .i64 m] rfl rfl HC.out (by intro u hu; simp at hu; rcases hu with rfl | rfl | rfl | rfl <;> rfl) (by decide) (by unfold maxLen; omega) (by omega) hb _ rfl ?_; intro g cap4 w4 hown4 hgrow4 hat4 hlt4)
  all_goals
   go_ret
   exact ⟨g, cap4, rfl, hown4, hgrow4, hat4, hlt4⟩
set_option maxRecDepth 100000 in
set_option maxHeartbeats 4000000 in
theorem insG_end (ad : Option Addr) (n cap : Nat) (xs : List Value) (base X : Nat) (ra : Option Addr) (rl rc : Nat) (m : Int) (ba : Option Addr) (bl bc : Nat) (w : World) (ho : w.ownsRow base 53 3 (.slice ad n cap) n xs) (hn : n ≤ 1073741824) (hb : base ≤ w.heap.size) (c0 : w.cell? ⟨X, 0, none⟩ = some (.slice ra rl rc)) (c1 : w.cell? ⟨X, 1, none⟩ = some (.int .i64 m)) (c2 : w.cell? ⟨X, 2, none⟩ = some (.slice ba bl bc)) :
 Calls Tryz.prog 85 #[.slice ad n cap, .int .i64 n, .slice (some ⟨X, 0, none⟩) 1 1] w fun e w' => ∃ g cap2, e = .returned (.slice (some ⟨g, 0, none⟩) (n + 1) cap2) ∧ w'.ownsRow base 53 3 (.slice (some ⟨g, 0, none⟩) (n + 1) cap2) (n + 1) (xs ++ [.slice ra rl rc, .int .i64 m, .slice ba bl bc]) ∧ w.grownBy w' (Value.slice ad n cap).ownBlock ∧ ((Value.slice ad n cap).ownBlock = some g ∨ g = w.heap.size) ∧ g < w'.heap.size := by
 obtain ⟨i0, hii, hz0, hz1, hz2⟩ := info_parts infoG
 have HI : Hid (Tryz.prog.info? 53 = some i0 ∧ i0.zero = some (.agg #[.slice none 0 0, .int .i64 0, .slice none 0 0]) ∧ i0.size = 3 ∧ i0.bytes = 56) := ⟨hii, hz0, hz1, hz2⟩
 have HO : Hid (w.ownsRow base 53 3 (.slice ad n cap) n xs) := ho
 have HC : Hid (∀ j u, [.slice ra rl rc, .int .i64 m, .slice ba bl bc][j]? = some u → w.cell? ((⟨X, 0, none⟩ : Addr).add j) = some u) := fun j u hu => by
  match j, hu with
  | 0, hu => simp at hu; subst hu; exact c0
  | 1, hu => simp at hu; subst hu; exact c1
  | 2, hu => simp at hu; subst hu; exact c2
  | j + 3, hu => simp at hu
 have hform : (ad = none ∧ n = 0 ∧ cap = 0) ∨ ∃ g, ad = some ⟨g, 0, none⟩ ∧ n ≤ cap := by
  rcases ho.2 with ⟨hv, h0⟩ | ⟨g, cap', cur, hv, h1, hg, h2, h3, h4, h5⟩
  ·cases hv; exact .inl ⟨rfl, rfl, rfl⟩
  ·cases hv; exact .inr ⟨g, rfl, h2⟩
 clear c0 c1 c2 ho hii hz0 hz1 hz2
 rcases hform with ⟨rfl, rfl, rfl⟩ | ⟨g0, rfl, hcap⟩
 ·go_enter Tryz.func85, Tryz.ntmps85
  go_wp2_with (at_builtin; refine wpList_append_lies _ rfl (.tmp 23) (.tmp 24) 26 rfl base 53 i0 (.agg #[.slice none 0 0, .int .i64 0, .slice none 0 0]) 3 56 Tryz.underlying26 HI.out.1 HI.out.2.1 HI.out.2.2.1 HI.out.2.2.2 rfl (by decide) _ 0 xs rfl HO.out ⟨X, 0, none⟩ 1 1 [.slice ra rl rc, .int .i64 m, .slice ba bl bc] rfl rfl HC.out (by intro u hu; simp at hu; rcases hu with rfl | rfl | rfl <;> rfl) (by decide) (by unfold maxLen; omega) (by omega) hb _ rfl ?_; intro g cap4 w4 hown4 hgrow4 hat4 hlt4)
  go_ret
  exact ⟨g, cap4, rfl, hown4, hgrow4, hat4, hlt4⟩
 ·have i1 : (0 : Int) ≤ (n : Int) := by omega
  have i2 : (n : Int) ≤ (n : Int) := by omega
  have i3 : (n : Int) ≤ (cap : Int) := by omega
  have i4 : ((n : Int) == (n : Int)) = true := by simp
  go_enter Tryz.func85, Tryz.ntmps85
  go_wp2_with (at_builtin; refine wpList_append_lies _ rfl (.tmp 23) (.tmp 24) 26 rfl base 53 i0 (.agg #[.slice none 0 0, .int .i64 0, .slice none 0 0]) 3 56 Tryz.underlying26 HI.out.1 HI.out.2.1 HI.out.2.2.1 HI.out.2.2.2 rfl (by decide) _ n xs rfl HO.out ⟨X, 0, none⟩ 1 1 [.slice ra rl rc, .int .i64 m, .slice ba bl bc] rfl rfl HC.out (by intro u hu; simp at hu; rcases hu with rfl | rfl | rfl <;> rfl) (by decide) (by unfold maxLen; omega) (by omega) hb _ rfl ?_; intro g cap4 w4 hown4 hgrow4 hat4 hlt4)
  all_goals
   go_ret
   exact ⟨g, cap4, rfl, hown4, hgrow4, hat4, hlt4⟩
end Go.Proofs.YtbfbgdinhiglaaaGreat.gr
