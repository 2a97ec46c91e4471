import Derived.Test.YtbfbgdinhiglaaaGreatS9
import Derived.Test.YtbfbgdinhiglaaaGreatMgChgD
import Derived.Laws.AppendOwnNone
import Derived.Test.YtbfbgdinhiglaaaGreatS8
import Derived.Laws.CopyRow
namespace Go.Proofs.YtbfbgdinhiglaaaGreat.ch
open Go.ChangeShapes Go.WideShapes Go.ChangeAt Go.RowKit Go.Maps Go.WideMaps Go.Sort
open vl
set_option linter.unusedVariables false
set_option linter.unusedSimpArgs false
theorem flatC_app (p q : List (Int × Value)) : flatC (p ++ q) = flatC p ++ flatC q := by unfold flatC; rw [List.flatMap_append]
end Go.Proofs.YtbfbgdinhiglaaaGreat.ch
namespace Go.Proofs.YtbfbgdinhiglaaaGreat.ch
open Go.ChangeShapes Go.WideShapes Go.ChangeAt Go.RowKit Go.Maps Go.WideMaps Go.Sort
open vl
set_option linter.unusedVariables false
set_option linter.unusedSimpArgs false
end Go.Proofs.YtbfbgdinhiglaaaGreat.ch
namespace Go.Proofs.YtbfbgdinhiglaaaGreat.ch
open Go.ChangeShapes Go.WideShapes Go.ChangeAt Go.RowKit Go.Maps Go.WideMaps
open vl
set_option linter.unusedVariables false
set_option linter.unusedSimpArgs false
end Go.Proofs.YtbfbgdinhiglaaaGreat.ch
namespace Go.Proofs.YtbfbgdinhiglaaaGreat.bt
open vl pl
set_option linter.unusedVariables false
set_option linter.unusedSimpArgs false
end Go.Proofs.YtbfbgdinhiglaaaGreat.bt
namespace Go.Proofs.YtbfbgdinhiglaaaGreat.ch
open Go.ChangeShapes Go.WideShapes Go.ChangeAt Go.RowKit Go.Maps Go.WideMaps
open vl
set_option linter.unusedVariables false
set_option linter.unusedSimpArgs false
abbrev PL := List (Value × Cnt)
def flatP (L : PL) : List Value := L.flatMap fun p => [p.1, .int .i64 p.2.n]
theorem flatP_app (L M : PL) : flatP (L ++ M) = flatP L ++ flatP M := by unfold flatP; rw [List.flatMap_append]
theorem flatP_cons (p : Value × Cnt) (L : PL) : flatP (p :: L) = p.1 :: .int .i64 p.2.n :: flatP L := rfl
theorem flatP_at (L : PL) (i : Nat) (p : Value × Cnt) (h : L[i]? = some p) : (flatP L)[i * 2]? = some p.1 ∧ (flatP L)[i * 2 + 1]? = some (.int .i64 p.2.n) := by
 induction L generalizing i with
 | nil => cases h
 | cons q r ih =>
  rw [flatP_cons]
  cases i with
  | zero => cases h; exact ⟨rfl, rfl⟩
  | succ i =>
   have := ih i (by simpa using h)
   rw [show (i + 1) * 2 = i * 2 + 1 + 1 by omega]
   simpa using this
def rowOne (w : World) (v : Value) (p : Value × Cnt) : Prop := ∃ ad cap, p.1 = .slice ad p.2.r.length cap ∧ vl.rowAt w ad p.2.r ∧ ∀ g, p.1.ownBlock = some g → v.ownBlock ≠ some g ∧ g < w.heap.size
structure MV (w : World) (base : Nat) (v : Value) (L : PL) : Prop where
 low : base ≤ w.heap.size
 own : w.ownsRow base 71 2 v L.length (flatP L)
 rows : ∀ p ∈ L, rowOne w v p
def outOf (L : PL) : List Cnt := L.map (·.2)
theorem out_len (L : PL) : (outOf L).length = L.length := by simp [outOf]
theorem out_at (L : PL) (i : Nat) (p : Value × Cnt) (h : L[i]? = some p) : (outOf L).getD i default = p.2 := by
 simp [outOf, List.getD_eq_getElem?_getD, h]
theorem rowAt_block {w w' : World} {ad : Option Addr} {r : List Cel} {cap : Nat} (h : vl.rowAt w ad r) (hb : ∀ g, (Value.slice ad r.length cap).ownBlock = some g → g < w.heap.size → w'.heap[g]? = w.heap[g]?) : vl.rowAt w' ad r := by
 intro i hi
 obtain ⟨b, o, e, x1, x2, x3⟩ := h i hi
 subst e
 have hlt : b < w.heap.size := World.block_lt_of_cell? _ _ x1
 have hbb := hb b rfl hlt
 refine ⟨b, o, rfl, ?_, ?_, ?_⟩
 ·rw [World.cell?_of_block (w := w) hbb]; exact x1
 ·rw [World.cell?_of_block (w := w) hbb]; exact x2
 ·rw [World.cell?_of_block (w := w) hbb]; exact x3
theorem rowOne_keep {w w' : World} {v v' : Value} {p : Value × Cnt} (h : rowOne w v p) (hb : ∀ g, g < w.heap.size → v.ownBlock ≠ some g → w'.heap[g]? = w.heap[g]?) (hs : w.heap.size ≤ w'.heap.size) (hv : ∀ g, g < w.heap.size → v.ownBlock ≠ some g → v'.ownBlock ≠ some g) : rowOne w' v' p := by
 obtain ⟨ad, cap, e, hr, ha⟩ := h
 refine ⟨ad, cap, e, ?_, fun g hg => ⟨hv g (ha g hg).2 (ha g hg).1, Nat.lt_of_lt_of_le (ha g hg).2 hs⟩⟩
 exact rowAt_block (cap := cap) hr (fun g hg hlt => hb g hlt (ha g (by rw [e]; exact hg)).1)
theorem MV_below {w w' : World} {base : Nat} {v : Value} {L : PL} (h : MV w base v L) (hb : Below w.heap.size w w') : MV w' base v L :=
 ⟨Nat.le_trans h.low hb.size, own_below h.own hb, fun p hp => rowOne_keep (h.rows p hp) (fun g hg _ => hb.block g hg) hb.size (fun g _ k => k)⟩
theorem MV_len {w : World} {base : Nat} {v : Value} {L : PL} (h : MV w base v L) : ∃ ad cap, v = .slice ad L.length cap ∧ (0 < L.length → ∃ g, ad = some ⟨g, 0, none⟩) := row_form h.own
theorem MV_view {w : World} {base : Nat} {ad : Option Addr} {n cap : Nat} {L : PL} (h : MV w base (.slice ad n cap) L) : viewAt w ad (outOf L) := by
 intro i hi
 rw [out_len] at hi
 obtain ⟨ad', cap', hv, hg⟩ := MV_len h
 injection hv with ha _ _
 subst ha
 obtain ⟨g, rfl⟩ := hg (by omega)
 have hp : L[i]? = some L[i] := List.getElem?_eq_getElem hi
 obtain ⟨f1, f2⟩ := flatP_at L i _ hp
 obtain ⟨ra, rc, e, hr, _⟩ := h.rows L[i] (List.getElem_mem hi)
 have hc := World.ownsRow.cells h.own (g := g) rfl
 rw [out_at L i _ hp]
 refine ⟨g, 0, ra, rc, rfl, ?_, hr, ?_⟩
 ·have := hc _ _ f1; rw [addr_add, e] at this; exact this
 ·have := hc _ _ f2; rw [addr_add] at this; exact this
theorem own_front {w : World} {base : Nat} {e : TypeId} {size n cap : Nat} {ad : Option Addr} {xs : List Value} (h : w.ownsRow base e size (.slice ad n cap) n xs) (i : Nat) (hi : i ≤ n) : w.ownsRow base e size (.slice ad i cap) i (xs.take (i * size)) := by
 have hx := h.1
 have hm : i * size ≤ n * size := Nat.mul_le_mul_right _ hi
 refine ⟨by rw [List.length_take]; omega, ?_⟩
 rcases h.2 with ⟨hv, h0⟩ | ⟨g, cap', cur, hv, h1, hg, h2, h3, h4, h5⟩
 ·injection hv with e1 e2 e3
  subst e1 e3
  have : i = 0 := by omega
  subst this
  exact .inl ⟨rfl, rfl⟩
 ·injection hv with e1 e2 e3
  subst e1 e3
  exact .inr ⟨g, cap, cur, rfl, h1, hg, by omega, h3, h4, by rw [← h5, List.take_take, Nat.min_eq_left hm]⟩
theorem own_frozen {w : World} {base : Nat} {e : TypeId} {size n cap g : Nat} {xs : List Value} (h : w.ownsRow base e size (.slice (some ⟨g, 0, none⟩) n cap) n xs) (j : Nat) : w.frozen? ⟨g, j, none⟩ = false := by
 rcases h.2 with ⟨hv, _⟩ | ⟨g', cap', cur, hv, _, hg, _⟩
 ·cases hv
 ·cases hv
  simp [World.frozen?, hg]
theorem own_set {w : World} {base : Nat} {e : TypeId} {size n cap g : Nat} {xs : List Value} (h : w.ownsRow base e size (.slice (some ⟨g, 0, none⟩) n cap) n xs) (j : Nat) (hj : j < n * size) (x : Value) : (w.setCell ⟨g, j, none⟩ x).ownsRow base e size (.slice (some ⟨g, 0, none⟩) n cap) n (xs.set j x) := by
 refine ⟨by rw [List.length_set]; exact h.1, ?_⟩
 rcases h.2 with ⟨hv, _⟩ | ⟨g', cap', cur, hv, h1, hg, h2, h3, h4, h5⟩
 ·cases hv
 ·cases hv
  have hm : n * size ≤ cap * size := Nat.mul_le_mul_right _ h2
  refine .inr ⟨g, cap, cur.setIfInBounds j x, rfl, h1, ?_, h2, h3, by rw [Array.size_setIfInBounds]; exact h4, ?_⟩
  ·rw [setCell_eq_setRow w g j cur e (0, 0) x hg]
   exact setRow_heap w g cur _ e _ hg
  ·rw [Array.toList_setIfInBounds, ← h5, List.take_set]
end Go.Proofs.YtbfbgdinhiglaaaGreat.ch
namespace Go.Proofs.YtbfbgdinhiglaaaGreat.ch
open Go.ChangeShapes Go.WideShapes Go.ChangeAt Go.RowKit Go.Maps Go.WideMaps
open vl
set_option linter.unusedVariables false
set_option linter.unusedSimpArgs false
end Go.Proofs.YtbfbgdinhiglaaaGreat.ch
namespace Go.Proofs.YtbfbgdinhiglaaaGreat.ch
open Go.ChangeShapes Go.WideShapes Go.ChangeAt Go.RowKit Go.Maps Go.WideMaps
open vl
set_option linter.unusedVariables false
set_option linter.unusedSimpArgs false
end Go.Proofs.YtbfbgdinhiglaaaGreat.ch
