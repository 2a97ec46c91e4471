/- An entry of one's own is met: in its part, and in the buffer. -/
import Derived.Test.YtnfknkihiapgiaaBufMeetE
namespace Go.Proofs.Ytnfknkihiapgiaa.bf
open Go.ChangeShapes Go.WideShapes Go.ChangeAt Go.RowKit
open vl
set_option linter.unusedVariables false
set_option linter.unusedSimpArgs false
theorem own_set {w : World} {base : Nat} {e : TypeId} {size n cap g : Nat} {xs : List Value} (h : w.ownsRow base e size (.slice (some ⟨g, 0, none⟩) n cap) n xs) (j : Nat) (hj : j < n * size) (x : Value) : (w.setCell ⟨g, j, none⟩ x).ownsRow base e size (.slice (some ⟨g, 0, none⟩) n cap) n (xs.set j x) := by
  refine ⟨by rw [List.length_set]; exact h.1, ?_⟩
  rcases h.2 with ⟨hv, _⟩ | ⟨g', cap', cur, hv, h1, hg, h2, h3, h4, h5⟩
  · cases hv
  · cases hv
    have hm : n * size ≤ cap * size := Nat.mul_le_mul_right _ h2
    refine .inr ⟨g, cap, cur.setIfInBounds j x, rfl, h1, ?_, h2, h3, by rw [Array.size_setIfInBounds]; exact h4, ?_⟩
    · rw [setCell_eq_setRow w g j cur e (0, 0) x hg]
      exact setRow_heap w g cur _ e _ hg
    · rw [Array.toList_setIfInBounds, ← h5, List.take_set]
def EM.meet (e : EM) : EM := ⟨e.key, e.time, e.seq, e.row, true⟩
def Ent.meet (x : Ent) : Ent := ⟨x.key, x.time, x.seq, x.row, true⟩
theorem entCells_meet : ∀ (l : List EM) (i : Nat), i < l.length → (entCells l).set (i * 5 + 4) (.bool true) = entCells (l.set i (l.getD i default).meet)
  | [], i, h => absurd h (Nat.not_lt_zero i)
  | e :: l, 0, _ => rfl
  | e :: l, i + 1, h => by
    have ih := entCells_meet l i (by simpa using h)
    have e1 : entCells (e :: l) = .string e.key :: .int .i64 e.time :: .int .i64 e.seq :: hdV e.row :: .bool e.met :: entCells l := rfl
    rw [e1, show (i + 1) * 5 + 4 = (i * 5 + 4) + 1 + 1 + 1 + 1 + 1 by omega]
    simp only [List.set_cons_succ, ih, List.getD_cons_succ]
    rfl
theorem getD_set_same {α : Type} {l : List α} {i : Nat} {a d : α} (h : i < l.length) : (l.set i a).getD i d = a := by
  simp [List.getD_eq_getElem?_getD, h]
theorem getD_set_other {α : Type} {l : List α} {i j : Nat} {a d : α} (h : i ≠ j) : (l.set i a).getD j d = l.getD j d := by
  simp [List.getD_eq_getElem?_getD, List.getElem?_set_ne h]
/-- in its part -/
theorem OE_met {w : World} {base g cap i : Nat} {es : List EM} {l : List Ent} (h : OE w base (.slice (some ⟨g, 0, none⟩) es.length cap) es l) (hi : i < l.length) :
    OE (w.setCell ⟨g, i * 5 + 4, none⟩ (.bool true)) base (.slice (some ⟨g, 0, none⟩) es.length cap) (es.set i (es.getD i default).meet) (l.set i (l.getD i default).meet) := by
  have hie : i < es.length := by rw [h.len]; exact hi
  refine ⟨by simpa [World.setCell] using h.low, ?_, by rw [List.length_set, List.length_set, h.len], fun j hj => ?_⟩
  · rw [List.length_set, ← entCells_meet es i hie]
    exact own_set h.own _ (by omega) _
  · rw [List.length_set] at hj
    have keep : ∀ {e : EM} {x : Ent}, OR w base e x → OR (w.setCell ⟨g, i * 5 + 4, none⟩ (.bool true)) base e x := fun {e x} k => by
      obtain ⟨a1, a2, a3, a4, a5, a6⟩ := k
      exact ⟨a1, a2, a3, a4, a5, own_same a6 (fun b hb => heap_setCell_other _ _ _ _ (fun e => own_apart h.own a6 (by decide) (show (Value.slice (some ⟨g, 0, none⟩) es.length cap).ownBlock = some b by rw [e]; rfl) hb))⟩
    by_cases e : i = j
    · subst e
      rw [getD_set_same hie, getD_set_same hi]
      obtain ⟨a1, a2, a3, a4, a5, a6⟩ := keep (h.rows i hi)
      exact ⟨a1, a2, a3, rfl, a5, a6⟩
    · rw [getD_set_other e, getD_set_other e]
      exact keep (h.rows j hj)
/-- another part's entries stay -/
theorem OE_stay {w : World} {base base' g j cap n : Nat} {v : Value} {es es0 : List EM} {l l0 : List Ent} (h : OE w base v es l) (hg : OE w base' (.slice (some ⟨g, 0, none⟩) n cap) es0 l0) (hap : v.ownBlock ≠ some g) (u : Value) : OE (w.setCell ⟨g, j, none⟩ u) base v es l :=
  h.same (by simp [World.setCell]) (fun b cur t hb ht => heap_setCell_other _ _ _ _ (fun e => by
    dsimp only at e
    rcases ht with ⟨hv, _⟩ | ht
    · exact hap (by rw [← e]; exact hv)
    · subst ht
      exact tyAt_apart (own_ty hg.own (show (Value.slice (some ⟨g, 0, none⟩) n cap).ownBlock = some b by rw [e]; rfl)) ⟨_, _, hb⟩ (by decide) rfl))
end Go.Proofs.Ytnfknkihiapgiaa.bf
