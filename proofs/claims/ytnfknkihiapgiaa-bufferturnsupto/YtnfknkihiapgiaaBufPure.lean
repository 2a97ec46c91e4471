/- Entries as they are told, and the order of their places. -/
import Derived.Test.YtnfknkihiapgiaaBufAll
import Derived.Test.YtnfknkihiapgiaaFvC
namespace Go.Proofs.Ytnfknkihiapgiaa.bf
open Go.ChangeShapes Go.WideShapes Go.ChangeAt Go.RowKit
open vl
set_option linter.unusedVariables false
set_option linter.unusedSimpArgs false
/-- an entry -/
structure Ent where
  key : ByteArray
  time : Int
  seq : Int
  row : List Cel
  met : Bool
deriving DecidableEq
instance : Inhabited Ent := ⟨⟨⟨#[]⟩, 0, 0, [], false⟩⟩
/-- an entry in memory is that entry -/
structure ER (w : World) (e : EM) (x : Ent) : Prop where
  key : e.key = x.key
  time : e.time = x.time
  seq : e.seq = x.seq
  met : e.met = x.met
  len : e.row.2.1 = x.row.length
  row : vl.rowAt w e.row.1 x.row
theorem ER.below {w w' : World} {e : EM} {x : Ent} (h : ER w e x) (hb : Below w.heap.size w w') : ER w' e x := ⟨h.key, h.time, h.seq, h.met, h.len, vl.rowAt_below h.row hb⟩
def ERs (w : World) (es : List EM) (l : List Ent) : Prop := es.length = l.length ∧ ∀ i, i < l.length → ER w (es.getD i default) (l.getD i default)
theorem ERs.below {w w' : World} {es : List EM} {l : List Ent} (h : ERs w es l) (hb : Below w.heap.size w w') : ERs w' es l := ⟨h.1, fun i hi => (h.2 i hi).below hb⟩
theorem ERs_nil (w : World) : ERs w [] [] := ⟨rfl, fun i hi => absurd hi (Nat.not_lt_zero i)⟩
theorem getD_app_left {α : Type} {l m : List α} {d : α} {i : Nat} (h : i < l.length) : (l ++ m).getD i d = l.getD i d := by
  simp [List.getD_eq_getElem?_getD, List.getElem?_append_left h]
theorem getD_app_right {α : Type} {l m : List α} {d : α} {i : Nat} (h : l.length ≤ i) : (l ++ m).getD i d = m.getD (i - l.length) d := by
  simp [List.getD_eq_getElem?_getD, List.getElem?_append_right h]
theorem ERs_app {w : World} {es es' : List EM} {l l' : List Ent} (h : ERs w es l) (h' : ERs w es' l') : ERs w (es ++ es') (l ++ l') := by
  refine ⟨by rw [List.length_append, List.length_append, h.1, h'.1], fun i hi => ?_⟩
  rw [List.length_append] at hi
  by_cases hl : i < l.length
  · rw [getD_app_left (by rw [h.1]; exact hl), getD_app_left hl]; exact h.2 i hl
  · rw [getD_app_right (by rw [h.1]; omega), getD_app_right (by omega), h.1]; exact h'.2 _ (by omega)
theorem ERs_one {w : World} {e : EM} {x : Ent} (h : ER w e x) : ERs w [e] [x] := ⟨rfl, fun i hi => by
  have : i = 0 := by simpa using hi
  subst this; exact h⟩

/-! ### the order of places -/
def bl (b : ByteArray) : List UInt8 := b.data.toList
theorem bl_inj {a b : ByteArray} (h : bl a = bl b) : a = b := ByteArray.ext (Array.ext' h)
/-- of two entries the one comes ahead -/
def ltP (a b : Ent) : Prop := bl a.key < bl b.key ∨ (a.key = b.key ∧ (a.time < b.time ∨ (a.time = b.time ∧ a.seq < b.seq)))
instance (a b : Ent) : Decidable (ltP a b) := by unfold ltP; exact inferInstance
/-- two entries have one place -/
def sameP (a b : Ent) : Prop := a.key = b.key ∧ a.time = b.time ∧ a.seq = b.seq
instance (a b : Ent) : Decidable (sameP a b) := by unfold sameP; exact inferInstance
/-- how two places stand -/
def cmpP (a b : Ent) : Int := if ltP a b then -1 else if sameP a b then 0 else 1
theorem less_lt : ∀ (a b : List UInt8), Op.bytesLess a b = decide (a < b)
  | [], [] => by simp [Op.bytesLess]
  | _ :: _, [] => by simp [Op.bytesLess]
  | [], _ :: _ => by simp [Op.bytesLess]
  | a :: x, b :: y => by
    rw [Op.bytesLess, less_lt x y]
    simp only [List.cons_lt_cons_iff]
    by_cases h1 : a < b <;> by_cases h2 : a = b <;> by_cases h3 : x < y <;> simp [h1, h2, h3]
theorem cmpB_is (a b : List UInt8) : Lib.compareBytes a b = if a < b then -1 else if a = b then 0 else 1 := by
  rw [less_cmp, less_lt]
  by_cases h1 : a < b <;> by_cases h2 : a = b <;> simp [h1, h2]
theorem lt_irrefl' (a : List UInt8) : ¬ a < a := List.lt_irrefl a
theorem lt_trans' {a b c : List UInt8} (h1 : a < b) (h2 : b < c) : a < c := List.lt_trans h1 h2
theorem lt_tri (a b : List UInt8) : a < b ∨ a = b ∨ b < a := by
  by_cases h1 : a < b
  · exact .inl h1
  · by_cases h2 : b < a
    · exact .inr (.inr h2)
    · exact .inr (.inl (List.le_antisymm (List.not_lt.1 h2) (List.not_lt.1 h1)))
theorem ltP_irrefl (a : Ent) : ¬ ltP a a := by
  unfold ltP
  rintro (h | ⟨_, h | ⟨_, h⟩⟩)
  · exact lt_irrefl' _ h
  · omega
  · omega
theorem ltP_trans {a b c : Ent} (h1 : ltP a b) (h2 : ltP b c) : ltP a c := by
  unfold ltP at *
  rcases h1 with h1 | ⟨e1, h1⟩
  · rcases h2 with h2 | ⟨e2, h2⟩
    · exact .inl (lt_trans' h1 h2)
    · rw [← e2]; exact .inl h1
  · rcases h2 with h2 | ⟨e2, h2⟩
    · rw [e1]; exact .inl h2
    · exact .inr ⟨e1.trans e2, by omega⟩
theorem ltP_tri (a b : Ent) : ltP a b ∨ sameP a b ∨ ltP b a := by
  unfold ltP sameP
  rcases lt_tri (bl a.key) (bl b.key) with h | h | h
  · exact .inl (.inl h)
  · have e := bl_inj h
    by_cases h1 : a.time < b.time
    · exact .inl (.inr ⟨e, .inl h1⟩)
    · by_cases h2 : b.time < a.time
      · exact .inr (.inr (.inr ⟨e.symm, .inl h2⟩))
      · have e2 : a.time = b.time := by omega
        by_cases h3 : a.seq < b.seq
        · exact .inl (.inr ⟨e, .inr ⟨e2, h3⟩⟩)
        · by_cases h4 : b.seq < a.seq
          · exact .inr (.inr (.inr ⟨e.symm, .inr ⟨e2.symm, h4⟩⟩))
          · exact .inr (.inl ⟨e, e2, by omega⟩)
  · exact .inr (.inr (.inl h))
theorem sameP_refl (a : Ent) : sameP a a := ⟨rfl, rfl, rfl⟩
theorem sameP_symm {a b : Ent} (h : sameP a b) : sameP b a := ⟨h.1.symm, h.2.1.symm, h.2.2.symm⟩
theorem sameP_trans {a b c : Ent} (h : sameP a b) (k : sameP b c) : sameP a c := ⟨h.1.trans k.1, h.2.1.trans k.2.1, h.2.2.trans k.2.2⟩
theorem ltP_same {a b c : Ent} (h : ltP a b) (k : sameP b c) : ltP a c := by
  unfold ltP at *; rw [← k.1, ← k.2.1, ← k.2.2]; exact h
theorem same_ltP {a b c : Ent} (h : sameP a b) (k : ltP b c) : ltP a c := by
  unfold ltP at *; rw [h.1, h.2.1, h.2.2]; exact k
theorem not_both {a b : Ent} (h : ltP a b) : ¬ sameP a b := fun k => ltP_irrefl _ (ltP_same h (sameP_symm k))
theorem cmpP_neg {a b : Ent} : cmpP a b < 0 ↔ ltP a b := by
  unfold cmpP
  by_cases h : ltP a b
  · simp [h]
  · by_cases h2 : sameP a b <;> simp [h, h2]
theorem cmpP_zero {a b : Ent} : cmpP a b = 0 ↔ sameP a b := by
  unfold cmpP
  by_cases h : ltP a b
  · simp [h, not_both h]
  · by_cases h2 : sameP a b <;> simp [h, h2]
theorem cmpP_first (a b : Ent) : firstNZ [Lib.compareBytes (bl a.key) (bl b.key), ordI a.time b.time, ordI a.seq b.seq] = cmpP a b := by
  have e1 := cmpB_is (bl a.key) (bl b.key)
  rw [e1]
  unfold firstNZ firstNZ firstNZ firstNZ ordI cmpP
  unfold ltP sameP
  rcases lt_tri (bl a.key) (bl b.key) with h | h | h
  · simp [h]
  · have e := bl_inj h
    simp only [h, lt_irrefl', if_false, if_true, e, false_or, true_and]
    by_cases h1 : a.time < b.time
    · simp [h1]
    · by_cases h2 : b.time < a.time
      · have h3 : ¬ a.time = b.time := by omega
        simp [h1, h2, h3]
      · have e2 : a.time = b.time := by omega
        simp only [e2, Int.lt_irrefl, if_false, false_or, true_and]
        by_cases h3 : a.seq < b.seq
        · simp [h3]
        · by_cases h4 : b.seq < a.seq
          · have h5 : ¬ a.seq = b.seq := by omega
            simp [h3, h4, h5]
          · have e3 : a.seq = b.seq := by omega
            simp [e3]
  · have h1 : ¬ bl a.key < bl b.key := fun k => lt_irrefl' _ (lt_trans' k h)
    have h2 : ¬ bl a.key = bl b.key := fun k => by rw [k] at h; exact lt_irrefl' _ h
    have h3 : ¬ a.key = b.key := fun k => h2 (by rw [k])
    simp [h1, h2, h3]
end Go.Proofs.Ytnfknkihiapgiaa.bf
