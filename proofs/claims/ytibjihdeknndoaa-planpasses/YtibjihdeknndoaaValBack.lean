/- readText reads what appendText wrote, and nothing else. -/
import Derived.Test.YtibjihdeknndoaaValCode
import Derived.Lib.IndexBytes
namespace Go.Proofs.Ytibjihdeknndoaa.vl
open Go.ChangeShapes Go.WideShapes Go.ChangeAt Go.RowKit
set_option linter.unusedVariables false
set_option linter.unusedSimpArgs false

theorem own_form {w : World} {base : Nat} {v : Value} {l : List UInt8} (h : ownB w base v l) : ∃ ad cap, v = .slice ad l.length cap := by
  rcases h.2 with ⟨rfl, h0⟩ | ⟨g, cap, cur, rfl, _⟩
  · exact ⟨none, 0, by rw [h0]⟩
  · exact ⟨_, _, rfl⟩

theorem drop_cons (s : ByteArray) (k : Nat) (h : k < s.size) : s.data.toList.drop k = s[k] :: s.data.toList.drop (k + 1) := by
  rw [List.drop_eq_getElem_cons (by simpa using h)]; rfl
theorem list_len (s : ByteArray) : s.data.toList.length = s.size := Array.length_toList

/-- no text of 64 bytes at most, and its end, begin here -/
def noText (l : List UInt8) : Prop := ∀ t rest, t.length ≤ 64 → l ≠ encT t ++ 0 :: 1 :: rest
theorem noText_of {l x tail : List UInt8} (h : l = encT x ++ tail) (hn : ∀ t2 rest, (x ++ t2).length ≤ 64 → tail ≠ encT t2 ++ 0 :: 1 :: rest) : noText l := by
  intro t rest ht hl
  rw [h] at hl
  obtain ⟨t2, e1, e2⟩ := encT_split _ _ _ _ hl
  exact hn t2 rest (by rw [← e1]; exact ht) e2
theorem no_end {l x : List UInt8} (h : l = encT x ++ []) : noText l := noText_of h (fun t2 rest _ e => by simp at e)
theorem no_long {l x tail : List UInt8} (h : l = encT x ++ tail) (hx : 64 < x.length) : noText l := noText_of h (fun t2 rest ht e => by rw [List.length_append] at ht; omega)
theorem no_zero {l x : List UInt8} (h : l = encT x ++ [0]) : noText l := noText_of h (fun t2 rest _ e => by
  cases t2 with
  | nil => simp [encT] at e
  | cons b t2 =>
    rw [encT_cons] at e
    by_cases hb : b = 0
    · rw [if_pos hb] at e; simp at e
    · rw [if_neg hb] at e; simp at e)
theorem no_other {l x tail : List UInt8} {c : UInt8} (h : l = encT x ++ 0 :: c :: tail) (h1 : c ≠ 1) (h2 : c ≠ 255) : noText l := noText_of h (fun t2 rest _ e => by
  cases t2 with
  | nil => simp [encT] at e; exact h1 e.1
  | cons b t2 =>
    rw [encT_cons] at e
    by_cases hb : b = 0
    · rw [if_pos hb] at e; simp at e; exact h2 e.1
    · rw [if_neg hb] at e; simp at e; exact absurd e.1.symm hb)

theorem byte_is (b c : UInt8) : ((b.toNat : Int) == (c.toNat : Int)) = decide (b = c) := by
  rw [Bool.eq_iff_iff, beq_iff_eq, decide_eq_true_iff, ← UInt8.toNat_inj]
  omega
theorem ret3 {x y x' y' : ByteArray} {a a' : Bool} (h1 : x = x') (h2 : y = y') (h3 : a = a') : Ending.returned (.tuple #[.string x, .string y, .bool a]) = .returned (.tuple #[.string x', .string y', .bool a']) := by rw [h1, h2, h3]

end Go.Proofs.Ytibjihdeknndoaa.vl
