/- Counts in memory stay what they are. -/
import Derived.Test.YtkjiaeolodemlafChgSort
namespace Go.Proofs.Ytkjiaeolodemlaf.ch
open Go.ChangeShapes Go.WideShapes Go.ChangeAt Go.RowKit Go.Maps Go.Sort Go.WideMaps
set_option linter.unusedVariables false
set_option linter.unusedSimpArgs false

theorem cmap_below {w w' : World} {B nn : Nat} {kv : KV} (h : cmap w B nn kv) (hb : Below w.heap.size w w') : cmap w' B nn kv := by
  obtain ⟨es, clock, h1, h2, h3, h4⟩ := h
  have hlt : B < w.heap.size := by
    rcases Nat.lt_or_ge B w.heap.size with hlt | hge
    · exact hlt
    · rw [Array.getElem?_eq_none hge] at h1; cases h1
  exact ⟨es, clock, by rw [hb.block B hlt]; exact h1, h2, h3, h4⟩
theorem cmap_alloc {w : World} {B nn : Nat} {kv : KV} (h : cmap w B nn kv) (o : Obj) : cmap (w.alloc o) B nn kv := cmap_below h ((Below.refl _ _).alloc (Nat.le_refl _) o)
theorem cmap_lt {w : World} {B nn : Nat} {kv : KV} (h : cmap w B nn kv) : B < w.heap.size := by
  obtain ⟨es, clock, h1, h2, h3, h4⟩ := h
  rcases Nat.lt_or_ge B w.heap.size with hlt | hge
  · exact hlt
  · rw [Array.getElem?_eq_none hge] at h1; cases h1

theorem less_lt : ∀ (a b : List UInt8), Op.bytesLess a b = decide (a < b)
  | [], [] => by simp [Op.bytesLess]
  | _ :: _, [] => by simp [Op.bytesLess]
  | [], _ :: _ => by simp [Op.bytesLess]
  | a :: x, b :: y => by
    rw [Op.bytesLess, less_lt x y]
    simp only [List.cons_lt_cons_iff]
    by_cases h1 : a < b <;> by_cases h2 : a = b <;> by_cases h3 : x < y <;> simp [h1, h2, h3]
end Go.Proofs.Ytkjiaeolodemlaf.ch
