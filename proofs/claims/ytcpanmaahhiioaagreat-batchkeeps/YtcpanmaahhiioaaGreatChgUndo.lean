/- Undo: the changes backwards. -/
import Derived.Test.YtcpanmaahhiioaaGreatChgPlay
import Derived.Test.YtcpanmaahhiioaaGreatMgChgC
namespace Go.Proofs.YtcpanmaahhiioaaGreat.ch
open Go.ChangeShapes Go.WideShapes Go.ChangeAt Go.RowKit Go.Maps Go.WideMaps Go.Sort
open vl
set_option linter.unusedVariables false
set_option linter.unusedSimpArgs false

/-- changes that are being made -/
structure OS (w : World) (base : Nat) (v : Value) (l : List Chg) : Prop where
  low : base ≤ w.heap.size
  r : CR w base v (fun g => v.ownBlock = some g) l
theorem OS_below {w w' : World} {base : Nat} {v : Value} {l : List Chg} (h : OS w base v l) (hb : Below w.heap.size w w') : OS w' base v l := by
  obtain ⟨p, h1, h2, h3⟩ := h.r
  exact ⟨Nat.le_trans h.low hb.size, p, h1, own_below h2 hb, rowsC_fr h3 (fun b hlt _ => hb.block b hlt) (fun _ _ k => k)⟩
theorem OS_step {w w1 w2 : World} {base : Nat} {v : Value} {l : List Chg} {p : List (Int × Value)} {r : List Cel} {n : Int} {ad : Option Addr} {cap g cap2 : Nat} (h : OS w base v l)
    (hpl : p.length = l.length) (hpo : w.ownsRow base 48 2 v p.length (flatC p)) (hpr : rowsC w base (fun g => v.ownBlock = some g) p l)
    (hb1 : Below w.drew.heap.size w.drew w1) (hov : ownV w1 w.heap.size (.slice ad r.length cap) r) (hown2 : w2.ownsRow base 48 2 (.slice (some ⟨g, 0, none⟩) (p.length + 1) cap2) (p.length + 1) (flatC (p ++ [(n, .slice ad r.length cap)])))
    (hg2 : (w1.alloc (.cells #[.int .i64 n, .slice ad r.length cap] 48)).grownBy w2 v.ownBlock) (hat : v.ownBlock = some g ∨ g = w1.heap.size + 1) :
    OS w2 base (.slice (some ⟨g, 0, none⟩) (p.length + 1) cap2) (l ++ [⟨n, r⟩]) ∧ Below base w w2 := by
  have hs1 : w.heap.size ≤ w1.heap.size := hb1.size
  have hs2 : w1.heap.size + 1 ≤ w2.heap.size := by have := hg2.size; simpa using this
  have hvlt : ∀ b, v.ownBlock = some b → base ≤ b ∧ b < w.heap.size := fun b hb => own_lt hpo hb
  have hblk : ∀ b, b < w1.heap.size → v.ownBlock ≠ some b → w2.heap[b]? = w1.heap[b]? := fun b hb ho => by
    rw [hg2.block b (by simp; omega) (fun e => ho e.symm)]
    exact Below.heap_alloc _ _ b hb
  have hbw : Below base w w2 := by
    have hlow := h.low
    have hlow1 : base ≤ w.drew.heap.size := h.low
    have hb0 : Below base w.drew w2 := ((hb1.mono hlow1).alloc (Nat.le_trans hlow hs1) (.cells #[.int .i64 n, .slice ad r.length cap] 48)).grown hg2 (by simp; omega) (fun b hb => (hvlt b hb).1)
    exact ((Below.refl base w).drew).trans hb0
  have hno : ∀ b, b < w.heap.size → ¬ v.ownBlock = some b → w2.heap[b]? = w.heap[b]? := fun b hb hn => (hblk b (by omega) hn).trans (hb1.block b hb)
  have hnw : ∀ b, b < w.heap.size → (Value.slice (some ⟨g, 0, none⟩) (p.length + 1) cap2).ownBlock = some b → v.ownBlock = some b := by
    intro b hb e
    have hbg : g = b := by cases e; rfl
    subst hbg
    rcases hat with h1 | h1
    · exact h1
    · omega
  refine ⟨⟨Nat.le_trans h.low hbw.size, p ++ [(n, .slice ad r.length cap)], by rw [List.length_append, List.length_append, hpl]; rfl, by rw [List.length_append]; exact hown2, ?_⟩, hbw⟩
  intro i hi
  rw [List.length_append] at hi
  by_cases hlt : i < l.length
  · have := rowsC_fr hpr hno hnw i hlt
    rw [getD_snoc_lt l _ _ i hlt, getD_snoc_lt p _ _ i (by omega)]
    exact this
  · have hie : i = l.length := by simp at hi; omega
    rw [getD_snoc_at l _ _ i hie, getD_snoc_at p _ _ i (by omega)]
    refine ⟨rfl, ad, cap, rfl, ?_, ?_⟩
    · refine own_same (World.ownsRow.mono hov h.low) (fun b hb => ?_)
      have hbb := own_lt hov hb
      exact hblk b hbb.2 (fun e => by have := (hvlt b e).2; omega)
    · intro b hb e
      have hbb := own_lt hov hb
      have hbg : g = b := by cases e; rfl
      subst hbg
      rcases hat with h1 | h1
      · have := (hvlt g h1).2; omega
      · omega
theorem OS_chgs {w : World} {base : Nat} {ad : Option Addr} {n cap : Nat} {l : List Chg} (h : OS w base (.slice ad n cap) l) : chgsAt w ad l ∧ n = l.length := CR_chgs h.r

def undoRes (l : List Chg) (e : Ending) (w' : World) : Prop :=
  (formErr l ≠ 0 ∧ e = .returned (.tuple #[.slice none 0 0, .int .i64 (formErr l)])) ∨
  (formErr l = 0 ∧ ∃ ad cap, e = .returned (.tuple #[.slice ad (backL l).length cap, .int .i64 0]) ∧ chgsAt w' ad (backL l))

end Go.Proofs.YtcpanmaahhiioaaGreat.ch
