/- The view that is being made, in memory: what it is, and that one row more is one row more. -/
import Derived.Test.YtkjiaeolodemlafChgTell
import Derived.Deep.Onto
namespace Go.Proofs.Ytkjiaeolodemlaf.ch
open Go.ChangeShapes Go.WideShapes Go.ChangeAt Go.RowKit Go.Maps Go.WideMaps
open vl
set_option linter.unusedVariables false
set_option linter.unusedSimpArgs false

theorem own_same {w w' : World} {base : Nat} {e : TypeId} {size : Nat} {v : Value} {n : Nat} {xs : List Value} (h : w.ownsRow base e size v n xs) (hb : ∀ g, v.ownBlock = some g → w'.heap[g]? = w.heap[g]?) : w'.ownsRow base e size v n xs := by
  refine ⟨h.1, ?_⟩
  rcases h.2 with h0 | ⟨g, cap, cur, hv, h1, hg, h2⟩
  · exact .inl h0
  · exact .inr ⟨g, cap, cur, hv, h1, by rw [hb g (by rw [hv]; rfl)]; exact hg, h2⟩

/-- all stays but block C, block o, and what is new -/
structure fr (C : Nat) (o : Option Nat) (w w' : World) : Prop where
  os : w'.os = w.os
  tape : w'.tape = w.tape
  output : w'.output = w.output
  size : w.heap.size ≤ w'.heap.size
  block : ∀ b, b < w.heap.size → b ≠ C → o ≠ some b → w'.heap[b]? = w.heap[b]?
theorem fr_below {C : Nat} {o : Option Nat} {B : Nat} {a w w' : World} (h : Below B a w) (k : fr C o w w') (hC : B ≤ C) (ho : ∀ b, o = some b → B ≤ b) (hB : B ≤ w.heap.size) : Below B a w' :=
  h.trans ⟨k.os, k.tape, k.output, k.size, fun b hb => k.block b (by omega) (by omega) (fun e => by have := ho b e; omega)⟩
theorem below_fr {C : Nat} {o : Option Nat} {w w' : World} (h : Below w.heap.size w w') : fr C o w w' := ⟨h.os, h.tape, h.output, h.size, fun b hb _ _ => h.block b hb⟩
theorem fr_trans {C : Nat} {o o2 : Option Nat} {w w1 w2 : World} (h : fr C o w w1) (k : fr C o2 w1 w2) (ho : o2 = o ∨ ∃ g, o2 = some g ∧ w.heap.size ≤ g) : fr C o w w2 :=
  ⟨k.os.trans h.os, k.tape.trans h.tape, k.output.trans h.output, Nat.le_trans h.size k.size, fun b hb hC hne => by
    have h1 := h.block b hb hC hne
    rw [← h1]
    refine k.block b (Nat.lt_of_lt_of_le hb h.size) hC ?_
    rcases ho with rfl | ⟨g, rfl, hg⟩
    · exact hne
    · intro e; cases e; omega⟩
theorem fr_cell {C : Nat} {o : Option Nat} {w w' : World} (h : fr C o w w') {p : Addr} (hp : p.block < w.heap.size) (hC : p.block ≠ C) (ho : o ≠ some p.block) : w'.cell? p = w.cell? p := World.cell?_of_block (w := w) (h.block p.block hp hC ho)

structure VS (w : World) (C base : Nat) (v : Value) (out : List Cnt) : Prop where
  cell : w.cell? ⟨C, 0, none⟩ = some v
  frz : w.frozen? ⟨C, 0, none⟩ = false
  apart : v.ownBlock ≠ some C
  low : base ≤ w.heap.size
  rows : ∃ l : List (Value × Int), l.length = out.length ∧ w.ownsRow base 51 2 v l.length (flat l) ∧ ∀ i, i < out.length →
    (l.getD i (.bool false, 0)).2 = (out.getD i default).n ∧ ∃ ad cap, (l.getD i (.bool false, 0)).1 = .slice ad (out.getD i default).r.length cap ∧ ownV w base (.slice ad (out.getD i default).r.length cap) (out.getD i default).r ∧
      ∀ g, (Value.slice ad (out.getD i default).r.length cap).ownBlock = some g → g ≠ C ∧ v.ownBlock ≠ some g

theorem own_lt {w : World} {base : Nat} {e : TypeId} {size : Nat} {v : Value} {n : Nat} {xs : List Value} (h : w.ownsRow base e size v n xs) {g : Nat} (hg : v.ownBlock = some g) : base ≤ g ∧ g < w.heap.size := World.ownsRow.lt h g hg

theorem getD_snoc_lt {α : Type} (l : List α) (x d : α) (i : Nat) (h : i < l.length) : (l ++ [x]).getD i d = l.getD i d := by
  simp only [List.getD_eq_getElem?_getD, List.getElem?_append_left h]
theorem getD_snoc_at {α : Type} (l : List α) (x d : α) (i : Nat) (h : i = l.length) : (l ++ [x]).getD i d = x := by
  subst h; simp [List.getD_eq_getElem?_getD]

/-- one row more -/
theorem VS_step {w w1 w2 : World} {C base : Nat} {v : Value} {out : List Cnt} {l : List (Value × Int)} {r : List Cel} {n : Int} {ad : Option Addr} {cap g cap2 : Nat} (h : VS w C base v out)
    (hll : l.length = out.length) (hlo : w.ownsRow base 51 2 v l.length (flat l)) (hlr : ∀ i, i < out.length →
    (l.getD i (.bool false, 0)).2 = (out.getD i default).n ∧ ∃ ad cap, (l.getD i (.bool false, 0)).1 = .slice ad (out.getD i default).r.length cap ∧ ownV w base (.slice ad (out.getD i default).r.length cap) (out.getD i default).r ∧
      ∀ g, (Value.slice ad (out.getD i default).r.length cap).ownBlock = some g → g ≠ C ∧ v.ownBlock ≠ some g)
    (hb1 : Below w.drew.heap.size w.drew w1) (hov : ownV w1 w.heap.size (.slice ad r.length cap) r) (hown2 : w2.ownsRow base 51 2 (.slice (some ⟨g, 0, none⟩) (l.length + 1) cap2) (l.length + 1) (flat (l ++ [(.slice ad r.length cap, n)])))
    (hg2 : (w1.alloc (.cells #[.slice ad r.length cap, .int .i64 n] 51)).grownBy w2 v.ownBlock) (hat : v.ownBlock = some g ∨ g = w1.heap.size + 1) :
    VS (w2.setCell ⟨C, 0, none⟩ (.slice (some ⟨g, 0, none⟩) (l.length + 1) cap2)) C base (.slice (some ⟨g, 0, none⟩) (l.length + 1) cap2) (out ++ [⟨r, n⟩]) ∧ fr C v.ownBlock w (w2.setCell ⟨C, 0, none⟩ (.slice (some ⟨g, 0, none⟩) (l.length + 1) cap2)) := by
  have hClt : C < w.heap.size := World.block_lt_of_cell? _ _ h.cell
  have hs1 : w.heap.size ≤ w1.heap.size := hb1.size
  have hs2 : w1.heap.size + 1 ≤ w2.heap.size := by have := hg2.size; simpa using this
  have hc1 : w1.cell? ⟨C, 0, none⟩ = some v := cell_later hb1 h.cell
  have hf1 : w1.frozen? ⟨C, 0, none⟩ = false := (hb1.frozen (p := ⟨C, 0, none⟩) hClt).trans h.frz
  have hc2 := far_cell hg2 hc1 h.apart
  have hf2 := far_frozen hg2 hc1 h.apart hf1
  have hvlt : ∀ b, v.ownBlock = some b → base ≤ b ∧ b < w.heap.size := fun b hb => own_lt hlo hb
  have hgC : g ≠ C := by
    rcases hat with h1 | h1
    · intro e; subst e; exact h.apart h1
    · omega
  have hblk : ∀ b, b < w1.heap.size → b ≠ C → v.ownBlock ≠ some b → (w2.setCell ⟨C, 0, none⟩ (.slice (some ⟨g, 0, none⟩) (l.length + 1) cap2)).heap[b]? = w1.heap[b]? := fun b hb hne ho => by
    rw [Below.heap_setCell _ _ _ b hne, hg2.block b (by simp; omega) (fun e => ho e.symm)]
    exact Below.heap_alloc _ _ b hb
  have hfr : fr C v.ownBlock w (w2.setCell ⟨C, 0, none⟩ (.slice (some ⟨g, 0, none⟩) (l.length + 1) cap2)) := by
    have hb0 := (((hb1.mono (Nat.zero_le _)).alloc (Nat.zero_le _) (.cells #[.slice ad r.length cap, .int .i64 n] 51)).grown hg2 (Nat.zero_le _) (fun _ _ => Nat.zero_le _)).setCell (p := ⟨C, 0, none⟩) (Nat.zero_le _) (.slice (some ⟨g, 0, none⟩) (l.length + 1) cap2)
    exact ⟨hb0.os, hb0.tape, hb0.output, hb0.size, fun b hb hne ho => (hblk b (by omega) hne ho).trans (hb1.block b hb)⟩
  refine ⟨⟨World.cell?_setCell_same _ _ _ hc2, by rw [World.frozen?_setCell]; exact hf2, fun e => hgC (by cases e; rfl), Nat.le_trans h.low hfr.size, ?_⟩, hfr⟩
  refine ⟨l ++ [(.slice ad r.length cap, n)], by rw [List.length_append, List.length_append, hll]; rfl, ?_, ?_⟩
  · rw [List.length_append]
    refine own_same hown2 (fun b hb => ?_)
    have : b = g := by cases hb; rfl
    subst this
    exact Below.heap_setCell _ _ _ b hgC
  · intro i hi
    rw [List.length_append] at hi
    by_cases hlt : i < out.length
    · rw [getD_snoc_lt out _ _ i hlt, getD_snoc_lt l _ _ i (by omega)]
      obtain ⟨e1, ad', cap', e2, e3, e4⟩ := hlr i hlt
      refine ⟨e1, ad', cap', e2, ?_, ?_⟩
      · refine own_same e3 (fun b hb => ?_)
        obtain ⟨n1, n2⟩ := e4 b hb
        exact hfr.block b (own_lt e3 hb).2 n1 n2
      · intro b hb
        obtain ⟨n1, n2⟩ := e4 b hb
        refine ⟨n1, fun e => ?_⟩
        have hbg : g = b := by cases e; rfl
        subst hbg
        rcases hat with h1 | h1
        · exact n2 h1
        · have := (own_lt e3 hb).2; omega
    · have hie : i = out.length := by simp at hi; omega
      rw [getD_snoc_at out _ _ i hie, getD_snoc_at l _ _ i (by omega)]
      refine ⟨rfl, ad, cap, rfl, ?_, ?_⟩
      · refine own_same (World.ownsRow.mono hov h.low) (fun b hb => ?_)
        have hbb := own_lt hov hb
        exact hblk b hbb.2 (by omega) (fun e => by have := (hvlt b e).2; omega)
      · intro b hb
        have hbb := own_lt hov hb
        refine ⟨by omega, fun e => ?_⟩
        have hbg : g = b := by cases e; rfl
        subst hbg
        rcases hat with h1 | h1
        · have := (hvlt g h1).2; omega
        · omega
end Go.Proofs.Ytkjiaeolodemlaf.ch
