/- What is made by appends to a box, round by round. -/
import Derived.Test.YtnfknkihiapgiaaBufSort2
namespace Go.Proofs.Ytnfknkihiapgiaa.bf
open Go.ChangeShapes Go.WideShapes Go.ChangeAt Go.RowKit Go.Shelf
open vl
set_option linter.unusedVariables false
set_option linter.unusedSimpArgs false
attribute [local go_sem] Oper.semAt_some
/-- all but the box of what is made, and the entries made -/
def madeO (n LB : Nat) : Nat → Obj → Prop := fun b o => b ≠ LB ∧ ∀ c f, o = .cells c 28 f → b < n
theorem names_low {n LB b : Nat} {W : World} (h : b < n) (hL : n ≤ LB) : names (madeO n LB) W b := fun o _ => ⟨by omega, fun _ _ _ => h⟩
theorem names_ty {n LB b : Nat} {t : TypeId} {W : World} (h : tyAt W b t) (ht : t ≠ 28) (hb : b ≠ LB) : names (madeO n LB) W b := fun o ho => ⟨hb, fun c f e => by
  obtain ⟨c', f', h'⟩ := h
  rw [ho] at h'
  rw [e] at h'
  injection h' with e1
  injection e1 with _ e2 _
  exact absurd e2.symm ht⟩
/-- what is made, as it goes -/
structure Mk (X : World) (n LB : Nat) (v : Value) (es : List EM) (l : List Ent) : Prop where
  oe : OE X n v es l
  c : X.cell? ⟨LB, 0, none⟩ = some v
  f : X.frozen? ⟨LB, 0, none⟩ = false
  ty : tyAt X LB 22
theorem Mk.below {X Y : World} {n LB : Nat} {v : Value} {es : List EM} {l : List Ent} (h : Mk X n LB v es l) (hb : Below X.heap.size X Y) : Mk Y n LB v es l :=
  ⟨h.oe.below hb, cell_later hb h.c, (hb.frozen (p := ⟨LB, 0, none⟩) (tyAt_lt h.ty)).trans h.f, tyAt_below h.ty hb⟩
theorem Mk.row {X Y : World} {n LB : Nat} {v : Value} {es : List EM} {l : List Ent} {row : Option Nat} (h : Mk X n LB v es l) (hg : X.grownBy Y row) (hr : ∀ r, row = some r → ∃ x : Obj, X.heap[r]? = some x ∧ x.isCells = false) : Mk Y n LB v es l := by
  have hk : ∀ (b : Nat) (c : Array Value) (t : TypeId) (f : Nat × Nat), X.heap[b]? = some (.cells c t f) → Y.heap[b]? = X.heap[b]? := fun b c t f hb => hg.block b (Array.getElem?_eq_some_iff.1 hb).1 (fun e => by
    obtain ⟨x, h1, h2⟩ := hr b e.symm
    rw [hb] at h1; cases h1; cases h2)
  obtain ⟨c', f', ht⟩ := h.ty
  have e := hk _ _ _ _ ht
  exact ⟨h.oe.same hg.size (fun g cur t hg' _ => hk _ _ _ _ hg'), (World.cell?_of_block (a := ⟨LB, 0, none⟩) e).trans h.c, (froz_of (p := ⟨LB, 0, none⟩) e).trans h.f, tyAt_of h.ty e⟩
/-- one entry more -/
theorem Mk_snoc {X w3 w4 : World} {n LB : Nat} {v : Value} {es : List EM} {l : List Ent} {e : EM} {y : Ent} {g c4 : Nat} {o : Obj} (h : Mk X n LB v es l) (hb : Below X.heap.size X w3) (hx : OR w3 n e y) (hL : n ≤ LB)
    (hown : w4.ownsRow n 28 5 (.slice (some ⟨g, 0, none⟩) (es.length + 1) c4) (es.length + 1) (entCells es ++ [.string e.key, .int .i64 e.time, .int .i64 e.seq, hdV e.row, .bool e.met])) (hg : (w3.alloc o).grownBy w4 v.ownBlock) (B : Nat) :
    Mk (w4.setCell ⟨LB, 0, none⟩ (.slice (some ⟨g, 0, none⟩) (es.length + 1) c4)) n LB (.slice (some ⟨g, 0, none⟩) (es.length + 1) c4) (es ++ [e]) (l ++ [y]) ∧ Below n X (w4.setCell ⟨LB, 0, none⟩ (.slice (some ⟨g, 0, none⟩) (es.length + 1) c4)) ∧
    KeepO (madeO n LB) X (w4.setCell ⟨LB, 0, none⟩ (.slice (some ⟨g, 0, none⟩) (es.length + 1) c4)) ∧ KeepsFrom B X (w4.setCell ⟨LB, 0, none⟩ (.slice (some ⟨g, 0, none⟩) (es.length + 1) c4)) := by
  have h3 := h.below hb
  have hsn := OE_snoc h.oe hb hx hown hg
  have hlt := tyAt_lt h3.ty
  have hbl : ∀ b, b < w3.heap.size → v.ownBlock ≠ some b → w4.heap[b]? = w3.heap[b]? := fun b hb' ho => by
    rw [hg.block b (by simp; omega) (fun e => ho e.symm)]
    exact Below.heap_alloc _ _ b hb'
  have eL : w4.heap[LB]? = w3.heap[LB]? := hbl LB hlt (fun e => tyAt_apart (own_ty h3.oe.own e) h3.ty (by decide) rfl)
  have t4 : tyAt w4 LB 22 := tyAt_of h3.ty eL
  have c4' := (World.cell?_of_block (a := ⟨LB, 0, none⟩) eL).trans h3.c
  have f4 := (froz_of (p := ⟨LB, 0, none⟩) eL).trans h3.f
  have eO : ∀ b u, b ≠ LB → (w4.setCell ⟨LB, 0, none⟩ u).heap[b]? = w4.heap[b]? := fun b u hb' => heap_setCell_other _ _ _ _ hb'
  refine ⟨⟨hsn.1.other (by simp [World.setCell]) (fun b hb' => eO b _ (by rcases hb' with k | k; exact tyAt_apart k t4 (by decide); exact tyAt_apart k t4 (by decide))), World.cell?_setCell_same _ _ _ c4', by go_simp, tyAt_set t4 _ _⟩, hsn.2.setCell hL _, fun b ob h1 h2 hP => ?_, ?_⟩
  · have hlb : b < X.heap.size := (Array.getElem?_eq_some_iff.1 h1).1
    have e3 := hb.block b hlb
    rw [eO b _ hP.1, hbl b (Nat.lt_of_lt_of_le hlb hb.size) (fun e => ?_), e3]
    · exact h1
    · obtain ⟨cc, ff, k⟩ := own_ty h3.oe.own e
      rw [e3, h1] at k
      injection k with k
      have := hP.2 cc ff k
      have := (own_lt h3.oe.own e).1
      omega
  · have k1 : KeepsFrom B X w3 := kf_below hb
    have k2 : KeepsFrom B w3 w4 := ⟨by have := hg.size; simp at this; omega, fun k ob hk h1 h2 => by
      have hlk : k < w3.heap.size := (Array.getElem?_eq_some_iff.1 h1).1
      rw [hbl k hlk (fun e => ?_)]
      · exact h1
      · obtain ⟨cc, ff, k'⟩ := own_ty h3.oe.own e
        rw [h1] at k'
        injection k' with k'
        rw [k'] at h2
        cases h2⟩
    exact (k1.trans k2).trans ((KeepsOthers.setCell _ _ _).from _)
theorem Mk_mid {X w3 w4 : World} {n LB : Nat} {v : Value} {es : List EM} {l : List Ent} {o : Obj} (h : Mk X n LB v es l) (hb : Below X.heap.size X w3) (hg : (w3.alloc o).grownBy w4 v.ownBlock) : w4.cell? ⟨LB, 0, none⟩ = some v ∧ w4.frozen? ⟨LB, 0, none⟩ = false := by
  have h3 := h.below hb
  have hlt := tyAt_lt h3.ty
  have eL : w4.heap[LB]? = w3.heap[LB]? := by
    rw [hg.block LB (by simp; omega) (fun e => tyAt_apart (own_ty h3.oe.own e.symm) h3.ty (by decide) rfl)]
    exact Below.heap_alloc _ _ LB hlt
  exact ⟨(World.cell?_of_block (a := ⟨LB, 0, none⟩) eL).trans h3.c, (froz_of (p := ⟨LB, 0, none⟩) eL).trans h3.f⟩
end Go.Proofs.Ytnfknkihiapgiaa.bf
