/- A variable that holds a buffer; a buffer of which it is known what Put makes. -/
import Derived.Test.YtnfknkihiapgiaaBufUni
namespace Go.Proofs.Ytnfknkihiapgiaa.bf
open Go.ChangeShapes Go.WideShapes Go.ChangeAt Go.RowKit
open vl
set_option linter.unusedVariables false
set_option linter.unusedSimpArgs false
structure BoxB (W : World) (B : Nat) (b : Buf) (x : BX) : Prop where
  c0 : W.cell? ⟨B, 0, none⟩ = some (.int .i64 b.lim)
  c1 : W.cell? ⟨B, 1, none⟩ = some (hdV x.m.1)
  c2 : W.cell? ⟨B, 2, none⟩ = some (.slice x.ra x.rs.length x.rc)
  fr : ∀ j, W.frozen? ⟨B, j, none⟩ = false
  ty : tyAt W B 25
theorem BoxB.lt {W : World} {B : Nat} {b : Buf} {x : BX} (h : BoxB W B b x) : B < W.heap.size := tyAt_lt h.ty
theorem BoxB.below {W W' : World} {B : Nat} {b : Buf} {x : BX} (h : BoxB W B b x) (hb : Below W.heap.size W W') : BoxB W' B b x :=
  ⟨cell_later hb h.c0, cell_later hb h.c1, cell_later hb h.c2, fun j => (hb.frozen (p := ⟨B, j, none⟩) h.lt).trans (h.fr j), tyAt_below h.ty hb⟩
theorem BoxB_new (W : World) (b : Buf) (x : BX) : BoxB (W.alloc (.cells #[.int .i64 b.lim, hdV x.m.1, .slice x.ra x.rs.length x.rc] 25)) W.heap.size b x := by
  obtain ⟨ra, rc, ⟨⟨m1, m2, m3⟩, ml⟩, rs⟩ := x
  exact ⟨by unfold hdV; go_simp, by unfold hdV; go_simp, by unfold hdV; go_simp, fun j => by unfold hdV; go_simp, ⟨_, _, World.alloc_heap_new W _⟩⟩
theorem BoxB.set {W : World} {B : Nat} {b b' : Buf} {x x' : BX} (h : BoxB W B b x) : BoxB (((W.setCell ⟨B, 0, none⟩ (.int .i64 b'.lim)).setCell ⟨B, 1, none⟩ (hdV x'.m.1)).setCell ⟨B, 2, none⟩ (.slice x'.ra x'.rs.length x'.rc)) B b' x' := by
  have ne : ∀ i j : Nat, i ≠ j → (⟨B, i, none⟩ : Addr) ≠ ⟨B, j, none⟩ := fun i j h e => h (by cases e; rfl)
  refine ⟨?_, ?_, ?_, fun j => ?_, tyAt_set (tyAt_set (tyAt_set h.ty _ _) _ _) _ _⟩
  · rw [World.cell?_setCell_other _ _ _ _ (ne 2 0 (by decide)), World.cell?_setCell_other _ _ _ _ (ne 1 0 (by decide)), World.cell?_setCell_same _ _ _ h.c0]
  · rw [World.cell?_setCell_other _ _ _ _ (ne 2 1 (by decide)), World.cell?_setCell_same _ _ _ (by rw [World.cell?_setCell_other _ _ _ _ (ne 0 1 (by decide))]; exact h.c1)]
  · rw [World.cell?_setCell_same _ _ _ (by rw [World.cell?_setCell_other _ _ _ _ (ne 1 2 (by decide)), World.cell?_setCell_other _ _ _ _ (ne 0 2 (by decide))]; exact h.c2)]
  · rw [World.frozen?_setCell, World.frozen?_setCell, World.frozen?_setCell]; exact h.fr j
theorem set3_other (W : World) (N k : Nat) (u0 u1 u2 : Value) (h : k ≠ N) : (((W.setCell ⟨N, 0, none⟩ u0).setCell ⟨N, 1, none⟩ u1).setCell ⟨N, 2, none⟩ u2).heap[k]? = W.heap[k]? := by
  rw [heap_setCell_other _ _ _ _ h, heap_setCell_other _ _ _ _ h, heap_setCell_other _ _ _ _ h]
theorem BoxB.other {W : World} {B N : Nat} {b : Buf} {x : BX} (h : BoxB W B b x) (hN : B ≠ N) (u0 u1 u2 : Value) : BoxB (((W.setCell ⟨N, 0, none⟩ u0).setCell ⟨N, 1, none⟩ u1).setCell ⟨N, 2, none⟩ u2) B b x := by
  have e := set3_other W N B u0 u1 u2 hN
  exact ⟨(World.cell?_of_block (a := ⟨B, 0, none⟩) e).trans h.c0, (World.cell?_of_block (a := ⟨B, 1, none⟩) e).trans h.c1, (World.cell?_of_block (a := ⟨B, 2, none⟩) e).trans h.c2, fun j => (froz_of (p := ⟨B, j, none⟩) e).trans (h.fr j), tyAt_of h.ty e⟩
theorem put_to (b : Buf) (x : BX) (e : EM) (y : Ent) (l0 : List Ent) (base : Nat) (w : World) (h : IsB w base x b) (hr : ER w e y) (hy : wfE y) (hp : wfP (plOf y)) (hf : fineE y) (hh : hasB (entsB b) (plOf y) = false) (hm : (entsB b).length ≠ 4096) (hl0 : l0.Perm (b.mem ++ [y])) (hr0 : Rise l0) :
    Calls Try.prog 8 #[bufV b x, e.val] w fun r w' => (∃ x', r = .returned (.tuple #[bufV (putB b l0) x', .int .i64 0]) ∧ IsB w' w.heap.size x' (putB b l0)) ∧ Below w.heap.size w w' := by
  refine (put_ok b x e y w h.ob.at h.wf h.small (errB_zero h.ok) hr hy (fineB_yes hf) hh hm).mono ?_
  rintro r w' ⟨⟨x', l', rfl, hpm, hby, hob⟩, hb⟩
  have hok := put_right h.ok hf hh hm hpm hby
  have hri : Rise l' := by
    by_cases hc : b.lim < (l'.length : Int)
    · refine hok.rises (b := putB b l') ?_
      unfold putB
      rw [if_pos hc]
      exact List.mem_cons_of_mem _ (List.mem_append.2 (.inr (List.mem_singleton.2 rfl)))
    · refine hok.rises (b := putB b l') ?_
      unfold putB
      rw [if_neg hc]
      exact List.mem_cons_self ..
  have e0 : l' = l0 := rise_one (hpm.trans hl0.symm) hri hr0
  subst e0
  have hpe := put_ents (b := b) hpm
  refine ⟨⟨x', rfl, hob, hok, fun z hz => ?_⟩, hb⟩
  rcases List.mem_cons.1 (hpe.mem_iff.1 hz) with rfl | hz
  · exact ⟨hy, hp⟩
  · exact h.wf z hz
end Go.Proofs.Ytnfknkihiapgiaa.bf
