/- What Put does to its own buffer: one entry more in memory; memory becomes a run. -/
import Derived.Test.YtnfknkihiapgiaaBufPut1
namespace Go.Proofs.Ytnfknkihiapgiaa.bf
open Go.ChangeShapes Go.WideShapes Go.ChangeAt Go.RowKit
open vl
set_option linter.unusedVariables false
set_option linter.unusedSimpArgs false
theorem grow_keep {W1 W2 : World} {o : Obj} {r : Option Nat} (hg : (W1.alloc o).grownBy W2 r) : W1.heap.size ≤ W2.heap.size ∧ ∀ k, k < W1.heap.size → r ≠ some k → W2.heap[k]? = W1.heap[k]? :=
  ⟨by have := hg.size; simp at this; omega, fun k hk hne => by
    rw [hg.block k (by simp; omega) (fun e => hne e.symm)]
    exact Below.heap_alloc _ _ k hk⟩
theorem PSt_mid {W W1 W2 : World} {C NB base : Nat} {x : BX} {b : Buf} {o : Obj} (h : PSt W C NB base x b) (hb1 : Below W.heap.size W W1) (hg : (W1.alloc o).grownBy W2 (hdV x.m.1).ownBlock) :
    W2.cell? ⟨NB, 1, none⟩ = some (hdV x.m.1) ∧ W2.frozen? ⟨NB, 1, none⟩ = false := by
  have h1 := h.below hb1
  obtain ⟨hs, hk⟩ := grow_keep hg
  obtain ⟨eN, eC⟩ := PSt_keep h1 hs hk
  exact ⟨(World.cell?_of_block (a := ⟨NB, 1, none⟩) eN).trans h1.k.c1, (froz_of (p := ⟨NB, 1, none⟩) eN).trans h1.f1⟩
/-- one entry more in memory -/
theorem PSt_app {W W1 W2 : World} {C NB base g c4 : Nat} {x : BX} {b : Buf} {e : EM} {y : Ent} {o : Obj} (h : PSt W C NB base x b) (hb1 : Below W.heap.size W W1) (hx : OR W1 base e y)
    (hown : W2.ownsRow base 28 5 (.slice (some ⟨g, 0, none⟩) (x.m.2.length + 1) c4) (x.m.2.length + 1) (entCells x.m.2 ++ [.string e.key, .int .i64 e.time, .int .i64 e.seq, hdV e.row, .bool e.met])) (hg : (W1.alloc o).grownBy W2 (hdV x.m.1).ownBlock) (hat : (hdV x.m.1).ownBlock = some g ∨ g = W1.heap.size + 1) :
    PSt (W2.setCell ⟨NB, 1, none⟩ (.slice (some ⟨g, 0, none⟩) (x.m.2.length + 1) c4)) C NB base ⟨x.ra, x.rc, ((some ⟨g, 0, none⟩, x.m.2.length + 1, c4), x.m.2 ++ [e]), x.rs⟩ ⟨b.lim, b.mem ++ [y], b.runs⟩ ∧ Below base W (W2.setCell ⟨NB, 1, none⟩ (.slice (some ⟨g, 0, none⟩) (x.m.2.length + 1) c4)) := by
  have h1 := h.below hb1
  obtain ⟨hs, hk⟩ := grow_keep hg
  obtain ⟨eN, eC⟩ := PSt_keep h1 hs hk
  have hsn := OE_snoc h.k.ob.mem hb1 hx hown hg
  have hOB : OB W2 base ⟨x.ra, x.rc, ((some ⟨g, 0, none⟩, x.m.2.length + 1, c4), x.m.2 ++ [e]), x.rs⟩ ⟨b.lim, b.mem ++ [y], b.runs⟩ := OB_mem h1.k.ob hsn.1 hs hk (fun g' hg' => by
    have : g = g' := by cases hg'; rfl
    subst this
    rcases hat with h2 | h2
    · exact .inl h2
    · exact .inr (by omega))
  have t2 := tyAt_of h1.k.ty eN
  have c0 := (World.cell?_of_block (a := ⟨NB, 0, none⟩) eN).trans h1.k.c0
  have c1 := (World.cell?_of_block (a := ⟨NB, 1, none⟩) eN).trans h1.k.c1
  have c2 := (World.cell?_of_block (a := ⟨NB, 2, none⟩) eN).trans h1.k.c2
  have f1 := (froz_of (p := ⟨NB, 1, none⟩) eN).trans h1.f1
  have f2 := (froz_of (p := ⟨NB, 2, none⟩) eN).trans h1.k.f2
  have hne := h.k.ne
  have eO : ∀ u, (W2.setCell ⟨NB, 1, none⟩ u).heap[C]? = W1.heap[C]? := fun u => (heap_setCell_other _ _ _ _ (by dsimp only; omega)).trans eC
  refine ⟨⟨⟨OB_set hOB t2 _ _, ?_, World.cell?_setCell_same _ _ _ c1, ?_, ?_, tyAt_set t2 _ _, (World.cell?_of_block (a := ⟨C, 0, none⟩) (eO _)).trans h1.k.r0, (World.cell?_of_block (a := ⟨C, 1, none⟩) (eO _)).trans h1.k.r1, (World.cell?_of_block (a := ⟨C, 2, none⟩) (eO _)).trans h1.k.r2, (froz_of (p := ⟨C, 0, none⟩) (eO _)).trans h1.k.g0, (froz_of (p := ⟨C, 1, none⟩) (eO _)).trans h1.k.g1, (froz_of (p := ⟨C, 2, none⟩) (eO _)).trans h1.k.g2, tyAt_of h1.k.rt (eO _), hne, h.k.up⟩, ?_⟩, ?_⟩
  · dsimp only; go_simp
  · dsimp only; go_simp
  · go_simp
  · go_simp
  · have := h.k.up
    exact hsn.2.setCell (by dsimp only; omega) _
theorem PSt_mid2 {W W2 : World} {C NB base : Nat} {x : BX} {b : Buf} {o : Obj} (h : PSt W C NB base x b) (hg : (W.alloc o).grownBy W2 (Value.slice x.ra x.rs.length x.rc).ownBlock) :
    W2.heap.size ≥ W.heap.size ∧ W2.heap[NB]? = W.heap[NB]? ∧ W2.heap[C]? = W.heap[C]? ∧ (∀ k, tyAt W k 28 ∨ tyAt W k 96 → W2.heap[k]? = W.heap[k]?) := by
  obtain ⟨hs, hk⟩ := grow_keep hg
  have ap : ∀ k t, tyAt W k t → t ≠ 22 → W2.heap[k]? = W.heap[k]? := fun k t hk' ht => hk k (tyAt_lt hk') (fun e => tyAt_apart (own_ty h.k.ob.hds e) hk' (fun e => ht e.symm) rfl)
  exact ⟨hs, ap _ _ h.k.ty (by decide), ap _ _ h.k.rt (by decide), fun k hk' => by rcases hk' with hk' | hk'; exact ap _ _ hk' (by decide); exact ap _ _ hk' (by decide)⟩
/-- memory becomes a run -/
theorem PSt_move {W W2 : World} {C NB base g cap2 : Nat} {x : BX} {b : Buf} {o : Obj} (h : PSt W C NB base x b)
    (hown2 : W2.ownsRow base 22 1 (.slice (some ⟨g, 0, none⟩) (x.rs.length + 1) cap2) (x.rs.length + 1) ((x.rs.map fun p => hdV p.1) ++ [hdV x.m.1])) (hg : (W.alloc o).grownBy W2 (Value.slice x.ra x.rs.length x.rc).ownBlock) :
    PSt ((W2.setCell ⟨NB, 2, none⟩ (.slice (some ⟨g, 0, none⟩) (x.rs.length + 1) cap2)).setCell ⟨NB, 1, none⟩ (.slice none 0 0)) C NB base ⟨some ⟨g, 0, none⟩, cap2, ((none, 0, 0), []), x.rs ++ [x.m]⟩ ⟨b.lim, [], b.runs ++ [b.mem]⟩ ∧ Below base W ((W2.setCell ⟨NB, 2, none⟩ (.slice (some ⟨g, 0, none⟩) (x.rs.length + 1) cap2)).setCell ⟨NB, 1, none⟩ (.slice none 0 0)) := by
  obtain ⟨hs, eN, eC, hch⟩ := PSt_mid2 h hg
  have hOB := OB_move h.k.ob hown2 hs hch
  have t2 := tyAt_of h.k.ty eN
  have c0 := (World.cell?_of_block (a := ⟨NB, 0, none⟩) eN).trans h.k.c0
  have c1 := (World.cell?_of_block (a := ⟨NB, 1, none⟩) eN).trans h.k.c1
  have c2 := (World.cell?_of_block (a := ⟨NB, 2, none⟩) eN).trans h.k.c2
  have f1 := (froz_of (p := ⟨NB, 1, none⟩) eN).trans h.f1
  have f2 := (froz_of (p := ⟨NB, 2, none⟩) eN).trans h.k.f2
  have hne := h.k.ne
  have eO : ∀ u u', ((W2.setCell ⟨NB, 2, none⟩ u).setCell ⟨NB, 1, none⟩ u').heap[C]? = W.heap[C]? := fun u u' => (heap_setCell_other _ _ _ _ (by dsimp only; omega)).trans ((heap_setCell_other _ _ _ _ (by dsimp only; omega)).trans eC)
  refine ⟨⟨⟨OB_set (OB_set hOB t2 _ _) (tyAt_set t2 _ _) _ _, ?_, ?_, ?_, ?_, tyAt_set (tyAt_set t2 _ _) _ _, (World.cell?_of_block (a := ⟨C, 0, none⟩) (eO _ _)).trans h.k.r0, (World.cell?_of_block (a := ⟨C, 1, none⟩) (eO _ _)).trans h.k.r1, (World.cell?_of_block (a := ⟨C, 2, none⟩) (eO _ _)).trans h.k.r2, (froz_of (p := ⟨C, 0, none⟩) (eO _ _)).trans h.k.g0, (froz_of (p := ⟨C, 1, none⟩) (eO _ _)).trans h.k.g1, (froz_of (p := ⟨C, 2, none⟩) (eO _ _)).trans h.k.g2, tyAt_of h.k.rt (eO _ _), hne, h.k.up⟩, ?_⟩, ?_⟩
  · dsimp only; go_simp
  · unfold hdV; dsimp only; go_simp
  · dsimp only; rw [List.length_append]; go_simp
  · go_simp
  · go_simp
  · have := h.k.up
    have hlow := h.k.ob.low
    have hb2 : Below base W W2 := ((Below.refl _ _).alloc hlow o).grown hg (by simp; omega) (fun c hc => (own_lt h.k.ob.hds hc).1)
    exact (hb2.setCell (by dsimp only; omega) _).setCell (by dsimp only; omega) _
theorem step_appE {ops : Array Oper} {o : Oper} {a : Act} {K : Act → World → Prop} {Q : Exit → Act → World → Prop} {E : Prop} (hgd : o.guard = none) (s x : Operand)
    (hop : o.op = .call { callee := .builtin .append, args := #[s, x], argTypes := #[22, 22] })
    (base : Nat) (v : Value) (L : List EM) (ek : ByteArray) (et es1 : Int) (ad : Option Addr) (rl cap : Nat) (em : Bool) (w1 : World) (ln : Nat) (ho : w1.ownsRow base 28 5 v ln (entCells L)) (hl : ln ≤ 1000000) (hb : base ≤ w1.heap.size)
    (hs : a.eval s = v) (hx : a.eval x = .slice (some ⟨w1.heap.size, 0, none⟩) 1 1)
    (h : ∀ g cap2 w2, w2.ownsRow base 28 5 (.slice (some ⟨g, 0, none⟩) (ln + 1) cap2) (ln + 1) (entCells L ++ [.string ek, .int .i64 et, .int .i64 es1, .slice ad rl cap, .bool em]) → (w1.alloc (.cells #[.string ek, .int .i64 et, .int .i64 es1, .slice ad rl cap, .bool em] 28)).grownBy w2 v.ownBlock → (v.ownBlock = some g ∨ g = w1.heap.size + 1) → g < w2.heap.size → K (a.put o.dst (.slice (some ⟨g, 0, none⟩) (ln + 1) cap2)) w2) :
    if Region.wanted o (yielded ops a.tmps) = true then Oper.wp Try.prog o a (w1.alloc (.cells #[.string ek, .int .i64 et, .int .i64 es1, .slice ad rl cap, .bool em] 28)) K Q else E := by
  obtain ⟨i0, hi, hz0, hz1, hz2⟩ := info_parts infoE
  exact step_append_lies _ hgd s x 22 hop base 28 i0 (.agg #[.string ⟨#[]⟩, .int .i64 0, .int .i64 0, .slice none 0 0, .bool false]) 5 64 Try.underlying22 hi hz0 hz1 hz2 rfl (by decide) v ln (entCells L) hs
    (ho.alloc _) ⟨w1.heap.size, 0, none⟩ 1 1 [.string ek, .int .i64 et, .int .i64 es1, .slice ad rl cap, .bool em] hx rfl (cell_five_new _ _ _ _ _ _ _) (by intro u hu; simp at hu; rcases hu with rfl | rfl | rfl | rfl | rfl <;> rfl) (by decide) (by unfold maxLen; omega) (by omega) (by simp; omega) (w1.heap.size + 1) (by simp) h
end Go.Proofs.Ytnfknkihiapgiaa.bf
