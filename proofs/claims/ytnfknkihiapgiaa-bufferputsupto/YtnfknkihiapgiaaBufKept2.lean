/- A buffer of one's own: what it is, and one run more. -/
import Derived.Test.YtnfknkihiapgiaaBufKept
namespace Go.Proofs.Ytnfknkihiapgiaa.bf
open Go.ChangeShapes Go.WideShapes Go.ChangeAt Go.RowKit
open vl
set_option linter.unusedVariables false
set_option linter.unusedSimpArgs false
/-- a block of that type -/
def tyAt (w : World) (b : Nat) (t : TypeId) : Prop := ∃ cur f, w.heap[b]? = some (.cells cur t f)
theorem tyAt_of {w w' : World} {b : Nat} {t : TypeId} (h : tyAt w b t) (hb : w'.heap[b]? = w.heap[b]?) : tyAt w' b t := by
  obtain ⟨c, f, h⟩ := h
  exact ⟨c, f, hb.trans h⟩
theorem tyAt_lt {w : World} {b : Nat} {t : TypeId} (h : tyAt w b t) : b < w.heap.size := by
  obtain ⟨c, f, h⟩ := h
  exact (Array.getElem?_eq_some_iff.1 h).1
theorem tyAt_below {w w' : World} {b : Nat} {t : TypeId} (h : tyAt w b t) (hb : Below w.heap.size w w') : tyAt w' b t := tyAt_of h (hb.block b (tyAt_lt h))
theorem tyAt_apart {w : World} {b b' : Nat} {t t' : TypeId} (h : tyAt w b t) (h' : tyAt w b' t') (ht : t ≠ t') : b ≠ b' := by
  rintro rfl
  obtain ⟨c, f, h⟩ := h
  obtain ⟨c', f', h'⟩ := h'
  rw [h] at h'
  injection h' with e
  injection e with _ e2 _
  exact ht e2
theorem tyAt_set {w : World} {b : Nat} {t : TypeId} (h : tyAt w b t) (p : Addr) (v : Value) : tyAt (w.setCell p v) b t := by
  obtain ⟨c, f, h⟩ := h
  by_cases e : p.block = b
  · subst e
    exact ⟨if p.spot.isSome = true then c else c.setIfInBounds p.off v, f, by simp [World.setCell, Array.getElem?_modify, h]⟩
  · exact ⟨c, f, (heap_setCell_other w p b v (fun h => e h.symm)).trans h⟩
theorem own_ty {w : World} {base : Nat} {e : TypeId} {s : Nat} {v : Value} {n : Nat} {xs : List Value} (h : w.ownsRow base e s v n xs) {g : Nat} (hg : v.ownBlock = some g) : tyAt w g e := by
  rcases h.2 with ⟨rfl, _⟩ | ⟨b, cap, cur, rfl, _, hb, _⟩
  · cases hg
  · cases hg; exact ⟨_, _, hb⟩
theorem OE.other {w w' : World} {base : Nat} {v : Value} {es : List EM} {l : List Ent} (h : OE w base v es l) (hs : w.heap.size ≤ w'.heap.size) (hb : ∀ g, tyAt w g 28 ∨ tyAt w g 96 → w'.heap[g]? = w.heap[g]?) : OE w' base v es l :=
  h.same hs (fun g cur t hg ht => by
    rcases ht with ⟨_, rfl⟩ | rfl
    · exact hb g (.inl ⟨_, _, hg⟩)
    · exact hb g (.inr ⟨_, _, hg⟩))
def apB (a b : Value) : Prop := ∀ g, a.ownBlock = some g → b.ownBlock ≠ some g
/-- a buffer of one's own -/
structure OB (w : World) (base : Nat) (x : BX) (b : Buf) : Prop where
  low : base ≤ w.heap.size
  mem : OE w base (hdV x.m.1) x.m.2 b.mem
  hds : w.ownsRow base 22 1 (.slice x.ra x.rs.length x.rc) x.rs.length (x.rs.map fun p => hdV p.1)
  rlen : x.rs.length = b.runs.length
  runs : ∀ i, i < b.runs.length → OE w base (hdV (x.rs.getD i default).1) (x.rs.getD i default).2 (b.runs.getD i default)
  two : ((x.m :: x.rs).map fun p => hdV p.1).Pairwise apB
theorem OB.below {w w' : World} {base : Nat} {x : BX} {b : Buf} (h : OB w base x b) (hb : Below w.heap.size w w') : OB w' base x b :=
  ⟨Nat.le_trans h.low hb.size, h.mem.below hb, own_below h.hds hb, h.rlen, fun i hi => (h.runs i hi).below hb, h.two⟩
/-- one run more -/
def BX.more (x : BX) (g cap : Nat) (p : Part) : BX := ⟨some ⟨g, 0, none⟩, cap, x.m, x.rs ++ [p]⟩
def Buf.more (b : Buf) (l : List Ent) : Buf := ⟨b.lim, b.mem, b.runs ++ [l]⟩
theorem OB_snoc {w w1 w2 : World} {base : Nat} {x : BX} {b : Buf} {p : Part} {l : List Ent} {g cap2 : Nat} (h : OB w base x b) (hb1 : Below w.heap.size w w1) (hp : OE w1 w.heap.size (hdV p.1) p.2 l)
    (hown2 : w2.ownsRow base 22 1 (.slice (some ⟨g, 0, none⟩) (x.rs.length + 1) cap2) (x.rs.length + 1) ((x.rs.map fun p => hdV p.1) ++ [hdV p.1])) (hs : w1.heap.size ≤ w2.heap.size)
    (hch : ∀ b, tyAt w1 b 28 ∨ tyAt w1 b 96 → w2.heap[b]? = w1.heap[b]?) : OB w2 base (x.more g cap2 p) (b.more l) := by
  have h1 := h.below hb1
  refine ⟨Nat.le_trans h1.low hs, h1.mem.other hs hch, ?_, ?_, fun i hi => ?_, ?_⟩
  · unfold BX.more
    dsimp only
    rw [List.length_append, List.map_append]
    exact hown2
  · unfold BX.more Buf.more
    dsimp only
    rw [List.length_append, List.length_append, h.rlen]; rfl
  · unfold BX.more Buf.more at *
    dsimp only at *
    rw [List.length_append] at hi
    by_cases hl : i < b.runs.length
    · rw [getD_app_left (by rw [h.rlen]; exact hl), getD_app_left hl]
      exact (h1.runs i hl).other hs hch
    · have : i = b.runs.length := by simp at hi; omega
      subst this
      rw [getD_app_right (by rw [h.rlen]; exact Nat.le_refl _), getD_app_right (Nat.le_refl _), h.rlen, Nat.sub_self]
      exact (hp.other hs hch).mono h.low
  · unfold BX.more
    dsimp only
    rw [show (x.m :: (x.rs ++ [p])) = (x.m :: x.rs) ++ [p] from rfl, List.map_append]
    refine List.pairwise_append.2 ⟨h.two, by simp, fun a ha c hc g hg => ?_⟩
    have hc' : c = hdV p.1 := by simpa using hc
    subst hc'
    intro hg2
    have hge := (own_lt hp.own hg2).1
    obtain ⟨q, hq, rfl⟩ := List.mem_map.1 ha
    rcases List.mem_cons.1 hq with rfl | hq
    · have := (own_lt h.mem.own hg).2; omega
    · obtain ⟨i, hi, rfl⟩ := List.getElem_of_mem hq
      have hr := h.runs i (by rw [← h.rlen]; exact hi)
      have e : x.rs.getD i default = x.rs[i] := by rw [List.getD_eq_getElem?_getD, List.getElem?_eq_getElem hi]; rfl
      rw [e] at hr
      have := (own_lt hr.own hg).2; omega
/-- what Kept holds as it goes -/
structure KSt (W : World) (C NB base : Nat) (x : BX) (b : Buf) : Prop where
  ob : OB W base x b
  c0 : W.cell? ⟨NB, 0, none⟩ = some (.int .i64 b.lim)
  c1 : W.cell? ⟨NB, 1, none⟩ = some (hdV x.m.1)
  c2 : W.cell? ⟨NB, 2, none⟩ = some (.slice x.ra x.rs.length x.rc)
  f2 : W.frozen? ⟨NB, 2, none⟩ = false
  ty : tyAt W NB 25
  r0 : W.cell? ⟨C, 0, none⟩ = some (.int .i64 0)
  r1 : W.cell? ⟨C, 1, none⟩ = some (.slice none 0 0)
  r2 : W.cell? ⟨C, 2, none⟩ = some (.slice none 0 0)
  g0 : W.frozen? ⟨C, 0, none⟩ = false
  g1 : W.frozen? ⟨C, 1, none⟩ = false
  g2 : W.frozen? ⟨C, 2, none⟩ = false
  rt : tyAt W C 25
  ne : C < NB
  up : base ≤ C
theorem KSt.below {W W' : World} {C NB base : Nat} {x : BX} {b : Buf} (h : KSt W C NB base x b) (hb : Below W.heap.size W W') : KSt W' C NB base x b := by
  have l1 := tyAt_lt h.ty
  have l2 := tyAt_lt h.rt
  exact ⟨h.ob.below hb, cell_later hb h.c0, cell_later hb h.c1, cell_later hb h.c2, (hb.frozen (p := ⟨NB, 2, none⟩) l1).trans h.f2, tyAt_below h.ty hb, cell_later hb h.r0, cell_later hb h.r1, cell_later hb h.r2, (hb.frozen (p := ⟨C, 0, none⟩) l2).trans h.g0, (hb.frozen (p := ⟨C, 1, none⟩) l2).trans h.g1, (hb.frozen (p := ⟨C, 2, none⟩) l2).trans h.g2, tyAt_below h.rt hb, h.ne, h.up⟩
theorem froz_of {w w' : World} {p : Addr} (h : w'.heap[p.block]? = w.heap[p.block]?) : w'.frozen? p = w.frozen? p := by
  unfold World.frozen?
  rw [h]
theorem KSt_snoc {W W1 W2 : World} {C NB base g cap2 : Nat} {x : BX} {b : Buf} {p : Part} {l : List Ent} {o : Obj} (h : KSt W C NB base x b) (hb1 : Below W.heap.size W W1) (hp : OE W1 W.heap.size (hdV p.1) p.2 l)
    (hown2 : W2.ownsRow base 22 1 (.slice (some ⟨g, 0, none⟩) (x.rs.length + 1) cap2) (x.rs.length + 1) ((x.rs.map fun p => hdV p.1) ++ [hdV p.1])) (hg2 : (W1.alloc o).grownBy W2 (Value.slice x.ra x.rs.length x.rc).ownBlock) :
    KSt (W2.setCell ⟨NB, 2, none⟩ (.slice (some ⟨g, 0, none⟩) (x.rs.length + 1) cap2)) C NB base (x.more g cap2 p) (b.more l) ∧ Below base W (W2.setCell ⟨NB, 2, none⟩ (.slice (some ⟨g, 0, none⟩) (x.rs.length + 1) cap2)) := by
  have h1 := h.below hb1
  have hs2 : W1.heap.size ≤ W2.heap.size := by have := hg2.size; simp at this; omega
  have hbl : ∀ c t, tyAt W1 c t → t ≠ 22 → W2.heap[c]? = W1.heap[c]? := fun c t hc ht => by
    have hlt := tyAt_lt hc
    rw [hg2.block c (by simp; omega) (fun e => ?_)]
    · exact Below.heap_alloc _ _ c hlt
    · exact tyAt_apart hc (own_ty h1.ob.hds e.symm) ht rfl
  have eN := hbl NB _ h1.ty (by decide)
  have eC := hbl C _ h1.rt (by decide)
  have c0 := (World.cell?_of_block (a := ⟨NB, 0, none⟩) eN).trans h1.c0
  have c1 := (World.cell?_of_block (a := ⟨NB, 1, none⟩) eN).trans h1.c1
  have c2 := (World.cell?_of_block (a := ⟨NB, 2, none⟩) eN).trans h1.c2
  have r0 := (World.cell?_of_block (a := ⟨C, 0, none⟩) eC).trans h1.r0
  have r1 := (World.cell?_of_block (a := ⟨C, 1, none⟩) eC).trans h1.r1
  have r2 := (World.cell?_of_block (a := ⟨C, 2, none⟩) eC).trans h1.r2
  have hne := h.ne
  have eO : ∀ c v, c ≠ NB → (W2.setCell ⟨NB, 2, none⟩ v).heap[c]? = W2.heap[c]? := fun c v hc => heap_setCell_other _ _ _ _ hc
  refine ⟨⟨OB_snoc h.ob hb1 hp (own_same hown2 (fun k hk => eO k _ ?_)) (by simp [World.setCell]; omega) (fun c hc => ?_), ?_, ?_, ?_, ?_, ?_, ?_, ?_, ?_, ?_, ?_, ?_, ?_, h.ne, h.up⟩, ?_⟩
  · exact fun e => tyAt_apart (own_ty hown2 hk) (tyAt_of h1.ty eN) (by decide) e
  · rcases hc with hc | hc
    · exact (eO c _ (fun e => tyAt_apart hc h1.ty (by decide) e)).trans (hbl c _ hc (by decide))
    · exact (eO c _ (fun e => tyAt_apart hc h1.ty (by decide) e)).trans (hbl c _ hc (by decide))
  · show _ = some (Value.int .i64 b.lim)
    go_simp
  · show _ = some (hdV x.m.1)
    go_simp
  · unfold BX.more
    dsimp only
    rw [List.length_append]
    exact World.cell?_setCell_same _ _ _ c2
  · have := (froz_of (p := ⟨NB, 2, none⟩) eN).trans h1.f2
    go_simp
  · exact tyAt_set (tyAt_of h1.ty eN) _ _
  · rw [World.cell?_of_block (a := ⟨C, 0, none⟩) (eO C _ (by omega))]; exact r0
  · rw [World.cell?_of_block (a := ⟨C, 1, none⟩) (eO C _ (by omega))]; exact r1
  · rw [World.cell?_of_block (a := ⟨C, 2, none⟩) (eO C _ (by omega))]; exact r2
  · rw [froz_of (p := ⟨C, 0, none⟩) (eO C _ (by omega)), froz_of (p := ⟨C, 0, none⟩) eC]; exact h1.g0
  · rw [froz_of (p := ⟨C, 1, none⟩) (eO C _ (by omega)), froz_of (p := ⟨C, 1, none⟩) eC]; exact h1.g1
  · rw [froz_of (p := ⟨C, 2, none⟩) (eO C _ (by omega)), froz_of (p := ⟨C, 2, none⟩) eC]; exact h1.g2
  · exact tyAt_of (tyAt_of h1.rt eC) (eO C _ (by omega))
  · have hlow := h.ob.low
    have hup := h.up
    have hb2 : Below base W W2 := ((hb1.mono hlow).alloc h1.ob.low o).grown hg2 (by simp; have := h1.ob.low; omega) (fun c hc => (own_lt h1.ob.hds hc).1)
    exact hb2.setCell (by dsimp only; omega) _
end Go.Proofs.Ytnfknkihiapgiaa.bf
