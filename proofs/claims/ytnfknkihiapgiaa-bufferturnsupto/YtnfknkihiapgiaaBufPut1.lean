/- A buffer of one's own whose memory changes, or becomes a run. -/
import Derived.Test.YtnfknkihiapgiaaBufPutE
namespace Go.Proofs.Ytnfknkihiapgiaa.bf
open Go.ChangeShapes Go.WideShapes Go.ChangeAt Go.RowKit
open vl
set_option linter.unusedVariables false
set_option linter.unusedSimpArgs false
theorem keptB_true {b : Buf} (h : okB b) : keptB (fun _ => true) b = b := by
  obtain ⟨lim, mem, runs⟩ := b
  have hf := h.full
  unfold keptB keptR
  dsimp only at hf ⊢
  have e1 : mem.filter (fun _ => true) = mem := List.filter_eq_self.2 (fun _ _ => rfl)
  have e2 : runs.map (·.filter (fun _ => true)) = runs := by
    conv => rhs; rw [← List.map_id runs]
    refine List.map_congr_left (fun r _ => ?_)
    exact List.filter_eq_self.2 (fun _ _ => rfl)
  rw [e1, e2, List.filter_eq_self.2 (fun r hr => decide_eq_true (hf r hr))]
theorem OB.run {w : World} {base : Nat} {x : BX} {b : Buf} (h : OB w base x b) {p : Part} (hp : p ∈ x.rs) : ∃ i, i < b.runs.length ∧ x.rs.getD i default = p ∧ OE w base (hdV p.1) p.2 (b.runs.getD i default) := by
  obtain ⟨i, hi, rfl⟩ := List.getElem_of_mem hp
  have e : x.rs.getD i default = x.rs[i] := by rw [List.getD_eq_getElem?_getD, List.getElem?_eq_getElem hi]; rfl
  have hi' : i < b.runs.length := by rw [← h.rlen]; exact hi
  have hr := h.runs i hi'
  rw [e] at hr
  exact ⟨i, hi', e, hr⟩
/-- memory alone changes -/
theorem OB_mem {w w' : World} {base : Nat} {x : BX} {b : Buf} {h' : Hdr} {es' : List EM} {l' : List Ent} (h : OB w base x b) (ho : OE w' base (hdV h') es' l') (hs : w.heap.size ≤ w'.heap.size) (hk : ∀ k, k < w.heap.size → (hdV x.m.1).ownBlock ≠ some k → w'.heap[k]? = w.heap[k]?)
    (hat : ∀ g, (hdV h').ownBlock = some g → (hdV x.m.1).ownBlock = some g ∨ w.heap.size ≤ g) : OB w' base ⟨x.ra, x.rc, (h', es'), x.rs⟩ ⟨b.lim, l', b.runs⟩ := by
  have htwo := List.pairwise_cons.1 h.two
  refine ⟨Nat.le_trans h.low hs, ho, own_same h.hds (fun g hg => hk g (own_lt h.hds hg).2 (fun e => own_apart h.mem.own h.hds (by decide) e hg)), h.rlen, fun i hi => ?_, ?_⟩
  · have hr := h.runs i hi
    have hi2 : i < x.rs.length := by rw [h.rlen]; exact hi
    have hap : apB (hdV x.m.1) (hdV (x.rs.getD i default).1) := htwo.1 _ (List.mem_map.2 ⟨_, mem_getD hi2, rfl⟩)
    refine hr.same hs (fun g cur t hg ht => hk g (Array.getElem?_eq_some_iff.1 hg).1 (fun e => ?_))
    rcases ht with ⟨hv, _⟩ | ht
    · exact hap g e hv
    · subst ht
      exact tyAt_apart (own_ty h.mem.own e) ⟨_, _, hg⟩ (by decide) rfl
  · refine List.pairwise_cons.2 ⟨fun c hc g hg hg2 => ?_, htwo.2⟩
    rcases hat g hg with h1 | h1
    · exact htwo.1 c hc g h1 hg2
    · obtain ⟨p, hp, rfl⟩ := List.mem_map.1 hc
      obtain ⟨i, hi, _, hr⟩ := h.run hp
      have := (own_lt hr.own hg2).2
      omega
/-- memory becomes a run -/
theorem OB_move {w w2 : World} {base g cap2 : Nat} {x : BX} {b : Buf} (h : OB w base x b) (hown2 : w2.ownsRow base 22 1 (.slice (some ⟨g, 0, none⟩) (x.rs.length + 1) cap2) (x.rs.length + 1) ((x.rs.map fun p => hdV p.1) ++ [hdV x.m.1])) (hs : w.heap.size ≤ w2.heap.size)
    (hch : ∀ k, tyAt w k 28 ∨ tyAt w k 96 → w2.heap[k]? = w.heap[k]?) : OB w2 base ⟨some ⟨g, 0, none⟩, cap2, ((none, 0, 0), []), x.rs ++ [x.m]⟩ ⟨b.lim, [], b.runs ++ [b.mem]⟩ := by
  have htwo := List.pairwise_cons.1 h.two
  refine ⟨Nat.le_trans h.low hs, OE_nil (Nat.le_trans h.low hs), ?_, ?_, fun i hi => ?_, ?_⟩
  · dsimp only
    rw [List.length_append, List.map_append]
    exact hown2
  · dsimp only
    rw [List.length_append, List.length_append, h.rlen]; rfl
  · dsimp only at hi ⊢
    rw [List.length_append] at hi
    by_cases hl : i < b.runs.length
    · rw [getD_app_left (by rw [h.rlen]; exact hl), getD_app_left hl]
      exact (h.runs i hl).other hs hch
    · have : i = b.runs.length := by simp at hi; omega
      subst this
      rw [getD_app_right (by rw [h.rlen]; exact Nat.le_refl _), getD_app_right (Nat.le_refl _), h.rlen, Nat.sub_self]
      exact h.mem.other hs hch
  · dsimp only
    rw [List.map_cons, List.map_append]
    refine List.pairwise_cons.2 ⟨fun c _ g' hg' => (by cases hg'), List.pairwise_append.2 ⟨htwo.2, List.pairwise_singleton _ _, fun a ha c hc g' hg' hg2 => ?_⟩⟩
    have hc' : c = hdV x.m.1 := by simpa using hc
    subst hc'
    exact htwo.1 a ha g' hg2 hg'
/-- what Put holds as it goes -/
structure PSt (W : World) (C NB base : Nat) (x : BX) (b : Buf) : Prop where
  k : KSt W C NB base x b
  f1 : W.frozen? ⟨NB, 1, none⟩ = false
theorem PSt.below {W W' : World} {C NB base : Nat} {x : BX} {b : Buf} (h : PSt W C NB base x b) (hb : Below W.heap.size W W') : PSt W' C NB base x b :=
  ⟨h.k.below hb, (hb.frozen (p := ⟨NB, 1, none⟩) (tyAt_lt h.k.ty)).trans h.f1⟩
theorem startP {w2 : World} {C base : Nat} {x : BX} {b : Buf} (nb : nbAt w2 C) (h : OB w2 base x b) (hC : base ≤ C) :
    PSt (w2.alloc (.cells #[.int .i64 b.lim, hdV x.m.1, .slice x.ra x.rs.length x.rc] 25)) C w2.heap.size base x b := by
  have hbA : Below w2.heap.size w2 (w2.alloc (.cells #[.int .i64 b.lim, hdV x.m.1, .slice x.ra x.rs.length x.rc] 25)) := (Below.refl _ _).alloc (Nat.le_refl _) _
  have nb2 := nb_below hbA nb
  have hlt := tyAt_lt nb.ty
  refine ⟨⟨h.below hbA, ?_, ?_, ?_, ?_, ⟨_, _, World.alloc_heap_new _ _⟩, nb2.n0, nb2.n1, nb2.n2, nb2.o0, nb2.o1, nb2.o2, nb2.ty, hlt, hC⟩, ?_⟩
  · unfold hdV; go_simp
  · unfold hdV; go_simp
  · unfold hdV; go_simp
  · unfold hdV; go_simp
  · unfold hdV; go_simp
/-- only memory's block has changed -/
theorem PSt_keep {W W' : World} {C NB base : Nat} {x : BX} {b : Buf} (h : PSt W C NB base x b) (hs : W.heap.size ≤ W'.heap.size) (hk : ∀ k, k < W.heap.size → (hdV x.m.1).ownBlock ≠ some k → W'.heap[k]? = W.heap[k]?) : W'.heap[NB]? = W.heap[NB]? ∧ W'.heap[C]? = W.heap[C]? :=
  ⟨hk NB (tyAt_lt h.k.ty) (fun e => tyAt_apart (own_ty h.k.ob.mem.own e) h.k.ty (by decide) rfl), hk C (tyAt_lt h.k.rt) (fun e => tyAt_apart (own_ty h.k.ob.mem.own e) h.k.rt (by decide) rfl)⟩
/-- memory is sorted -/
theorem PSt_sort {W W' : World} {C NB base : Nat} {x : BX} {b : Buf} {es' : List EM} {l' : List Ent} (h : PSt W C NB base x b) (ho : OE W' base (hdV x.m.1) es' l') (hs : W.heap.size ≤ W'.heap.size) (hk : ∀ k, k < W.heap.size → (hdV x.m.1).ownBlock ≠ some k → W'.heap[k]? = W.heap[k]?) :
    PSt W' C NB base ⟨x.ra, x.rc, (x.m.1, es'), x.rs⟩ ⟨b.lim, l', b.runs⟩ := by
  obtain ⟨eN, eC⟩ := PSt_keep h hs hk
  exact ⟨⟨OB_mem h.k.ob ho hs hk (fun g hg => .inl hg), (World.cell?_of_block (a := ⟨NB, 0, none⟩) eN).trans h.k.c0, (World.cell?_of_block (a := ⟨NB, 1, none⟩) eN).trans h.k.c1, (World.cell?_of_block (a := ⟨NB, 2, none⟩) eN).trans h.k.c2, (froz_of (p := ⟨NB, 2, none⟩) eN).trans h.k.f2, tyAt_of h.k.ty eN,
    (World.cell?_of_block (a := ⟨C, 0, none⟩) eC).trans h.k.r0, (World.cell?_of_block (a := ⟨C, 1, none⟩) eC).trans h.k.r1, (World.cell?_of_block (a := ⟨C, 2, none⟩) eC).trans h.k.r2, (froz_of (p := ⟨C, 0, none⟩) eC).trans h.k.g0, (froz_of (p := ⟨C, 1, none⟩) eC).trans h.k.g1, (froz_of (p := ⟨C, 2, none⟩) eC).trans h.k.g2, tyAt_of h.k.rt eC, h.k.ne, h.k.up⟩, (froz_of (p := ⟨NB, 1, none⟩) eN).trans h.f1⟩
end Go.Proofs.Ytnfknkihiapgiaa.bf
