/- What Meet makes of a buffer's parts, step by step. -/
import Derived.Test.YtnfknkihiapgiaaBufOwnAt
namespace Go.Proofs.Ytnfknkihiapgiaa.bf
open Go.ChangeShapes Go.WideShapes Go.ChangeAt Go.RowKit
open vl
set_option linter.unusedVariables false
set_option linter.unusedSimpArgs false
/-- all but entries -/
def notE : Nat → Obj → Prop := fun _ o => ∀ c f, o ≠ .cells c 28 f
theorem names_notE {W : World} {b : Nat} {t : TypeId} (h : tyAt W b t) (ht : t ≠ 28) : names notE W b := fun o ho c f e => by
  obtain ⟨c', f', h'⟩ := h
  rw [ho] at h'
  rw [e] at h'
  injection h' with e1
  injection e1 with _ e2 _
  exact ht e2.symm
theorem OP.same {w w' : World} {base : Nat} {hs : List Hdr} {ess : List (List EM)} {ls : List (List Ent)} (h : OP w base hs ess ls) (hz : w.heap.size ≤ w'.heap.size) (hb : ∀ g, tyAt w g 28 ∨ tyAt w g 96 → w'.heap[g]? = w.heap[g]?) : OP w' base hs ess ls :=
  ⟨Nat.le_trans h.low hz, h.l1, h.l2, fun k hk => (h.oe k hk).other hz hb, h.two⟩
theorem ty_row {X Y : World} {row : Option Nat} (hg : X.grownBy Y row) (hr : ∀ r, row = some r → ∃ x : Obj, X.heap[r]? = some x ∧ x.isCells = false) {g : Nat} {t : TypeId} (h : tyAt X g t) : Y.heap[g]? = X.heap[g]? :=
  hg.block g (tyAt_lt h) (fun e => by
    obtain ⟨x, h1, h2⟩ := hr g e.symm
    obtain ⟨c, f, h3⟩ := h
    rw [h3] at h1; cases h1; cases h2)
/-- the entry of that place is met -/
def meetP (p : Plc) (y : Ent) : Ent := if plOf y = p then y.meet else y
def meetB (p : Plc) (b : Buf) : Buf := ⟨b.lim, b.mem.map (meetP p), b.runs.map fun l => l.map (meetP p)⟩
def metL (p : Plc) (l : List Ent) (k : Nat) : List Ent := (l.take k).map (meetP p) ++ l.drop k
def metLs (p : Plc) (ls : List (List Ent)) (k : Nat) : List (List Ent) := (ls.take k).map (fun l => l.map (meetP p)) ++ ls.drop k
theorem metL_len (p : Plc) (l : List Ent) (k : Nat) : (metL p l k).length = l.length := by
  unfold metL; rw [List.length_append, List.length_map, List.length_take, List.length_drop]; omega
theorem metLs_len (p : Plc) (l : List (List Ent)) (k : Nat) : (metLs p l k).length = l.length := by
  unfold metLs; rw [List.length_append, List.length_map, List.length_take, List.length_drop]; omega
theorem metL_at {p : Plc} {l : List Ent} {k : Nat} (h : k < l.length) : (metL p l k).getD k default = l.getD k default := by
  unfold metL
  have hl : ((l.take k).map (meetP p)).length = k := by rw [List.length_map, List.length_take]; omega
  rw [getD_app_right (by omega), hl, Nat.sub_self]
  simp [List.getD_eq_getElem?_getD]
theorem metLs_at {p : Plc} {l : List (List Ent)} {k : Nat} (h : k < l.length) : (metLs p l k).getD k [] = l.getD k [] := by
  unfold metLs
  have hl : ((l.take k).map (fun l => l.map (meetP p))).length = k := by rw [List.length_map, List.length_take]; omega
  rw [getD_app_right (by omega), hl, Nat.sub_self]
  simp [List.getD_eq_getElem?_getD]
theorem drop_cons {α : Type} {l : List α} {k : Nat} {d : α} (h : k < l.length) : l.drop k = l.getD k d :: l.drop (k + 1) := by
  rw [List.drop_eq_getElem_cons h, List.getD_eq_getElem?_getD, List.getElem?_eq_getElem h]; rfl
theorem set_mid {α β : Type} (f : α → β) (A : List α) (k : Nat) (x y : β) (B : List β) (h : k ≤ A.length) : ((A.take k).map f ++ x :: B).set k y = (A.take k).map f ++ y :: B := by
  have hl : ((A.take k).map f).length = k := by rw [List.length_map, List.length_take]; omega
  rw [List.set_append_right _ _ (by omega), hl, Nat.sub_self]; rfl
theorem take_map {α β : Type} (f : α → β) (l : List α) (k : Nat) (d : α) (h : k < l.length) : (l.take (k + 1)).map f = (l.take k).map f ++ [f (l.getD k d)] := by
  rw [List.take_succ_eq_append_getElem h, List.map_append, List.getD_eq_getElem?_getD, List.getElem?_eq_getElem h]; rfl
theorem metL_step {p : Plc} {l : List Ent} {k : Nat} (h : k < l.length) (y : Ent) (hy : y = meetP p (l.getD k default)) : (metL p l k).set k y = metL p l (k + 1) := by
  subst hy
  unfold metL
  rw [drop_cons (d := default) h, set_mid _ _ _ _ _ _ (by omega), take_map _ _ _ default h, List.append_assoc]; rfl
theorem metL_yes {p : Plc} {l : List Ent} {k : Nat} (h : k < l.length) (hp : plOf (l.getD k default) = p) : (metL p l k).set k ((metL p l k).getD k default).meet = metL p l (k + 1) :=
  metL_step h _ (by rw [metL_at h]; unfold meetP; rw [if_pos hp])
theorem metL_no {p : Plc} {l : List Ent} {k : Nat} (h : k < l.length) (hp : plOf (l.getD k default) ≠ p) : metL p l k = metL p l (k + 1) := by
  rw [← metL_step h (meetP p (l.getD k default)) rfl]
  unfold meetP
  rw [if_neg hp, ← metL_at (p := p) h, List.getD_eq_getElem?_getD, List.getElem?_eq_getElem (by rw [metL_len]; exact h)]
  exact (List.set_getElem_self _).symm
theorem metL_zero (p : Plc) (l : List Ent) : metL p l 0 = l := by simp [metL]
theorem metL_end (p : Plc) (l : List Ent) : metL p l l.length = l.map (meetP p) := by simp [metL]
theorem metLs_step {p : Plc} {l : List (List Ent)} {k : Nat} (h : k < l.length) : (metLs p l k).set k ((l.getD k []).map (meetP p)) = metLs p l (k + 1) := by
  unfold metLs
  rw [drop_cons (d := []) h, set_mid _ _ _ _ _ _ (by omega), take_map _ _ _ [] h, List.append_assoc]; rfl
theorem metLs_zero (p : Plc) (l : List (List Ent)) : metLs p l 0 = l := by simp [metLs]
theorem metLs_end (p : Plc) (b : Buf) : metLs p (partsB b) (partsB b).length = partsB (meetB p b) := by simp [metLs, partsB, meetB]
theorem set_self {α : Type} {l : List α} {k : Nat} {d : α} (h : k < l.length) : l.set k (l.getD k d) = l := by
  rw [List.getD_eq_getElem?_getD, List.getElem?_eq_getElem h]
  exact List.set_getElem_self _
/-- what Meet holds in its rounds: j entries of the part i are done -/
structure MSt (w V X : World) (base : Nat) (hs : List Hdr) (hv : Value) (hn : Nat) (hx : List Value) (ls : List (List Ent)) : Prop where
  op : ∃ ess, OP X base hs ess ls
  hds : X.ownsRow base 22 1 hv hn hx
  ko : KeepO notE V X
  bl : Below w.heap.size w X
theorem MSt.row {w V X Y : World} {base : Nat} {hs : List Hdr} {hv : Value} {hn : Nat} {hx : List Value} {ls : List (List Ent)} {row : Option Nat} {B : Nat} (h : MSt w V X base hs hv hn hx ls) (hB : w.heap.size ≤ B) (hg : X.grownBy Y row) (hr : ∀ r, row = some r → B ≤ r ∧ ∃ x : Obj, X.heap[r]? = some x ∧ x.isCells = false) : MSt w V Y base hs hv hn hx ls := by
  obtain ⟨ess, ho⟩ := h.op
  exact ⟨⟨ess, ho.same hg.size (fun g hg' => by rcases hg' with k | k; exact ty_row hg (fun r e => (hr r e).2) k; exact ty_row hg (fun r e => (hr r e).2) k)⟩, own_same h.hds (fun g hg' => ty_row hg (fun r e => (hr r e).2) (own_ty h.hds hg')), h.ko.grown hg (fun r e => (hr r e).2), own_low h.bl (Nat.le_refl _) hB hg hr⟩
theorem ko_below {Pr : Nat → Obj → Prop} {X Y : World} (hb : Below X.heap.size X Y) : KeepO Pr X Y := fun b o h1 _ _ => (hb.block b (Array.getElem?_eq_some_iff.1 h1).1).trans h1
theorem MSt.below {w V X Y : World} {base : Nat} {hs : List Hdr} {hv : Value} {hn : Nat} {hx : List Value} {ls : List (List Ent)} (h : MSt w V X base hs hv hn hx ls) (hb : Below X.heap.size X Y) : MSt w V Y base hs hv hn hx ls := by
  obtain ⟨ess, ho⟩ := h.op
  exact ⟨⟨ess, ho.below hb⟩, own_below h.hds hb, h.ko.trans (ko_below hb), h.bl.trans (hb.mono h.bl.size)⟩
/-- one entry is met -/
theorem MSt.met {w V X : World} {base : Nat} {hs : List Hdr} {hv : Value} {hn : Nat} {hx : List Value} {ls : List (List Ent)} {k i g : Nat} (h : MSt w V X base hs hv hn hx ls) (hw : w.heap.size ≤ base) (hk : k < hs.length) (hi : i < (ls.getD k []).length) (hg : (hs.getD k hd0).1 = some ⟨g, 0, none⟩) :
    MSt w V (X.setCell ⟨g, i * 5 + 4, none⟩ (.bool true)) base hs hv hn hx (ls.set k ((ls.getD k []).set i ((ls.getD k []).getD i default).meet)) ∧ KeepO notE X (X.setCell ⟨g, i * 5 + 4, none⟩ (.bool true)) := by
  obtain ⟨ess, ho⟩ := h.op
  have hok := ho.oe k hk
  have hob : (hdV (hs.getD k hd0)).ownBlock = some g := by
    obtain ⟨g', hh⟩ := hd_slice hok (by omega)
    rw [hh] at hg
    cases hg
    rw [hh]; rfl
  have hty : tyAt X g 28 := own_ty hok.own hob
  have hge := (own_lt hok.own hob).1
  have hko : KeepO notE X (X.setCell ⟨g, i * 5 + 4, none⟩ (.bool true)) := fun b o h1 h2 h3 => by
    refine (heap_setCell_other _ _ _ _ (fun e => ?_)).trans h1
    dsimp only at e
    subst e
    obtain ⟨c, f, h4⟩ := hty
    rw [h1] at h4
    injection h4 with h4
    exact h3 c f h4
  refine ⟨⟨⟨_, OP_met ho hk hi hg⟩, own_same h.hds (fun b hb => heap_setCell_other _ _ _ _ (fun e => ?_)), h.ko.trans hko, h.bl.setCell (by dsimp only; omega) _⟩, hko⟩
  dsimp only at e
  subst e
  exact tyAt_apart hty (own_ty h.hds hb) (by decide) rfl
/-- the buffer again -/
theorem OB_again {X : World} {base : Nat} {x : BX} {b b' : Buf} {ess : List (List EM)} (ho : OP X base ((x.m :: x.rs).map (·.1)) ess (partsB b')) (hds : X.ownsRow base 22 1 (.slice x.ra x.rs.length x.rc) x.rs.length (x.rs.map fun p => hdV p.1)) : ∃ x', bufV b' x' = bufV ⟨b'.lim, b.mem, b.runs⟩ x ∧ OB X base x' b' := by
  have hl1 : ess.length = x.rs.length + 1 := by rw [ho.l1]; simp
  have hl2 : b'.runs.length = x.rs.length := by have := ho.l2; simp [partsB] at this; exact this
  have hz : (x.rs.map (·.1)).length = ess.tail.length := by rw [List.length_map, List.length_tail, hl1]; rfl
  have hzl : ((x.rs.map (·.1)).zip ess.tail).length = x.rs.length := by rw [List.length_zip, ← hz, List.length_map, Nat.min_self]
  have h1 : ((x.rs.map (·.1)).zip ess.tail).map (·.1) = x.rs.map (·.1) := List.map_fst_zip (by omega)
  have e1 : ((x.rs.map (·.1)).zip ess.tail).map (fun p => hdV p.1) = x.rs.map fun p => hdV p.1 := by
    have : ((x.rs.map (·.1)).zip ess.tail).map (fun p => hdV p.1) = (((x.rs.map (·.1)).zip ess.tail).map (·.1)).map hdV := by rw [List.map_map]; rfl
    rw [this, h1, List.map_map]; rfl
  refine ⟨⟨x.ra, x.rc, (x.m.1, ess.getD 0 []), (x.rs.map (·.1)).zip ess.tail⟩, ?_, ?_⟩
  · unfold bufV
    dsimp only
    rw [hzl]
  · refine ⟨ho.low, ?_, ?_, ?_, fun i hi => ?_, ?_⟩
    · exact ho.oe 0 (by simp)
    · dsimp only
      rw [hzl, e1]; exact hds
    · dsimp only
      rw [hzl, hl2]
    · dsimp only
      have hi' : i < x.rs.length := by omega
      have hr := ho.oe (i + 1) (by simp; omega)
      have g1 : ((x.m :: x.rs).map (·.1)).getD (i + 1) hd0 = (((x.rs.map (·.1)).zip ess.tail).getD i default).1 := by
        rw [List.map_cons, List.getD_cons_succ, List.getD_eq_getElem?_getD, List.getD_eq_getElem?_getD, List.getElem?_eq_getElem (by rw [List.length_map]; exact hi'), List.getElem?_eq_getElem (by rw [hzl]; exact hi')]
        simp
      have g2 : ess.getD (i + 1) [] = (((x.rs.map (·.1)).zip ess.tail).getD i default).2 := by
        rw [List.getD_eq_getElem?_getD, List.getD_eq_getElem?_getD, List.getElem?_eq_getElem (by omega), List.getElem?_eq_getElem (by rw [hzl]; exact hi')]
        simp
      have g3 : (partsB b').getD (i + 1) [] = b'.runs.getD i default := by
        unfold partsB; rw [List.getD_cons_succ]; rfl
      rw [g1, g2, g3] at hr
      exact hr
    · dsimp only
      rw [List.map_cons, e1]
      have := ho.two
      rw [List.map_map, List.map_cons] at this
      exact this
end Go.Proofs.Ytnfknkihiapgiaa.bf
