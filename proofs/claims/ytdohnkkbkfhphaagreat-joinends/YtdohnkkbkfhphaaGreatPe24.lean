import Derived.Test.YtdohnkkbkfhphaaGreatPe23
import Derived.Test.YtdohnkkbkfhphaaGreatPe18
namespace Go.Proofs.YtdohnkkbkfhphaaGreat.jn
open Go.ChangeShapes Go.WideShapes Go.ChangeAt Go.RowKit
open vl bf
set_option linter.unusedVariables false
set_option linter.unusedSimpArgs false
def doneL (f : Ent → Ent) (l : List Ent) (k : Nat) : List Ent := (l.take k).map f ++ l.drop k
def doneLs (f : Ent → Ent) (ls : List (List Ent)) (k : Nat) : List (List Ent) := (ls.take k).map (fun l => l.map f) ++ ls.drop k
def doneD (f : Ent → Ent) (ls : List (List Ent)) (i j : Nat) : List (List Ent) := (doneLs f ls i).set i (doneL f (ls.getD i []) j)
theorem doneL_len (f : Ent → Ent) (l : List Ent) (k : Nat) : (doneL f l k).length = l.length := by
 unfold doneL
 rw [List.length_append, List.length_map, List.length_take, List.length_drop]
 omega
theorem doneLs_len (f : Ent → Ent) (l : List (List Ent)) (k : Nat) : (doneLs f l k).length = l.length := by
 unfold doneLs
 rw [List.length_append, List.length_map, List.length_take, List.length_drop]
 omega
theorem doneL_at {f : Ent → Ent} {l : List Ent} {k : Nat} (h : k < l.length) : (doneL f l k).getD k default = l.getD k default := by
 unfold doneL
 rw [drop_cons (d := default) h, List.getD_eq_getElem?_getD, List.getElem?_append_right (by rw [List.length_map, List.length_take]; omega), List.length_map, List.length_take, show k - min k l.length = 0 by omega]
 rfl
theorem doneLs_at {f : Ent → Ent} {l : List (List Ent)} {k : Nat} (h : k < l.length) : (doneLs f l k).getD k [] = l.getD k [] := by
 unfold doneLs
 rw [drop_cons (d := []) h, List.getD_eq_getElem?_getD, List.getElem?_append_right (by rw [List.length_map, List.length_take]; omega), List.length_map, List.length_take, show k - min k l.length = 0 by omega]
 rfl
theorem doneL_step {f : Ent → Ent} {l : List Ent} {k : Nat} (h : k < l.length) : (doneL f l k).set k (f (l.getD k default)) = doneL f l (k + 1) := by
 unfold doneL
 rw [drop_cons (d := default) h, set_mid f l k _ _ _ (by omega), take_map f l k default h, List.append_assoc]
 rfl
theorem doneL_zero (f : Ent → Ent) (l : List Ent) : doneL f l 0 = l := by unfold doneL; rfl
theorem doneL_end (f : Ent → Ent) (l : List Ent) : doneL f l l.length = l.map f := by unfold doneL; rw [List.take_length, List.drop_length, List.append_nil]
theorem doneLs_step {f : Ent → Ent} {l : List (List Ent)} {k : Nat} (h : k < l.length) : (doneLs f l k).set k ((l.getD k []).map f) = doneLs f l (k + 1) := by
 unfold doneLs
 rw [drop_cons (d := []) h, set_mid (fun l => l.map f) l k _ _ _ (by omega), take_map (fun l => l.map f) l k [] h, List.append_assoc]
 rfl
theorem doneLs_zero (f : Ent → Ent) (l : List (List Ent)) : doneLs f l 0 = l := by unfold doneLs; rfl
theorem doneLs_end (qs : List Int) (b : Buf) : doneLs (metE qs) (partsB b) (partsB b).length = partsB (metBuf qs b) := by
 unfold doneLs
 rw [List.take_length, List.drop_length, List.append_nil]
 rfl
theorem doneD_at {f : Ent → Ent} {ls : List (List Ent)} {i j : Nat} (h : i < ls.length) : (doneD f ls i j).getD i [] = doneL f (ls.getD i []) j := getD_set_same (by rw [doneLs_len]; exact h)
theorem doneD_zero {f : Ent → Ent} {ls : List (List Ent)} {i : Nat} (h : i < ls.length) : doneD f ls i 0 = doneLs f ls i := by
 unfold doneD
 rw [doneL_zero, ← doneLs_at (f := f) h]
 exact set_self (by rw [doneLs_len]; exact h)
theorem doneD_end {f : Ent → Ent} {ls : List (List Ent)} {i : Nat} (h : i < ls.length) : doneD f ls i (ls.getD i []).length = doneLs f ls (i + 1) := by
 unfold doneD
 rw [doneL_end, doneLs_step h]
def butH (hs : List Hdr) : Nat → Obj → Prop := fun g o => (∀ c f, o ≠ .cells c 63 f) ∨ ∀ h ∈ hs, (hdV h).ownBlock ≠ some g
theorem names_butH {W : World} {b : Nat} {t : TypeId} {hs : List Hdr} (h : tyAt W b t) (ht : t ≠ 63) : names (butH hs) W b := fun o ho => .inl (names_notE h ht o ho)
structure NSt (w0 V X : World) (base : Nat) (hs : List Hdr) (ls : List (List Ent)) : Prop where
 op : ∃ ess, OP X base hs ess ls
 ko : KeepO (butH hs) V X
 bl : Below w0.heap.size w0 X
theorem NSt.row {w0 V X Y : World} {base : Nat} {hs : List Hdr} {ls : List (List Ent)} {row : Option Nat} {B : Nat} (h : NSt w0 V X base hs ls) (hB : w0.heap.size ≤ B) (hg : X.grownBy Y row) (hr : ∀ r, row = some r → B ≤ r ∧ ∃ x : Obj, X.heap[r]? = some x ∧ x.isCells = false) : NSt w0 V Y base hs ls := by
 obtain ⟨ess, ho⟩ := h.op
 exact ⟨⟨ess, ho.same hg.size (fun g hg' => by rcases hg' with k | k; exact ty_row hg (fun r e => (hr r e).2) k; exact ty_row hg (fun r e => (hr r e).2) k)⟩, h.ko.grown hg (fun r e => (hr r e).2), own_low h.bl nR hB hg hr⟩
theorem NSt.below {w0 V X Y : World} {base : Nat} {hs : List Hdr} {ls : List (List Ent)} (h : NSt w0 V X base hs ls) (hb : Below X.heap.size X Y) : NSt w0 V Y base hs ls := by
 obtain ⟨ess, ho⟩ := h.op
 exact ⟨⟨ess, ho.below hb⟩, h.ko.trans (ko_below hb), h.bl.trans (hb.mono h.bl.size)⟩
theorem NSt.rec_put {w0 V X : World} {base D : Nat} {hs : List Hdr} {ls : List (List Ent)} {q : Obj} (h : NSt w0 V X base hs ls) (hD : X.heap[D]? = some q) (hq : q.isCells = false) (hl : w0.heap.size ≤ D) (o : Obj) : NSt w0 V (X.putObj D o) base hs ls := by
 obtain ⟨ess, ho⟩ := h.op
 have hk : ∀ g t, tyAt X g t → (X.putObj D o).heap[g]? = X.heap[g]? := fun g t hg => World.putObj_heap_other (fun e => by
  obtain ⟨c, f, k⟩ := hg
  rw [e, hD] at k
  injection k with k
  rw [k] at hq
  cases hq)
 exact ⟨⟨ess, ho.same (by simp) (fun g hg => hg.elim (hk g _) (hk g _))⟩, h.ko.trans (KeepO.put X D q o hD hq), put_low h.bl hl hD o⟩
theorem NSt.read {w0 V X : World} {base : Nat} {hs : List Hdr} {ls : List (List Ent)} {f : Ent → Ent} {i j : Nat} (h : NSt w0 V X base hs (doneD f ls i j)) (hi : i < hs.length) (hl : ls.length = hs.length) (hj : j < (ls.getD i []).length) :
 ∃ (g : Nat) (e : EM), hs.getD i hd0 = (some ⟨g, 0, none⟩, (ls.getD i []).length, (hs.getD i hd0).2.2) ∧ X.cell? ⟨g, j * 5 + 2, none⟩ = some (.int .i64 e.seq) ∧ X.cell? ⟨g, j * 5 + 4, none⟩ = some (.bool e.met) ∧ X.frozen? ⟨g, j * 5 + 4, none⟩ = false ∧ ((ls.getD i []).getD j default).seq = e.seq ∧ ((ls.getD i []).getD j default).met = e.met := by
 obtain ⟨ess, ho⟩ := h.op
 have hok := ho.oe i hi
 rw [doneD_at (by omega)] at hok
 have hlen : (doneL f (ls.getD i []) j).length = (ls.getD i []).length := doneL_len _ _ _
 obtain ⟨g, hh⟩ := hd_slice hok (by omega)
 have hel : (ess.getD i []).length = (ls.getD i []).length := by rw [hok.len, hlen]
 rw [hel] at hh
 have hv : hdV (hs.getD i hd0) = .slice (some ⟨g, 0, none⟩) (ess.getD i []).length (hs.getD i hd0).2.2 := by rw [hh, hel]; rfl
 rw [hv] at hok
 obtain ⟨b, o, ea, x1, x2, x3, x4, x5⟩ := hok.at j (by omega)
 cases ea
 have her := hok.ers.2 j (by omega)
 rw [doneL_at hj] at her
 rw [Nat.zero_add] at x1 x2 x3 x4 x5
 exact ⟨g, (ess.getD i []).getD j default, hh, x3, x5, froz_in hok.own _, her.seq.symm, her.met.symm⟩
theorem NSt.put {w0 V X : World} {base g : Nat} {hs : List Hdr} {ls : List (List Ent)} {qs : List Int} {i j : Nat} {v : Bool} (h : NSt w0 V X base hs (doneD (metE qs) ls i j)) (hw : w0.heap.size ≤ base) (hi : i < hs.length) (hl : ls.length = hs.length) (hj : j < (ls.getD i []).length) (hg : (hs.getD i hd0).1 = some ⟨g, 0, none⟩)
 (hc : X.cell? ⟨g, j * 5 + 4, none⟩ = some (.bool ((ls.getD i []).getD j default).met)) (hm : v = (((ls.getD i []).getD j default).met || decide (((ls.getD i []).getD j default).seq ∈ qs))) :
 NSt w0 V (X.setCell ⟨g, j * 5 + 4, none⟩ (.bool v)) base hs (doneD (metE qs) ls i (j + 1)) ∧ KeepO (butH hs) X (X.setCell ⟨g, j * 5 + 4, none⟩ (.bool v)) := by
 have hil : i < ls.length := by omega
 have e1 : (doneD (metE qs) ls i j).set i (doneL (metE qs) (ls.getD i []) (j + 1)) = doneD (metE qs) ls i (j + 1) := by unfold doneD; rw [List.set_set]
 have e2 := doneL_step (f := metE qs) hj
 by_cases hp : ((ls.getD i []).getD j default).seq ∈ qs
 ·have ev : v = true := by rw [hm, decide_eq_true hp, Bool.or_true]
  rw [ev]
  have ef : metE qs ((ls.getD i []).getD j default) = ((ls.getD i []).getD j default).meet := by unfold metE; rw [if_pos hp]; rfl
  obtain ⟨ess, ho⟩ := h.op
  have hdl : j < ((doneD (metE qs) ls i j).getD i []).length := by rw [doneD_at hil, doneL_len]; exact hj
  have hok := ho.oe i hi
  have hob : (hdV (hs.getD i hd0)).ownBlock = some g := by
   obtain ⟨g', hh⟩ := hd_slice hok (by omega)
   rw [hh] at hg
   cases hg
   rw [hh]; rfl
  have hge := (own_lt hok.own hob).1
  have hko : KeepO (butH hs) X (X.setCell ⟨g, j * 5 + 4, none⟩ (.bool true)) := fun b o h1 h2 h3 => by
   refine (heap_setCell_other _ _ _ _ (fun e => ?_)).trans h1
   dsimp only at e
   subst e
   rcases h3 with h3 | h3
   ·obtain ⟨c, f, h4⟩ := own_ty hok.own hob
    rw [h1] at h4
    injection h4 with h4
    exact h3 c f h4
   ·exact h3 _ (mem_getD hi) hob
  have hop := OP_met ho hi hdl hg
  rw [doneD_at hil, doneL_at hj, ← ef, e2, e1] at hop
  exact ⟨⟨⟨_, hop⟩, h.ko.trans hko, h.bl.setCell (by dsimp only; omega) _⟩, hko⟩
 ·have ev : v = ((ls.getD i []).getD j default).met := by rw [hm, decide_eq_false hp, Bool.or_false]
  rw [ev, set_kept hc]
  have ef : metE qs ((ls.getD i []).getD j default) = (ls.getD i []).getD j default := by unfold metE; rw [if_neg hp]
  have e3 : doneL (metE qs) (ls.getD i []) (j + 1) = doneL (metE qs) (ls.getD i []) j := by
   rw [← e2, ef, ← doneL_at (f := metE qs) hj]
   exact set_self (by rw [doneL_len]; exact hj)
  have e4 : doneD (metE qs) ls i (j + 1) = doneD (metE qs) ls i j := by unfold doneD; rw [e3]
  rw [e4]
  exact ⟨h, KeepO.refl _ _⟩
theorem NSt.hlen {w0 V X : World} {base : Nat} {hs : List Hdr} {ls : List (List Ent)} {f : Ent → Ent} {i : Nat} (h : NSt w0 V X base hs (doneLs f ls i)) (hi : i < hs.length) (hl : ls.length = hs.length) : (hs.getD i hd0).2.1 = (ls.getD i []).length := by
 obtain ⟨ess, ho⟩ := h.op
 have hok := ho.oe i hi
 rw [doneLs_at (by omega)] at hok
 obtain ⟨ad, cp, e⟩ := hok.form
 unfold hdV at e
 injection e with _ e2 _
 rw [e2, hok.len]
theorem NSt_start {w0 V : World} {base : Nat} {x : BX} {b : Buf} {f : Ent → Ent} (h : OB V base x b) (hb : Below w0.heap.size w0 V) : NSt w0 V V base ((x.m :: x.rs).map (·.1)) (doneLs f (partsB b) 0) :=
 ⟨⟨_, by rw [doneLs_zero]; exact OP_of h⟩, KeepO.refl _ _, hb⟩
theorem OB_back {X : World} {base : Nat} {x : BX} {b' : Buf} {ess : List (List EM)} (ho : OP X base ((x.m :: x.rs).map (·.1)) ess (partsB b')) (hds : X.ownsRow base 26 1 (.slice x.ra x.rs.length x.rc) x.rs.length (x.rs.map fun p => hdV p.1)) : ∃ x' : BX, x'.ra = x.ra ∧ x'.rc = x.rc ∧ x'.m.1 = x.m.1 ∧ x'.rs.map (·.1) = x.rs.map (·.1) ∧ OB X base x' b' := by
 have hl1 : ess.length = x.rs.length + 1 := by rw [ho.l1]; simp
 have hz : (x.rs.map (·.1)).length = ess.tail.length := by rw [List.length_map, List.length_tail, hl1]; rfl
 have hzl : ((x.rs.map (·.1)).zip ess.tail).length = x.rs.length := by rw [List.length_zip, ← hz, List.length_map, Nat.min_self]
 have h1 : ((x.rs.map (·.1)).zip ess.tail).map (·.1) = x.rs.map (·.1) := List.map_fst_zip (by omega)
 have hl2 : b'.runs.length = x.rs.length := by have := ho.l2; simp [partsB] at this; exact this
 have e1 : ((x.rs.map (·.1)).zip ess.tail).map (fun p => hdV p.1) = x.rs.map fun p => hdV p.1 := by
  have : ((x.rs.map (·.1)).zip ess.tail).map (fun p => hdV p.1) = (((x.rs.map (·.1)).zip ess.tail).map (·.1)).map hdV := by rw [List.map_map]; rfl
  rw [this, h1, List.map_map]; rfl
 refine ⟨⟨x.ra, x.rc, (x.m.1, ess.getD 0 []), (x.rs.map (·.1)).zip ess.tail⟩, rfl, rfl, rfl, h1, ?_⟩
 refine ⟨ho.low, ho.oe 0 (by simp), ?_, ?_, fun i hi => ?_, ?_⟩
 ·dsimp only
  rw [hzl, e1]; exact hds
 ·dsimp only
  rw [hzl, hl2]
 ·dsimp only
  have hi' : i < x.rs.length := by omega
  have hr := ho.oe (i + 1) (by simp; omega)
  have g1 : ((x.m :: x.rs).map (·.1)).getD (i + 1) hd0 = (((x.rs.map (·.1)).zip ess.tail).getD i default).1 := by
   rw [List.map_cons, List.getD_cons_succ, List.getD_eq_getElem?_getD, List.getD_eq_getElem?_getD, List.getElem?_eq_getElem (by rw [List.length_map]; exact hi'), List.getElem?_eq_getElem (by rw [hzl]; exact hi')]
   simp
  have g2 : ess.getD (i + 1) [] = (((x.rs.map (·.1)).zip ess.tail).getD i default).2 := by
   rw [List.getD_eq_getElem?_getD, List.getD_eq_getElem?_getD, List.getElem?_eq_getElem (by omega), List.getElem?_eq_getElem (by rw [hzl]; exact hi')]
   simp
  have g3 : (partsB b').getD (i + 1) [] = b'.runs.getD i default := by
   unfold partsB; rw [List.getD_cons_succ]; rfl
  rw [g1, g2, g3] at hr
  exact hr
 ·dsimp only
  rw [List.map_cons, e1]
  have := ho.two
  rw [List.map_map, List.map_cons] at this
  exact this
theorem heads_in {x x' : BX} (h1 : x'.m.1 = x.m.1) (h2 : x'.rs.map (·.1) = x.rs.map (·.1)) {p : Part} (hp : p ∈ x'.m :: x'.rs) : ∃ q ∈ x.m :: x.rs, q.1 = p.1 := by
 rcases List.mem_cons.1 hp with rfl | hp
 ·exact ⟨x.m, List.mem_cons_self .., h1.symm⟩
 ·have : p.1 ∈ x.rs.map (·.1) := by rw [← h2]; exact List.mem_map.2 ⟨p, hp, rfl⟩
  obtain ⟨q, hq, e⟩ := List.mem_map.1 this
  exact ⟨q, List.mem_cons_of_mem _ hq, e⟩
theorem OB_stay {V X : World} {base : Nat} {x x1 : BX} {b : Buf} (h : OB V base x b) (hs : V.heap.size ≤ X.heap.size) (hko : KeepO (butH ((x1.m :: x1.rs).map (·.1))) V X) (hap : ∀ p ∈ x.m :: x.rs, ∀ q ∈ x1.m :: x1.rs, apB (hdV p.1) (hdV q.1)) : OB X base x b := by
 have hty : ∀ g t, tyAt V g t → t ≠ 63 → X.heap[g]? = V.heap[g]? := fun g t hg ht => by
  obtain ⟨c, f, e⟩ := hg
  rw [e]
  exact hko g _ e rfl (.inl (fun c' f' e' => by injection e' with _ e2 _; exact ht e2))
 have hoe : ∀ {p : Part} {l : List Ent}, p ∈ x.m :: x.rs → OE V base (hdV p.1) p.2 l → OE X base (hdV p.1) p.2 l := fun {p l} hp ho => ho.same hs (fun g cur t hg ht => by
  rcases ht with ⟨hv, rfl⟩ | rfl
  ·rw [hg]
   refine hko g _ hg rfl (.inr (fun q hq e => ?_))
   obtain ⟨z, hz, rfl⟩ := List.mem_map.1 hq
   exact hap p hp z hz g hv e
  ·exact hty g _ ⟨cur, _, hg⟩ (by decide))
 refine ⟨Nat.le_trans h.low hs, hoe (List.mem_cons_self ..) h.mem, own_same h.hds (fun g hg => hty g _ (own_ty h.hds hg) (by decide)), h.rlen, fun i hi => hoe (List.mem_cons_of_mem _ ?_) (h.runs i hi), h.two⟩
 exact mem_getD (by rw [h.rlen]; exact hi)
theorem boxC_as {U : World} {b : Nat} {p : pl.Pln} {x : pl.PA} {s s' : Jn} {y y' : JX} {t : Value} (h : boxC U b p x s y t) (e1 : s'.L.lim = s.L.lim) (e2 : s'.R.lim = s.R.lim) (e3 : s'.lm = s.lm) (e4 : s'.rm = s.rm) (e5 : s'.seq = s.seq)
 (l1 : y'.l.m.1 = y.l.m.1) (l2 : y'.l.ra = y.l.ra) (l3 : y'.l.rc = y.l.rc) (l4 : y'.l.rs.length = y.l.rs.length) (r1 : y'.r.m.1 = y.r.m.1) (r2 : y'.r.ra = y.r.ra) (r3 : y'.r.rc = y.r.rc) (r4 : y'.r.rs.length = y.r.rs.length) : boxC U b p x s' y' t := by
 refine ⟨h.plan, ?_, h.told, h.room⟩
 have := h.join
 unfold jnC at *
 rw [e1, e2, e3, e4, e5, l1, l2, l3, l4, r1, r2, r3, r4]
 exact this
def keepE (w w' : World) : Prop := Below 0 w w' ∧ ∀ g e, tyAt w g e → e ≠ 63 → w'.heap[g]? = w.heap[g]?
theorem keepE.cell {e : TypeId} {w w' : World} {g o : Nat} {v : Value} (h : keepE w w') (hg : tyAt w g e) (h1 : e ≠ 63) (hc : w.cell? ⟨g, o, none⟩ = some v) : w'.cell? ⟨g, o, none⟩ = some v := (World.cell?_of_block (w := w) (a := ⟨g, o, none⟩) (h.2 g e hg h1)).trans hc
theorem keepE_of {w0 w V X : World} {b base : Nat} {T : TypeId} {p : pl.Pln} {x : pl.PA} {s : Jn} {y : JX} {t : Value} {L : List CO} {hs : List Hdr} {ls : List (List Ent)} (h : JSt w0 w b T p x s y t L) (hb : Below w.heap.size w V) (hn : NSt w0 V X base hs ls) (hz : V.heap.size ≤ X.heap.size) : keepE w X := by
 refine ⟨⟨hn.bl.os.trans h.bl.os.symm, hn.bl.tape.trans h.bl.tape.symm, hn.bl.output.trans h.bl.output.symm, Nat.le_trans hb.size hz, fun k hk => absurd hk (Nat.not_lt_zero k)⟩, fun g e hg he => ?_⟩
 have h1 := hb.block g (tyAt_lt hg)
 obtain ⟨c, f, k⟩ := hg
 rw [k]
 exact hn.ko g _ (h1.trans k) rfl (.inl (fun c' f' e' => by injection e' with _ e2 _; exact he e2))
theorem JSt.met {w0 V X : World} {b : Nat} {T : TypeId} {p : pl.Pln} {x : pl.PA} {s : Jn} {y : JX} {t : Value} {L : List CO} (h : JSt w0 V b T p x s y t L) (hT : calmC T) (side : Int) (qs : List Int) (hn : NSt w0 V X w0.heap.size (((bxOf y side).m :: (bxOf y side).rs).map (·.1)) (partsB (metBuf qs (bufOf s side)))) (hz : V.heap.size ≤ X.heap.size) :
 ∃ y', JSt w0 X b T p x (putBuf s side (metBuf qs (bufOf s side))) y' t L := by
 have hko := hn.ko
 have hty : ∀ g e, tyAt V g e → e ≠ 63 → X.heap[g]? = V.heap[g]? := fun g e hg he => by
  obtain ⟨c, f, k⟩ := hg
  rw [k]
  exact hko g _ k rfl (.inl (fun c' f' e' => by injection e' with _ e2 _; exact he e2))
 obtain ⟨ess, ho⟩ := hn.op
 have hbx : X.heap[b]? = V.heap[b]? := hty b T h.ty hT.t.e
 have hbox := boxC_same h.box hbx
 have hcg := CG.other h.cg hz (fun g hg => hg.elim (fun k => hty g _ k (by decide)) (fun k => hty g _ k (by decide)))
 by_cases e : side = 2
 ·have eb : bxOf y side = y.r := by unfold bxOf; rw [if_pos e]
  have es : bufOf s side = s.R := by unfold bufOf; rw [if_pos e]
  rw [eb] at ho hko
  rw [es] at ho
  rw [es]
  obtain ⟨x', a1, a2, a3, a4, a5⟩ := OB_back ho (own_same h.r.hds (fun g hg => hty g _ (own_ty h.r.hds hg) (by decide)))
  have hl : x'.rs.length = y.r.rs.length := by have := congrArg List.length a4; simpa using this
  unfold putBuf
  rw [if_pos e]
  refine ⟨⟨y.l, x'⟩, boxC_as hbox rfl rfl rfl rfl rfl rfl rfl rfl rfl a3 a1 a2 hl, tyAt_of h.ty hbx, h.up, OB_stay h.l hz hko (fun p hp q hq => h.ap p hp q hq), a5, fun p hp q hq => ?_, hcg, hn.bl⟩
  obtain ⟨q', hq', e'⟩ := heads_in a3 a4 hq
  rw [← e']
  exact h.ap p hp q' hq'
 ·have eb : bxOf y side = y.l := by unfold bxOf; rw [if_neg e]
  have es : bufOf s side = s.L := by unfold bufOf; rw [if_neg e]
  rw [eb] at ho hko
  rw [es] at ho
  rw [es]
  obtain ⟨x', a1, a2, a3, a4, a5⟩ := OB_back ho (own_same h.l.hds (fun g hg => hty g _ (own_ty h.l.hds hg) (by decide)))
  have hl : x'.rs.length = y.l.rs.length := by have := congrArg List.length a4; simpa using this
  unfold putBuf
  rw [if_neg e]
  refine ⟨⟨x', y.r⟩, boxC_as hbox rfl rfl rfl rfl rfl a3 a1 a2 hl rfl rfl rfl rfl, tyAt_of h.ty hbx, h.up, a5, OB_stay h.r hz hko (fun p hp q hq => apB_symm (h.ap q hq p hp)), fun p hp q hq => ?_, hcg, hn.bl⟩
  obtain ⟨p', hp', e'⟩ := heads_in a3 a4 hp
  rw [← e']
  exact h.ap p' hp' q hq
end Go.Proofs.YtdohnkkbkfhphaaGreat.jn
namespace Go.Proofs.YtdohnkkbkfhphaaGreat.jn
open Go.ChangeShapes Go.WideShapes Go.ChangeAt Go.RowKit
open vl bf
set_option linter.unusedVariables false
set_option linter.unusedSimpArgs false
attribute [local go_sem] Oper.semAt_some
def comerV (p : pl.Pln) (v : Ev) (ra : Option Addr) (rc : Nat) : Value := .agg #[.int .i64 v.side, .int .i64 v.time, .slice ra v.row.length rc, .string (pl.keyOfS p v.side v.row), .bool (pl.hasB p v.side v.row)]
set_option maxRecDepth 100000 in
set_option maxHeartbeats 4000000 in
theorem comerOf_any (p : pl.Pln) (x : pl.PA) (v : Ev) (ra : Option Addr) (rc : Nat) (w : World) (hw : pl.wfPlan p) (hp : pl.planAt w p x) (hv : evAt w v ra) :
 Calls Tryz.prog 49 #[pl.planV p x, evV v ra rc] w fun e w' => e = .returned (comerV p v ra rc) ∧ Below w.heap.size w w' := by
 have KK := hIz (fun (w1 : World) (hb : Below w.heap.size w w1) => pl.keyOf_any p x v.side ra rc v.row w1 hw (pl.planAt_below hp hb) (vl.rowAt_below hv.row hb) hv.wf hv.len)
 unfold comerV
 obtain ⟨kb, h1⟩ : ∃ z, pl.keyOfS p v.side v.row = z := ⟨_, rfl⟩
 obtain ⟨hb, h2⟩ : ∃ z, pl.hasB p v.side v.row = z := ⟨_, rfl⟩
 obtain ⟨re, h3⟩ : ∃ z, pl.rowErr p v.side v.row = z := ⟨_, rfl⟩
 rw [h1, h2, h3] at KK
 rw [h1, h2]
 clear h1 h2 h3 hw hp hv
 unfold pl.planV at KK ⊢
 unfold evV
 obtain ⟨kd, sd, tm, row⟩ := v
 dsimp only at *
 obtain ⟨n, hn⟩ : ∃ z, row.length = z := ⟨_, rfl⟩
 rw [hn] at KK ⊢
 clear hn
 go_enter Tryz.func49, Tryz.ntmps49
 go_wp2_with fail
 generalize hV : (World.alloc (World.alloc (World.alloc w _) _) _) = V
 have hb0 : Below w.heap.size w V := by rw [← hV]; exact ((bR.alloc nR _).alloc (by simp) _).alloc (by simp; omega) _
 have q1 : V.cell? ⟨w.heap.size + 1, 1, none⟩ = some (.int .i64 sd) := by subst hV; go_simp
 have q2 : V.cell? ⟨w.heap.size + 1, 2, none⟩ = some (.int .i64 tm) := by subst hV; go_simp
 have q3 : V.cell? ⟨w.heap.size + 1, 3, none⟩ = some (.slice ra n rc) := by subst hV; go_simp
 have z0 : V.cell? ⟨w.heap.size + 1 + 1, 0, none⟩ = some (.int .i64 0) := by subst hV; go_simp
 have z1 : V.cell? ⟨w.heap.size + 1 + 1, 1, none⟩ = some (.int .i64 0) := by subst hV; go_simp
 have z2 : V.cell? ⟨w.heap.size + 1 + 1, 2, none⟩ = some (.slice none 0 0) := by subst hV; go_simp
 have z3 : V.cell? ⟨w.heap.size + 1 + 1, 3, none⟩ = some (.string ⟨#[]⟩) := by subst hV; go_simp
 have z4 : V.cell? ⟨w.heap.size + 1 + 1, 4, none⟩ = some (.bool false) := by subst hV; go_simp
 have o0 : V.frozen? ⟨w.heap.size + 1 + 1, 0, none⟩ = false := by subst hV; go_simp
 have o1 : V.frozen? ⟨w.heap.size + 1 + 1, 1, none⟩ = false := by subst hV; go_simp
 have o2 : V.frozen? ⟨w.heap.size + 1 + 1, 2, none⟩ = false := by subst hV; go_simp
 have o3 : V.frozen? ⟨w.heap.size + 1 + 1, 3, none⟩ = false := by subst hV; go_simp
 have o4 : V.frozen? ⟨w.heap.size + 1 + 1, 4, none⟩ = false := by subst hV; go_simp
 clear hV
 refine (KK.out _ hb0).mono ?_
 rintro e w1 ⟨rfl, hb1⟩
 have hbw : Below w.heap.size w w1 := hb0.trans (hb1.mono hb0.size)
 have lz := World.block_lt_of_cell? _ _ z0
 replace q1 := cLz hb1 q1
 replace q2 := cLz hb1 q2
 replace q3 := cLz hb1 q3
 replace z0 := cLz hb1 z0
 replace z1 := cLz hb1 z1
 replace z2 := cLz hb1 z2
 replace z3 := cLz hb1 z3
 replace z4 := cLz hb1 z4
 replace o0 := (hb1.frozen (p := ⟨w.heap.size + 1 + 1, 0, none⟩) lz).trans o0
 replace o1 := (hb1.frozen (p := ⟨w.heap.size + 1 + 1, 1, none⟩) lz).trans o1
 replace o2 := (hb1.frozen (p := ⟨w.heap.size + 1 + 1, 2, none⟩) lz).trans o2
 replace o3 := (hb1.frozen (p := ⟨w.heap.size + 1 + 1, 3, none⟩) lz).trans o3
 replace o4 := (hb1.frozen (p := ⟨w.heap.size + 1 + 1, 4, none⟩) lz).trans o4
 clear hb1 hb0 KK lz
 go_wp2
 exact bodyPost_ret (v := .agg #[.int .i64 sd, .int .i64 tm, .slice ra n rc, .string kb, .bool hb]) (by simp [results, Tryz.results49, go_sem, z0, z1, z2, z3, z4]) rfl ⟨rfl, ((((hbw.setCell (by dsimp only; omega) _).setCell (by dsimp only; omega) _).setCell (by dsimp only; omega) _).setCell (by dsimp only; omega) _).setCell (by dsimp only; omega) _⟩
theorem cols14 {p : pl.Pln} (h : pl.planErr p = 0) (side : Int) : 1 ≤ (pl.colsOf p side).length ∧ (pl.colsOf p side).length ≤ 4 := by
 have := pl.many_len (pl.planErr_ok h).2.2.1
 unfold pl.colsOf
 split <;> omega
theorem null_len (n : Nat) : (bt.nullRow n).length = n := by unfold bt.nullRow; rw [List.length_replicate]
set_option maxRecDepth 100000 in
set_option maxHeartbeats 4000000 in
theorem alone_any (b : Nat) (p : pl.Pln) (x : pl.PA) (side : Int) (ra : Option Addr) (rc : Nat) (row : List Cel) (w : World) (hp : pl.planErr p = 0) (hs : pl.sideB side = true) (hb : boxP w b p x) (hr : vl.rowAt w ra row) (n1 : 0 < row.length) (m1 : row.length ≤ 400) :
 Calls Tryz.prog 270 #[.pointer (some ⟨b, 0, none⟩), .int .i64 side, .slice ra row.length rc] w fun e w' => (∃ ad cap, e = .returned (.slice ad (aloneR p side row).length cap) ∧ ownV w' w.heap.size (.slice ad (aloneR p side row).length cap) (aloneR p side row)) ∧ Below w.heap.size w w' := by
 have hc := cols14 hp (3 - side)
 have KO := hIz (fun (w1 : World) => other_any side w1 hs)
 have KN := hIz (fun (w1 : World) => bt.nulls_any p x (3 - side) w1 hc.1 hc.2)
 have KJ : Hid (∀ gb w1, Below w.heap.size w w1 → vl.rowAt w1 (some ⟨gb, 0, none⟩) (bt.nullRow (pl.colsOf p (3 - side)).length) → Calls Tryz.prog 267 #[.int .i64 side, .slice ra row.length rc, .slice (some ⟨gb, 0, none⟩) (pl.colsOf p (3 - side)).length (pl.colsOf p (3 - side)).length] w1 fun e w' => (∃ ad cap, e = .returned (.slice ad (aloneR p side row).length cap) ∧ ownV w' w1.heap.size (.slice ad (aloneR p side row).length cap) (aloneR p side row)) ∧ Below w1.heap.size w1 w') := fun gb w1 hb1 hn => by
  have := joined_any side ra (some ⟨gb, 0, none⟩) rc (pl.colsOf p (3 - side)).length row (bt.nullRow (pl.colsOf p (3 - side)).length) w1 n1 (by rw [null_len]; omega) m1 (by rw [null_len]; omega) (vl.rowAt_below hr hb1) hn
  rw [null_len] at this
  exact this
 obtain ⟨v0, v1, v2, v3, v4, v5, v6, v7, v8, v9, v10, v11, v12⟩ := hb
 have SK : Hid (∀ w', Below w.heap.size w w' → w'.cell? ⟨b, 0, none⟩ = some (.int .i64 p.kind) ∧ w'.cell? ⟨b, 1, none⟩ = some (.int .i64 p.mode) ∧ w'.cell? ⟨b, 2, none⟩ = some (.int .i64 p.low) ∧ w'.cell? ⟨b, 3, none⟩ = some (.int .i64 p.high) ∧ w'.cell? ⟨b, 4, none⟩ = some (.int .i64 p.size) ∧ w'.cell? ⟨b, 5, none⟩ = some (.int .i64 p.limit) ∧ w'.cell? ⟨b, 6, none⟩ = some (.slice x.l p.left.length x.lc) ∧ w'.cell? ⟨b, 7, none⟩ = some (.slice x.r p.right.length x.rc) ∧ w'.cell? ⟨b, 8, none⟩ = some (.slice x.lk p.lkeys.length x.lkc) ∧ w'.cell? ⟨b, 9, none⟩ = some (.slice x.rk p.rkeys.length x.rkc) ∧ w'.cell? ⟨b, 10, none⟩ = some (.bool p.grouped) ∧ w'.cell? ⟨b, 11, none⟩ = some (.slice x.g p.group.length x.gc) ∧ w'.cell? ⟨b, 12, none⟩ = some (.slice x.a p.aggs.length x.ac)) := fun w' hz => ⟨cLz hz v0, cLz hz v1, cLz hz v2, cLz hz v3, cLz hz v4, cLz hz v5, cLz hz v6, cLz hz v7, cLz hz v8, cLz hz v9, cLz hz v10, cLz hz v11, cLz hz v12⟩
 obtain ⟨q, hq⟩ : ∃ z, (aloneR p side row).length = z := ⟨_, rfl⟩
 obtain ⟨n, hn⟩ : ∃ z, (pl.colsOf p (3 - side)).length = z := ⟨_, rfl⟩
 obtain ⟨od, hod⟩ : ∃ z, 3 - side = z := ⟨_, rfl⟩
 obtain ⟨rl, hrl⟩ : ∃ z, row.length = z := ⟨_, rfl⟩
 rw [hn, hq, hrl] at KJ
 rw [hn, hod] at KN
 rw [hod] at KO
 rw [hq, hrl]
 clear hn hq hod hrl hc hp hs hr n1 m1
 unfold pl.planV at KN
 go_enter Tryz.func270, Tryz.ntmps270
 go_wp2
 go_region_held3 (fun w' => w'.cell? ⟨b, 0, none⟩ = some (.int .i64 p.kind) ∧ w'.cell? ⟨b, 1, none⟩ = some (.int .i64 p.mode) ∧ w'.cell? ⟨b, 2, none⟩ = some (.int .i64 p.low) ∧ w'.cell? ⟨b, 3, none⟩ = some (.int .i64 p.high) ∧ w'.cell? ⟨b, 4, none⟩ = some (.int .i64 p.size) ∧ w'.cell? ⟨b, 5, none⟩ = some (.int .i64 p.limit) ∧ w'.cell? ⟨b, 6, none⟩ = some (.slice x.l p.left.length x.lc) ∧ w'.cell? ⟨b, 7, none⟩ = some (.slice x.r p.right.length x.rc) ∧ w'.cell? ⟨b, 8, none⟩ = some (.slice x.lk p.lkeys.length x.lkc) ∧ w'.cell? ⟨b, 9, none⟩ = some (.slice x.rk p.rkeys.length x.rkc) ∧ w'.cell? ⟨b, 10, none⟩ = some (.bool p.grouped) ∧ w'.cell? ⟨b, 11, none⟩ = some (.slice x.g p.group.length x.gc) ∧ w'.cell? ⟨b, 12, none⟩ = some (.slice x.a p.aggs.length x.ac)) (first | exact SK.out _ hy | exact SK.out _ (bR.drew) | go_keep)
  (first
   | (go_at_call 267; refine (KJ.out _ _ hy hnr).mono ?_; rintro e wj ⟨⟨ad, cap, rfl, ho⟩, hbj⟩; have hyj : Below w.heap.size w wj := hy.trans (hbj.mono hy.size); have hso : w.heap.size ≤ wn.heap.size := hy.size; have hy := hyj)
   | (go_at_call 275; refine (KN.out _).mono ?_; rintro e wn ⟨⟨gb, rfl, hgb, hnr⟩, hbn⟩; have hy : Below w.heap.size w wn := bR.drew.trans hbn)
   | (go_at_call 264; refine (KO.out _).mono ?_; rintro e w2 ⟨rfl, rfl⟩))
 all_goals
  go_wp2
  go_ret
  exact ⟨⟨ad, cap, rfl, World.ownsRow.mono ho hso⟩, hyj⟩
def waitL (p : pl.Pln) (s : Jn) (v : Ev) (fr tO : Int) : List Ent := if pl.hasB p v.side v.row = true then scanB (bufOf s (3 - v.side)) (pl.keyOfS p v.side v.row) fr tO else []
theorem scan_same (b : Buf) (k : ByteArray) (a z : Int) : ((entsB b).filter fun y => decide (y.key = k) && decide (a ≤ y.time) && decide (y.time ≤ z)) = (entsB b).filter (inScan k a z) := by
 congr 1
 funext y
 unfold inScan
 rw [Bool.and_assoc]
theorem scan_is {b : Buf} (h : okB b) {k : ByteArray} {a z : Int} {l : List Ent} (hp : l.Perm ((entsB b).filter (inScan k a z))) (hb : byPl l) : l = scanB b k a z := by
 unfold scanB
 rw [scan_same]
 exact sortP_is hp hb (h.once.sublist (List.filter_sublist.map _))
theorem wait_few {p : pl.Pln} {s : Jn} {v : Ev} {fr tO : Int} (h : okB (bufOf s (3 - v.side))) : (waitL p s v fr tO).length ≤ 4096 := by
 unfold waitL
 split
 ·unfold scanB
  rw [(sortP_perm _).length_eq]
  exact Nat.le_trans (List.length_filter_le ..) h.all
 ·exact Nat.zero_le _
theorem wait_in {p : pl.Pln} {s : Jn} {v : Ev} {fr tO : Int} {y : Ent} (h : y ∈ waitL p s v fr tO) : y ∈ entsB (bufOf s (3 - v.side)) := by
 unfold waitL at h
 split at h
 ·unfold scanB at h
  exact (List.mem_filter.1 ((sortP_perm _).mem_iff.1 h)).1
 ·exact absurd h List.not_mem_nil
set_option maxRecDepth 100000 in
set_option maxHeartbeats 4000000 in
theorem waiting_any (b : Nat) (p : pl.Pln) (x : pl.PA) (s : Jn) (y : JX) (t : Value) (v : Ev) (ra : Option Addr) (rc : Nat) (fr tO : Int) (w : World) (hs : pl.sideB v.side = true) (h : boxC w b p x s y t) (hB : bufAt w (bufOf s (3 - v.side)) (bxOf y (3 - v.side))) (ok : okB (bufOf s (3 - v.side))) (wf : ∀ z ∈ entsB (bufOf s (3 - v.side)), wfE z ∧ wfP (plOf z)) :
 Calls Tryz.prog 266 #[.pointer (some ⟨b, 0, none⟩), comerV p v ra rc, .int .i64 fr, .int .i64 tO] w fun e w' => (∃ hh es, e = .returned (hdV hh) ∧ OE w' w.heap.size (hdV hh) es (waitL p s v fr tO)) ∧ Below w.heap.size w w' := by
 unfold waitL comerV
 cases hk : pl.hasB p v.side v.row with
 | false =>
  rw [if_neg (by decide)]
  obtain ⟨kb, h1⟩ : ∃ z, pl.keyOfS p v.side v.row = z := ⟨_, rfl⟩
  obtain ⟨rl, hrl⟩ : ∃ z, v.row.length = z := ⟨_, rfl⟩
  rw [h1, hrl]
  clear h1 hrl
  go_enter Tryz.func266, Tryz.ntmps266
  go_wp2
  go_ret
  exact ⟨⟨(none, 0, 0), [], rfl, OE_nil (by simp)⟩, bR.alloc nR _⟩
 | true =>
  rw [if_pos rfl]
  have KO := hIz (fun (w1 : World) => other_any v.side w1 hs)
  have KB : Hid (∀ w1, Calls Tryz.prog 144 #[.pointer (some ⟨b, 13, none⟩), .int .i64 (3 - v.side)] w1 fun e w' => e = .returned (.pointer (some ⟨b, 13 + bufferAt (3 - v.side), none⟩)) ∧ w' = w1) := fun w1 => bufferOf_at b 13 (3 - v.side) w1
  obtain ⟨HC0, HC1, HC2⟩ := buffer_at h.join (3 - v.side)
  have hbl := h.lt
  obtain ⟨B, hBf⟩ : ∃ z, bufOf s (3 - v.side) = z := ⟨_, rfl⟩
  obtain ⟨X, hX⟩ : ∃ z, bxOf y (3 - v.side) = z := ⟨_, rfl⟩
  rw [hBf] at HC0 hB ok wf ⊢
  rw [hX] at HC1 HC2 hB
  have KS : Hid (∀ w1, Below w.heap.size w w1 → Calls Tryz.prog 273 #[bufV B X, .string (pl.keyOfS p v.side v.row), .int .i64 fr, .int .i64 tO] w1 fun e w' => (∃ (hh : Hdr) (es' : List EM), e = .returned (.tuple #[hdV hh, .int .i64 0]) ∧ OE w' w1.heap.size (hdV hh) es' (scanB B (pl.keyOfS p v.side v.row) fr tO)) ∧ Below w1.heap.size w1 w') := fun w1 hb => (scan_ok B X _ fr tO w1 (bufAt_below hB hb) wf (by have := ok.all; omega) (errB_zero ok)).mono (by
   rintro e w' ⟨⟨hh, es', l', rfl, hp, hby, ho⟩, hb'⟩
   rw [scan_is ok hp hby] at ho
   exact ⟨⟨hh, es', rfl, ho⟩, hb'⟩)
  obtain ⟨kb, h1⟩ : ∃ z, pl.keyOfS p v.side v.row = z := ⟨_, rfl⟩
  obtain ⟨rl, hrl⟩ : ∃ z, v.row.length = z := ⟨_, rfl⟩
  obtain ⟨k, hkk⟩ : ∃ z, 13 + bufferAt (3 - v.side) = z := ⟨_, rfl⟩
  rw [h1] at KS
  rw [hkk] at KB HC0 HC1 HC2
  rw [h1, hrl]
  obtain ⟨LS, hLS⟩ : ∃ z, scanB B kb fr tO = z := ⟨_, rfl⟩
  rw [hLS] at KS ⊢
  obtain ⟨od, hod⟩ : ∃ z, 3 - v.side = z := ⟨_, rfl⟩
  rw [hod] at KO KB
  obtain ⟨ra', rc', ⟨⟨m1, m2, m3⟩, ml⟩, rs⟩ := X
  obtain ⟨lim, mem, runs⟩ := B
  unfold bufV hdV at KS
  dsimp only at KS HC0 HC1 HC2
  obtain ⟨n, hn⟩ : ∃ z, rs.length = z := ⟨_, rfl⟩
  rw [hn] at KS HC2
  clear h1 hrl hkk hLS hod hn h hB ok wf hBf hX hk hs
  have hne : b ≠ w.heap.size := by omega
  go_enter Tryz.func266, Tryz.ntmps266
  go_wp2
  generalize hV : (World.alloc w _) = V
  have hb0 : Below w.heap.size w V := by rw [← hV]; exact bR.alloc nR _
  have c0 : V.cell? ⟨w.heap.size, 0, none⟩ = some (.int .i64 v.side) := by subst hV; go_simp
  have c3 : V.cell? ⟨w.heap.size, 3, none⟩ = some (.string kb) := by subst hV; go_simp
  replace HC0 := cLz hb0 HC0
  replace HC1 := cLz hb0 HC1
  replace HC2 := cLz hb0 HC2
  clear hV
  have SK : Hid (∀ w', Below V.heap.size V w' → w'.cell? ⟨w.heap.size, 0, none⟩ = some (.int .i64 v.side) ∧ w'.cell? ⟨w.heap.size, 3, none⟩ = some (.string kb) ∧ w'.cell? ⟨b, k, none⟩ = some (.int .i64 lim) ∧ w'.cell? ⟨b, k + 1, none⟩ = some (.slice m1 m2 m3) ∧ w'.cell? ⟨b, k + 1 + 1, none⟩ = some (.slice ra' n rc')) := fun w' hz => ⟨cLz hz c0, cLz hz c3, cLz hz HC0, cLz hz HC1, cLz hz HC2⟩
  go_region_held3 (fun w' => w'.cell? ⟨w.heap.size, 0, none⟩ = some (.int .i64 v.side) ∧ w'.cell? ⟨w.heap.size, 3, none⟩ = some (.string kb) ∧ w'.cell? ⟨b, k, none⟩ = some (.int .i64 lim) ∧ w'.cell? ⟨b, k + 1, none⟩ = some (.slice m1 m2 m3) ∧ w'.cell? ⟨b, k + 1 + 1, none⟩ = some (.slice ra' n rc')) (first | exact SK.out _ hy | exact SK.out _ (bR.drew) | go_keep)
   (first
    | (go_at_call 273; refine (KS.out _ hb0.drew).mono ?_; rintro e wn ⟨⟨hh, es', rfl, ho⟩, hbn⟩; have hy : Below V.heap.size V wn := bR.drew.trans hbn; obtain ⟨h1, h2, h3⟩ := hh; dsimp only at ho ⊢)
    | (go_at_call 144; refine (KB.out _).mono ?_; rintro e w3 ⟨rfl, rfl⟩)
    | (go_at_call 264; refine (KO.out _).mono ?_; rintro e w2 ⟨rfl, rfl⟩))
  all_goals
   go_wp2
   go_ret
   exact ⟨⟨(h1, h2, h3), es', rfl, ho.mono (by have := hb0.size; simpa using this)⟩, hb0.trans (hy.mono hb0.size)⟩
end Go.Proofs.YtdohnkkbkfhphaaGreat.jn
