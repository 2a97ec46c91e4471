import Derived.Test.YtdohnkkbkfhphaaGreatPe30
import Derived.Test.YtdohnkkbkfhphaaGreatPe27
import Derived.Test.YtdohnkkbkfhphaaGreatPe23
import Derived.Test.YtdohnkkbkfhphaaGreatPe20
import Derived.Test.YtdohnkkbkfhphaaGreatPe24
import Derived.Deep.DeepCutAuto
namespace Go.Proofs.YtdohnkkbkfhphaaGreat.jn
open Go.ChangeShapes Go.WideShapes Go.ChangeAt Go.RowKit
open vl bf
set_option linter.unusedVariables false
set_option linter.unusedSimpArgs false
attribute [local go_sem] Oper.semAt_some
def metJ (p : pl.Pln) (s : Jn) (v : Ev) : Jn := if p.kind = 3 then (if v.side = 1 then s else putBuf s 1 (metBuf ((newMet p s v).map (·.seq)) s.L)) else pairMet p s v
def metB (p : pl.Pln) (s : Jn) (v : Ev) : Bool := if p.kind = 3 then (if v.side = 1 then !(versions p s v).isEmpty else false) else !(partners p s v).isEmpty
def metT (p : pl.Pln) (s : Jn) (v : Ev) : List ch.Chg := if p.kind = 3 then (if v.side = 1 then askTold p s v else newTold p s v) else pairTold p s v
theorem rowJ_is (p : pl.Pln) (s : Jn) (v : Ev) : rowJ p s v = (keepJ p (metJ p s v) v (metB p s v), metT p s v) := by
 unfold rowJ metJ metB metT
 by_cases h1 : p.kind = 3
 ·rw [if_pos h1, if_pos h1, if_pos h1, if_pos h1]
  by_cases h2 : v.side = 1
  ·rw [if_pos h2, if_pos h2, if_pos h2, if_pos h2]
  ·rw [if_neg h2, if_neg h2, if_neg h2, if_neg h2]
 ·rw [if_neg h1, if_neg h1, if_neg h1, if_neg h1]
set_option maxRecDepth 100000 in
set_option maxHeartbeats 4000000 in
theorem meetT_any (b : Nat) (p : pl.Pln) (x : pl.PA) (s : Jn) (y : JX) (v : Ev) (ra : Option Addr) (rc : Nat) (w0 w : World) (h : JSt w0 w b 143 p x s y (.slice none 0 0) []) (hk : p.kind = 3) (hg : goodJ p s) (hc : comeJ p s v) (hv : vl.rowAt w0 ra v.row) :
 Calls Tryz.prog 280 #[.pointer (some ⟨b, 0, none⟩), comerV p v ra rc] w fun e w' => e = .returned (.bool (metB p s v)) ∧ ∃ y' t' L', JSt w0 w' b 143 p x (metJ p s v) y' t' L' ∧ L'.map CO.chg = metT p s v ∧ keepM 143 w w' := by
 unfold metB metJ metT
 rw [if_pos hk, if_pos hk, if_pos hk]
 by_cases hs : v.side = 1
 ·rw [if_pos hs, if_pos hs, if_pos hs]
  have KA := hIz (fun (w1 : World) (hb : Below w.heap.size w w1) => ask_any b p x s y v ra rc w0 w1 (h.below hb) hg hc hs hv)
  unfold comerV at KA ⊢
  obtain ⟨kb, h1⟩ : ∃ z, pl.keyOfS p v.side v.row = z := ⟨_, rfl⟩
  obtain ⟨kh, h2⟩ : ∃ z, pl.hasB p v.side v.row = z := ⟨_, rfl⟩
  obtain ⟨rl, hrl⟩ : ∃ z, v.row.length = z := ⟨_, rfl⟩
  obtain ⟨R, hR⟩ : ∃ z, (!(versions p s v).isEmpty) = z := ⟨_, rfl⟩
  obtain ⟨tm', htm⟩ : ∃ z, v.time = z := ⟨_, rfl⟩
  rw [h1, h2, hrl, htm] at KA ⊢
  rw [hR] at KA ⊢
  rw [hs] at KA ⊢
  clear h1 h2 hrl hR htm h hg hc hv hk hs
  go_enter Tryz.func280, Tryz.ntmps280
  go_wp2_with (go_at_call 282; refine (KA.out _ (bR.alloc nR _)).mono ?_; rintro e w2 ⟨rfl, t', L', hj, hl, hkm⟩)
  go_ret
  exact ⟨rfl, y, t', L', hj, hl, (keepM_below (bR.alloc nR _)).trans hkm⟩
 ·rw [if_neg hs, if_neg hs, if_neg hs]
  have hs2 : v.side = 2 := by have := side_is hc.side; omega
  have KN := hIz (fun (w1 : World) (hb : Below w.heap.size w w1) => new_any b p x s y v ra rc w0 w1 (h.below hb) hg hc hs2 hv)
  unfold comerV at KN ⊢
  obtain ⟨kb, h1⟩ : ∃ z, pl.keyOfS p v.side v.row = z := ⟨_, rfl⟩
  obtain ⟨kh, h2⟩ : ∃ z, pl.hasB p v.side v.row = z := ⟨_, rfl⟩
  obtain ⟨rl, hrl⟩ : ∃ z, v.row.length = z := ⟨_, rfl⟩
  obtain ⟨tm', htm⟩ : ∃ z, v.time = z := ⟨_, rfl⟩
  rw [h1, h2, hrl, htm] at KN ⊢
  rw [hs2] at KN ⊢
  clear h1 h2 hrl htm h hg hc hv hk hs hs2
  go_enter Tryz.func280, Tryz.ntmps280
  go_wp2_with (go_at_call 283; refine (KN.out _ (bR.alloc nR _)).mono ?_; rintro e w2 ⟨rfl, y', t', L', hj, hl, hkm⟩)
  go_ret
  exact ⟨rfl, y', t', L', hj, hl, (keepM_below (bR.alloc nR _)).trans hkm⟩
theorem boxP_set {w : World} {b k : Nat} {p : pl.Pln} {x : pl.PA} (h : boxP w b p x) (hk : 13 ≤ k) (u : Value) : boxP (w.setCell ⟨b, k, none⟩ u) b p x := by
 obtain ⟨v0, v1, v2, v3, v4, v5, v6, v7, v8, v9, v10, v11, v12⟩ := h
 exact ⟨cell_far v0 (by omega), cell_far v1 (by omega), cell_far v2 (by omega), cell_far v3 (by omega), cell_far v4 (by omega), cell_far v5 (by omega), cell_far v6 (by omega), cell_far v7 (by omega), cell_far v8 (by omega), cell_far v9 (by omega), cell_far v10 (by omega), cell_far v11 (by omega), cell_far v12 (by omega)⟩
theorem room_set {w : World} {b k n : Nat} (h : w.there b 0 n) (q : Nat) (u : Value) : (w.setCell ⟨q, k, none⟩ u).there b 0 n := fun j hj => ⟨by
 obtain ⟨v, hu⟩ := Option.isSome_iff_exists.1 (h j hj).1
 obtain ⟨u', hu'⟩ := cell?_setCell_some (p := ⟨q, k, none⟩) (x := u) hu
 rw [hu']; rfl, by rw [World.frozen?_setCell]; exact (h j hj).2⟩
theorem boxC_seq {w : World} {b : Nat} {p : pl.Pln} {x : pl.PA} {s : Jn} {y : JX} {t : Value} (h : boxC w b p x s y t) (n : Int) : boxC (w.setCell ⟨b, 21, none⟩ (.int .i64 n)) b p x ⟨s.L, s.R, s.lm, s.rm, n⟩ y t := by
 refine ⟨boxP_set h.plan (by omega) _, ?_, cell_far h.told (by omega), room_set h.room _ _⟩
 obtain ⟨u0, u1, u2, u3, u4, u5, u6, u7, u8⟩ := h.join
 exact ⟨cell_far u0 (by omega), cell_far u1 (by omega), cell_far u2 (by omega), cell_far u3 (by omega), cell_far u4 (by omega), cell_far u5 (by omega), cell_far u6 (by omega), cell_far u7 (by omega), World.cell?_setCell_same _ _ _ u8⟩
def putBX (y : JX) (side : Int) (z : BX) : JX := if side = 2 then ⟨y.l, z⟩ else ⟨z, y.r⟩
theorem three_far {w : World} {b k i : Nat} {v : Value} (h : w.cell? ⟨b, i, none⟩ = some v) (h0 : k ≠ i) (h1 : k + 1 ≠ i) (h2 : k + 1 + 1 ≠ i) (u0 u1 u2 : Value) : (((w.setCell ⟨b, k, none⟩ u0).setCell ⟨b, k + 1, none⟩ u1).setCell ⟨b, k + 1 + 1, none⟩ u2).cell? ⟨b, i, none⟩ = some v := cell_far (cell_far (cell_far h h0) h1) h2
theorem three_a {w : World} {b k : Nat} {v : Value} (h : w.cell? ⟨b, k, none⟩ = some v) (u0 u1 u2 : Value) : (((w.setCell ⟨b, k, none⟩ u0).setCell ⟨b, k + 1, none⟩ u1).setCell ⟨b, k + 1 + 1, none⟩ u2).cell? ⟨b, k, none⟩ = some u0 := cell_far (cell_far (World.cell?_setCell_same _ _ _ h) (by omega)) (by omega)
theorem three_b {w : World} {b k : Nat} {v : Value} (h : w.cell? ⟨b, k + 1, none⟩ = some v) (u0 u1 u2 : Value) : (((w.setCell ⟨b, k, none⟩ u0).setCell ⟨b, k + 1, none⟩ u1).setCell ⟨b, k + 1 + 1, none⟩ u2).cell? ⟨b, k + 1, none⟩ = some u1 := cell_far (World.cell?_setCell_same _ _ _ (cell_far h (by omega))) (by omega)
theorem three_c {w : World} {b k : Nat} {v : Value} (h : w.cell? ⟨b, k + 1 + 1, none⟩ = some v) (u0 u1 u2 : Value) : (((w.setCell ⟨b, k, none⟩ u0).setCell ⟨b, k + 1, none⟩ u1).setCell ⟨b, k + 1 + 1, none⟩ u2).cell? ⟨b, k + 1 + 1, none⟩ = some u2 := World.cell?_setCell_same _ _ _ (cell_far (cell_far h (by omega)) (by omega))
theorem boxC_buf {w : World} {b : Nat} {p : pl.Pln} {x : pl.PA} {s : Jn} {y : JX} {t : Value} (h : boxC w b p x s y t) (side : Int) (B : Buf) (X : BX) (k : Nat) (hk : 13 + bufferAt side = k) : boxC (((w.setCell ⟨b, k, none⟩ (.int .i64 B.lim)).setCell ⟨b, k + 1, none⟩ (hdV X.m.1)).setCell ⟨b, k + 1 + 1, none⟩ (.slice X.ra X.rs.length X.rc)) b p x (putBuf s side B) (putBX y side X) t := by
 have hb : bufferAt side = 0 ∨ bufferAt side = 3 := by unfold bufferAt; split <;> simp
 refine ⟨boxP_set (boxP_set (boxP_set h.plan (by omega) _) (by omega) _) (by omega) _, ?_, three_far h.told (by omega) (by omega) (by omega) _ _ _, room_set (room_set (room_set h.room _ _) _ _) _ _⟩
 obtain ⟨u0, u1, u2, u3, u4, u5, u6, u7, u8⟩ := h.join
 unfold bufferAt at hk
 unfold putBuf putBX
 by_cases e : side = 2
 ·rw [if_pos e] at hk
  subst hk
  rw [if_pos e, if_pos e]
  refine ⟨three_far u0 (by omega) (by omega) (by omega) _ _ _, three_far u1 (by omega) (by omega) (by omega) _ _ _, three_far u2 (by omega) (by omega) (by omega) _ _ _, three_a u3 _ _ _, three_b u4 _ _ _, three_c u5 _ _ _, three_far u6 (by omega) (by omega) (by omega) _ _ _, three_far u7 (by omega) (by omega) (by omega) _ _ _, three_far u8 (by omega) (by omega) (by omega) _ _ _⟩
 ·rw [if_neg e] at hk
  subst hk
  rw [if_neg e, if_neg e]
  refine ⟨three_a u0 _ _ _, three_b u1 _ _ _, three_c u2 _ _ _, three_far u3 (by omega) (by omega) (by omega) _ _ _, three_far u4 (by omega) (by omega) (by omega) _ _ _, three_far u5 (by omega) (by omega) (by omega) _ _ _, three_far u6 (by omega) (by omega) (by omega) _ _ _, three_far u7 (by omega) (by omega) (by omega) _ _ _, three_far u8 (by omega) (by omega) (by omega) _ _ _⟩
theorem three_other {w : World} {b q k i : Nat} {v : Value} (h : w.cell? ⟨q, i, none⟩ = some v) (hq : b ≠ q) (u0 u1 u2 : Value) : (((w.setCell ⟨b, k, none⟩ u0).setCell ⟨b, k + 1, none⟩ u1).setCell ⟨b, k + 1 + 1, none⟩ u2).cell? ⟨q, i, none⟩ = some v :=
 have ne : ∀ j, (⟨b, j, none⟩ : Addr) ≠ ⟨q, i, none⟩ := fun j e => hq (by injection e)
 ((World.cell?_setCell_other _ _ _ _ (ne _)).trans ((World.cell?_setCell_other _ _ _ _ (ne _)).trans (World.cell?_setCell_other _ _ _ _ (ne _)))).trans h
theorem three_froz {w : World} {b k : Nat} {q : Addr} (h : w.frozen? q = false) (u0 u1 u2 : Value) : (((w.setCell ⟨b, k, none⟩ u0).setCell ⟨b, k + 1, none⟩ u1).setCell ⟨b, k + 1 + 1, none⟩ u2).frozen? q = false := by
 rw [World.frozen?_setCell, World.frozen?_setCell, World.frozen?_setCell]; exact h
theorem put_marks (s : Jn) (side : Int) (B : Buf) : (putBuf s side B).lm = s.lm ∧ (putBuf s side B).rm = s.rm ∧ (putBuf s side B).seq = s.seq := by unfold putBuf; split <;> exact ⟨rfl, rfl, rfl⟩
theorem keepM_set {T : TypeId} {w : World} {b : Nat} (h : tyAt w b T) (k : Nat) (u : Value) : keepM T w (w.setCell ⟨b, k, none⟩ u) := ⟨(Below.refl 0 w).setCell (Nat.zero_le _) u, fun g e hg h1 _ _ => heap_setCell_other _ _ _ _ (fun e2 => tyAt_apart hg h h1 e2)⟩
theorem keepM_three {T : TypeId} {w : World} {b : Nat} (h : tyAt w b T) (k : Nat) (u0 u1 u2 : Value) : keepM T w (((w.setCell ⟨b, k, none⟩ u0).setCell ⟨b, k + 1, none⟩ u1).setCell ⟨b, k + 1 + 1, none⟩ u2) :=
 ((keepM_set h _ _).trans (keepM_set (tyAt_set h _ _) _ _)).trans (keepM_set (tyAt_set (tyAt_set h _ _) _ _) _ _)
theorem CG_set2 {w : World} {base b : Nat} {T : TypeId} {v : Value} {L : List CO} (h : CG w base v L) (hT : tyAt w b T) (hc : calmC T) (k : Nat) (u : Value) : CG (w.setCell ⟨b, k, none⟩ u) base v L := CG_set h hT hc.c hc.t.v k u
theorem st_seq {w0 w : World} {b : Nat} {T : TypeId} {p : pl.Pln} {x : pl.PA} {s : Jn} {y : JX} {t : Value} {L : List CO} (h : JSt w0 w b T p x s y t L) (hT : calmC T) (n : Int) : JSt w0 (w.setCell ⟨b, 21, none⟩ (.int .i64 n)) b T p x ⟨s.L, s.R, s.lm, s.rm, n⟩ y t L :=
 ⟨boxC_seq h.box n, tyAt_set h.ty _ _, h.up, OB_setT h.l h.ty hT.t _ _, OB_setT h.r h.ty hT.t _ _, h.ap, CG_set2 h.cg h.ty hT _ _, h.bl.setCell h.up _⟩
theorem st_mark {w0 w : World} {b : Nat} {T : TypeId} {p : pl.Pln} {x : pl.PA} {s : Jn} {y : JX} {t : Value} {L : List CO} (h : JSt w0 w b T p x s y t L) (hT : calmC T) (side time : Int) : JSt w0 (w.setCell ⟨b, 13 + markAt side, none⟩ (.int .i64 time)) b T p x (goOnJ s side time) y t L := by
 have e : (goOnJ s side time).L = s.L ∧ (goOnJ s side time).R = s.R := by unfold goOnJ; split <;> exact ⟨rfl, rfl⟩
 exact ⟨boxC_mark h.box side time, tyAt_set h.ty _ _, h.up, by rw [e.1]; exact OB_setT h.l h.ty hT.t _ _, by rw [e.2]; exact OB_setT h.r h.ty hT.t _ _, h.ap, CG_set2 h.cg h.ty hT _ _, h.bl.setCell h.up _⟩
theorem st_buf {w0 w wn : World} {b base : Nat} {T : TypeId} {p : pl.Pln} {x : pl.PA} {s : Jn} {y : JX} {t : Value} {L : List CO} (h : JSt w0 w b T p x s y t L) (hT : calmC T) (hb : Below w.heap.size w wn) (side : Int) {B : Buf} {X : BX} (ho : OB wn base X B) (hbase : w.heap.size ≤ base) (k : Nat) (hk : 13 + bufferAt side = k) :
 JSt w0 (((wn.setCell ⟨b, k, none⟩ (.int .i64 B.lim)).setCell ⟨b, k + 1, none⟩ (hdV X.m.1)).setCell ⟨b, k + 1 + 1, none⟩ (.slice X.ra X.rs.length X.rc)) b T p x (putBuf s side B) (putBX y side X) t L := by
 have h1 := h.below hb
 have t1 := h1.ty
 have t2 := tyAt_set t1 ⟨b, k, none⟩ (.int .i64 B.lim)
 have t3 := tyAt_set t2 ⟨b, k + 1, none⟩ (hdV X.m.1)
 have keep : ∀ {bs : Nat} {Z : BX} {C : Buf}, OB wn bs Z C → OB (((wn.setCell ⟨b, k, none⟩ (.int .i64 B.lim)).setCell ⟨b, k + 1, none⟩ (hdV X.m.1)).setCell ⟨b, k + 1 + 1, none⟩ (.slice X.ra X.rs.length X.rc)) bs Z C := fun hz => OB_setT (OB_setT (OB_setT hz t1 hT.t _ _) t2 hT.t _ _) t3 hT.t _ _
 have hlow : w0.heap.size ≤ base := Nat.le_trans h.bl.size hbase
 have hnew := keep (OB_mono ho hlow)
 have hcg := CG_set2 (CG_set2 (CG_set2 h1.cg t1 hT k (.int .i64 B.lim)) t2 hT (k + 1) (hdV X.m.1)) t3 hT (k + 1 + 1) (.slice X.ra X.rs.length X.rc)
 have hbl := ((h1.bl.setCell (p := ⟨b, k, none⟩) h.up (.int .i64 B.lim)).setCell (p := ⟨b, k + 1, none⟩) h.up (hdV X.m.1)).setCell (p := ⟨b, k + 1 + 1, none⟩) h.up (.slice X.ra X.rs.length X.rc)
 have hbox := boxC_buf h1.box side B X k hk
 unfold putBuf putBX at *
 by_cases e : side = 2
 ·rw [if_pos e, if_pos e] at hbox
  rw [if_pos e, if_pos e]
  exact ⟨hbox, tyAt_set t3 _ _, h.up, keep h1.l, hnew, apart_of h.l ho hbase, hcg, hbl⟩
 ·rw [if_neg e, if_neg e] at hbox
  rw [if_neg e, if_neg e]
  exact ⟨hbox, tyAt_set t3 _ _, h.up, hnew, keep h1.r, fun p hp q hq => apB_symm (apart_of h.r ho hbase q hq p hp), hcg, hbl⟩
def dropK (p : pl.Pln) (s : Jn) : Nat → Jn
 | 0 => s
 | 1 => ⟨keptB (afterT (goneJ p s 1)) s.L, s.R, s.lm, s.rm, s.seq⟩
 | _ => dropJ p s
theorem dropK_at {p : pl.Pln} {s : Jn} {k : Nat} (h : k < 2) : pl.sideB ((k : Int) + 1) = true ∧ bufOf (dropK p s k) ((k : Int) + 1) = bufOf s ((k : Int) + 1) ∧ goneJ p (dropK p s k) ((k : Int) + 1) = goneJ p s ((k : Int) + 1) ∧ putBuf (dropK p s k) ((k : Int) + 1) (keptB (afterT (goneJ p s ((k : Int) + 1))) (bufOf s ((k : Int) + 1))) = dropK p s (k + 1) := by
 match k, h with
 | 0, _ => exact ⟨by decide, rfl, rfl, rfl⟩
 | 1, _ => exact ⟨by decide, rfl, rfl, rfl⟩
set_option maxRecDepth 100000 in
set_option maxHeartbeats 8000000 in
theorem forget_any (b : Nat) (T : TypeId) (p : pl.Pln) (x : pl.PA) (s : Jn) (y : JX) (t : Value) (L : List CO) (w0 w : World) (h : JSt w0 w b T p x s y t L) (hT : calmC T) (hTi : T ≠ 3) (hw : pl.wfPlan p) (hp : pl.planAt w0 p x) (hg : goodJ p s) :
 Calls Tryz.prog 254 #[.pointer (some ⟨b, 0, none⟩)] w fun e w' => e = .returned (.tuple #[]) ∧ ∃ y', JSt w0 w' b T p x (dropJ p s) y' t L ∧ keepM T w w' := by
 have HJ : Hid (JSt w0 w b T p x s y t L) := h
 have HG : Hid (goodJ p s) := hg
 have HWP : Hid (pl.wfPlan p ∧ pl.planAt w0 p x) := ⟨hw, hp⟩
 clear h hg hw hp
 go_enter Tryz.func254, Tryz.ntmps254
 go_wp2
 generalize hV : (World.alloc w _) = V
 have hb0 : Below w.heap.size w V := by rw [← hV]; exact bR.alloc nR _
 have a0 : V.cell? ⟨w.heap.size, 0, none⟩ = some (.int .i64 1) := by subst hV; go_simp
 have a1 : V.cell? ⟨w.heap.size, 1, none⟩ = some (.int .i64 2) := by subst hV; go_simp
 have HTA : Hid (tyAt V w.heap.size 3) := by subst hV; exact ⟨_, _, World.alloc_heap_new w _⟩
 clear hV
 go_loopw [7] (fun i wr => ∃ (k : Nat) (y' : JX), k ≤ 2 ∧ i = .int .i64 k ∧ Hid (JSt w0 wr b T p x (dropK p s k) y' t L) ∧ Hid (keepM T V wr)) (fun i _ => 2 - (intOf i).toNat)
 case atStart => exact ⟨0, y, by omega, rfl, HJ.out.below hb0, keepM_below bR⟩
 case round =>
  obtain ⟨k, y', hk, rfl, HJR, HKV⟩ := hrel
  have a0 := HKV.out.cell HTA.out hTi.symm (by decide) (by decide) a0
  have a1 := HKV.out.cell HTA.out hTi.symm (by decide) (by decide) a1
  by_cases hlt : k < 2
  ·have i1 : (0 : Int) ≤ (k : Int) := by omega
   have i2 : (k : Int) < 2 := by omega
   have ac : wr.cell? ⟨w.heap.size, k, none⟩ = some (.int .i64 ((k : Int) + 1)) := by
    match k, hlt with
    | 0, _ => exact a0
    | 1, _ => exact a1
   clear a0 a1
   obtain ⟨d1, d2, d3, d4⟩ := dropK_at (p := p) (s := s) hlt
   obtain ⟨NB, hNB⟩ : ∃ z, keptB (afterT (goneJ p s ((k : Int) + 1))) (bufOf s ((k : Int) + 1)) = z := ⟨_, rfl⟩
   rw [hNB] at d4
   have hok := HG.out.of ((k : Int) + 1)
   have hob : bufAt wr (bufOf s ((k : Int) + 1)) (bxOf y' ((k : Int) + 1)) := by
    rw [← d2]
    unfold bufOf bxOf
    split
    ·exact HJR.out.r.at
    ·exact HJR.out.l.at
   have hcb := buffer_at HJR.out.box.join ((k : Int) + 1)
   rw [d2] at hcb
   have KG : Hid (∀ w1, Below wr.heap.size wr w1 → Calls Tryz.prog 260 #[.pointer (some ⟨b, 0, none⟩), .int .i64 ((k : Int) + 1)] w1 fun e w' => e = .returned (.int .i64 (goneJ p s ((k : Int) + 1))) ∧ Below w1.heap.size w1 w') := fun w1 hb => by
    have := gone_any b p x (dropK p s k) y' t ((k : Int) + 1) w1 HWP.out.1 (pl.planAt_below HWP.out.2 (HJR.out.bl.trans (hb.mono HJR.out.bl.size))) (HJR.out.below hb).box d1
    rw [d3] at this
    exact this
   have KB : Hid (∀ w1, Calls Tryz.prog 144 #[.pointer (some ⟨b, 13, none⟩), .int .i64 ((k : Int) + 1)] w1 fun e w' => e = .returned (.pointer (some ⟨b, 13 + bufferAt ((k : Int) + 1), none⟩)) ∧ w' = w1) := fun w1 => bufferOf_at b 13 _ w1
   have KD : Hid (∀ w1, Below wr.heap.size wr w1 → Calls Tryz.prog 259 #[bufV (bufOf s ((k : Int) + 1)) (bxOf y' ((k : Int) + 1)), .int .i64 (goneJ p s ((k : Int) + 1))] w1 fun e w' => (∃ X, e = .returned (.tuple #[bufV NB X, .int .i64 0]) ∧ OB w' w1.heap.size X NB) ∧ Below w1.heap.size w1 w') := fun w1 hb => by
    have := drop_ok (bufOf s ((k : Int) + 1)) (bxOf y' ((k : Int) + 1)) (goneJ p s ((k : Int) + 1)) w1 (bufAt_below hob hb) hok.2 (by have := hok.1.all; omega) (errB_zero hok.1)
    rw [hNB] at this
    exact this
   have HFR : Hid (∀ w1, Below wr.heap.size wr w1 → ∀ i, i < 23 → w1.frozen? ⟨b, i, none⟩ = false) := fun w1 hb i hi => by
    have := ((HJR.out.below hb).box.room i hi).2
    simpa using this
   have hb3 : bufferAt ((k : Int) + 1) = 0 ∨ bufferAt ((k : Int) + 1) = 3 := by unfold bufferAt; split <;> simp
   obtain ⟨q, hq⟩ : ∃ z, 13 + bufferAt ((k : Int) + 1) = z := ⟨_, rfl⟩
   have HQQ : Hid (13 + bufferAt ((k : Int) + 1) = q) := hq
   have hql : 13 ≤ q ∧ q ≤ 16 := by omega
   obtain ⟨G, hG⟩ : ∃ z, goneJ p s ((k : Int) + 1) = z := ⟨_, rfl⟩
   obtain ⟨bo, hbo⟩ : ∃ z, bufOf s ((k : Int) + 1) = z := ⟨_, rfl⟩
   obtain ⟨bx, hbx⟩ : ∃ z, bxOf y' ((k : Int) + 1) = z := ⟨_, rfl⟩
   obtain ⟨sd, hsd⟩ : ∃ z, (k : Int) + 1 = z := ⟨_, rfl⟩
   have HDN : Hid (putBuf (dropK p s k) sd NB = dropK p s (k + 1)) := by show _ = _; rw [← hsd]; exact d4
   have HSD : Hid ((k : Int) + 1 = sd) := hsd
   rw [hG] at KG KD
   rw [hbo, hbx] at KD hcb
   rw [hq] at KB hcb
   rw [hsd] at KG KB HQQ ac
   obtain ⟨ra', rc', ⟨⟨m1, m2, m3⟩, ml⟩, rs⟩ := bx
   obtain ⟨lim, mem, runs⟩ := bo
   unfold bufV hdV at KD
   dsimp only at KD hcb
   obtain ⟨n, hn⟩ : ∃ z, rs.length = z := ⟨_, rfl⟩
   rw [hn] at KD hcb
   obtain ⟨HC0, HC1, HC2⟩ := hcb
   have lb : b < wr.heap.size := HJR.out.box.lt
   clear d1 d2 d3 d4 hNB hok hob hb3 hq hG hbo hbx hn hsd
   go_wp2_with (go_at_call 144; refine (KB.out _).mono ?_; rintro e wr ⟨rfl, rfl⟩)
   refine gr.beginH 13 rfl (by kernel_rfl) (S := fun _ => True) trivial (fun hHz => ?_)
   refine tkz 0 17 hHz ?_; refine tkz 1 18 hHz ?_; refine tkz 2 19 hHz ?_; refine tkz 4 21 hHz ?_; refine tkz 5 22 hHz ?_
   refine wpAnyH_ready (rs := [3, 6]) (by kernel_rfl) (by simp) ?_
   refine AllReadyH.cons rfl (fun K hK => ?_) (AllReadyH.cons rfl (fun K hK => ?_) AllReadyH.nil)
   ·go_simp
    refine hK.out _ _ trivial (fun hHz => ?_)
    clear hK K
    try simp only [Act.put, sI, sZ, sS]
    refine wpAnyH_ready (rs := [6]) (by kernel_rfl) (by simp) ?_
    refine AllReadyH.cons rfl (fun K hK => ?_) AllReadyH.nil
    go_simp
    go_at_call 260
    refine (KG.out _ bR.drew).mono ?_
    rintro e wg ⟨rfl, hbg⟩
    have hyg : Below wr.heap.size wr wg := bR.drew.trans hbg
    go_wp2_with fail
    refine hK.out _ _ trivial (fun hHz => ?_)
    clear hK K
    try simp only [Act.put, sI, sZ, sS]
    refine wpAnyH_ready (rs := [7]) (by kernel_rfl) (by simp) ?_
    refine AllReadyH.cons rfl (fun K hK => ?_) AllReadyH.nil
    go_simp
    go_at_call 259
    refine (KD.out _ hyg).mono ?_
    rintro e wp ⟨⟨X, rfl, hob⟩, hbp⟩
    have hyp : Below wr.heap.size wr wp := hyg.trans (hbp.mono hyg.size)
    go_wp2_with fail
    refine hK.out _ _ trivial (fun hHz => ?_)
    clear hK K
    try simp only [Act.put, sI, sZ, sS]
    refine tkz 8 16 hHz ?_; refine tkz 9 25 hHz ?_; refine tkz 10 26 hHz ?_; refine tkz 11 27 hHz ?_
    have HOB : Hid (OB wp wr.heap.size X NB) := OB_mono hob hyg.size
    have f0 := HFR.out _ hyp q (by omega)
    have f1 := HFR.out _ hyp (q + 1) (by omega)
    have f2 := HFR.out _ hyp (q + 1 + 1) (by omega)
    have e0 := cLz hyp HC0
    have e1 := cLz hyp HC1
    have e2 := cLz hyp HC2
    clear hob
    refine wpAnyH_ready (rs := [12]) (by kernel_rfl) (by simp) ?_
    refine AllReadyH.cons rfl (fun K hK => ?_) AllReadyH.nil
    go_simp
    refine hK.out _ _ trivial (fun hHz => ?_)
    clear hK K
    refine wpAnyH_done (by kernel_rfl) ?_ _
    have HKM : Hid (keepM T wr (((wp.setCell ⟨b, q, none⟩ (.int .i64 NB.lim)).setCell ⟨b, q + 1, none⟩ (.slice X.m.1.1 X.m.1.2.1 X.m.1.2.2)).setCell ⟨b, q + 1 + 1, none⟩ (.slice X.ra X.rs.length X.rc))) := (keepM_below hyp).trans (keepM_three (HJR.out.below hyp).ty q _ _ _)
    have HST := st_buf HJR.out hT hyp sd HOB.out nR q HQQ.out
    unfold hdV at HST
    generalize (((wp.setCell ⟨b, q, none⟩ (.int .i64 NB.lim)).setCell ⟨b, q + 1, none⟩ (.slice X.m.1.1 X.m.1.2.1 X.m.1.2.2)).setCell ⟨b, q + 1 + 1, none⟩ (.slice X.ra X.rs.length X.rc)) = W4 at *
    have HS4 : Hid (JSt w0 W4 b T p x (dropK p s (k + 1)) (putBX y' sd X) t L) := by
     show JSt _ _ _ _ _ _ _ _ _ _
     rw [← HDN.out]; exact HST
    clear HST
    go_wp2
    go_roundw
    (case rel => exact ⟨k + 1, _, by omega, by go_num, HS4, HKV.out.trans HKM.out⟩)
    (case measure => simp [intOf]; omega)
   ·go_simp
    go_at_call 260
    refine (KG.out _ bR.drew).mono ?_
    rintro e wg ⟨rfl, hbg⟩
    have hyg : Below wr.heap.size wr wg := bR.drew.trans hbg
    go_wp2_with fail
    refine hK.out _ _ trivial (fun hHz => ?_)
    clear hK K
    try simp only [Act.put, sI, sZ, sS]
    have d0 := cLz hyg HC0
    have d1 := cLz hyg HC1
    have d2 := cLz hyg HC2
    refine wpAnyH_ready (rs := [3]) (by kernel_rfl) (by simp) ?_
    refine AllReadyH.cons rfl (fun K hK => ?_) AllReadyH.nil
    go_simp
    refine hK.out _ _ trivial (fun hHz => ?_)
    clear hK K
    try simp only [Act.put, sI, sZ, sS]
    refine wpAnyH_ready (rs := [7]) (by kernel_rfl) (by simp) ?_
    refine AllReadyH.cons rfl (fun K hK => ?_) AllReadyH.nil
    go_simp
    go_at_call 259
    refine (KD.out _ hyg).mono ?_
    rintro e wp ⟨⟨X, rfl, hob⟩, hbp⟩
    have hyp : Below wr.heap.size wr wp := hyg.trans (hbp.mono hyg.size)
    go_wp2_with fail
    refine hK.out _ _ trivial (fun hHz => ?_)
    clear hK K
    try simp only [Act.put, sI, sZ, sS]
    refine tkz 8 16 hHz ?_; refine tkz 9 25 hHz ?_; refine tkz 10 26 hHz ?_; refine tkz 11 27 hHz ?_
    have HOB : Hid (OB wp wr.heap.size X NB) := OB_mono hob hyg.size
    have f0 := HFR.out _ hyp q (by omega)
    have f1 := HFR.out _ hyp (q + 1) (by omega)
    have f2 := HFR.out _ hyp (q + 1 + 1) (by omega)
    have e0 := cLz hyp HC0
    have e1 := cLz hyp HC1
    have e2 := cLz hyp HC2
    clear hob
    refine wpAnyH_ready (rs := [12]) (by kernel_rfl) (by simp) ?_
    refine AllReadyH.cons rfl (fun K hK => ?_) AllReadyH.nil
    go_simp
    refine hK.out _ _ trivial (fun hHz => ?_)
    clear hK K
    refine wpAnyH_done (by kernel_rfl) ?_ _
    have HKM : Hid (keepM T wr (((wp.setCell ⟨b, q, none⟩ (.int .i64 NB.lim)).setCell ⟨b, q + 1, none⟩ (.slice X.m.1.1 X.m.1.2.1 X.m.1.2.2)).setCell ⟨b, q + 1 + 1, none⟩ (.slice X.ra X.rs.length X.rc))) := (keepM_below hyp).trans (keepM_three (HJR.out.below hyp).ty q _ _ _)
    have HST := st_buf HJR.out hT hyp sd HOB.out nR q HQQ.out
    unfold hdV at HST
    generalize (((wp.setCell ⟨b, q, none⟩ (.int .i64 NB.lim)).setCell ⟨b, q + 1, none⟩ (.slice X.m.1.1 X.m.1.2.1 X.m.1.2.2)).setCell ⟨b, q + 1 + 1, none⟩ (.slice X.ra X.rs.length X.rc)) = W4 at *
    have HS4 : Hid (JSt w0 W4 b T p x (dropK p s (k + 1)) (putBX y' sd X) t L) := by
     show JSt _ _ _ _ _ _ _ _ _ _
     rw [← HDN.out]; exact HST
    clear HST
    go_wp2
    go_roundw
    (case rel => exact ⟨k + 1, _, by omega, by go_num, HS4, HKV.out.trans HKM.out⟩)
    (case measure => simp [intOf]; omega)
  ·have hkn : k = 2 := by omega
   subst hkn
   have hkf : ¬ (((2 : Nat) : Int) < 2) := by omega
   go_wp2
   exact bodyPost_end (v := .tuple #[]) (by simp [results, Tryz.results254, go_sem]) rfl ⟨rfl, ⟨y', HJR.out⟩, (keepM_below hb0).trans HKV.out⟩
end Go.Proofs.YtdohnkkbkfhphaaGreat.jn
namespace Go.Proofs.YtdohnkkbkfhphaaGreat.jn
open Go.ChangeShapes Go.WideShapes Go.ChangeAt Go.RowKit Go.Maps Go.WideMaps
open vl bf
set_option linter.unusedVariables false
set_option linter.unusedSimpArgs false
def strM (w : World) (M nn : Nat) (f : ByteArray → Int) : Prop := ∃ D : DataW Unit, w.ownsMap Tryz.prog 9 (plainElem (H := Unit) Tryz.prog 3) M nn D ∧ ∀ k : ByteArray, k.size ≤ maxLen → D.atKey (.string k.data.toList) (.lit (.int .i64 0)) = .lit (.int .i64 (f k))
theorem strM_new (w : World) : strM (w.alloc (.map #[] 0)) w.heap.size 0 (fun _ => 0) := ⟨_, World.ownsMap_made _ _ _ _, fun s hs => rfl⟩
theorem strM_lt {w : World} {M nn : Nat} {f : ByteArray → Int} (h : strM w M nn f) : M < w.heap.size := by
 obtain ⟨D, h1, _⟩ := h
 exact h1.lt
theorem strM_same {w w' : World} {M nn : Nat} {f : ByteArray → Int} (h : strM w M nn f) (hs : w'.heap[M]? = w.heap[M]?) : strM w' M nn f := by
 obtain ⟨D, ⟨es, clock, hb, F, h3, e⟩, h2⟩ := h
 exact ⟨D, ⟨es, clock, hs.trans hb, F, h3, e⟩, h2⟩
theorem strM_below {w w' : World} {M nn : Nat} {f : ByteArray → Int} (h : strM w M nn f) (hb : Below w.heap.size w w') : strM w' M nn f := strM_same h (hb.block M (strM_lt h))
theorem strM_look {w : World} {M nn : Nat} {f : ByteArray → Int} (h : strM w M nn f) {k : ByteArray} (hk : k.size ≤ maxLen) : (Instr.lookup 114 (.map (some M)) (.string k) false).run Tryz.prog w = .ok (.int .i64 (f k)) w := by
 obtain ⟨D, h1, h2⟩ := h
 obtain ⟨c, hrun, hat, _⟩ := h1.lookup_int ch.law Tryz.underlying114 Tryz.underlying3 (Tryz.zeroValue3 w) (keyOf_string_mk Tryz.underlying9 hk)
 have hat2 := (h2 k hk).symm.trans hat
 have e : ∀ a b : Int, (DataW.lit (Lit.int .i64 a) : DataW Unit) = .lit (.int .i64 b) → a = b := fun a b h => (Lit.int.inj (DataW.lit.inj h)).2
 rw [hrun, e _ _ hat2]
theorem strM_put {w : World} {M nn : Nat} {f : ByteArray → Int} (h : strM w M nn f) {k : ByteArray} (hk : k.size ≤ maxLen) {v : Int} (hv : pl.i64 v) (hn : nn < maxLen) :
 ∃ w', (Instr.mapUpdate 114 (.map (some M)) (.string k) (.int .i64 v)).run Tryz.prog w = .ok () w' ∧ strM w' M (nn + 1) (fun k' => if k' = k then v else f k') ∧ w.grownBy w' (some M) := by
 obtain ⟨D, h1, h2⟩ := h
 obtain ⟨w', hrun, hown, hg⟩ := h1.update ch.law Tryz.underlying114 hn (keyOf_string_mk Tryz.underlying9 hk) (plainElem_int (H := Unit) (a := v) Tryz.underlying3 (wf_lit hv))
 refine ⟨w', hrun, ⟨_, hown, fun t ht => ?_⟩, hg⟩
 by_cases e : t = k
 ·subst e
  rw [atKey_put_same h1.isMap (ch.law.key (keyOf_string_mk Tryz.underlying9 hk))]
  simp
 ·rw [atKey_put_other (fun q : Lit.string t.data.toList = Lit.string k.data.toList => e (bl_inj (Lit.string.inj q))), h2 t ht]
  simp [e]
end Go.Proofs.YtdohnkkbkfhphaaGreat.jn
namespace Go.Proofs.YtdohnkkbkfhphaaGreat.jn
open Go.ChangeShapes Go.WideShapes Go.ChangeAt Go.RowKit Go.Maps
open vl bf
set_option linter.unusedVariables false
set_option linter.unusedSimpArgs false
attribute [local go_sem] Oper.semAt_some
def lastIn (l : List Ent) (low : Int) (key : ByteArray) : Int := match (l.filter fun y => decide (y.key = key) && decide (y.time ≤ low)).getLast? with
 | some y => y.seq
 | none => 0
theorem lastOf_is (s : Jn) (key : ByteArray) (low : Int) : lastOf s key low = lastIn (sortP (entsB s.R)) low key := rfl
theorem lastIn_no {l : List Ent} {low : Int} {y : Ent} (h : ¬ y.time ≤ low) : lastIn (l ++ [y]) low = lastIn l low := by
 funext k
 unfold lastIn
 rw [List.filter_append]
 have : ([y].filter fun z => decide (z.key = k) && decide (z.time ≤ low)) = [] := by simp [h]
 rw [this, List.append_nil]
theorem lastIn_yes {l : List Ent} {low : Int} {y : Ent} (h : y.time ≤ low) : lastIn (l ++ [y]) low = fun k => if k = y.key then y.seq else lastIn l low k := by
 funext k
 unfold lastIn
 rw [List.filter_append]
 by_cases e : k = y.key
 ·have : ([y].filter fun z => decide (z.key = k) && decide (z.time ≤ low)) = [y] := by simp [h, e]
  rw [this, if_pos e, List.getLast?_append]
  rfl
 ·have : ([y].filter fun z => decide (z.key = k) && decide (z.time ≤ low)) = [] := by simp; intro e2; exact absurd e2.symm e
  rw [this, List.append_nil, if_neg e]
theorem take_snocE {l : List Ent} {k : Nat} (h : k < l.length) : l.take (k + 1) = l.take k ++ [l.getD k default] := by
 rw [List.take_succ_eq_append_getElem h, List.getD_eq_getElem?_getD, List.getElem?_eq_getElem h]; rfl
theorem stays_any (e : EM) (z : Ent) (low : Int) (f : ByteArray → Int) (A C M nn : Nat) (w : World) (her : ER w e z) (hk : z.key.size ≤ maxLen) (hA : w.cell? ⟨A, 0, none⟩ = some (.int .i64 low)) (hC : w.cell? ⟨C, 0, none⟩ = some (.map (some M))) (hM : strM w M nn f) :
 Calls Tryz.prog 281 #[e.val, .pointer (some ⟨A, 0, none⟩), .pointer (some ⟨C, 0, none⟩)] w fun r w' => r = .returned (.bool (decide (low < z.time) || decide (f z.key = z.seq))) ∧ Below w.heap.size w w' := by
 have hla := World.block_lt_of_cell? _ _ hA
 have hlc := World.block_lt_of_cell? _ _ hC
 have h1 := her.key
 have h2 := her.time
 have h3 := her.seq
 obtain ⟨ek, et, es, ⟨r1, r2, r3⟩, em⟩ := e
 dsimp only at h1 h2 h3
 rw [← h1] at hk
 rw [← h1, ← h2, ← h3]
 have hM2 := strM_below hM ((Below.refl w.heap.size w).alloc nR (.cells #[.string ek, .int .i64 et, .int .i64 es, .slice r1 r2 r3, .bool em] 63))
 have hlk := strM_look hM2 hk
 obtain ⟨F, hF⟩ : ∃ z, f ek = z := ⟨_, rfl⟩
 rw [hF] at hlk ⊢
 clear her h1 h2 h3 hM hM2 hF
 unfold EM.val hdV
 dsimp only
 by_cases hgt : low < et
 ·have e1 : decide (low < et) = true := by simpa using hgt
  have hg : ∀ t, binOp .gtr t (.int .i64 et) (.int .i64 low) = pure (.bool true) := pl.gtr_is true (by simpa using hgt)
  rw [e1, Bool.true_or]
  clear e1 hgt
  go_enter Tryz.func281, Tryz.ntmps281
  go_wp2
  go_ret
  exact ⟨rfl, bR.alloc nR _⟩
 ·have e1 : decide (low < et) = false := by simpa using hgt
  have hg : ∀ t, binOp .gtr t (.int .i64 et) (.int .i64 low) = pure (.bool false) := pl.gtr_is false (by simpa using hgt)
  rw [e1, Bool.false_or]
  clear e1 hgt
  obtain ⟨B, hB⟩ : ∃ z, decide (F = es) = z := ⟨_, rfl⟩
  have he : ∀ t, binOp .eql t (.int .i64 F) (.int .i64 es) = pure (.bool B) := pl.eql_is B (by rw [← hB]; by_cases e : F = es <;> simp [e])
  rw [hB]
  clear hB
  go_enter Tryz.func281, Tryz.ntmps281
  go_wp2
  go_ret
  exact ⟨rfl, bR.alloc nR _⟩
def stayP (s : Jn) (z : Ent) : Bool := decide (lowJ s < z.time) || decide (lastOf s z.key (lowJ s) = z.seq)
theorem old_is (s : Jn) : oldJ s = putBuf s 2 (keptB (stayP s) s.R) := rfl
set_option maxRecDepth 100000 in
set_option maxHeartbeats 8000000 in
theorem forgetT_any (b : Nat) (p : pl.Pln) (x : pl.PA) (s : Jn) (y : JX) (t : Value) (L : List CO) (w0 w : World) (h : JSt w0 w b 143 p x s y t L) (hw : pl.wfPlan p) (hp : pl.planAt w0 p x) (hg : goodJ p s) :
 Calls Tryz.prog 279 #[.pointer (some ⟨b, 0, none⟩)] w fun e w' => e = .returned (.tuple #[]) ∧ ∃ y', JSt w0 w' b 143 p x (oldJ (dropJ p s)) y' t L ∧ keepM 143 w w' := by
 have hT : calmC 143 := ⟨⟨by decide, by decide, by decide⟩, by decide⟩
 have KF : Hid (Calls Tryz.prog 254 #[.pointer (some ⟨b, 0, none⟩)] w fun e w' => e = .returned (.tuple #[]) ∧ ∃ y', JSt w0 w' b 143 p x (dropJ p s) y' t L ∧ keepM 143 w w') := forget_any b _ p x s y t L w0 w h hT (by decide) hw hp hg
 have hgd : goodJ p (dropJ p s) := good_drop hg
 obtain ⟨s1, hs1⟩ : ∃ z, dropJ p s = z := ⟨_, rfl⟩
 rw [hs1] at KF hgd ⊢
 have HG : Hid (goodJ p s1) := hgd
 clear h hw hp hg hs1 hgd
 rw [old_is]
 obtain ⟨NB, hNB⟩ : ∃ z, keptB (stayP s1) s1.R = z := ⟨_, rfl⟩
 have HNB : Hid (keptB (stayP s1) s1.R = NB) := hNB
 rw [hNB]
 clear hNB
 go_enter Tryz.func279, Tryz.ntmps279
 go_wp2_with (go_at_call 254; refine KF.out.mono ?_; rintro e wa ⟨rfl, ya, hja, hka⟩; have HJA : Hid (JSt w0 wa b 143 p x s1 ya t L) := hja; have HKA : Hid (keepM 143 w wa) := hka; clear hja hka)
 have l1 := HJA.out.box.join.2.2.2.2.2.2.1
 have l2 := HJA.out.box.join.2.2.2.2.2.2.2.1
 obtain ⟨low, hlow⟩ : ∃ z, lowJ s1 = z := ⟨_, rfl⟩
 have HLOW : Hid (lowJ s1 = low) := hlow
 unfold lowJ at hlow
 obtain ⟨lm, hlm⟩ : ∃ z, s1.lm = z := ⟨_, rfl⟩
 obtain ⟨rm, hrm⟩ : ∃ z, s1.rm = z := ⟨_, rfl⟩
 rw [hlm] at l1 hlow
 rw [hrm] at l2 hlow
 clear hlm hrm
 have lb : b < wa.heap.size := HJA.out.box.lt
 have SK1 : Hid (∀ w', Below wa.heap.size wa w' → w'.cell? ⟨b, 19, none⟩ = some (.int .i64 lm) ∧ w'.cell? ⟨b, 20, none⟩ = some (.int .i64 rm)) := fun w' hz => ⟨cLz hz l1, cLz hz l2⟩
 go_cut [2] (fun pt wc => ∃ A : Nat, pt = .pointer (some ⟨A, 0, none⟩) ∧ wa.heap.size ≤ A ∧ wc.cell? ⟨A, 0, none⟩ = some (.int .i64 low) ∧ Below wa.heap.size wa wc)
 case first =>
  refine gr.beginH 15 rfl (by kernel_rfl) (S := fun w' => w'.cell? ⟨b, 19, none⟩ = some (.int .i64 lm) ∧ w'.cell? ⟨b, 20, none⟩ = some (.int .i64 rm)) (SK1.out _ bR.drew) (fun hHz => ?_)
  refine tkz 0 12 hHz ?_; refine tkz 1 13 hHz ?_; refine tkz 2 14 hHz ?_; refine tkz 3 15 hHz ?_; refine tkz 4 16 hHz ?_; refine tkz 5 17 hHz ?_; refine tkz 6 18 hHz ?_; refine tkz 7 19 hHz ?_; refine tkz 8 20 hHz ?_; refine tkz 9 21 hHz ?_; refine tkz 10 22 hHz ?_; refine tkz 11 23 hHz ?_
  refine gr.takeJ (v := .int .i64 low) 12 (some 24) hHz ?_ (hy := by intro w' hSw; go_simp)
  refine wpAnyH_ready (rs := [13]) (by kernel_rfl) (by simp) ?_
  refine AllReadyH.cons rfl (fun K hK => ?_) AllReadyH.nil
  go_simp
  refine hK.out _ _ (SK1.out _ ((Below.refl wa.heap.size wa).drew.alloc nR _)) (fun hHz => ?_)
  clear hK K
  try simp only [Act.put, sI, sZ, sS]
  refine wpAnyH_ready (rs := [14]) (by kernel_rfl) (by simp) ?_
  refine AllReadyH.cons rfl (fun K hK => ?_) AllReadyH.nil
  go_simp
  refine hK.out _ _ (SK1.out _ ((Below.refl wa.heap.size wa).alloc nR _).drew) (fun hHz => ?_)
  clear hK K
  refine wpAnyH_done (by kernel_rfl) ?_ _
  go_wp2
  go_meet
  exact ⟨wa.heap.size, rfl, Nat.le_refl _, by go_simp, ((Below.refl wa.heap.size wa).alloc nR _).drew⟩
 case rest =>
  obtain ⟨A, rfl, hA, ca, hbW⟩ := hcut
  rename World => W
  have HJW : Hid (JSt w0 W b 143 p x s1 ya t L) := HJA.out.below hbW
  have ok := HG.out.ok.R
  have hwf : ∀ z ∈ entsB s1.R, wfE z ∧ wfP (plOf z) := fun z hz => HG.out.wf z (List.mem_append.2 (.inr hz))
  have KA : Hid (∀ w1, Below W.heap.size W w1 → Calls Tryz.prog 26 #[bufV s1.R ya.r] w1 fun e w' => (∃ (hh : Hdr) (es' : List EM), e = .returned (.tuple #[hdV hh, .int .i64 0]) ∧ OE w' w1.heap.size (hdV hh) es' (sortP (entsB s1.R))) ∧ Below w1.heap.size w1 w') := fun w1 hb => (all_ok s1.R ya.r w1 (bufAt_below HJW.out.r.at hb) hwf (by have := ok.all; omega) (errB_zero ok)).mono (by
   rintro e w' ⟨⟨hh, es', l', rfl, hp, hby, ho⟩, hb'⟩
   rw [sortP_is hp hby ok.once] at ho
   exact ⟨⟨hh, es', rfl, ho⟩, hb'⟩)
  obtain ⟨LS, hLS⟩ : ∃ z, sortP (entsB s1.R) = z := ⟨_, rfl⟩
  have HLS : Hid (sortP (entsB s1.R) = LS) := hLS
  have HWL : Hid (LS.length ≤ 4096 ∧ ∀ k, k < LS.length → (LS.getD k default).key.size ≤ maxLen ∧ pl.i64 (LS.getD k default).seq) := by
   rw [← hLS]
   refine ⟨by rw [(sortP_perm _).length_eq]; exact ok.all, fun k hk => ?_⟩
   have hm := (sortP_perm (entsB s1.R)).mem_iff.1 (mem_getD (d := default) hk)
   exact ⟨(hwf _ hm).1.key, (hwf _ hm).2.seq⟩
  rw [hLS] at KA
  have KK : Hid (∀ (f : ByteArray → Int) (A C M nn : Nat) (w1 : World), f = lastIn LS low → Below W.heap.size W w1 → w1.cell? ⟨A, 0, none⟩ = some (.int .i64 low) → w1.cell? ⟨C, 0, none⟩ = some (.map (some M)) → strM w1 M nn f → Calls Tryz.prog 145 #[bufV s1.R ya.r, .func (.func 281) #[] #[.pointer (some ⟨A, 0, none⟩), .pointer (some ⟨C, 0, none⟩)]] w1 fun e w' => (∃ X, e = .returned (bufV NB X) ∧ OB w' w1.heap.size X NB) ∧ Below w1.heap.size w1 w') := fun f A C M nn w1 hf hb h1 h2 h3 => by
   have hsm := ok.small
   have hk := kept_any 281 (enters_of Tryz.func281 (by kernel_rfl) rfl) #[.pointer (some ⟨A, 0, none⟩), .pointer (some ⟨C, 0, none⟩)] (stayP s1) s1.R ya.r w1 (bufAt_below HJW.out.r.at hb) hsm.1 hsm.2.1 hsm.2.2 (fun e z w2 her hz hb2 => by
    have := stays_any e z low f A C M nn w2 her (hwf z hz).1.key (cLz hb2 h1) (cLz hb2 h2) (strM_below h3 hb2)
    have e1 : stayP s1 z = (decide (low < z.time) || decide (f z.key = z.seq)) := by unfold stayP; rw [HLOW.out, lastOf_is, HLS.out, hf]
    rw [e1]
    exact this)
   rw [HNB.out] at hk
   exact hk
  obtain ⟨HC0, HC1, HC2⟩ := buffer_at HJW.out.box.join 2
  have HFR : Hid (∀ w1, Below W.heap.size W w1 → ∀ i, i < 23 → w1.frozen? ⟨b, i, none⟩ = false) := fun w1 hb i hi => by
   have := ((HJW.out.below hb).box.room i hi).2
   simpa using this
  have eb : bufferAt 2 = 3 := rfl
  have e2 : bufOf s1 2 = s1.R := rfl
  have e3 : bxOf ya 2 = ya.r := rfl
  rw [eb, e2] at HC0
  rw [eb, e3] at HC1 HC2
  obtain ⟨yr, hyr⟩ : ∃ z, ya.r = z := ⟨_, rfl⟩
  rw [hyr] at KA KK HC1 HC2
  obtain ⟨ra', rc', ⟨⟨m1, m2, m3⟩, ml⟩, rs⟩ := yr
  obtain ⟨lim, hlim⟩ : ∃ z, s1.R.lim = z := ⟨_, rfl⟩
  unfold bufV hdV at KA KK
  dsimp only at KA KK HC1 HC2
  rw [hlim] at KA KK HC0
  obtain ⟨n, hn⟩ : ∃ z, rs.length = z := ⟨_, rfl⟩
  rw [hn] at KA KK HC2
  obtain ⟨ln, hln⟩ : ∃ z, LS.length = z := ⟨_, rfl⟩
  have HLN : Hid (LS.length = ln) := hln
  have hnl : ln ≤ 4096 := by rw [← hln]; exact HWL.out.1
  have lW : b < W.heap.size := HJW.out.box.lt
  have lA : A < W.heap.size := World.block_lt_of_cell? _ _ ca
  clear ok hwf hLS eb e2 e3 hyr hlim hn hln l1 l2 SK1 hlow lb
  have hmk := @run_makeMap Tryz.prog
  go_wp2_with (go_at_call 26; refine (KA.out _ bR).mono ?_; rintro e X ⟨⟨hh, es, rfl, ho⟩, hbX⟩; have HOE : Hid (OE X W.heap.size (.slice hh.1 hh.2.1 hh.2.2) es LS) := ho; clear ho; have HLE : Hid (hh.2.1 = ln) := (by show _ = _; rw [← HLN.out, ← HOE.out.len]; exact (OE_part (p := (hh, es)) HOE.out).1.1); obtain ⟨g1, g2, g3⟩ := hh; have hle : g2 = ln := HLE.out; subst hle; dsimp only at HOE ⊢; have lX : b < X.heap.size := Nat.lt_of_lt_of_le lW hbX.size)
  have HX1 : Hid (∀ w', Below X.heap.size X w' → Below W.heap.size W w') := fun w' hz => hbX.trans (hz.mono hbX.size)
  go_loopw [38] (fun i wr => ∃ (k nn : Nat), k ≤ g2 ∧ i = .int .i64 k ∧ nn ≤ k ∧ Hid (strM wr X.heap.size nn (lastIn (LS.take k) low)) ∧ wr.cell? ⟨X.heap.size + 1, 0, none⟩ = some (.map (some X.heap.size)) ∧ Below X.heap.size X wr) (fun i _ => g2 - (intOf i).toNat)
  case atStart => exact ⟨0, 0, Nat.zero_le _, rfl, Nat.le_refl _, strM_below (strM_new X) (bR.alloc nR _), by go_simp, (bR.alloc nR _).alloc (by simp) _⟩
  case round =>
   obtain ⟨k, nn, hk, rfl, hnn, HSM, hmc, hnx⟩ := hrel
   have lw : X.heap.size + 1 < wr.heap.size := World.block_lt_of_cell? _ _ hmc
   have hbr : Below W.heap.size W wr := HX1.out _ hnx
   have ca2 := cLz hbr ca
   by_cases hlt : k < g2
   ·have hkl : k < LS.length := by rw [HLN.out]; exact hlt
    obtain ⟨gb, off, ea, x1, x2, x3, x4, x5⟩ := (OE_part (p := ((g1, g2, g3), es)) HOE.out).2 k (by rw [HOE.out.len]; exact hkl)
    dsimp only at ea
    subst ea
    have q1 := cLz hnx x1
    have q2 := cLz hnx x2
    have q3 := cLz hnx x3
    have q4 := cLz hnx x4
    have q5 := cLz hnx x5
    clear x1 x2 x3 x4 x5
    have her := HOE.out.ers.2 k hkl
    have hwl := HWL.out.2 k hkl
    have HTK := take_snocE hkl
    have hkey := her.key
    have htime := her.time
    have hseq := her.seq
    obtain ⟨⟨ek, et, es1, ⟨r1, r2, r3⟩, em⟩, hz⟩ : ∃ z, es.getD k default = z := ⟨_, rfl⟩
    rw [hz] at q1 q2 q3 q4 q5 hkey htime hseq
    unfold hdV at q4
    dsimp only at q1 q2 q3 q4 q5 hkey htime hseq
    rw [← hkey, ← hseq] at hwl
    have i1 : (0 : Int) ≤ (k : Int) := by omega
    have i2 : (k : Int) < (g2 : Int) := by omega
    have la : A < wr.heap.size := World.block_lt_of_cell? _ _ ca2
    by_cases hle : et ≤ low
    ·have hleq : ∀ t, binOp .leq t (.int .i64 et) (.int .i64 low) = pure (.bool true) := pl.leq_is true (by simpa using hle)
     have HF : Hid (lastIn (LS.take (k + 1)) low = fun q => if q = ek then es1 else lastIn (LS.take k) low q) := by
      show _ = _
      rw [HTK, lastIn_yes (by rw [← htime]; exact hle), ← hkey, ← hseq]
     have hsm2 := strM_below HSM.out ((Below.refl wr.heap.size wr).alloc nR (.cells #[.string ek, .int .i64 et, .int .i64 es1, .slice r1 r2 r3, .bool em] 63))
     obtain ⟨X1, hup, q0, hg1⟩ := strM_put hsm2 hwl.1 hwl.2 (by unfold maxLen; omega)
     have HQ0 : Hid (strM X1 X.heap.size (nn + 1) (lastIn (LS.take (k + 1)) low)) := by
      show strM _ _ _ _
      rw [HF.out]; exact q0
     have hmx : X1.cell? ⟨X.heap.size + 1, 0, none⟩ = some (.map (some X.heap.size)) := (World.cell?_of_block (w := wr) (a := ⟨X.heap.size + 1, 0, none⟩) ((hg1.block (X.heap.size + 1) (by rw [World.size_alloc]; omega) (fun e => by injection e with e; omega)).trans (Below.heap_alloc _ _ _ lw))).trans hmc
     have HBX : Hid (Below X.heap.size X X1) := ⟨hg1.os.trans hnx.os, hg1.tape.trans hnx.tape, hg1.output.trans hnx.output, Nat.le_trans hnx.size (Nat.le_trans (Nat.le_of_lt (by rw [World.size_alloc]; exact Nat.lt_succ_self _)) hg1.size), fun g hgl => ((hg1.block g (by rw [World.size_alloc]; have := hnx.size; omega) (fun e => by injection e with e; omega)).trans (Below.heap_alloc _ _ _ (by have := hnx.size; omega))).trans (hnx.block g hgl)⟩
     clear hz hsm2 q0 hg1 her hkey htime hseq HTK hle hwl
     go_wp2
     go_roundw
     case rel => exact ⟨k + 1, nn + 1, by omega, by go_num, by omega, HQ0, hmx, HBX.out⟩
     case measure => simp [intOf]; omega
    ·have hleq : ∀ t, binOp .leq t (.int .i64 et) (.int .i64 low) = pure (.bool false) := pl.leq_is false (by simpa using hle)
     have HF : Hid (lastIn (LS.take (k + 1)) low = lastIn (LS.take k) low) := by
      show _ = _
      rw [HTK, lastIn_no (by rw [← htime]; exact hle)]
     clear hz her hkey htime hseq HTK hle hwl
     go_wp2
     go_roundw
     case rel => exact ⟨k + 1, nn, by omega, by go_num, by omega, by rw [HF.out]; exact strM_below HSM.out (bR.alloc nR _), cLz (bR.alloc nR _) hmc, hnx.alloc hnx.size _⟩
     case measure => simp [intOf]; omega
   ·have hkn : k = g2 := by omega
    subst hkn
    have hkf : ¬ ((k : Int) < (k : Int)) := by omega
    have HFE : Hid (lastIn (LS.take k) low = lastIn LS low) := by show _ = _; rw [← HLN.out, List.take_length]
    have KKr : Hid (Calls Tryz.prog 145 #[.agg #[.int .i64 lim, .slice m1 m2 m3, .slice ra' n rc'], .func (.func 281) #[] #[.pointer (some ⟨A, 0, none⟩), .pointer (some ⟨X.heap.size + 1, 0, none⟩)]] wr fun e w' => (∃ Z, e = .returned (.agg #[.int .i64 NB.lim, .slice Z.m.1.1 Z.m.1.2.1 Z.m.1.2.2, .slice Z.ra Z.rs.length Z.rc]) ∧ OB w' wr.heap.size Z NB) ∧ Below wr.heap.size wr w') := KK.out _ A (X.heap.size + 1) X.heap.size nn wr HFE.out hbr ca2 hmc HSM.out
    have c0 := cLz hbr HC0
    have c1 := cLz hbr HC1
    have c2 := cLz hbr HC2
    clear HC0 HC1 HC2
    go_wp2_with (go_at_call 145; refine KKr.out.mono ?_; rintro e wp ⟨⟨Z, rfl, hob⟩, hbp⟩; have HOB : Hid (OB wp wr.heap.size Z NB) := hob; have hyp : Below W.heap.size W wp := hbr.trans (hbp.mono hbr.size); have d0 := cLz hbp c0; have d1 := cLz hbp c1; have d2 := cLz hbp c2; have f0 := HFR.out _ hyp 16 (by omega); have f1 := HFR.out _ hyp (16 + 1) (by omega); have f2 := HFR.out _ hyp (16 + 1 + 1) (by omega); clear hob c0 c1 c2)
    have HST := st_buf HJW.out hT hyp 2 HOB.out hbr.size 16 rfl
    have HKM := (HKA.out.trans (keepM_below (hbW.trans (hyp.mono hbW.size)))).trans (keepM_three (HJW.out.below hyp).ty 16 (.int .i64 NB.lim) (hdV Z.m.1) (.slice Z.ra Z.rs.length Z.rc))
    exact bodyPost_end (v := .tuple #[]) (by simp [results, Tryz.results279, go_sem]) rfl ⟨rfl, _, HST, HKM⟩
end Go.Proofs.YtdohnkkbkfhphaaGreat.jn
