import Derived.Test.YtbfbgdinhiglaaaGreatS25
import Derived.Test.YtbfbgdinhiglaaaGreatS26
import Derived.Test.YtbfbgdinhiglaaaGreatGrpToldA
import Derived.Test.YtbfbgdinhiglaaaGreatS20
import Derived.Test.YtbfbgdinhiglaaaGreatMgChgD
import Derived.Deep.DeepCutAuto
import Derived.Deep.CutBlock
import Derived.Test.YtbfbgdinhiglaaaGreatS15
import Derived.Test.YtbfbgdinhiglaaaGreatS14
import Derived.Test.YtbfbgdinhiglaaaGreatS16
import Derived.Test.YtbfbgdinhiglaaaGreatMgValA
namespace Go.Proofs.YtbfbgdinhiglaaaGreat.gr
open Go.ChangeShapes Go.WideShapes Go.ChangeAt Go.RowKit
open vl pl bt
set_option linter.unusedVariables false
set_option linter.unusedSimpArgs false
attribute [local go_sem] Oper.semAt_some
def boxP (U : World) (b : Nat) (p : Pln) (x : PA) : Prop := U.cell? ⟨b, 0, none⟩ = some (.int .i64 p.kind) ∧ U.cell? ⟨b, 1, none⟩ = some (.int .i64 p.mode) ∧ U.cell? ⟨b, 2, none⟩ = some (.int .i64 p.low) ∧ U.cell? ⟨b, 3, none⟩ = some (.int .i64 p.high) ∧ U.cell? ⟨b, 4, none⟩ = some (.int .i64 p.size) ∧ U.cell? ⟨b, 5, none⟩ = some (.int .i64 p.limit) ∧ U.cell? ⟨b, 6, none⟩ = some (.slice x.l p.left.length x.lc) ∧ U.cell? ⟨b, 7, none⟩ = some (.slice x.r p.right.length x.rc) ∧ U.cell? ⟨b, 8, none⟩ = some (.slice x.lk p.lkeys.length x.lkc) ∧ U.cell? ⟨b, 9, none⟩ = some (.slice x.rk p.rkeys.length x.rkc) ∧ U.cell? ⟨b, 10, none⟩ = some (.bool p.grouped) ∧ U.cell? ⟨b, 11, none⟩ = some (.slice x.g p.group.length x.gc) ∧ U.cell? ⟨b, 12, none⟩ = some (.slice x.a p.aggs.length x.ac)
theorem box_new (w : World) (p : Pln) (x : PA) (t : TypeId) : boxP (w.alloc (.cells #[.int .i64 p.kind, .int .i64 p.mode, .int .i64 p.low, .int .i64 p.high, .int .i64 p.size, .int .i64 p.limit, .slice x.l p.left.length x.lc, .slice x.r p.right.length x.rc, .slice x.lk p.lkeys.length x.lkc, .slice x.rk p.rkeys.length x.rkc, .bool p.grouped, .slice x.g p.group.length x.gc, .slice x.a p.aggs.length x.ac] t)) w.heap.size p x := by
 unfold boxP
 refine ⟨?_, ?_, ?_, ?_, ?_, ?_, ?_, ?_, ?_, ?_, ?_, ?_, ?_⟩ <;> go_simp
theorem box_later {U U' : World} {b : Nat} {p : Pln} {x : PA} (h : boxP U b p x) (hb : Below U.heap.size U U') : boxP U' b p x := by
 obtain ⟨v0, v1, v2, v3, v4, v5, v6, v7, v8, v9, v10, v11, v12⟩ := h
 exact ⟨cL hb v0, cL hb v1, cL hb v2, cL hb v3, cL hb v4, cL hb v5, cL hb v6, cL hb v7, cL hb v8, cL hb v9, cL hb v10, cL hb v11, cL hb v12⟩
theorem box_lt {U : World} {b : Nat} {p : Pln} {x : PA} (h : boxP U b p x) : b < U.heap.size := World.block_lt_of_cell? _ _ h.1
noncomputable def stepG (p : Pln) (gs : List Grp) (l : List ch.Chg) : Int × List Grp × List ch.Chg :=
 if grpsErr p gs ≠ 0 then (grpsErr p gs, [], []) else if chgsErr p l ≠ 0 then (chgsErr p l, [], []) else if (doAll p gs l).1 ≠ 0 then ((doAll p gs l).1, [], [])
 else (0, (doAll p gs l).2, toldR p.group.length (gs.map fun g => (rowC p g).r) ((doAll p gs l).2.map fun g => (rowC p g).r))
def stepRes (R : Int × List Grp × List ch.Chg) (e : Ending) (w' : World) : Prop := (R.1 ≠ 0 ∧ e = .returned (.tuple #[.slice none 0 0, .slice none 0 0, .int .i64 R.1])) ∨ (R.1 = 0 ∧ ∃ ga gc xs ta tc, e = .returned (.tuple #[.slice ga R.2.1.length gc, .slice ta R.2.2.length tc, .int .i64 0]) ∧ gsAt w' ga xs R.2.1 ∧ ch.chgsAt w' ta R.2.2)
theorem rowC_len {p : Pln} {gs : List Grp} (h0 : planErr p = 0) (hg : p.grouped = true) (h : gsR p gs) : ∀ c ∈ gs.map (rowC p), p.group.length ≤ c.r.length ∧ c.r.length ≤ 1000 := fun c hc => by
 obtain ⟨g, hm, rfl⟩ := List.mem_map.1 hc
 have hf := group_few h0 hg
 have := row_len (h.each g hm).1
 have e : (rowC p g).r = g.row ++ figsG p g := rfl
 rw [e, List.length_append, figsG_len]
 omega
theorem map_rowC (p : Pln) (gs : List Grp) : (gs.map (rowC p)).map (·.r) = gs.map fun g => (rowC p g).r := by rw [List.map_map]; rfl
set_option maxRecDepth 100000 in
set_option maxHeartbeats 16000000 in
theorem step_any (p : Pln) (x : PA) (a : Option Addr) (cap : Nat) (xs : List GX) (gs : List Grp) (la : Option Addr) (lcp : Nat) (l : List ch.Chg) (w : World) (hw : wfPlan p) (hp : planAt w p x) (hgs : gsAt w a xs gs) (hwf : ∀ g ∈ gs, wfG g) (hgl : gs.length ≤ 9223372036854775807) (hv : ch.chgsAt w la l) (hwl : ch.wfChgs l) (hll : l.length ≤ 9223372036854775807) :
 Calls Tryz.prog 12 #[planV p x, .slice a gs.length cap, .slice la l.length lcp] w fun e w' => stepRes (stepG p gs l) e w' ∧ Below w.heap.size w w' := by
 have KC : Hid (∀ w1, Below w.heap.size w w1 → Calls Tryz.prog 9 #[planV p x, .slice a gs.length cap] w1 fun e w' => e = .returned (.int .i64 (grpsErr p gs)) ∧ Below w1.heap.size w1 w') := fun w1 hb => check_any p x a cap xs gs w1 hw (planAt_below hp hb) (hgs.below hb) hwf hgl
 have KG : Hid (grpsErr p gs = 0 → ∀ w1, Below w.heap.size w w1 → Calls Tryz.prog 37 #[planV p x, .slice la l.length lcp] w1 fun e w' => e = .returned (.int .i64 (chgsErr p l)) ∧ Below w1.heap.size w1 w') := fun h w1 hb => checkChanges_any p x la lcp l w1 (okG_of h).1 (planAt_below hp hb) (ch.chgsAt_below hv hb) hwl hll
 have KP : Hid (grpsErr p gs = 0 → ∀ w1, Below w.heap.size w w1 → Calls Tryz.prog 38 #[.slice a gs.length cap] w1 fun e w' => (∃ ad c L, e = .returned (.slice ad L.length c) ∧ OG w' w1.heap.size (.slice ad L.length c) L ∧ L.map GO.grp = gs) ∧ Below w1.heap.size w1 w') := fun h w1 hb => by
  obtain ⟨h0, hg, hl, _⟩ := okG_of h
  have hR := gs_right h hwf
  have hf := group_few h0 hg
  refine copied_any a cap xs gs w1 (hgs.below hb) (by omega) (fun g hm => ?_)
  obtain ⟨hr, h1, h2⟩ := hR.each g hm
  refine ⟨by rw [row_len hr]; omega, by rw [hr.bl]; omega, fun t ht => ?_⟩
  obtain ⟨j, hj, rfl⟩ := List.getElem_of_mem ht
  have hb := bag_len (hr.bag j (by rw [← hr.bl]; exact hj)) ⟨by omega, h2⟩
  have e : g.bags.getD j [] = g.bags[j] := by rw [List.getD_eq_getElem?_getD, List.getElem?_eq_getElem hj]; rfl
  rw [e] at hb
  exact hb.1
 have KD : Hid (grpsErr p gs = 0 → chgsErr p l = 0 → ∀ k, k < l.length → ∀ W0 w1 ad c (L : List GO) ra rc, Below w.heap.size w W0 → Below W0.heap.size W0 w1 → OG w1 W0.heap.size (.slice ad L.length c) L → gsR p (L.map GO.grp) → vl.rowAt w ra (l.getD k default).r → Calls Tryz.prog 39 #[planV p x, .slice ad L.length c, .agg #[.int .i64 (l.getD k default).k, .slice ra (l.getD k default).r.length rc]] w1 fun e w' => doRes (doG p (l.getD k default).k (l.getD k default).r (L.map GO.grp)) W0.heap.size e w' ∧ Below W0.heap.size W0 w') := fun h hc k hk W0 w1 ad c L ra rc hb0 hb1 ho hR hr => by
  obtain ⟨h0, hg, _⟩ := okG_of h
  exact do_fits p x W0 w1 hb1 (planAt_below hp hb0) h0 hg ho hR ra rc _ (vl.rowAt_below hr hb0) ((chgs_rows hc hwl).2 k hk).1 _
 have KN : Hid (grpsErr p gs = 0 → chgsErr p l = 0 → ∀ k, k < l.length → ∀ gs1, gsR p gs1 → (doG p (l.getD k default).k (l.getD k default).r gs1).1 = 0 → gsR p (doG p (l.getD k default).k (l.getD k default).r gs1).2) := fun h hc k hk gs1 hR hd => do_right (okG_of h).1 (okG_of h).2.1 ((chgs_rows hc hwl).2 k hk).1 hR hd
 have KR0 : Hid (grpsErr p gs = 0 → ∀ w1, Below w.heap.size w w1 → Calls Tryz.prog 20 #[planV p x, .slice a gs.length cap] w1 fun e w' => (∃ ad c, e = .returned (.slice ad gs.length c) ∧ viewK w' ad (gs.map (rowC p)) ∧ gs.length ≤ c) ∧ Below w1.heap.size w1 w') := fun h w1 hb => rows_right p x a cap xs gs w1 (planAt_below hp hb) (hgs.below hb) h
 have KR1 : Hid (grpsErr p gs = 0 → ∀ w1 ad c xs2 gs2 n2, gs2.length = n2 → gsR p gs2 → Below w.heap.size w w1 → gsAt w1 ad xs2 gs2 → Calls Tryz.prog 20 #[planV p x, .slice ad n2 c] w1 fun e w' => (∃ na nc, e = .returned (.slice na n2 nc) ∧ viewK w' na (gs2.map (rowC p)) ∧ n2 ≤ nc) ∧ Below w1.heap.size w1 w') := fun h w1 ad c xs2 gs2 n2 hn hR hb hg2 => by
  subst hn
  exact rows_right p x ad c xs2 gs2 w1 (planAt_below hp hb) hg2 (gs_err (okG_of h).1 (okG_of h).2.1 hR)
 have KT : Hid (grpsErr p gs = 0 → ∀ gs2 n2 w1 wa wc na nc, gs2.length = n2 → gsR p gs2 → viewK w1 wa (gs.map (rowC p)) → viewK w1 na (gs2.map (rowC p)) → gs.length ≤ wc → n2 ≤ nc → Calls Tryz.prog 40 #[.int .i64 p.group.length, .slice wa gs.length wc, .slice na n2 nc] w1 fun e w' => toldOut (toldR p.group.length (gs.map fun g => (rowC p g).r) (gs2.map fun g => (rowC p g).r)) e w' ∧ Below w1.heap.size w1 w') := fun h gs2 n2 w1 wa wc na nc hn hR h1 h2 h3 h4 => by
  subst hn
  obtain ⟨h0, hg, hl, _⟩ := okG_of h
  have hm := hR.many
  have := told_any p.group.length wa na wc nc (gs.map (rowC p)) (gs2.map (rowC p)) w1 h1 h2 (by rw [List.length_map]; exact h3) (by rw [List.length_map]; exact h4) (rowC_len h0 hg (gs_right h hwf)) (rowC_len h0 hg hR) (by rw [List.length_map]; omega) (by rw [List.length_map]; omega)
  rw [List.length_map, List.length_map, map_rowC, map_rowC] at this
  exact this
 have HS : Hid (grpsErr p gs = 0 → gsR p gs) := fun h => gs_right h hwf
 have HV : Hid (∀ i, i < l.length → ∃ b off ra rc, la = some ⟨b, off, none⟩ ∧ w.cell? ⟨b, off + i * 2, none⟩ = some (.int .i64 (l.getD i default).k) ∧ w.cell? ⟨b, off + i * 2 + 1, none⟩ = some (.slice ra (l.getD i default).r.length rc) ∧ vl.rowAt w ra (l.getD i default).r) := hv
 obtain ⟨R, hR⟩ : ∃ z, stepG p gs l = z := ⟨_, rfl⟩
 have HR : Hid (stepG p gs l = R) := hR
 rw [hR]
 obtain ⟨E, hE⟩ : ∃ z, grpsErr p gs = z := ⟨_, rfl⟩
 have HE : Hid (grpsErr p gs = E) := hE
 obtain ⟨CE, hCE⟩ : ∃ z, chgsErr p l = z := ⟨_, rfl⟩
 have HCE : Hid (chgsErr p l = CE) := hCE
 obtain ⟨gn, hgn⟩ : ∃ z, gs.length = z := ⟨_, rfl⟩
 obtain ⟨n, hn⟩ : ∃ z, l.length = z := ⟨_, rfl⟩
 have HN : Hid (l.length = n) := hn
 rw [hE] at KC KG KP KD KN KR0 KR1 KT HS
 rw [hCE] at KG KD KN
 rw [hgn] at KC KP KR0 KT ⊢
 rw [hn] at KG KD KN HV hll ⊢
 clear hR hE hCE hgn hn hw hp hgs hwf hgl hv hwl
 unfold planV at KC KG KD KR0 KR1 ⊢
 go_enter Tryz.func12, Tryz.ntmps12
 go_wp2_with fail
 generalize hV : (World.alloc w _) = V
 have hb0 : Below w.heap.size w V := by rw [← hV]; exact bR.alloc nR _
 have HB : Hid (boxP V w.heap.size p x) := by subst hV; exact box_new ..
 clear hV
 refine (KC.out _ hb0).mono ?_
 rintro e w1 ⟨rfl, hb1⟩
 have hbw : Below w.heap.size w w1 := hb0.trans (hb1.mono hb0.size)
 replace HB : Hid (boxP w1 w.heap.size p x) := box_later HB.out hb1
 clear hb1 hb0 KC
 by_cases h0 : E = 0
 rotate_left
 ·have hne : (E != 0) = true := by simpa using h0
  have e1 : R = (E, [], []) := by rw [← HR.out]; unfold stepG; rw [if_pos (by rw [HE.out]; exact h0), HE.out]
  subst e1
  go_wp2
  exact bodyPost_ret (v := .tuple #[.slice none 0 0, .slice none 0 0, .int .i64 E]) (by simp [results, Tryz.results12, go_sem]) rfl ⟨.inl ⟨h0, rfl⟩, hbw⟩
 subst h0
 obtain ⟨v0, v1, v2, v3, v4, v5, v6, v7, v8, v9, v10, v11, v12⟩ := HB.out
 go_wp2_with fail
 refine (KG.out (by trivial) _ hbw).mono ?_
 rintro e w2 ⟨rfl, hb2⟩
 have hbw2 : Below w.heap.size w w2 := hbw.trans (hb2.mono hbw.size)
 replace HB : Hid (boxP w2 w.heap.size p x) := box_later HB.out hb2
 clear v0 v1 v2 v3 v4 v5 v6 v7 v8 v9 v10 v11 v12 hb2 hbw KG
 by_cases h1 : CE = 0
 rotate_left
 ·have hne : (CE != 0) = true := by simpa using h1
  have e1 : R = (CE, [], []) := by rw [← HR.out]; unfold stepG; rw [if_neg (by simp [HE.out]), if_pos (by rw [HCE.out]; exact h1), HCE.out]
  subst e1
  go_wp2
  exact bodyPost_ret (v := .tuple #[.slice none 0 0, .slice none 0 0, .int .i64 CE]) (by simp [results, Tryz.results12, go_sem]) rfl ⟨.inl ⟨h1, rfl⟩, hbw2⟩
 subst h1
 have HRD : Hid (R = if (doAll p gs l).1 ≠ 0 then ((doAll p gs l).1, [], []) else (0, (doAll p gs l).2, toldR p.group.length (gs.map fun g => (rowC p g).r) ((doAll p gs l).2.map fun g => (rowC p g).r))) := by
  show _ = _
  rw [← HR.out]; unfold stepG; rw [if_neg (by simp [HE.out]), if_neg (by simp [HCE.out])]
 go_wp2_with (go_at_call 38; refine (KP.out (by trivial) _ hbw2).mono ?_; rintro e w3 ⟨⟨ad, c3, L0, rfl, hog, hLg⟩, hb3⟩)
 have HOG : Hid (OG w3 w2.heap.size (.slice ad L0.length c3) L0) := hog
 have HL0 : Hid (L0.map GO.grp = gs) := hLg
 clear hog hLg KP
 go_loopw [11, 32] (fun v t wr => ∃ (k : Nat) (L : List GO) (ad : Option Addr) (c : Nat), k ≤ n ∧ t = .int .i64 k ∧ v = .slice ad L.length c ∧ Hid (OG wr w2.heap.size (.slice ad L.length c) L ∧ gsR p (L.map GO.grp) ∧ doAll p gs l = doAll p (L.map GO.grp) (l.drop k)) ∧ Below w2.heap.size w2 wr) (fun _ t _ => n - (intOf t).toNat)
 case atStart => exact ⟨0, L0, ad, c3, Nat.zero_le _, rfl, rfl, ⟨HOG.out, by rw [HL0.out]; exact HS.out (by trivial), by rw [HL0.out]; rfl⟩, hb3⟩
 case round =>
  obtain ⟨k, L, ad2, c2, hk, rfl, rfl, HI, hbr⟩ := hrel
  have hbx : Below w.heap.size w wr := hbw2.trans (hbr.mono hbw2.size)
  have HBr : Hid (boxP wr w.heap.size p x) := box_later HB.out hbr
  have lw : w.heap.size < wr.heap.size := box_lt HBr.out
  obtain ⟨v0, v1, v2, v3, v4, v5, v6, v7, v8, v9, v10, v11, v12⟩ := HBr.out
  obtain ⟨ln, hln⟩ : ∃ z, L.length = z := ⟨_, rfl⟩
  have HLN : Hid (L.length = ln) := hln
  rw [hln]
  by_cases hkn : k < n
  ·obtain ⟨lb, lo, ra, rc, e, x1, x2, x3⟩ := HV.out k hkn
   subst e
   have HRA : Hid (vl.rowAt w ra (l.getD k default).r) := x3
   have HKD := KD.out (by trivial) (by trivial) k hkn w2
   have HKN := KN.out (by trivial) (by trivial) k hkn
   have HDR : Hid (l.drop k = l.getD k default :: l.drop (k + 1)) := drop_at l k (by rw [HN.out]; exact hkn)
   obtain ⟨c, hc⟩ : ∃ z, l.getD k default = z := ⟨_, rfl⟩
   rw [hc] at x1 x2 HRA HKD HKN HDR
   obtain ⟨kd, r⟩ := c
   dsimp only at x1 x2 HRA HKD HKN
   obtain ⟨rn, hrn⟩ : ∃ z, r.length = z := ⟨_, rfl⟩
   rw [hrn] at x2 HKD
   obtain ⟨D, hD⟩ : ∃ z, doG p kd r (L.map GO.grp) = z := ⟨_, rfl⟩
   have HKN2 := HKN _ HI.out.2.1
   have HK2 : Hid (∀ w1, Below w2.heap.size w2 w1 → OG w1 w2.heap.size (.slice ad2 ln c2) L → Calls Tryz.prog 39 #[.agg #[.int .i64 p.kind, .int .i64 p.mode, .int .i64 p.low, .int .i64 p.high, .int .i64 p.size, .int .i64 p.limit, .slice x.l p.left.length x.lc, .slice x.r p.right.length x.rc, .slice x.lk p.lkeys.length x.lkc, .slice x.rk p.rkeys.length x.rkc, .bool p.grouped, .slice x.g p.group.length x.gc, .slice x.a p.aggs.length x.ac], .slice ad2 ln c2, .agg #[.int .i64 kd, .slice ra rn rc]] w1 fun e w' => doRes D w2.heap.size e w' ∧ Below w2.heap.size w2 w') := fun w1 h1 h2 => by
    have := HKD w1 ad2 c2 L ra rc hbw2 h1 (by rw [hln]; exact h2) HI.out.2.1 HRA.out
    rw [hln, hD] at this
    exact this
   have HDA : Hid (doAll p gs l = doAll p (L.map GO.grp) (⟨kd, r⟩ :: l.drop (k + 1)) ∧ doG p kd r (L.map GO.grp) = D ∧ (D.1 = 0 → gsR p D.2)) := ⟨by rw [HI.out.2.2, HDR.out], hD, by rw [← hD]; exact HKN2⟩
   have q1 := cL hbx x1
   have q2 := cL hbx x2
   have lw2 : lb < wr.heap.size := World.block_lt_of_cell? _ _ q1
   have i1 : (0 : Int) ≤ (k : Int) := by omega
   have i2 : (k : Int) < (n : Int) := by omega
   have HO2 : Hid (OG wr w2.heap.size (.slice ad2 ln c2) L) := by rw [← hln]; exact HI.out.1
   clear hc x1 x2 x3 HKD HKN HKN2 hrn hD hln HDR KD KN KR0 KR1 KT HS HI
   go_wp2_with fail
   refine (HK2.out _ (hbr.alloc hbr.size _) (HO2.out.below (bR.alloc nR _))).mono ?_
   rintro e w5 ⟨hres, hb5⟩
   obtain ⟨D1, D2⟩ := D
   rcases hres with ⟨hne, rfl⟩ | ⟨h0, ad5, c5, L5, rfl, ho5, hm5⟩
   ·have e1 : R = (D1, [], []) := by
     rw [HRD.out, HDA.out.1, doAll_bad (by rw [HDA.out.2.1]; exact hne), HDA.out.2.1]
     exact if_pos hne
    have hne2 : (D1 != 0) = true := by simpa using hne
    subst e1
    dsimp only
    go_wp2
    exact bodyPost_ret (v := .tuple #[.slice none 0 0, .slice none 0 0, .int .i64 D1]) (by simp [results, Tryz.results12, go_sem]) rfl ⟨.inl ⟨hne, rfl⟩, hbw2.trans (hb5.mono hbw2.size)⟩
   ·dsimp only at h0 hm5
    subst h0
    have HNX : Hid (OG w5 w2.heap.size (.slice ad5 L5.length c5) L5 ∧ gsR p (L5.map GO.grp) ∧ doAll p gs l = doAll p (L5.map GO.grp) (l.drop (k + 1))) := ⟨ho5, by rw [hm5]; exact HDA.out.2.2 rfl, by rw [HDA.out.1, doAll_ok (by rw [HDA.out.2.1]), HDA.out.2.1, hm5]⟩
    obtain ⟨n5, hn5⟩ : ∃ z, L5.length = z := ⟨_, rfl⟩
    have HN5 : Hid (L5.length = n5) := hn5
    rw [hn5]
    clear ho5 hm5 hn5
    go_wp2
    go_roundw
    case rel => exact ⟨k + 1, L5, ad5, c5, by omega, by go_num, by rw [HN5.out], HNX.out, hb5⟩
    case measure => simp [intOf]; omega
  ·have hke : k = n := by omega
   have HG2 : Hid (gsR p (L.map GO.grp) ∧ gsAt wr ad2 (L.map GO.gx) (L.map GO.grp) ∧ (L.map GO.grp).length = ln ∧ R = (0, L.map GO.grp, toldR p.group.length (gs.map fun g => (rowC p g).r) ((L.map GO.grp).map fun g => (rowC p g).r))) := by
    refine ⟨HI.out.2.1, HI.out.1.at, by rw [List.length_map]; exact hln, ?_⟩
    have e1 : doAll p gs l = (0, L.map GO.grp) := by rw [HI.out.2.2, List.drop_of_length_le (by rw [HN.out]; omega)]; rfl
    rw [HRD.out, e1]
    exact if_neg (by simp)
   obtain ⟨g2, hg2⟩ : ∃ z, L.map GO.grp = z := ⟨_, rfl⟩
   obtain ⟨x2, hx2⟩ : ∃ z, L.map GO.gx = z := ⟨_, rfl⟩
   rw [hg2, hx2] at HG2
   have KR0b := KR0.out (by trivial)
   have KR1b := KR1.out (by trivial)
   have KTb := KT.out (by trivial)
   have HKR0 : Hid _ := KR0b
   have HKR1 : Hid _ := KR1b
   have HKT : Hid _ := KTb
   clear hg2 hx2 hln KR0 KR1 KT KR0b KR1b KTb KD KN HS HI HV HRD HOG HL0 hke
   go_wp2
   go_region_held3 (fun w' => w'.cell? ⟨w.heap.size, 0, none⟩ = some (.int .i64 p.kind) ∧ w'.cell? ⟨w.heap.size, 1, none⟩ = some (.int .i64 p.mode) ∧ w'.cell? ⟨w.heap.size, 2, none⟩ = some (.int .i64 p.low) ∧ w'.cell? ⟨w.heap.size, 3, none⟩ = some (.int .i64 p.high) ∧ w'.cell? ⟨w.heap.size, 4, none⟩ = some (.int .i64 p.size) ∧ w'.cell? ⟨w.heap.size, 5, none⟩ = some (.int .i64 p.limit) ∧ w'.cell? ⟨w.heap.size, 6, none⟩ = some (.slice x.l p.left.length x.lc) ∧ w'.cell? ⟨w.heap.size, 7, none⟩ = some (.slice x.r p.right.length x.rc) ∧ w'.cell? ⟨w.heap.size, 8, none⟩ = some (.slice x.lk p.lkeys.length x.lkc) ∧ w'.cell? ⟨w.heap.size, 9, none⟩ = some (.slice x.rk p.rkeys.length x.rkc) ∧ w'.cell? ⟨w.heap.size, 10, none⟩ = some (.bool p.grouped) ∧ w'.cell? ⟨w.heap.size, 11, none⟩ = some (.slice x.g p.group.length x.gc) ∧ w'.cell? ⟨w.heap.size, 12, none⟩ = some (.slice x.a p.aggs.length x.ac)) (first | exact box_later HBr.out hyT | exact box_later HBr.out hyN | exact box_later HBr.out hyM | go_keep)
    (first
     | (go_at_call 40; refine (HKT.out g2 ln _ _ _ _ _ HG2.out.2.2.1 HG2.out.1 (by first | exact vwW | exact viewK_below vwW hbM) (by first | exact vwN | exact viewK_below vwN hbN) hcW hcN).mono ?_; rintro e yT ⟨⟨tb, tcap, rfl, htb⟩, hbT⟩; have hyT : Below wr.heap.size wr yT := by first | exact hyN.trans (hbT.mono hyN.size) | exact hyM.trans (hbT.mono hyM.size))
     | (go_at_call 20; (with_reducible refine (HKR0.out _ (by first | exact hbx.trans (hyM.mono hbx.size) | exact hbx.drew)).mono ?_); rintro e yN ⟨⟨adW, cW, rfl, vwW, hcW⟩, hbN⟩; have hyN : Below wr.heap.size wr yN := by first | exact hyM.trans (hbN.mono hyM.size) | exact bR.drew.trans hbN)
     | (go_at_call 20; (with_reducible refine (HKR1.out _ ad2 c2 x2 g2 ln HG2.out.2.2.1 HG2.out.1 (by first | exact hbx.trans (hyN.mono hbx.size) | exact hbx.drew) (by first | exact HG2.out.2.1.below hyN | exact HG2.out.2.1.below bR.drew)).mono ?_); rintro e yM ⟨⟨adN, cN, rfl, vwN, hcN⟩, hbM⟩; have hyM : Below wr.heap.size wr yM := by first | exact hyN.trans (hbM.mono hyN.size) | exact bR.drew.trans hbM))
   all_goals
    go_wp2
    have e1 := HG2.out.2.2.2
    have hl1 := HG2.out.2.2.1
    refine bodyPost_ret (v := .tuple #[.slice ad2 ln c2, .slice tb (toldR p.group.length (gs.map fun g => (rowC p g).r) (g2.map fun g => (rowC p g).r)).length tcap, .int .i64 0]) (by simp [results, Tryz.results12, go_sem]) rfl ⟨.inr ⟨by rw [e1], ad2, c2, x2, tb, tcap, ?_, ?_, ?_⟩, hbx.trans (hyT.mono hbx.size)⟩
    ·rw [e1]; dsimp only; rw [hl1]
    ·rw [e1]; exact HG2.out.2.1.below hyT
    ·rw [e1]; exact htb
theorem own_none {w : World} {base : Nat} (hb : base ≤ w.heap.size) (T : TypeId) (s : Nat) : (w.alloc (.cells #[] T)).ownsRow base T s (.slice (some ⟨w.heap.size, 0, none⟩) 0 0) 0 [] :=
 ⟨by simp, .inr ⟨w.heap.size, 0, #[], rfl, hb, (by show (w.heap.push _)[w.heap.size]? = _; simp), Nat.le_refl _, by decide, by simp, by simp⟩⟩
theorem run_clone0 (w : World) (t ty e : TypeId) (i : TypeInfo) (z : Value) (size bytes : Nat) (ht : Tryz.prog.underlying t = some (.slice e)) (hi : Tryz.prog.info? e = some i) (hz : i.zero = some z) (hsize : i.size = size) (hby : i.bytes = bytes) (hzs : z.cells.size = size) (hsz : 0 < size)
 (a : Option Addr) (m c : Nat) (xs : List Value) (hl : xs.length = m * size) (hx : cellsAt w a m xs) (h1 : ∀ u ∈ xs, u.oneCell' = true) (hbytes : m * bytes ≤ 140737488355328) (hm : m ≤ 4611686018427387904) :
 ∃ a' c' w', (Builtin.append_ #[t, t] ty #[.slice (some ⟨w.heap.size, 0, none⟩) 0 0, .slice a m c]).run Tryz.prog (w.alloc (.cells #[] e)) = .ok (.slice a' m c') w' ∧ w'.ownsRow w.heap.size e size (.slice a' m c') m xs ∧ Below w.heap.size w w' := by
 have ho := own_none (w := w) nR e size
 have hb0 : Below w.heap.size w (w.alloc (.cells #[] e)) := bR.alloc nR _
 cases a with
 | none =>
  obtain ⟨rfl, rfl⟩ := hx.1 rfl
  exact ⟨_, _, _, ch.run_append_none w.heap.size t ty e i size c ht hi _ 0 [] ho, ho, hb0⟩
 | some b =>
  obtain ⟨v', w', hr, h2, h3, _, _⟩ := run_append_own_at (P := Tryz.prog) (w.alloc (.cells #[] e)) w.heap.size t ty e i z size bytes ht hi hz hsize hby hzs hsz (.slice (some ⟨w.heap.size, 0, none⟩) 0 0) 0 [] ho b m c xs hl (fun j u hu => cL hb0 (hx.2 b rfl j u hu)) h1 (by unfold maxLen; omega) (by rw [Nat.zero_add]; exact hbytes) (by simp)
  rw [Nat.zero_add, List.nil_append] at h2
  have ev := own_is h2
  rw [ev] at hr h2
  exact ⟨_, _, w', hr, h2, hb0.grown h3 (by simp) (fun k hk => by cases hk; exact Nat.le_refl _)⟩
def boxO (X : Nat) (rv : Value) (nn : Int) (bv : Value) : Own1 := ⟨.slice (some ⟨X, 0, none⟩) 1 1, 53, 3, 1, [rv, .int .i64 nn, bv]⟩
def rowOw (rv : Value) (row : List Cel) : Own1 := ⟨rv, 68, 3, row.length, celCells row⟩
def mkE (X : Nat) (rv : Value) (row : List Cel) (nn : Int) (bv : Value) (bs : List (Value × List Tal)) (u : Value) (L : List GO) : List Own1 := boxO X rv nn bv :: rowOw rv row :: bagsE bv bs (headO u L :: L.flatMap GO.all)
theorem own_box (w : World) (T : TypeId) (a b c : Value) (hb : Nat) (h : hb ≤ w.heap.size) : (w.alloc (.cells #[a, b, c] T)).ownsRow hb T 3 (.slice (some ⟨w.heap.size, 0, none⟩) 1 1) 1 [a, b, c] :=
 ⟨by simp, .inr ⟨w.heap.size, 1, #[a, b, c], rfl, h, (by show (w.heap.push _)[w.heap.size]? = _; simp), Nat.le_refl _, by decide, by simp, by simp⟩⟩
theorem mkE_cells {w : World} {base X : Nat} {rv bv u : Value} {row : List Cel} {nn : Int} {bs : List (Value × List Tal)} {L : List GO} (h : Est w base (mkE X rv row nn bv bs u L)) : w.cell? ⟨X, 0, none⟩ = some rv ∧ w.cell? ⟨X, 1, none⟩ = some (.int .i64 nn) ∧ w.cell? ⟨X, 2, none⟩ = some bv ∧ (∀ j, w.frozen? ⟨X, j, none⟩ = false) := by
 have ho : w.ownsRow base 53 3 (.slice (some ⟨X, 0, none⟩) 1 1) 1 [rv, .int .i64 nn, bv] := h.own _ (List.mem_cons_self ..)
 have hc := World.ownsRow.cells ho (g := X) rfl
 have h0 := hc 0 rv rfl
 have h1 := hc 1 (.int .i64 nn) rfl
 have h2 := hc 2 bv rfl
 rw [ch.add_at] at h0 h1 h2
 refine ⟨h0, h1, h2, fun j => ?_⟩
 rcases ho.2 with ⟨hv, h0⟩ | ⟨g', c, cur, hv, _, hg, _⟩
 ·cases hv
 ·cases hv; simp [World.frozen?, hg]
theorem mkE_app {w w1 w2 : World} {base X : Nat} {rv bv b' u : Value} {row : List Cel} {nn : Int} {bs : List (Value × List Tal)} {L : List GO} {v : Value} {l : List Tal} (h : Est w base (mkE X rv row nn bv bs u L)) (hb : Below w.heap.size w w1) (hv : w1.ownsRow w.heap.size 82 4 v l.length (talCells l)) (hg : w1.heap.size ≤ w2.heap.size) (hblk : ∀ k, k < w1.heap.size → bv.ownBlock ≠ some k → w2.heap[k]? = w1.heap[k]?) (hown : w2.ownsRow base 61 1 b' (bs.length + 1) (bs.map (·.1) ++ [v])) (hat : ∀ g, b'.ownBlock = some g → bv.ownBlock = some g ∨ w1.heap.size ≤ g) : Est (w2.setCell ⟨X, 2, none⟩ b') base (mkE X rv row nn b' (bs ++ [(v, l)]) u L) := by
 have h1 : Est w base (bagsE bv bs (boxO X rv nn bv :: rowOw rv row :: headO u L :: L.flatMap GO.all)) := by
  refine Est_perm h (perm_of (fun a => ?_))
  unfold mkE bagsE
  simp only [List.count_append, List.count_cons]
  omega
 have h2 := bagsE_app h1 hb hv hg hblk hown hat
 have h3 : Est w2 base (boxO X rv nn bv :: rowOw rv row :: bagsE b' (bs ++ [(v, l)]) (headO u L :: L.flatMap GO.all)) := by
  refine Est_perm h2 (perm_of (fun a => ?_))
  unfold bagsE
  simp only [List.count_append, List.count_cons]
  omega
 exact Est_set (j := 2) h3 (by omega) b'
theorem mkE_end {w w2 : World} {base X : Nat} {rv bv u u' : Value} {row : List Cel} {nn : Int} {bs : List (Value × List Tal)} {L : List GO} (h : Est w base (mkE X rv row nn bv bs u L)) (hg : w.heap.size ≤ w2.heap.size) (hblk : ∀ k, k < w.heap.size → u.ownBlock ≠ some k → w2.heap[k]? = w.heap[k]?) (hown : w2.ownsRow base 53 3 u' (L.length + 1) (gcells L ++ [rv, .int .i64 nn, bv])) (hat : ∀ g, u'.ownBlock = some g → u.ownBlock = some g ∨ w.heap.size ≤ g) : OG w2 base u' (L ++ [⟨rv, row, nn, bv, bs⟩]) := by
 have h2 : Est w base (headO u L :: (GO.all ⟨rv, row, nn, bv, bs⟩ ++ L.flatMap GO.all)) := by
  refine Est_perm (Est_tail h) (perm_of (fun a => ?_))
  have e5 : GO.bagsO ⟨rv, row, nn, bv, bs⟩ = (⟨bv, 61, 1, bs.length, bs.map (·.1)⟩ : Own1) := rfl
  have e6 : GO.rowO ⟨rv, row, nn, bv, bs⟩ = rowOw rv row := rfl
  unfold bagsE GO.all
  rw [e5, e6]
  simp only [List.count_append, List.count_cons]
  omega
 have e1 : (L ++ [(⟨rv, row, nn, bv, bs⟩ : GO)]).length = L.length + 1 := by simp
 have e2 : gcells (L ++ [(⟨rv, row, nn, bv, bs⟩ : GO)]) = gcells L ++ [rv, .int .i64 nn, bv] := by rw [gcells_app]; rfl
 have h3 := Est_frame (x' := headO u' (L ++ [(⟨rv, row, nn, bv, bs⟩ : GO)])) h2 hg hblk (by have hh := hown; rw [← e1, ← e2] at hh; exact hh) hat
 refine Est_perm h3 (perm_of (fun a => ?_))
 simp only [List.flatMap_append, List.flatMap_cons, List.flatMap_nil, List.count_append, List.count_cons, List.append_nil]
 omega
end Go.Proofs.YtbfbgdinhiglaaaGreat.gr
namespace Go.Proofs.YtbfbgdinhiglaaaGreat.gr
open Go.ChangeShapes Go.WideShapes Go.ChangeAt Go.RowKit
open vl pl bt
set_option linter.unusedVariables false
set_option linter.unusedSimpArgs false
theorem step_cpyS {ops : Array Oper} {o : Oper} {a : Act} {w w' : World} {K : Act → World → Prop} {Q : Exit → Act → World → Prop} {E : Prop} (hgd : o.guard = none) (s x : Operand) (t : TypeId)
 (hop : o.op = .call { callee := .builtin .copy, args := #[s, x], argTypes := #[t, t] }) (vs vx v' : Value) (hs : a.eval s = vs) (hx : a.eval x = vx)
 (hrun : (Builtin.copy_ #[t, t] o.type #[vs, vx]).run Tryz.prog w = .ok v' w') (h : K (a.put o.dst v') w') :
 if Region.wanted o (yielded ops a.tmps) = true then Oper.wp Tryz.prog o a w K Q else E := by
 rw [if_pos (by simp [Region.wanted, hgd])]
 unfold Oper.wp
 simp [execOp, hop, resolve, invoke, builtin, hs, hx, hrun, Result.andThen]
 exact h
theorem own_capN {w : World} {base : Nat} {e : TypeId} {size : Nat} {ad : Option Addr} {n m cap : Nat} {xs : List Value} (h : w.ownsRow base e size (.slice ad n cap) m xs) : n ≤ cap ∧ cap ≤ maxLen := by
 rcases h.2 with ⟨hv, h0⟩ | ⟨g, c, cur, hv, _, _, hc, hm, _⟩
 ·cases hv; exact ⟨Nat.le_refl _, Nat.zero_le _⟩
 ·cases hv; exact ⟨hc, hm⟩
theorem own_froz {w : World} {base : Nat} {e : TypeId} {size n cap g : Nat} {xs : List Value} (h : w.ownsRow base e size (.slice (some ⟨g, 0, none⟩) n cap) n xs) (j : Nat) : w.frozen? ⟨g, j, none⟩ = false := by
 rcases h.2 with ⟨hv, h0⟩ | ⟨g', c, cur, hv, _, hg, _⟩
 ·cases hv
 ·cases hv; simp [World.frozen?, hg]
theorem sizeTl (w : World) : (sizeOf 82).run Tryz.prog w = .ok 4 w := by kernel_rfl
theorem elemTl : Tryz.prog.elem 61 = 82 := by kernel_rfl
theorem undTl : Tryz.prog.underlying 61 = some (.slice (Tryz.prog.elem 61)) := by rw [elemTl]; exact Tryz.underlying61
theorem backTl (g n cap k : Nat) (hk : k ≤ n) (hn : n ≤ cap) : ∃ a2 : Addr, (∀ w, (Instr.sliceAt 61 (.slice (some ⟨g, 0, none⟩) n cap) (some (.int .i64 k)) none none).run Tryz.prog w = .ok (.slice (some a2) (n - k) (cap - k)) w) ∧ (k < n → a2 = ⟨g, k * 4, none⟩) := by
 refine ⟨if cap = k then ⟨g, 0, none⟩ else ⟨g, k * 4, none⟩, ?_, fun h => by rw [if_neg (by omega)]⟩
 intro w
 rw [run_sliceAt_slice (t := 61) (h := undTl), run_slice_l (t := 61) (ht := undTl) (h0 := by omega) (h1 := by omega), elemTl, sizeTl]
 simp [Result.andThen, sliced]
 split
 ·rfl
 ·simp [Addr.add]
  omega
theorem sizeGr (w : World) : (sizeOf 53).run Tryz.prog w = .ok 3 w := by kernel_rfl
theorem elemGr : Tryz.prog.elem 26 = 53 := by kernel_rfl
theorem undGr : Tryz.prog.underlying 26 = some (.slice (Tryz.prog.elem 26)) := by rw [elemGr]; exact Tryz.underlying26
theorem backGr (g n cap k : Nat) (hk : k ≤ n) (hn : n ≤ cap) : ∃ a2 : Addr, (∀ w, (Instr.sliceAt 26 (.slice (some ⟨g, 0, none⟩) n cap) (some (.int .i64 k)) none none).run Tryz.prog w = .ok (.slice (some a2) (n - k) (cap - k)) w) ∧ (k < n → a2 = ⟨g, k * 3, none⟩) := by
 refine ⟨if cap = k then ⟨g, 0, none⟩ else ⟨g, k * 3, none⟩, ?_, fun h => by rw [if_neg (by omega)]⟩
 intro w
 rw [run_sliceAt_slice (t := 26) (h := undGr), run_slice_l (t := 26) (ht := undGr) (h0 := by omega) (h1 := by omega), elemGr, sizeGr]
 simp [Result.andThen, sliced]
 split
 ·rfl
 ·simp [Addr.add]
  omega
end Go.Proofs.YtbfbgdinhiglaaaGreat.gr
namespace Go.Proofs.YtbfbgdinhiglaaaGreat.gr
open Go.ChangeShapes Go.WideShapes Go.ChangeAt Go.RowKit
open vl pl bt
set_option linter.unusedVariables false
set_option linter.unusedSimpArgs false
attribute [local go_sem] Oper.semAt_some
theorem while_len {α : Type} (f : α → Bool) : ∀ (l : List α) (k : Nat), (∀ t (h : t < l.length), t < k → f l[t] = true) → (∀ h : k < l.length, f l[k] = false) → k ≤ l.length → (l.takeWhile f).length = k
 | [], k, _, _, h => by have : k = 0 := by simpa using h
                        subst this; rfl
 | a :: l, 0, _, h, _ => by
  have := h (by simp)
  simp only [List.getElem_cons_zero] at this
  rw [List.takeWhile_cons, if_neg (by simp [this])]; rfl
 | a :: l, k + 1, h1, h2, h3 => by
  have ha := h1 0 (by simp) (by omega)
  simp only [List.getElem_cons_zero] at ha
  rw [List.takeWhile_cons, if_pos ha, List.length_cons]
  congr 1
  refine while_len f l k (fun t h ht => ?_) (fun h => ?_) (by simpa using h3)
  ·have := h1 (t + 1) (by simpa using h) (by omega)
   simpa using this
  ·have := h2 (by simpa using h)
   simpa using this
theorem idxG_at {gs : List Grp} {key : List Cel} {k : Nat} (h1 : ∀ t, t < k → cmpRows (gs.getD t default).row key < 0) (h2 : k < gs.length → ¬ cmpRows (gs.getD k default).row key < 0) (h3 : k ≤ gs.length) : idxG gs key = k := by
 unfold idxG
 refine while_len _ gs k (fun t h ht => ?_) (fun h => ?_) h3
 ·have := h1 t ht
  simp only [List.getD_eq_getElem?_getD, List.getElem?_eq_getElem h, Option.getD_some] at this
  simpa using this
 ·have := h2 h
  simp only [List.getD_eq_getElem?_getD, List.getElem?_eq_getElem h, Option.getD_some] at this
  simpa using this
theorem ret_place {a b : Int} {c d : Bool} (h1 : a = b) (h2 : c = d) : Ending.returned (.tuple #[.int .i64 a, .bool c]) = .returned (.tuple #[.int .i64 b, .bool d]) := by rw [h1, h2]
set_option maxRecDepth 100000 in
set_option maxHeartbeats 4000000 in
theorem rplace_any (a ka : Option Addr) (cap kc : Nat) (xs : List GX) (gs : List Grp) (key : List Cel) (w : World) (hgs : gsAt w a xs gs) (hk : vl.rowAt w ka key) (hl : gs.length ≤ 1000000) (hkl : key.length ≤ 1000) (hrl : ∀ g ∈ gs, g.row.length ≤ 1000) (hq : ∀ g ∈ gs, cmpRows g.row key = 0 ↔ g.row = key) :
 Calls Tryz.prog 90 #[.slice a gs.length cap, .slice ka key.length kc] w fun e w' => e = .returned (.tuple #[.int .i64 (idxG gs key : Nat), .bool (hasG gs key)]) ∧ Below w.heap.size w w' := by
 have HC : Hid (∀ i, i < gs.length → ∃ b o ra rc, a = some ⟨b, o, none⟩ ∧ w.cell? ⟨b, o + i * 3, none⟩ = some (.slice ra (gs.getD i default).row.length rc) ∧ (∀ w1, Below w.heap.size w w1 → Calls Tryz.prog 26 #[.slice ra (gs.getD i default).row.length rc, .slice ka key.length kc] w1 fun e w' => e = .returned (.int .i64 (cmpRows (gs.getD i default).row key)) ∧ Below w1.heap.size w1 w') ∧ (∀ w1, Below w.heap.size w w1 → Calls Tryz.prog 34 #[.slice ra (gs.getD i default).row.length rc, .slice ka key.length kc] w1 fun e w' => e = .returned (.bool (decide ((gs.getD i default).row = key))) ∧ Below w1.heap.size w1 w')) := fun i hi => by
  obtain ⟨b, o, e, x1, _, _⟩ := hgs.cells i hi
  have hm : gs.getD i default ∈ gs := by rw [List.getD_eq_getElem?_getD, List.getElem?_eq_getElem hi]; exact List.getElem_mem hi
  have hr := (hgs.each i hi).row
  have h8 := hrl _ hm
  exact ⟨b, o, _, _, e, x1, fun w1 hb => vl.rrows_any _ _ _ _ _ _ w1 (vl.rowAt_below hr hb) (vl.rowAt_below hk hb) (by omega) (by omega), fun w1 hb => vl.same_any _ _ _ _ _ _ w1 (vl.rowAt_below hr hb) (vl.rowAt_below hk hb) (by omega) (by omega)⟩
 obtain ⟨n, hn⟩ : ∃ z, gs.length = z := ⟨_, rfl⟩
 have HN : Hid (gs.length = n) := hn
 obtain ⟨kl, hkl2⟩ : ∃ z, key.length = z := ⟨_, rfl⟩
 have HQ : Hid (∀ i, i < n → (cmpRows (gs.getD i default).row key = 0 ↔ (gs.getD i default).row = key)) := fun i hi => hq _ (by rw [← hn] at hi; rw [List.getD_eq_getElem?_getD, List.getElem?_eq_getElem hi]; exact List.getElem_mem hi)
 rw [hn, hkl2] at HC ⊢
 rw [hn] at hl
 clear hgs hk hkl hrl hq hn hkl2
 go_enter Tryz.func90, Tryz.ntmps90
 go_wp2
 go_loopw [6] (fun i wr => ∃ k : Nat, k ≤ n ∧ i = .int .i64 k ∧ Hid (∀ t, t < k → cmpRows (gs.getD t default).row key < 0) ∧ Below w.heap.size w wr) (fun i _ => n - (intOf i).toNat)
 case atStart => exact ⟨0, Nat.zero_le _, rfl, fun t ht => absurd ht (Nat.not_lt_zero t), bR⟩
 case round =>
  obtain ⟨k, hk, rfl, HA, hnx⟩ := hrel
  by_cases hkn : k < n
  ·obtain ⟨b, o, ra, rc, e, x1, K1, K2⟩ := HC.out k hkn
   subst e
   obtain ⟨g, hg⟩ : ∃ z, gs.getD k default = z := ⟨_, rfl⟩
   have HG : Hid (gs.getD k default = g) := hg
   rw [hg] at x1 K1 K2
   obtain ⟨rl, hrl⟩ : ∃ z, g.row.length = z := ⟨_, rfl⟩
   rw [hrl] at x1 K1 K2
   obtain ⟨c, hc⟩ : ∃ z, cmpRows g.row key = z := ⟨_, rfl⟩
   have HCC : Hid (cmpRows g.row key = c) := hc
   obtain ⟨s, hs⟩ : ∃ z, decide (g.row = key) = z := ⟨_, rfl⟩
   have HSS : Hid (decide (g.row = key) = s) := hs
   rw [hc] at K1
   rw [hs] at K2
   have KC1 : Hid _ := K1
   have KC2 : Hid _ := K2
   have q1 := cL hnx x1
   have i1 : (0 : Int) ≤ (k : Int) := by omega
   have i2 : (k : Int) < (n : Int) := by omega
   clear hg hrl hc hs K1 K2 x1
   by_cases h0 : c < 0
   ·have HA2 : Hid (∀ t, t < k + 1 → cmpRows (gs.getD t default).row key < 0) := fun t ht => by
     rcases Nat.lt_or_ge t k with h | h
     ·exact HA.out t h
     ·have : t = k := by omega
      rw [this, HG.out, HCC.out]; exact h0
    go_wp2_with (go_at_call 26; refine (KC1.out _ hnx).mono ?_; rintro e w1 ⟨rfl, hb1⟩)
    go_roundw
    case rel => exact ⟨k + 1, by omega, by go_num, HA2, hnx.trans (hb1.mono hnx.size)⟩
    case measure => simp [intOf]; omega
   ·have HI : Hid (idxG gs key = k) := idxG_at HA.out (fun _ => by rw [HG.out, HCC.out]; exact h0) (by rw [HN.out]; omega)
    have HH : Hid (hasG gs key = s) := by
     show _ = _
     unfold hasG
     rw [HI.out, HN.out, HG.out, HCC.out, ← HSS.out, decide_eq_true hkn, Bool.true_and, decide_eq_decide]
     have := HQ.out k hkn
     rw [HG.out, HCC.out] at this
     exact this
    go_wp2_with (first
     | (go_at_call 26; refine (KC1.out _ hnx).mono ?_; rintro e w1 ⟨rfl, hb1⟩; replace q1 := cL hb1 q1)
     | (go_at_call 34; refine (KC2.out _ (hnx.trans (hb1.mono hnx.size))).mono ?_; rintro e w2 ⟨rfl, hb2⟩))
    go_ret2
    exact ⟨ret_place (by rw [HI.out]) HH.out.symm, (hnx.trans (hb1.mono hnx.size)).trans (hb2.mono (Nat.le_trans hnx.size hb1.size))⟩
  ·have hke : k = n := by omega
   subst hke
   have HI : Hid (idxG gs key = k) := idxG_at HA.out (fun h => by rw [HN.out] at h; omega) (by rw [HN.out]; omega)
   have HH : Hid (hasG gs key = false) := by
    show _ = _
    unfold hasG
    rw [HI.out, HN.out, decide_eq_false (Nat.lt_irrefl k), Bool.false_and]
   go_wp2
   go_ret2
   exact ⟨ret_place (by rw [HI.out]) HH.out.symm, hnx⟩
end Go.Proofs.YtbfbgdinhiglaaaGreat.gr
