import Derived.Test.YtbfbgdinhiglaaaGreatS19
import Derived.Test.YtbfbgdinhiglaaaGreatS8
import Derived.Test.YtbfbgdinhiglaaaGreatGrpRTurn
import Derived.Test.YtbfbgdinhiglaaaGreatS33
import Derived.Test.YtbfbgdinhiglaaaGreatGrpRChg
import Derived.Test.YtbfbgdinhiglaaaGreatGrpRCheck
import Derived.Test.YtbfbgdinhiglaaaGreatMgPlnD
import Derived.Test.YtbfbgdinhiglaaaGreatMgChgD
import Derived.Test.YtbfbgdinhiglaaaGreatS13
import Derived.Test.YtbfbgdinhiglaaaGreatMgValA
namespace Go.Proofs.YtbfbgdinhiglaaaGreat.gr
open Go.ChangeShapes Go.WideShapes Go.ChangeAt Go.RowKit
open vl pl bt
set_option linter.unusedVariables false
set_option linter.unusedSimpArgs false
attribute [local go_sem] Oper.semAt_some
set_option maxRecDepth 100000 in
set_option maxHeartbeats 4000000 in
theorem checkGroups_bad (p : Pln) (x : PA) (a : Option Addr) (cap : Nat) (gs : List Grp) (w : World) (hw : wfPlan p) (hp : planAt w p x) (hgl : gs.length ≤ 9223372036854775807) (hbad : planErr p ≠ 0 ∨ p.grouped = false ∨ 4096 < gs.length) :
 Calls Tryz.prog 7 #[planV p x, .slice a gs.length cap] w fun e w' => e = .returned (.int .i64 (grpsErr p gs)) ∧ Below w.heap.size w w' := by
 have KP : Hid (∀ w1, Below w.heap.size w w1 → Calls Tryz.prog 21 #[planV p x] w1 fun e w' => e = .returned (.int .i64 (planErr p)) ∧ Below w1.heap.size w1 w') := fun w1 hb => checkPlan_any p x w1 hw (planAt_below hp hb)
 obtain ⟨R, hR⟩ : ∃ z, grpsErr p gs = z := ⟨_, rfl⟩
 have HR : Hid (grpsErr p gs = R) := hR
 unfold grpsErr at HR
 rw [hR]
 clear hR hw hp
 obtain ⟨AB, hAB⟩ : ∃ z, allB gs.length (grpB p gs) = z := ⟨_, rfl⟩
 rw [hAB] at HR
 obtain ⟨E, hE⟩ : ∃ z, planErr p = z := ⟨_, rfl⟩
 rw [hE] at KP HR hbad
 obtain ⟨gn, hgn⟩ : ∃ z, gs.length = z := ⟨_, rfl⟩
 rw [hgn] at HR hgl hbad ⊢
 clear hAB hE hgn
 obtain ⟨kind, mode, low, high, size, limit, left, right, lkeys, rkeys, grouped, group, aggs⟩ := p
 obtain ⟨la, lc, rr, rc, lk, lkc, rk, rkc, ga, gc, ag, ac⟩ := x
 unfold planV at KP ⊢
 dsimp only at KP HR hbad ⊢
 have HB : Hid (E ≠ 0 ∨ grouped = false ∨ 4096 < gn) := hbad
 clear hbad
 obtain ⟨n6, h6⟩ : ∃ n, left.length = n := ⟨_, rfl⟩
 obtain ⟨n7, h7⟩ : ∃ n, right.length = n := ⟨_, rfl⟩
 obtain ⟨n8, h8⟩ : ∃ n, lkeys.length = n := ⟨_, rfl⟩
 obtain ⟨n9, h9⟩ : ∃ n, rkeys.length = n := ⟨_, rfl⟩
 obtain ⟨n11, h11⟩ : ∃ n, group.length = n := ⟨_, rfl⟩
 obtain ⟨n12, h12⟩ : ∃ n, aggs.length = n := ⟨_, rfl⟩
 simp only [h6, h7, h8, h9, h11, h12] at KP ⊢
 clear h6 h7 h8 h9 h11 h12
 go_enter Tryz.func7, Tryz.ntmps7
 go_wp2_with fail
 generalize hV : (World.alloc w _) = V
 have hb0 : Below w.heap.size w V := by rw [← hV]; exact bR.alloc nR _
 have v0 : V.cell? ⟨w.heap.size, 0, none⟩ = some (.int .i64 kind) := by subst hV; go_simp
 have v1 : V.cell? ⟨w.heap.size, 1, none⟩ = some (.int .i64 mode) := by subst hV; go_simp
 have v2 : V.cell? ⟨w.heap.size, 2, none⟩ = some (.int .i64 low) := by subst hV; go_simp
 have v3 : V.cell? ⟨w.heap.size, 3, none⟩ = some (.int .i64 high) := by subst hV; go_simp
 have v4 : V.cell? ⟨w.heap.size, 4, none⟩ = some (.int .i64 size) := by subst hV; go_simp
 have v5 : V.cell? ⟨w.heap.size, 5, none⟩ = some (.int .i64 limit) := by subst hV; go_simp
 have v6 : V.cell? ⟨w.heap.size, 6, none⟩ = some (.slice la n6 lc) := by subst hV; go_simp
 have v7 : V.cell? ⟨w.heap.size, 7, none⟩ = some (.slice rr n7 rc) := by subst hV; go_simp
 have v8 : V.cell? ⟨w.heap.size, 8, none⟩ = some (.slice lk n8 lkc) := by subst hV; go_simp
 have v9 : V.cell? ⟨w.heap.size, 9, none⟩ = some (.slice rk n9 rkc) := by subst hV; go_simp
 have v10 : V.cell? ⟨w.heap.size, 10, none⟩ = some (.bool grouped) := by subst hV; go_simp
 have v11 : V.cell? ⟨w.heap.size, 11, none⟩ = some (.slice ga n11 gc) := by subst hV; go_simp
 have v12 : V.cell? ⟨w.heap.size, 12, none⟩ = some (.slice ag n12 ac) := by subst hV; go_simp
 clear hV
 refine (KP.out _ hb0).mono ?_
 rintro e w1 ⟨rfl, hb1⟩
 have hbw : Below w.heap.size w w1 := hb0.trans (hb1.mono hb0.size)
 replace v0 := cL hb1 v0
 replace v1 := cL hb1 v1
 replace v2 := cL hb1 v2
 replace v3 := cL hb1 v3
 replace v4 := cL hb1 v4
 replace v5 := cL hb1 v5
 replace v6 := cL hb1 v6
 replace v7 := cL hb1 v7
 replace v8 := cL hb1 v8
 replace v9 := cL hb1 v9
 replace v10 := cL hb1 v10
 replace v11 := cL hb1 v11
 replace v12 := cL hb1 v12
 clear hb1 hb0 KP
 by_cases h0 : E = 0
 ·subst h0
  cases grouped with
  | false =>
   have HE : Hid (1 = R) := by show _ = _; rw [← HR.out]; simp
   go_wp2
   go_ret
   exact ⟨ret_int HE.out, hbw⟩
  | true =>
   have h1 : gn > 4096 := by have := HB.out; simpa using this
   have HE : Hid (2 = R) := by show _ = _; rw [← HR.out]; simp; omega
   have h1' : (gn : Int) > 4096 := by omega
   go_wp2
   go_ret
   exact ⟨ret_int HE.out, hbw⟩
 ·have h0' : (E != 0) = true := by simpa using h0
  have HE : Hid (E = R) := by show _ = _; rw [← HR.out, if_pos h0]
  go_wp2
  go_ret
  exact ⟨ret_int HE.out, hbw⟩
theorem checkGroups_any (p : Pln) (x : PA) (a : Option Addr) (cap : Nat) (xs : List GX) (gs : List Grp) (w : World) (hw : wfPlan p) (hp : planAt w p x) (hgs : gsAt w a xs gs) (hwf : ∀ g ∈ gs, wfG g) (hgl : gs.length ≤ 9223372036854775807) :
 Calls Tryz.prog 7 #[planV p x, .slice a gs.length cap] w fun e w' => e = .returned (.int .i64 (grpsErr p gs)) ∧ Below w.heap.size w w' := by
 by_cases h : planErr p ≠ 0 ∨ p.grouped = false ∨ 4096 < gs.length
 ·exact checkGroups_bad p x a cap gs w hw hp hgl h
 ·have h1 : planErr p = 0 := Classical.byContradiction fun e => h (.inl e)
  have h2 : p.grouped = true := by
   cases e : p.grouped with
   | true => rfl
   | false => exact absurd (.inr (.inl e)) h
  have h3 : gs.length ≤ 4096 := by
   rcases Nat.lt_or_ge 4096 gs.length with e | e
   ·exact absurd (.inr (.inr e)) h
   ·exact e
  have := checkGroups_ok p x a cap xs gs w hw hp hgs hwf h3 h1 h2
  rw [show grpsErr p gs = (if allB gs.length (grpB p gs) = false then 1 else 0) by
   unfold grpsErr
   rw [if_neg (by simpa using h1), if_neg (by simp [h2]), if_neg (by omega)]]
  exact this
def turnOne (R : Int × List Grp) (base : Nat) (v : Value) (w' : World) : Prop := R.1 = 0 → ∃ ad cap L, v = .slice ad L.length cap ∧ OG w' base (.slice ad L.length cap) L ∧ L.map GO.grp = R.2
theorem turn_one {R : Int × List Grp} {base : Nat} {e : Ending} {w' : World} (h : turnRes R base e w') : ∃ v, e = .returned (.tuple #[v, .int .i64 R.1]) ∧ turnOne R base v w' := by
 rcases h with ⟨h0, v, rfl⟩ | ⟨h0, ad, cap, L, rfl, h1, h2⟩
 ·exact ⟨v, rfl, fun h => absurd h h0⟩
 ·exact ⟨_, by rw [h0], fun _ => ⟨ad, cap, L, rfl, h1, h2⟩⟩
set_option maxRecDepth 100000 in
set_option maxHeartbeats 16000000 in
theorem rstep_any (p : Pln) (x : PA) (a : Option Addr) (cap : Nat) (xs : List GX) (gs : List Grp) (la : Option Addr) (lcp : Nat) (l : List ch.Chg) (w : World) (hw : wfPlan p) (hp : planAt w p x) (hgs : gsAt w a xs gs) (hwf : ∀ g ∈ gs, wfG g) (hgl : gs.length ≤ 9223372036854775807) (hv : ch.chgsAt w la l) (hwl : ch.wfChgs l) (hll : l.length ≤ 9223372036854775807) :
 Calls Tryz.prog 13 #[planV p x, .slice a gs.length cap, .slice la l.length lcp] w fun e w' => stepRes (stepG p gs l) e w' ∧ Below w.heap.size w w' := by
 have KC : Hid (∀ w1, Below w.heap.size w w1 → Calls Tryz.prog 7 #[planV p x, .slice a gs.length cap] w1 fun e w' => e = .returned (.int .i64 (grpsErr p gs)) ∧ Below w1.heap.size w1 w') := fun w1 hb => checkGroups_any p x a cap xs gs w1 hw (planAt_below hp hb) (hgs.below hb) hwf hgl
 have KF : Hid (∀ w1, Below w.heap.size w w1 → Calls Tryz.prog 41 #[.slice la l.length lcp] w1 fun e w' => e = .returned (.int .i64 (ch.formErr l)) ∧ Below w1.heap.size w1 w') := fun w1 hb => ch.formOf_any la lcp l w1 (ch.chgsAt_below hv hb) hwl hll
 have KY : Hid (grpsErr p gs = 0 → ∀ w1, Below w.heap.size w w1 → Calls Tryz.prog 22 #[planV p x] w1 fun e w' => (∃ ad cp, e = .returned (.slice ad (cols p).length cp) ∧ intsAt w' ad (cols p)) ∧ Below w1.heap.size w1 w') := fun h w1 hb => by
  have hf := few_ok (okG_of h).1
  exact (rtypes_any p x w1 (planAt_below hp hb) hf.1.1 hf.2.1 (by omega) (by omega)).mono (fun e w' ⟨⟨ad, cp, h1, h2⟩, h3⟩ => ⟨⟨ad, cp, h1, (ownI_at h2).1⟩, h3⟩)
 have KI : Hid (grpsErr p gs = 0 → ∀ k, k < l.length → ∀ w1 ad cp ra rc, Below w.heap.size w w1 → intsAt w1 ad (cols p) → vl.rowAt w ra (l.getD k default).r → Calls Tryz.prog 24 #[.slice ad (cols p).length cp, .slice ra (l.getD k default).r.length rc] w1 fun e w' => e = .returned (.int .i64 (fErr (cols p) (l.getD k default).r)) ∧ Below w1.heap.size w1 w') := fun h k hk w1 ad cp ra rc hb hi hr => by
  have hf := few_ok (okG_of h).1
  have hcl : (cols p).length ≤ 800 := by unfold cols; rw [List.length_append]; omega
  exact fitsTypes_any ra ad rc cp (l.getD k default).r (cols p) w1 (ch.wfc_at hwl k hk).2.1 (by omega) (vl.rowAt_below hr hb) hi
 have KP : Hid (grpsErr p gs = 0 → ∀ w1, Below w.heap.size w w1 → Calls Tryz.prog 42 #[.slice a gs.length cap] w1 fun e w' => (∃ ad c L, e = .returned (.slice ad L.length c) ∧ OG w' w1.heap.size (.slice ad L.length c) L ∧ L.map GO.grp = gs) ∧ Below w1.heap.size w1 w') := fun h w1 hb => by
  obtain ⟨h0, hg, hl, _⟩ := okG_of h
  have hR := gs_right h hwf
  have hf := group_few h0 hg
  refine rown_any a cap xs gs w1 (hgs.below hb) (by omega) (fun g hm => ?_)
  obtain ⟨hr, h1, h2⟩ := hR.each g hm
  refine ⟨by rw [row_len hr]; omega, by rw [hr.bl]; omega, fun t ht => ?_⟩
  obtain ⟨j, hj, rfl⟩ := List.getElem_of_mem ht
  have hb := bag_len (hr.bag j (by rw [← hr.bl]; exact hj)) ⟨by omega, h2⟩
  have e : g.bags.getD j [] = g.bags[j] := by rw [List.getD_eq_getElem?_getD, List.getElem?_eq_getElem hj]; rfl
  rw [e] at hb
  exact hb.1
 have KD : Hid (grpsErr p gs = 0 → chgsErr p l = 0 → ∀ k, k < l.length → ∀ W0 w1 ad c (L : List GO) ra rc, Below w.heap.size w W0 → Below W0.heap.size W0 w1 → OG w1 W0.heap.size (.slice ad L.length c) L → gsR p (L.map GO.grp) → vl.rowAt w ra (l.getD k default).r → Calls Tryz.prog 43 #[planV p x, .slice ad L.length c, .agg #[.int .i64 (l.getD k default).k, .slice ra (l.getD k default).r.length rc]] w1 fun e w' => (∃ v, e = .returned (.tuple #[v, .int .i64 (doG p (l.getD k default).k (l.getD k default).r (L.map GO.grp)).1]) ∧ turnOne (doG p (l.getD k default).k (l.getD k default).r (L.map GO.grp)) W0.heap.size v w') ∧ Below W0.heap.size W0 w') := fun h hc k hk W0 w1 ad c L ra rc hb0 hb1 ho hR hr => by
  obtain ⟨h0, hg, _⟩ := okG_of h
  have hrk := (chgs_rows hc hwl).2 k hk
  refine (turn_any p x W0 w1 hb1 (planAt_below hp hb0) h0 hg ho hR ra rc _ (vl.rowAt_below hr hb0) hrk.1 _ hrk.2.1 hrk.2.2).mono ?_
  rintro e w' ⟨hres, hb⟩
  exact ⟨turn_one hres, hb⟩
 have KN : Hid (grpsErr p gs = 0 → chgsErr p l = 0 → ∀ k, k < l.length → ∀ gs1, gsR p gs1 → (doG p (l.getD k default).k (l.getD k default).r gs1).1 = 0 → gsR p (doG p (l.getD k default).k (l.getD k default).r gs1).2) := fun h hc k hk gs1 hR hd => do_right (okG_of h).1 (okG_of h).2.1 ((chgs_rows hc hwl).2 k hk).1 hR hd
 have KT : Hid (grpsErr p gs = 0 → ∀ gs2 n2 w1 a2 c2 xs2, gs2.length = n2 → gsR p gs2 → Below w.heap.size w w1 → gsAt w1 a2 xs2 gs2 → Calls Tryz.prog 44 #[planV p x, .slice a gs.length cap, .slice a2 n2 c2] w1 fun e w' => toldOut (toldR p.group.length (gs.map fun g => (rowC p g).r) (gs2.map fun g => (rowC p g).r)) e w' ∧ Below w1.heap.size w1 w') := fun h gs2 n2 w1 a2 c2 xs2 hn hR hb hg2 => by
  subst hn
  obtain ⟨h0, hg, hl, _⟩ := okG_of h
  exact rchanged_any p x a a2 cap c2 xs xs2 gs gs2 w1 (planAt_below hp hb) (hgs.below hb) hg2 h (gs_err h0 hg hR) hwf (gs_wf h0 hg hR)
 have HS : Hid (grpsErr p gs = 0 → gsR p gs) := fun h => gs_right h hwf
 have HV : Hid (∀ i, i < l.length → ∃ b off ra rc, la = some ⟨b, off, none⟩ ∧ w.cell? ⟨b, off + i * 2, none⟩ = some (.int .i64 (l.getD i default).k) ∧ w.cell? ⟨b, off + i * 2 + 1, none⟩ = some (.slice ra (l.getD i default).r.length rc) ∧ vl.rowAt w ra (l.getD i default).r) := hv
 have HX : Hid (∀ i, i < l.length → ch.formErr l = 0 → (∀ j, j < i → fErr (cols p) (l.getD j default).r = 0) → fErr (cols p) (l.getD i default).r ≠ 0 → chgsErr p l = fErr (cols p) (l.getD i default).r) := fun i hi h0 h1 h2 => by
  unfold chgsErr
  rw [if_neg (by simp [h0])]
  exact ch.first_is l.length h1 h2 hi
 have HX2 : Hid (ch.formErr l = 0 → (∀ j, j < l.length → fErr (cols p) (l.getD j default).r = 0) → chgsErr p l = 0) := fun h0 h1 => by
  unfold chgsErr
  rw [if_neg (by simp [h0])]
  exact ch.first_zero h1
 have HX3 : Hid (ch.formErr l ≠ 0 → chgsErr p l = ch.formErr l) := fun h0 => by unfold chgsErr; rw [if_pos h0]
 obtain ⟨R, hR⟩ : ∃ z, stepG p gs l = z := ⟨_, rfl⟩
 have HR : Hid (stepG p gs l = R) := hR
 rw [hR]
 obtain ⟨E, hE⟩ : ∃ z, grpsErr p gs = z := ⟨_, rfl⟩
 have HE : Hid (grpsErr p gs = E) := hE
 obtain ⟨FE, hFE⟩ : ∃ z, ch.formErr l = z := ⟨_, rfl⟩
 obtain ⟨gn, hgn⟩ : ∃ z, gs.length = z := ⟨_, rfl⟩
 obtain ⟨n, hn⟩ : ∃ z, l.length = z := ⟨_, rfl⟩
 have HN : Hid (l.length = n) := hn
 obtain ⟨CO, hCO⟩ : ∃ z, cols p = z := ⟨_, rfl⟩
 obtain ⟨cn, hcn⟩ : ∃ z, CO.length = z := ⟨_, rfl⟩
 rw [hE] at KC KY KI KP KD KN KT HS
 rw [hFE] at KF HX HX2 HX3
 rw [hgn] at KC KP KT ⊢
 rw [hn] at KF KI KD KN HV HX HX2 hll ⊢
 rw [hCO] at KY KI HX HX2
 rw [hcn] at KY KI
 clear hR hE hFE hgn hn hCO hcn hw hp hgs hwf hgl hv hwl
 unfold planV at KC KY KD KT ⊢
 go_enter Tryz.func13, Tryz.ntmps13
 go_wp2_with fail
 generalize hV : (World.alloc w _) = V
 have hb0 : Below w.heap.size w V := by rw [← hV]; exact bR.alloc nR _
 have HB : Hid (boxP V w.heap.size p x) := by subst hV; exact box_new ..
 clear hV
 refine (KC.out _ hb0).mono ?_
 rintro e w1 ⟨rfl, hb1⟩
 have hbw : Below w.heap.size w w1 := hb0.trans (hb1.mono hb0.size)
 replace HB : Hid (boxP w1 w.heap.size p x) := box_later HB.out hb1
 clear hb1 hb0 KC
 by_cases h0 : E = 0
 rotate_left
 ·have hne : (E != 0) = true := by simpa using h0
  have e1 : R = (E, [], []) := by rw [← HR.out]; unfold stepG; rw [if_pos (by rw [HE.out]; exact h0), HE.out]
  subst e1
  go_wp2
  exact bodyPost_ret (v := .tuple #[.slice none 0 0, .slice none 0 0, .int .i64 E]) (by simp [results, Tryz.results13, go_sem]) rfl ⟨.inl ⟨h0, rfl⟩, hbw⟩
 subst h0
 go_wp2_with fail
 refine (KF.out _ hbw).mono ?_
 rintro e w2 ⟨rfl, hb2⟩
 have hbw2 : Below w.heap.size w w2 := hbw.trans (hb2.mono hbw.size)
 replace HB : Hid (boxP w2 w.heap.size p x) := box_later HB.out hb2
 clear hb2 hbw KF
 by_cases h1 : FE = 0
 rotate_left
 ·have hne : (FE != 0) = true := by simpa using h1
  have e1 : R = (FE, [], []) := by rw [← HR.out]; unfold stepG; rw [if_neg (by simp [HE.out]), if_pos (by rw [HX3.out h1]; exact h1), HX3.out h1]
  subst e1
  go_wp2
  exact bodyPost_ret (v := .tuple #[.slice none 0 0, .slice none 0 0, .int .i64 FE]) (by simp [results, Tryz.results13, go_sem]) rfl ⟨.inl ⟨h1, rfl⟩, hbw2⟩
 subst h1
 obtain ⟨v0, v1, v2, v3, v4, v5, v6, v7, v8, v9, v10, v11, v12⟩ := HB.out
 go_wp2_with (go_at_call 22; refine (KY.out (by trivial) _ hbw2).mono ?_; rintro e w3 ⟨⟨ta, tcp, rfl, htt⟩, hb3⟩)
 have HTT : Hid (intsAt w3 ta CO) := htt
 have hbw3 : Below w.heap.size w w3 := hbw2.trans (hb3.mono hbw2.size)
 replace HB : Hid (boxP w3 w.heap.size p x) := box_later HB.out hb3
 clear v0 v1 v2 v3 v4 v5 v6 v7 v8 v9 v10 v11 v12 htt hb3 hbw2 KY
 go_loopw [12] (fun t wr => ∃ k : Nat, k ≤ n ∧ t = .int .i64 k ∧ Hid (∀ j, j < k → fErr CO (l.getD j default).r = 0) ∧ Below w3.heap.size w3 wr) (fun t _ => n - (intOf t).toNat)
 case atStart => exact ⟨0, Nat.zero_le _, rfl, fun j hj => absurd hj (Nat.not_lt_zero j), bR⟩
 case round =>
  obtain ⟨k, hk, rfl, HA, hbr⟩ := hrel
  have hbx : Below w.heap.size w wr := hbw3.trans (hbr.mono hbw3.size)
  by_cases hkn : k < n
  ·obtain ⟨lb, lo, ra, rc, e, x1, x2, x3⟩ := HV.out k hkn
   subst e
   have HKI := KI.out (by trivial) k hkn wr ta tcp ra rc hbx (intsAt_below HTT.out hbr) x3
   have HX1 := HX.out k hkn (by trivial)
   obtain ⟨c, hc⟩ : ∃ z, l.getD k default = z := ⟨_, rfl⟩
   have HGC : Hid (l.getD k default = c) := hc
   rw [hc] at x2 HKI HX1
   obtain ⟨rn, hrn⟩ : ∃ z, c.r.length = z := ⟨_, rfl⟩
   obtain ⟨F1, hF1⟩ : ∃ z, fErr CO c.r = z := ⟨_, rfl⟩
   have HF1 : Hid (fErr CO c.r = F1) := hF1
   rw [hrn] at x2 HKI
   rw [hF1] at HKI HX1
   have HK2 : Hid (∀ u : Unit, Calls Tryz.prog 24 #[.slice ta cn tcp, .slice ra rn rc] wr fun e w' => e = .returned (.int .i64 F1) ∧ Below wr.heap.size wr w') := fun _ => HKI
   have q2 := cL hbx x2
   have i1 : (0 : Int) ≤ (k : Int) := by omega
   have i2 : (k : Int) < (n : Int) := by omega
   clear hc hrn hF1 HKI x1 x2 x3
   by_cases hf : F1 = 0
   ·subst hf
    have HA2 : Hid (∀ j, j < k + 1 → fErr CO (l.getD j default).r = 0) := fun j hj => by
     rcases Nat.lt_or_ge j k with h | h
     ·exact HA.out j h
     ·have : j = k := by omega
      rw [this, HGC.out]; exact HF1.out
    clear HX1
    go_wp2_with fail
    refine (HK2.out ()).mono ?_
    rintro e w4 ⟨rfl, hb4⟩
    go_wp2
    go_roundw
    case rel => exact ⟨k + 1, by omega, by go_num, HA2, hbr.trans (hb4.mono hbr.size)⟩
    case measure => simp [intOf]; omega
   ·have hne : (F1 != 0) = true := by simpa using hf
    have hce := HX1 HA.out hf
    have e1 : R = (F1, [], []) := by rw [← HR.out]; unfold stepG; rw [if_neg (by simp [HE.out]), if_pos (by rw [hce]; exact hf), hce]
    have HF : Hid (F1 ≠ 0) := hf
    clear HX1 hce hf
    subst e1
    go_wp2_with fail
    refine (HK2.out ()).mono ?_
    rintro e w4 ⟨rfl, hb4⟩
    go_wp2
    exact bodyPost_ret (v := .tuple #[.slice none 0 0, .slice none 0 0, .int .i64 F1]) (by simp [results, Tryz.results13, go_sem]) rfl ⟨.inl ⟨HF.out, rfl⟩, hbx.trans (hb4.mono hbx.size)⟩
  ·have HCE : Hid (chgsErr p l = 0) := HX2.out (by trivial) (fun j hj => HA.out j (by omega))
   have HRD : Hid (R = if (doAll p gs l).1 ≠ 0 then ((doAll p gs l).1, [], []) else (0, (doAll p gs l).2, toldR p.group.length (gs.map fun g => (rowC p g).r) ((doAll p gs l).2.map fun g => (rowC p g).r))) := by
    show _ = _
    rw [← HR.out]; unfold stepG; rw [if_neg (by simp [HE.out]), if_neg (by simp [HCE.out])]
   replace HB : Hid (boxP wr w.heap.size p x) := box_later HB.out hbr
   obtain ⟨wx, hwx⟩ : ∃ z, z = wr := ⟨_, rfl⟩
   subst hwx
   clear KI HX HX2 HX3 HA HTT
   go_wp2_with (go_at_call 42; refine (KP.out (by trivial) _ hbx).mono ?_; rintro e w5 ⟨⟨ad, c3, L0, rfl, hog, hLg⟩, hb5⟩)
   have HOG : Hid (OG w5 wx.heap.size (.slice ad L0.length c3) L0) := hog
   have HL0 : Hid (L0.map GO.grp = gs) := hLg
   clear hog hLg KP
   go_loopw [14, 15] (fun v t wr => ∃ (k : Nat) (L : List GO) (ad : Option Addr) (c : Nat), k ≤ n ∧ t = .int .i64 k ∧ v = .slice ad L.length c ∧ Hid (OG wr wx.heap.size (.slice ad L.length c) L ∧ gsR p (L.map GO.grp) ∧ doAll p gs l = doAll p (L.map GO.grp) (l.drop k)) ∧ Below wx.heap.size wx wr) (fun _ t _ => n - (intOf t).toNat)
   case atStart => exact ⟨0, L0, ad, c3, Nat.zero_le _, rfl, rfl, ⟨HOG.out, by rw [HL0.out]; exact HS.out (by trivial), by rw [HL0.out]; rfl⟩, hb5⟩
   case round =>
    obtain ⟨k, L, ad2, c2, hk2, rfl, rfl, HI, hbr2⟩ := hrel
    have hby : Below w.heap.size w wr := hbx.trans (hbr2.mono hbx.size)
    have HBr : Hid (boxP wr w.heap.size p x) := box_later HB.out hbr2
    obtain ⟨v0, v1, v2, v3, v4, v5, v6, v7, v8, v9, v10, v11, v12⟩ := HBr.out
    obtain ⟨ln, hln⟩ : ∃ z, L.length = z := ⟨_, rfl⟩
    have HLN : Hid (L.length = ln) := hln
    rw [hln]
    by_cases hkn2 : k < n
    ·obtain ⟨lb, lo, ra, rc, e, x1, x2, x3⟩ := HV.out k hkn2
     subst e
     have HRA : Hid (vl.rowAt w ra (l.getD k default).r) := x3
     have HKD := KD.out (by trivial) HCE.out k hkn2 wx
     have HKN := KN.out (by trivial) HCE.out k hkn2
     have HDR : Hid (l.drop k = l.getD k default :: l.drop (k + 1)) := drop_at l k (by rw [HN.out]; exact hkn2)
     obtain ⟨c, hc⟩ : ∃ z, l.getD k default = z := ⟨_, rfl⟩
     rw [hc] at x1 x2 HRA HKD HKN HDR
     obtain ⟨kd, r⟩ := c
     dsimp only at x1 x2 HRA HKD HKN
     obtain ⟨rn, hrn⟩ : ∃ z, r.length = z := ⟨_, rfl⟩
     rw [hrn] at x2 HKD
     obtain ⟨D, hD⟩ : ∃ z, doG p kd r (L.map GO.grp) = z := ⟨_, rfl⟩
     have HKN2 := HKN _ HI.out.2.1
     have HK2 : Hid (∀ w1, Below wx.heap.size wx w1 → OG w1 wx.heap.size (.slice ad2 ln c2) L → Calls Tryz.prog 43 #[.agg #[.int .i64 p.kind, .int .i64 p.mode, .int .i64 p.low, .int .i64 p.high, .int .i64 p.size, .int .i64 p.limit, .slice x.l p.left.length x.lc, .slice x.r p.right.length x.rc, .slice x.lk p.lkeys.length x.lkc, .slice x.rk p.rkeys.length x.rkc, .bool p.grouped, .slice x.g p.group.length x.gc, .slice x.a p.aggs.length x.ac], .slice ad2 ln c2, .agg #[.int .i64 kd, .slice ra rn rc]] w1 fun e w' => (∃ v, e = .returned (.tuple #[v, .int .i64 D.1]) ∧ turnOne D wx.heap.size v w') ∧ Below wx.heap.size wx w') := fun w1 h1 h2 => by
      have := HKD w1 ad2 c2 L ra rc hbx h1 (by rw [hln]; exact h2) HI.out.2.1 HRA.out
      rw [hln, hD] at this
      exact this
     have HDA : Hid (doAll p gs l = doAll p (L.map GO.grp) (⟨kd, r⟩ :: l.drop (k + 1)) ∧ doG p kd r (L.map GO.grp) = D ∧ (D.1 = 0 → gsR p D.2)) := ⟨by rw [HI.out.2.2, HDR.out], hD, by rw [← hD]; exact HKN2⟩
     have q1 := cL hby x1
     have q2 := cL hby x2
     have HSC : Hid (∀ {w' : World}, Below wx.heap.size wx w' → (w'.cell? ⟨w.heap.size, 0, none⟩ = some (.int .i64 p.kind) ∧ w'.cell? ⟨w.heap.size, 1, none⟩ = some (.int .i64 p.mode) ∧ w'.cell? ⟨w.heap.size, 2, none⟩ = some (.int .i64 p.low) ∧ w'.cell? ⟨w.heap.size, 3, none⟩ = some (.int .i64 p.high) ∧ w'.cell? ⟨w.heap.size, 4, none⟩ = some (.int .i64 p.size) ∧ w'.cell? ⟨w.heap.size, 5, none⟩ = some (.int .i64 p.limit) ∧ w'.cell? ⟨w.heap.size, 6, none⟩ = some (.slice x.l p.left.length x.lc) ∧ w'.cell? ⟨w.heap.size, 7, none⟩ = some (.slice x.r p.right.length x.rc) ∧ w'.cell? ⟨w.heap.size, 8, none⟩ = some (.slice x.lk p.lkeys.length x.lkc) ∧ w'.cell? ⟨w.heap.size, 9, none⟩ = some (.slice x.rk p.rkeys.length x.rkc) ∧ w'.cell? ⟨w.heap.size, 10, none⟩ = some (.bool p.grouped) ∧ w'.cell? ⟨w.heap.size, 11, none⟩ = some (.slice x.g p.group.length x.gc) ∧ w'.cell? ⟨w.heap.size, 12, none⟩ = some (.slice x.a p.aggs.length x.ac)) ∧ w'.cell? ⟨lb, lo + k * 2, none⟩ = some (.int .i64 kd) ∧ w'.cell? ⟨lb, lo + k * 2 + 1, none⟩ = some (.slice ra rn rc)) := fun hb => ⟨box_later HB.out hb, cL (hbx.trans (hb.mono hbx.size)) x1, cL (hbx.trans (hb.mono hbx.size)) x2⟩
     have i1 : (0 : Int) ≤ (k : Int) := by omega
     have i2 : (k : Int) < (n : Int) := by omega
     have HO2 : Hid (OG wr wx.heap.size (.slice ad2 ln c2) L) := by rw [← hln]; exact HI.out.1
     obtain ⟨D1, D2⟩ := D
     dsimp only at HK2
     clear hc x1 x2 x3 HKD HKN HKN2 hrn hD hln HDR KD KN KT HS HI
     go_wp2
     go_region_held3 (fun w' => (w'.cell? ⟨w.heap.size, 0, none⟩ = some (.int .i64 p.kind) ∧ w'.cell? ⟨w.heap.size, 1, none⟩ = some (.int .i64 p.mode) ∧ w'.cell? ⟨w.heap.size, 2, none⟩ = some (.int .i64 p.low) ∧ w'.cell? ⟨w.heap.size, 3, none⟩ = some (.int .i64 p.high) ∧ w'.cell? ⟨w.heap.size, 4, none⟩ = some (.int .i64 p.size) ∧ w'.cell? ⟨w.heap.size, 5, none⟩ = some (.int .i64 p.limit) ∧ w'.cell? ⟨w.heap.size, 6, none⟩ = some (.slice x.l p.left.length x.lc) ∧ w'.cell? ⟨w.heap.size, 7, none⟩ = some (.slice x.r p.right.length x.rc) ∧ w'.cell? ⟨w.heap.size, 8, none⟩ = some (.slice x.lk p.lkeys.length x.lkc) ∧ w'.cell? ⟨w.heap.size, 9, none⟩ = some (.slice x.rk p.rkeys.length x.rkc) ∧ w'.cell? ⟨w.heap.size, 10, none⟩ = some (.bool p.grouped) ∧ w'.cell? ⟨w.heap.size, 11, none⟩ = some (.slice x.g p.group.length x.gc) ∧ w'.cell? ⟨w.heap.size, 12, none⟩ = some (.slice x.a p.aggs.length x.ac)) ∧ w'.cell? ⟨lb, lo + k * 2, none⟩ = some (.int .i64 kd) ∧ w'.cell? ⟨lb, lo + k * 2 + 1, none⟩ = some (.slice ra rn rc)) (first | exact HSC.out hb6 | go_keep)
      (first | (go_at_call 43; refine (HK2.out _ hbr2.drew (HO2.out.below bR.drew)).mono ?_; rintro e w6 ⟨⟨v6, rfl, hv6⟩, hb6⟩; have HV6 : Hid (turnOne (D1, D2) wx.heap.size v6 w6) := hv6))
     all_goals
      by_cases hd : D1 = 0
      ·subst hd
       obtain ⟨ad5, c5, L5, hve, ho5, hm5⟩ := HV6.out rfl
       dsimp only at hm5
       have HNX : Hid (OG w6 wx.heap.size (.slice ad5 L5.length c5) L5 ∧ gsR p (L5.map GO.grp) ∧ doAll p gs l = doAll p (L5.map GO.grp) (l.drop (k + 1))) := ⟨ho5, by rw [hm5]; exact HDA.out.2.2 rfl, by rw [HDA.out.1, doAll_ok (by rw [HDA.out.2.1]), HDA.out.2.1, hm5]⟩
       obtain ⟨n5, hn5⟩ : ∃ z, L5.length = z := ⟨_, rfl⟩
       have HN5 : Hid (L5.length = n5) := hn5
       rw [hn5] at hve
       clear ho5 hm5 hn5 hv6 HV6
       subst hve
       go_wp2
       go_roundw
       case rel => exact ⟨k + 1, L5, ad5, c5, by omega, by go_num, by rw [HN5.out], HNX, hb6⟩
       case measure => simp [intOf]; omega
      ·have hne2 : (D1 != 0) = true := by simpa using hd
       have e1 : R = (D1, [], []) := by
        rw [HRD.out, HDA.out.1, doAll_bad (by rw [HDA.out.2.1]; exact hd), HDA.out.2.1]
        exact if_pos hd
       have HF : Hid (D1 ≠ 0) := hd
       clear hd hv6
       subst e1
       go_wp2
       exact bodyPost_ret (v := .tuple #[.slice none 0 0, .slice none 0 0, .int .i64 D1]) (by simp [results, Tryz.results13, go_sem]) rfl ⟨.inl ⟨HF.out, rfl⟩, hbx.trans (hb6.mono hbx.size)⟩
    ·have HG2 : Hid (gsR p (L.map GO.grp) ∧ gsAt wr ad2 (L.map GO.gx) (L.map GO.grp) ∧ (L.map GO.grp).length = ln ∧ R = (0, L.map GO.grp, toldR p.group.length (gs.map fun g => (rowC p g).r) ((L.map GO.grp).map fun g => (rowC p g).r))) := by
      refine ⟨HI.out.2.1, HI.out.1.at, by rw [List.length_map]; exact hln, ?_⟩
      have e1 : doAll p gs l = (0, L.map GO.grp) := by rw [HI.out.2.2, List.drop_of_length_le (by rw [HN.out]; omega)]; rfl
      rw [HRD.out, e1]
      exact if_neg (by simp)
     obtain ⟨g2, hg2⟩ : ∃ z, L.map GO.grp = z := ⟨_, rfl⟩
     obtain ⟨x2, hx2⟩ : ∃ z, L.map GO.gx = z := ⟨_, rfl⟩
     rw [hg2, hx2] at HG2
     have KTb := KT.out (by trivial)
     have HKT : Hid _ := KTb
     clear hg2 hx2 hln KT KTb KD KN HS HI HV HRD HOG HL0
     go_wp2_with (go_at_call 44; refine (HKT.out g2 ln _ ad2 c2 x2 HG2.out.2.2.1 HG2.out.1 hby HG2.out.2.1).mono ?_; rintro e yT ⟨⟨tb, tcap, rfl, htb⟩, hbT⟩)
     have e1 := HG2.out.2.2.2
     have hl1 := HG2.out.2.2.1
     refine bodyPost_ret (v := .tuple #[.slice ad2 ln c2, .slice tb (toldR p.group.length (gs.map fun g => (rowC p g).r) (g2.map fun g => (rowC p g).r)).length tcap, .int .i64 0]) (by simp [results, Tryz.results13, go_sem]) rfl ⟨.inr ⟨by rw [e1], ad2, c2, x2, tb, tcap, ?_, ?_, ?_⟩, hby.trans (hbT.mono hby.size)⟩
     ·rw [e1]; dsimp only; rw [hl1]
     ·rw [e1]; exact HG2.out.2.1.below hbT
     ·rw [e1]; exact htb
set_option maxRecDepth 100000 in
set_option maxHeartbeats 16000000 in
theorem rsame_any (a1 a2 : Option Addr) (c1 c2 : Nat) (xs1 xs2 : List GX) (gs : List Grp) (w : World) (h1 : gsAt w a1 xs1 gs) (h2 : gsAt w a2 xs2 gs) (hl : gs.length ≤ 1000000) (hbd : ∀ g ∈ gs, g.row.length ≤ 1000 ∧ g.bags.length ≤ 1000 ∧ ∀ l ∈ g.bags, l.length ≤ 1073741824) :
 Calls Tryz.prog 14 #[.slice a1 gs.length c1, .slice a2 gs.length c2] w fun e w' => e = .returned (.bool true) ∧ Below w.heap.size w w' := by
 have HG1 : Hid (gsAt w a1 xs1 gs) := h1
 have HG2 : Hid (gsAt w a2 xs2 gs) := h2
 have HBD : Hid (∀ i, i < gs.length → (gs.getD i default).row.length ≤ 1000 ∧ (gs.getD i default).bags.length ≤ 1000 ∧ ∀ l ∈ (gs.getD i default).bags, l.length ≤ 1073741824) := fun i hi => hbd _ (by rw [List.getD_eq_getElem?_getD, List.getElem?_eq_getElem hi]; exact List.getElem_mem hi)
 obtain ⟨n, hn⟩ : ∃ z, gs.length = z := ⟨_, rfl⟩
 have HN : Hid (gs.length = n) := hn
 rw [hn] at hl HBD ⊢
 clear h1 h2 hbd hn
 go_enter Tryz.func14, Tryz.ntmps14
 go_wp2
 go_loopw [5] (fun t wr => ∃ i : Nat, i ≤ n ∧ t = .int .i64 i ∧ Below w.heap.size w wr) (fun t _ => n - (intOf t).toNat)
 case atStart => exact ⟨0, Nat.zero_le _, rfl, bR⟩
 case round =>
  obtain ⟨i, hi, rfl, hbr⟩ := hrel
  by_cases hin : i < n
  ·have hig : i < gs.length := by rw [HN.out]; exact hin
   obtain ⟨b, o, e1, x1, x2, x3⟩ := HG1.out.cells i hig
   obtain ⟨d, q, e2, y1, y2, y3⟩ := HG2.out.cells i hig
   have hA := HG1.out.each i hig
   have hB := HG2.out.each i hig
   have hbi := HBD.out i hin
   subst e1 e2
   obtain ⟨g, hg⟩ : ∃ z, gs.getD i default = z := ⟨_, rfl⟩
   obtain ⟨⟨ar, arc, ab, abc, ah⟩, hxa⟩ : ∃ z, xs1.getD i default = z := ⟨_, rfl⟩
   obtain ⟨⟨br, brc, bb, bbc, bh⟩, hxb⟩ : ∃ z, xs2.getD i default = z := ⟨_, rfl⟩
   rw [hg] at x1 x2 x3 y1 y2 y3 hA hB hbi
   rw [hxa] at x1 x3 hA
   rw [hxb] at y1 y3 hB
   dsimp only at x1 x3 y1 y3
   have HA : Hid (gAt w ⟨ar, arc, ab, abc, ah⟩ g) := hA
   have HB : Hid (gAt w ⟨br, brc, bb, bbc, bh⟩ g) := hB
   have HBI : Hid (g.row.length ≤ 1000 ∧ g.bags.length ≤ 1000 ∧ ∀ l ∈ g.bags, l.length ≤ 1073741824) := hbi
   have KS0 : ∀ w1, Below w.heap.size w w1 → Calls Tryz.prog 34 #[.slice ar g.row.length arc, .slice br g.row.length brc] w1 fun e w' => e = .returned (.bool true) ∧ Below w1.heap.size w1 w' := fun w1 hb => by
    have h := vl.same_any ar br arc brc g.row g.row w1 (vl.rowAt_below HA.out.row hb) (vl.rowAt_below HB.out.row hb) (by have := HBI.out.1; omega) (by have := HBI.out.1; omega)
    rw [decide_eq_true rfl] at h
    exact h
   obtain ⟨rl, hrl⟩ : ∃ z, g.row.length = z := ⟨_, rfl⟩
   obtain ⟨m, hm⟩ : ∃ z, g.bags.length = z := ⟨_, rfl⟩
   obtain ⟨N, hN⟩ : ∃ z, g.n = z := ⟨_, rfl⟩
   have HM : Hid (g.bags.length = m) := hm
   have hm8 := hbi.2.1
   rw [hrl] at x1 y1 KS0
   rw [hm] at x3 y3 hm8
   rw [hN] at x2 y2
   have KS : Hid _ := KS0
   have p1 := cL hbr x1
   have p2 := cL hbr x2
   have p3 := cL hbr x3
   have q1 := cL hbr y1
   have q2 := cL hbr y2
   have q3 := cL hbr y3
   have HP : Hid (w.cell? ⟨b, o + i * 3 + 2, none⟩ = some (.slice ab m abc) ∧ w.cell? ⟨d, q + i * 3 + 2, none⟩ = some (.slice bb m bbc)) := ⟨x3, y3⟩
   have i1 : (0 : Int) ≤ (i : Int) := by omega
   have i2 : (i : Int) < (n : Int) := by omega
   clear hg hxa hxb hA hB hbi hrl hm hN KS0 x1 x2 x3 y1 y2 y3
   go_wp2
   go_region_held3 (fun w' => w'.cell? ⟨b, o + i * 3, none⟩ = some (.slice ar rl arc) ∧ w'.cell? ⟨b, o + i * 3 + 1, none⟩ = some (.int .i64 N) ∧ w'.cell? ⟨b, o + i * 3 + 2, none⟩ = some (.slice ab m abc) ∧ w'.cell? ⟨d, q + i * 3, none⟩ = some (.slice br rl brc) ∧ w'.cell? ⟨d, q + i * 3 + 1, none⟩ = some (.int .i64 N) ∧ w'.cell? ⟨d, q + i * 3 + 2, none⟩ = some (.slice bb m bbc)) (first | exact ⟨cL hy p1, cL hy p2, cL hy p3, cL hy q1, cL hy q2, cL hy q3⟩ | go_keep)
    (first | (go_at_call 34; refine (KS.out _ hbr.drew).mono ?_; rintro e y1 ⟨rfl, hb1⟩; have hy : Below wr.heap.size wr y1 := bR.drew.trans hb1))
   all_goals
    have hby : Below w.heap.size w y1 := hbr.trans (hy.mono hbr.size)
    clear p1 p2 p3 q1 q2 q3 KS
    go_wp2
    go_loopw [6] (fun t wq => ∃ j : Nat, j ≤ m ∧ t = .int .i64 j ∧ Below w.heap.size w wq) (fun t _ => m - (intOf t).toNat)
    case atStart => exact ⟨0, Nat.zero_le _, rfl, hby⟩
    case round =>
     rename World => wq
     obtain ⟨j, hj, rfl, hbq⟩ := hrel
     have p3 := cL hbq HP.out.1
     have q3 := cL hbq HP.out.2
     by_cases hjm : j < m
     ·have hjg : j < g.bags.length := by rw [HM.out]; exact hjm
      obtain ⟨hb, ho, ea, z1⟩ := HA.out.hs j (by rw [HA.out.len]; exact hjg)
      have hln := HA.out.hl j hjg
      have hbg := HA.out.bag j hjg
      dsimp only at ea z1 hln hbg
      rw [hln] at z1
      obtain ⟨kb, ko, eb, z2⟩ := HB.out.hs j (by rw [HB.out.len]; exact hjg)
      have hlm := HB.out.hl j hjg
      have hbh := HB.out.bag j hjg
      dsimp only at eb z2 hlm hbh
      rw [hlm] at z2
      have hll := HBI.out.2.2 (g.bags.getD j []) (by rw [List.getD_eq_getElem?_getD, List.getElem?_eq_getElem hjg]; exact List.getElem_mem hjg)
      obtain ⟨l, hl2⟩ : ∃ z, g.bags.getD j [] = z := ⟨_, rfl⟩
      obtain ⟨⟨ta, tx, tc⟩, hta⟩ : ∃ z, ah.getD j (none, 0, 0) = z := ⟨_, rfl⟩
      obtain ⟨⟨ua, ux, uc⟩, hua⟩ : ∃ z, bh.getD j (none, 0, 0) = z := ⟨_, rfl⟩
      rw [hl2] at z1 z2 hbg hbh hll
      rw [hta] at z1 hbg
      rw [hua] at z2 hbh
      dsimp only at z1 z2 hbg hbh
      have HBG : Hid (bagAt w ta l) := hbg
      have HBH : Hid (bagAt w ua l) := hbh
      obtain ⟨ln, hlne⟩ : ∃ z, l.length = z := ⟨_, rfl⟩
      have HLN : Hid (l.length = ln) := hlne
      rw [hlne] at z1 z2 hll
      rw [ea] at p3
      rw [eb] at q3
      have HZ : Hid (w.cell? ⟨hb, ho + j, none⟩ = some (.slice ta ln tc) ∧ w.cell? ⟨kb, ko + j, none⟩ = some (.slice ua ln uc) ∧ w.cell? ⟨b, o + i * 3 + 2, none⟩ = some (.slice (some ⟨hb, ho, none⟩) m abc) ∧ w.cell? ⟨d, q + i * 3 + 2, none⟩ = some (.slice (some ⟨kb, ko, none⟩) m bbc)) := ⟨z1, z2, by rw [← ea]; exact HP.out.1, by rw [← eb]; exact HP.out.2⟩
      have r1 := cL hbq z1
      have r2 := cL hbq z2
      have j1 : (0 : Int) ≤ (j : Int) := by omega
      have j2 : (j : Int) < (m : Int) := by omega
      clear hl2 hta hua hbg hbh hlne hln hlm z1 z2 ea eb
      go_wp2
      go_quiet (fail)
      go_wp2
      go_loopw [7] (fun t wz => ∃ v : Nat, v ≤ ln ∧ t = .int .i64 v ∧ Below w.heap.size w wz) (fun t _ => ln - (intOf t).toNat)
      case atStart => exact ⟨0, Nat.zero_le _, rfl, below_drewN hbq _⟩
      case round =>
       rename World => wz
       obtain ⟨v, hv, rfl, hbz⟩ := hrel
       have p3 := cL hbz HZ.out.2.2.1
       have q3 := cL hbz HZ.out.2.2.2
       have r1 := cL hbz HZ.out.1
       have r2 := cL hbz HZ.out.2.1
       by_cases hvl : v < ln
       ·obtain ⟨sb, so, es, s1, s2, s3, s4⟩ := HBG.out v (by rw [HLN.out]; exact hvl)
        obtain ⟨tb, tq, et, t1, t2, t3, t4⟩ := HBH.out v (by rw [HLN.out]; exact hvl)
        rw [es] at r1
        rw [et] at r2
        obtain ⟨⟨⟨ck, cn, cs⟩, cN⟩, hcv⟩ : ∃ z, l.getD v default = z := ⟨_, rfl⟩
        rw [hcv] at s1 s2 s3 s4 t1 t2 t3 t4
        dsimp only at s1 s2 s3 s4 t1 t2 t3 t4
        have s1 := cL hbz s1
        have s2 := cL hbz s2
        have s3 : wz.cell? ⟨sb, so + v * 4 + 1 + 1, none⟩ = some (.string cs) := cL hbz s3
        have s4 : wz.cell? ⟨sb, so + v * 4 + 1 + 1 + 1, none⟩ = some (.int .i64 cN) := cL hbz s4
        have t1 := cL hbz t1
        have t2 := cL hbz t2
        have t3 : wz.cell? ⟨tb, tq + v * 4 + 1 + 1, none⟩ = some (.string cs) := cL hbz t3
        have t4 : wz.cell? ⟨tb, tq + v * 4 + 1 + 1 + 1, none⟩ = some (.int .i64 cN) := cL hbz t4
        have v1 : (0 : Int) ≤ (v : Int) := by omega
        have v2 : (v : Int) < (ln : Int) := by omega
        clear hcv es et
        go_wp2
        go_quiet (fail)
        go_wp2
        go_roundw
        case rel => exact ⟨v + 1, by omega, by go_num, below_drewN hbz _⟩
        case measure => simp [intOf]; omega
       ·go_wp2
        go_roundw
        case rel => exact ⟨j + 1, by omega, by go_num, hbz⟩
        case measure => simp [intOf]; omega
     ·go_wp2
      go_roundw
      case rel => exact ⟨i + 1, by omega, by go_num, hbq⟩
      case measure => simp [intOf]; omega
  ·go_wp2
   go_ret
   exact ⟨rfl, hbr⟩
end Go.Proofs.YtbfbgdinhiglaaaGreat.gr
