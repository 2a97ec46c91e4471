import Derived.Test.YtbfbgdinhiglaaaGreatGrpFine
import Derived.Test.YtbfbgdinhiglaaaGreatS17
import Derived.Test.YtbfbgdinhiglaaaGreatS19
import Derived.Test.YtbfbgdinhiglaaaGreatS8
namespace Go.Proofs.YtbfbgdinhiglaaaGreat.gr
open Go.ChangeShapes Go.WideShapes Go.ChangeAt Go.RowKit
open vl pl bt
set_option linter.unusedVariables false
set_option linter.unusedSimpArgs false
attribute [local go_sem] Oper.semAt_some
theorem getD_in {α : Type} {l : List α} {d : α} {j : Nat} (h : j < l.length) : l.getD j d ∈ l := by
 rw [List.getD_eq_getElem?_getD, List.getElem?_eq_getElem h]; exact List.getElem_mem h
def headB (p : Pln) (gs : List Grp) (i : Nat) : Bool :=
 decide ((gs.getD i default).row.length = (ownCols p).length) && decide (keyErr (gs.getD i default).row = 0) && decide (fErr (ownCols p) (gs.getD i default).row = 0) && betw (gs.getD i default).n 1 1073741824 && decide ((gs.getD i default).bags.length = p.aggs.length) && (decide (i = 0) || decide (cmpRows (gs.getD (i - 1) default).row (gs.getD i default).row < 0))
theorem fErr_zero (c : List Int) (r : List Cel) : decide (fErr c r = 0) = typedB r c := by
 unfold fErr
 by_cases h : r.length = c.length
 ·rw [if_neg (by simpa using h)]
  cases h2 : typedB r c with
  | true => simp
  | false => simp
 ·rw [if_pos h]
  unfold typedB
  simp [h]
theorem typed_len {r : List Cel} {c : List Int} (h : typedB r c = true) : r.length = c.length := by
 unfold typedB at h
 simp at h
 exact h.1
theorem grpB_is (p : Pln) (gs : List Grp) (i : Nat) : grpB p gs i = (headB p gs i && allB p.aggs.length (fun j => bagB (cols p) (p.aggs.getD j (0, 0)) (gs.getD i default).n ((gs.getD i default).bags.getD j []))) := by
 unfold grpB headB bagsB
 rw [fErr_zero]
 by_cases h1 : typedB (gs.getD i default).row (ownCols p) = true
 ·rw [h1, decide_eq_true (typed_len h1)]
  by_cases h2 : (gs.getD i default).bags.length = p.aggs.length
  ·rw [h2]
   unfold betw
   simp [Bool.and_assoc, Bool.and_comm, Bool.and_left_comm]
  ·rw [decide_eq_false h2]; simp
 ·have h1' : typedB (gs.getD i default).row (ownCols p) = false := by simpa using h1
  rw [h1']
  simp
set_option maxRecDepth 100000 in
set_option maxHeartbeats 32000000 in
theorem checkGroups_ok (p : Pln) (x : PA) (a : Option Addr) (cap : Nat) (xs : List GX) (gs : List Grp) (w : World) (hw : wfPlan p) (hp : planAt w p x) (hgs : gsAt w a xs gs) (hwf : ∀ g ∈ gs, wfG g) (hgl : gs.length ≤ 4096) (h0 : planErr p = 0) (hgr : p.grouped = true) :
 Calls Tryz.prog 7 #[planV p x, .slice a gs.length cap] w fun e w' => e = .returned (.int .i64 (if allB gs.length (grpB p gs) = false then 1 else 0)) ∧ Below w.heap.size w w' := by
 have hf := few_ok h0
 have hfg := group_few h0 hgr
 have hmem : ∀ i, i < gs.length → gs.getD i default ∈ gs := fun i hi => by rw [List.getD_eq_getElem?_getD, List.getElem?_eq_getElem hi]; exact List.getElem_mem hi
 have hcl : (cols p).length ≤ 800 := by unfold cols; rw [List.length_append]; omega
 have KP : Hid (∀ w1, Below w.heap.size w w1 → Calls Tryz.prog 21 #[planV p x] w1 fun e w' => e = .returned (.int .i64 0) ∧ Below w1.heap.size w1 w') := fun w1 hb => by
  have := checkPlan_any p x w1 hw (planAt_below hp hb)
  rwa [h0] at this
 have KT : Hid (∀ w1, Below w.heap.size w w1 → Calls Tryz.prog 22 #[planV p x] w1 fun e w' => (∃ ad cp, e = .returned (.slice ad (cols p).length cp) ∧ intsAt w' ad (cols p)) ∧ Below w1.heap.size w1 w') := fun w1 hb =>
  (rtypes_any p x w1 (planAt_below hp hb) hf.1.1 hf.2.1 (by omega) (by omega)).mono (fun e w' ⟨⟨ad, cp, h1, h2⟩, h3⟩ => ⟨⟨ad, cp, h1, (ownI_at h2).1⟩, h3⟩)
 have HG : Hid (∀ k, k < p.group.length → ∃ b o, x.g = some ⟨b, o, none⟩ ∧ w.cell? ⟨b, o + k, none⟩ = some (.int .i64 (p.group.getD k 0)) ∧ 0 ≤ p.group.getD k 0 ∧ (p.group.getD k 0).toNat < (cols p).length) := fun k hk => by
  obtain ⟨b, o, e, y⟩ := hp.g k hk
  have hm : p.group.getD k 0 ∈ p.group := by rw [List.getD_eq_getElem?_getD, List.getElem?_eq_getElem hk]; exact List.getElem_mem hk
  have := group_in h0 _ hm
  exact ⟨b, o, e, y, this.1, by omega⟩
 have HT : Hid (∀ k, k < p.group.length → (ownCols p).take (k + 1) = (ownCols p).take k ++ [(cols p).getD (p.group.getD k 0).toNat 0]) := fun k hk => ownCols_take p k hk
 have HTL : Hid (∀ k, k ≤ p.group.length → ((ownCols p).take k).length = k) := fun k hk => by show _ = _; rw [List.length_take, ownCols_len]; omega
 have HTE : Hid ((ownCols p).take p.group.length = ownCols p) := by show _ = _; rw [← ownCols_len, List.take_length]
 have HOL : Hid ((ownCols p).length = p.group.length) := ownCols_len p
 have HAG : Hid (∀ j, j < p.aggs.length → ∃ b off, x.a = some ⟨b, off, none⟩ ∧ w.cell? ⟨b, off + j * 2, none⟩ = some (.int .i64 (p.aggs.getD j (0, 0)).1) ∧ w.cell? ⟨b, off + j * 2 + 1, none⟩ = some (.int .i64 (p.aggs.getD j (0, 0)).2)) := hp.a
 have HGC : Hid (∀ i, i < gs.length → ∃ b o, a = some ⟨b, o, none⟩ ∧ w.cell? ⟨b, o + i * 3, none⟩ = some (.slice (xs.getD i default).r (gs.getD i default).row.length (xs.getD i default).rc) ∧ w.cell? ⟨b, o + i * 3 + 1, none⟩ = some (.int .i64 (gs.getD i default).n) ∧ w.cell? ⟨b, o + i * 3 + 2, none⟩ = some (.slice (xs.getD i default).b (gs.getD i default).bags.length (xs.getD i default).bc)) := hgs.cells
 have KK : Hid (∀ i w1, i < gs.length → Below w.heap.size w w1 → Calls Tryz.prog 23 #[.slice (xs.getD i default).r (gs.getD i default).row.length (xs.getD i default).rc] w1 fun e w' => e = .returned (.int .i64 (keyErr (gs.getD i default).row)) ∧ Below w1.heap.size w1 w') := fun i w1 hi hb => keyError_any _ _ _ w1 (vl.rowAt_below (hgs.each i hi).row hb) (hwf _ (hmem i hi)).row (hwf _ (hmem i hi)).rl
 have KF : Hid (∀ i ta tc w1, i < gs.length → Below w.heap.size w w1 → intsAt w1 ta (ownCols p) → Calls Tryz.prog 24 #[.slice ta (ownCols p).length tc, .slice (xs.getD i default).r (gs.getD i default).row.length (xs.getD i default).rc] w1 fun e w' => e = .returned (.int .i64 (fErr (ownCols p) (gs.getD i default).row)) ∧ Below w1.heap.size w1 w') := fun i ta tc w1 hi hb ht => fitsTypes_any _ _ _ _ _ _ w1 (hwf _ (hmem i hi)).rl (by rw [ownCols_len]; omega) (vl.rowAt_below (hgs.each i hi).row hb) ht
 have KR : Hid (∀ i j w1, i < gs.length → j < gs.length → Below w.heap.size w w1 → Calls Tryz.prog 26 #[.slice (xs.getD j default).r (gs.getD j default).row.length (xs.getD j default).rc, .slice (xs.getD i default).r (gs.getD i default).row.length (xs.getD i default).rc] w1 fun e w' => e = .returned (.int .i64 (cmpRows (gs.getD j default).row (gs.getD i default).row)) ∧ Below w1.heap.size w1 w') := fun i j w1 hi hj hb => rrows_any _ _ _ _ _ _ w1 (vl.rowAt_below (hgs.each j hj).row hb) (vl.rowAt_below (hgs.each i hi).row hb) (hwf _ (hmem j hj)).rl (hwf _ (hmem i hi)).rl
 have KB : Hid (∀ i j w1, i < gs.length → j < p.aggs.length → (gs.getD i default).bags.length = p.aggs.length → Below w.heap.size w w1 → ∃ hb ho, (xs.getD i default).b = some ⟨hb, ho, none⟩ ∧ w1.cell? ⟨hb, ho + j, none⟩ = some (.slice ((xs.getD i default).hs.getD j (none, 0, 0)).1 ((gs.getD i default).bags.getD j []).length ((xs.getD i default).hs.getD j (none, 0, 0)).2.2) ∧ ∀ w2, Below w1.heap.size w1 w2 → Calls Tryz.prog 27 #[planV p x, .agg #[.int .i64 (p.aggs.getD j (0, 0)).1, .int .i64 (p.aggs.getD j (0, 0)).2], .int .i64 (gs.getD i default).n, .slice ((xs.getD i default).hs.getD j (none, 0, 0)).1 ((gs.getD i default).bags.getD j []).length ((xs.getD i default).hs.getD j (none, 0, 0)).2.2] w2 fun e w' => e = .returned (.bool (bagB (cols p) (p.aggs.getD j (0, 0)) (gs.getD i default).n ((gs.getD i default).bags.getD j []))) ∧ Below w2.heap.size w2 w') := fun i j w1 hi hj hbl hb => by
  have hj2 : j < (gs.getD i default).bags.length := by rw [hbl]; exact hj
  have hga := hgs.each i hi
  have hwi := hwf _ (hmem i hi)
  obtain ⟨b1, o1, e1, z1⟩ := hga.hs j (by rw [hga.len]; exact hj2)
  rw [hga.hl j hj2] at z1
  have hm : (gs.getD i default).bags.getD j [] ∈ (gs.getD i default).bags := getD_in hj2
  have ha : p.aggs.getD j (0, 0) ∈ p.aggs := by rw [List.getD_eq_getElem?_getD, List.getElem?_eq_getElem hj]; exact List.getElem_mem hj
  exact ⟨b1, o1, e1, cL hb z1, fun w2 h2 => by
   have hb2 := hb.trans (h2.mono hb.size)
   exact bagFine_any p x _ _ _ _ _ w2 (planAt_below hp hb2) hf.1.1 hf.2.1 (by omega) (by omega) (agg_col h0 ha) (hwi.tl _ hm).1 (bagAt_below (hga.bag j hj2) hb2) hwi.n (hwi.tl _ hm).2⟩
 have HGB : Hid (∀ i, grpB p gs i = (headB p gs i && allB p.aggs.length (fun j => bagB (cols p) (p.aggs.getD j (0, 0)) (gs.getD i default).n ((gs.getD i default).bags.getD j [])))) := fun i => grpB_is p gs i
 obtain ⟨R, hR⟩ : ∃ z : Int, (if allB gs.length (grpB p gs) = false then 1 else 0) = z := ⟨_, rfl⟩
 have HR : Hid ((if allB gs.length (grpB p gs) = false then 1 else 0) = R) := hR
 rw [hR]
 unfold headB at HGB
 obtain ⟨GB, hGB⟩ : ∃ f : Nat → Bool, grpB p gs = f := ⟨_, rfl⟩
 rw [hGB] at HR HGB
 obtain ⟨Y, hY⟩ : ∃ f : Nat → GX, ∀ i, xs.getD i default = f i := ⟨_, fun _ => rfl⟩
 obtain ⟨G, hG⟩ : ∃ f : Nat → Grp, ∀ i, gs.getD i default = f i := ⟨_, fun _ => rfl⟩
 obtain ⟨AG, hAG⟩ : ∃ f : Nat → Int × Int, ∀ j, p.aggs.getD j (0, 0) = f j := ⟨_, fun _ => rfl⟩
 obtain ⟨OC, hOC⟩ : ∃ z, ownCols p = z := ⟨_, rfl⟩
 obtain ⟨CO, hCO⟩ : ∃ z, cols p = z := ⟨_, rfl⟩
 simp only [hY, hG] at HGC KK KF KR KB
 simp only [hG] at HGB
 simp only [hAG] at HAG KB HGB
 rw [hOC] at HT HTL HTE HOL KF
 simp only [hOC, hCO] at HGB
 simp only [hCO] at KT HG HT KB
 rw [hCO] at hcl
 obtain ⟨gn, hgn⟩ : ∃ z, gs.length = z := ⟨_, rfl⟩
 rw [hgn] at HGC KK KF KR KB HR hgl ⊢
 clear hR hGB hY hG hAG hOC hCO hgn hw hp hgs hwf h0 hmem
 obtain ⟨kind, mode, low, high, size, limit, left, right, lkeys, rkeys, grouped, group, aggs⟩ := p
 obtain ⟨la, lc, rr, rc, lk, lkc, rk, rkc, pga, gc, pag, ac⟩ := x
 dsimp only at hgr
 subst hgr
 unfold planV at KP KT KB ⊢
 dsimp only at KP KT KB HG HT HTL HTE HOL HAG HGB hfg ⊢
 obtain ⟨n6, h6⟩ : ∃ n, left.length = n := ⟨_, rfl⟩
 obtain ⟨n7, h7⟩ : ∃ n, right.length = n := ⟨_, rfl⟩
 obtain ⟨n8, h8⟩ : ∃ n, lkeys.length = n := ⟨_, rfl⟩
 obtain ⟨n9, h9⟩ : ∃ n, rkeys.length = n := ⟨_, rfl⟩
 obtain ⟨n11, h11⟩ : ∃ n, group.length = n := ⟨_, rfl⟩
 obtain ⟨n12, h12⟩ : ∃ n, aggs.length = n := ⟨_, rfl⟩
 simp only [h6, h7, h8, h9, h11, h12] at KP KT KB HG HT HTL HTE HOL HAG HGB hfg ⊢
 clear h6 h7 h8 h9 h11 h12 hf
 obtain ⟨cn, hcn⟩ : ∃ z, CO.length = z := ⟨_, rfl⟩
 have HCN : Hid (CO.length = cn) := hcn
 rw [hcn] at KT HG hcl
 rw [HOL.out] at KF
 clear hcn
 go_enter Tryz.func7, Tryz.ntmps7
 go_wp2_with fail
 generalize hV : (World.alloc w _) = V
 have hb0 : Below w.heap.size w V := by rw [← hV]; exact bR.alloc nR _
 have v0 : V.cell? ⟨w.heap.size, 0, none⟩ = some (.int .i64 kind) := by subst hV; go_simp
 have v1 : V.cell? ⟨w.heap.size, 1, none⟩ = some (.int .i64 mode) := by subst hV; go_simp
 have v2 : V.cell? ⟨w.heap.size, 2, none⟩ = some (.int .i64 low) := by subst hV; go_simp
 have v3 : V.cell? ⟨w.heap.size, 3, none⟩ = some (.int .i64 high) := by subst hV; go_simp
 have v4 : V.cell? ⟨w.heap.size, 4, none⟩ = some (.int .i64 size) := by subst hV; go_simp
 have v5 : V.cell? ⟨w.heap.size, 5, none⟩ = some (.int .i64 limit) := by subst hV; go_simp
 have v6 : V.cell? ⟨w.heap.size, 6, none⟩ = some (.slice la n6 lc) := by subst hV; go_simp
 have v7 : V.cell? ⟨w.heap.size, 7, none⟩ = some (.slice rr n7 rc) := by subst hV; go_simp
 have v8 : V.cell? ⟨w.heap.size, 8, none⟩ = some (.slice lk n8 lkc) := by subst hV; go_simp
 have v9 : V.cell? ⟨w.heap.size, 9, none⟩ = some (.slice rk n9 rkc) := by subst hV; go_simp
 have v10 : V.cell? ⟨w.heap.size, 10, none⟩ = some (.bool true) := by subst hV; go_simp
 have v11 : V.cell? ⟨w.heap.size, 11, none⟩ = some (.slice pga n11 gc) := by subst hV; go_simp
 have v12 : V.cell? ⟨w.heap.size, 12, none⟩ = some (.slice pag n12 ac) := by subst hV; go_simp
 clear hV
 refine (KP.out _ hb0).mono ?_
 rintro e w1 ⟨rfl, hb1⟩
 have hbw : Below w.heap.size w w1 := hb0.trans (hb1.mono hb0.size)
 replace v0 := cL hb1 v0
 replace v1 := cL hb1 v1
 replace v2 := cL hb1 v2
 replace v3 := cL hb1 v3
 replace v4 := cL hb1 v4
 replace v5 := cL hb1 v5
 replace v6 := cL hb1 v6
 replace v7 := cL hb1 v7
 replace v8 := cL hb1 v8
 replace v9 := cL hb1 v9
 replace v10 := cL hb1 v10
 replace v11 := cL hb1 v11
 replace v12 := cL hb1 v12
 clear hb1 hb0 KP
 have hgl' : ¬ ((gn : Int) > 4096) := by omega
 go_wp2
 go_loopw [6, 7] (fun v t wr => ∃ k : Nat, k ≤ n11 ∧ t = .int .i64 k ∧ ownI wr w1.heap.size v (OC.take k) ∧ Below w1.heap.size w1 wr) (fun _ t _ => n11 - (intOf t).toNat)
 case atStart => exact ⟨0, Nat.zero_le _, rfl, World.ownsRow_nil _ _ _ _, bR⟩
 case round =>
  obtain ⟨k, hk, rfl, hown, hnx⟩ := hrel
  have HOW : Hid (ownI wr w1.heap.size u6 (OC.take k)) := hown
  have hbk : Below w.heap.size w wr := hbw.trans (hnx.mono hbw.size)
  have c0 := cL hnx v0
  have c1 := cL hnx v1
  have c2 := cL hnx v2
  have c3 := cL hnx v3
  have c4 := cL hnx v4
  have c5 := cL hnx v5
  have c6 := cL hnx v6
  have c7 := cL hnx v7
  have c8 := cL hnx v8
  have c9 := cL hnx v9
  have c10 := cL hnx v10
  have c11 := cL hnx v11
  have c12 := cL hnx v12
  have lw : w.heap.size < wr.heap.size := World.block_lt_of_cell? _ _ c0
  clear hown
  by_cases hlt : k < n11
  ·obtain ⟨b, o, e, x1, x2, x3⟩ := HG.out k hlt
   have HT1 : Hid (OC.take (k + 1) = OC.take k ++ [CO.getD (group.getD k 0).toNat 0]) := HT.out k hlt
   have HL1 : Hid ((OC.take k).length = k) := HTL.out k hk
   obtain ⟨z, hz⟩ : ∃ z, group.getD k 0 = z := ⟨_, rfl⟩
   rw [hz] at x1 x2 x3 HT1
   obtain ⟨zn, rfl⟩ := Int.eq_ofNat_of_zero_le x2
   simp only [Int.toNat_natCast] at x3 HT1
   obtain ⟨cval, hcv⟩ : ∃ z, CO.getD zn 0 = z := ⟨_, rfl⟩
   have HCV : Hid (CO.getD zn 0 = cval ∧ zn < CO.length) := ⟨hcv, by rw [HCN.out]; exact x3⟩
   rw [hcv] at HT1
   subst e
   have q1 := cL hbk x1
   have i1 : (0 : Int) ≤ (k : Int) := by omega
   have i2 : (k : Int) < (n11 : Int) := by omega
   have j1 : (0 : Int) ≤ (zn : Int) := by omega
   have j2 : (zn : Int) < (cn : Int) := by omega
   have HSZ : Hid (w1.heap.size ≤ wr.heap.size) := hnx.size
   have lv1 : w.heap.size < w1.heap.size := World.block_lt_of_cell? _ _ v0
   have lb1 : b < w1.heap.size := Nat.lt_of_lt_of_le (World.block_lt_of_cell? _ _ x1) hbw.size
   clear hz hcv x1 x2
   go_wp2
   refine wp_region_held_drew (S := (fun w' => w'.cell? ⟨w.heap.size, 0, none⟩ = some (.int .i64 kind) ∧ w'.cell? ⟨w.heap.size, 1, none⟩ = some (.int .i64 mode) ∧ w'.cell? ⟨w.heap.size, 2, none⟩ = some (.int .i64 low) ∧ w'.cell? ⟨w.heap.size, 3, none⟩ = some (.int .i64 high) ∧ w'.cell? ⟨w.heap.size, 4, none⟩ = some (.int .i64 size) ∧ w'.cell? ⟨w.heap.size, 5, none⟩ = some (.int .i64 limit) ∧ w'.cell? ⟨w.heap.size, 6, none⟩ = some (.slice la n6 lc) ∧ w'.cell? ⟨w.heap.size, 7, none⟩ = some (.slice rr n7 rc) ∧ w'.cell? ⟨w.heap.size, 8, none⟩ = some (.slice lk n8 lkc) ∧ w'.cell? ⟨w.heap.size, 9, none⟩ = some (.slice rk n9 rkc) ∧ w'.cell? ⟨w.heap.size, 10, none⟩ = some (.bool true) ∧ w'.cell? ⟨w.heap.size, 11, none⟩ = some (.slice (some ⟨b, o, none⟩) n11 gc) ∧ w'.cell? ⟨w.heap.size, 12, none⟩ = some (.slice pag n12 ac) ∧ w'.cell? ⟨b, o + k, none⟩ = some (.int .i64 (zn : Int)))) (by kernel_rfl) ⟨by go_simp, by go_simp, by go_simp, by go_simp, by go_simp, by go_simp, by go_simp, by go_simp, by go_simp, by go_simp, by go_simp, by go_simp, by go_simp, by go_simp⟩ (fun hH => ?_)
   refine tk 0 28 hH ?_; refine tk 1 29 hH ?_; refine tk 3 31 hH ?_; refine tk 4 32 hH ?_; refine tk 5 33 hH ?_; refine tk 6 34 hH ?_; refine tk 7 35 hH ?_
   refine wpAnyH_ready (rs := [2]) (by kernel_rfl) (by simp) ?_
   refine AllReadyH.cons rfl (fun K hK => ?_) AllReadyH.nil
   go_simp
   refine (KT.out _ hbk.drew).mono ?_
   rintro e y1 ⟨⟨tad, tcp, rfl, hti⟩, hy1⟩
   have hQ1 : Below wr.heap.size wr y1 := bR.drew.trans hy1
   obtain ⟨tb, to, et, tz⟩ := hti zn HCV.out.2
   subst et
   rw [HCV.out.1] at tz
   clear hti
   go_wp2_with fail
   refine hK.out _ _ ⟨cL hy1 hH.1, cL hy1 hH.2.1, cL hy1 hH.2.2.1, cL hy1 hH.2.2.2.1, cL hy1 hH.2.2.2.2.1, cL hy1 hH.2.2.2.2.2.1, cL hy1 hH.2.2.2.2.2.2.1, cL hy1 hH.2.2.2.2.2.2.2.1, cL hy1 hH.2.2.2.2.2.2.2.2.1, cL hy1 hH.2.2.2.2.2.2.2.2.2.1, cL hy1 hH.2.2.2.2.2.2.2.2.2.2.1, cL hy1 hH.2.2.2.2.2.2.2.2.2.2.2.1, cL hy1 hH.2.2.2.2.2.2.2.2.2.2.2.2.1, cL hy1 hH.2.2.2.2.2.2.2.2.2.2.2.2.2⟩ (fun hH => ?_)
   clear hK K
   try simp only [Act.put, sI, sZ, sS]
   refine tk 8 36 hH ?_
   refine wpAnyH_ready (rs := [9]) (by kernel_rfl) (by simp) ?_
   refine AllReadyH.cons rfl (fun K hK => ?_) AllReadyH.nil
   go_simp
   refine hK.out _ _ hH (fun hH => ?_)
   clear hK K
   try simp only [Act.put, sI, sZ, sS]
   refine wpAnyH_ready (rs := [10]) (by kernel_rfl) (by simp) ?_
   refine AllReadyH.cons rfl (fun K hK => ?_) AllReadyH.nil
   go_simp
   refine hK.out _ _ ⟨cL (bR.alloc nR _) hH.1, cL (bR.alloc nR _) hH.2.1, cL (bR.alloc nR _) hH.2.2.1, cL (bR.alloc nR _) hH.2.2.2.1, cL (bR.alloc nR _) hH.2.2.2.2.1, cL (bR.alloc nR _) hH.2.2.2.2.2.1, cL (bR.alloc nR _) hH.2.2.2.2.2.2.1, cL (bR.alloc nR _) hH.2.2.2.2.2.2.2.1, cL (bR.alloc nR _) hH.2.2.2.2.2.2.2.2.1, cL (bR.alloc nR _) hH.2.2.2.2.2.2.2.2.2.1, cL (bR.alloc nR _) hH.2.2.2.2.2.2.2.2.2.2.1, cL (bR.alloc nR _) hH.2.2.2.2.2.2.2.2.2.2.2.1, cL (bR.alloc nR _) hH.2.2.2.2.2.2.2.2.2.2.2.2.1, cL (bR.alloc nR _) hH.2.2.2.2.2.2.2.2.2.2.2.2.2⟩ (fun hH => ?_)
   clear hK K
   try simp only [Act.put, sI, sZ, sS]
   refine wpAnyH_ready (rs := [11]) (by kernel_rfl) (by simp) ?_
   refine AllReadyH.cons rfl (fun K hK => ?_) AllReadyH.nil
   refine step_appI (by rfl) (.tmp 28) (.tmp 38) (by rfl) w1.heap.size u6 (OC.take k) cval y1 k HL1.out (own_stay HOW.out hQ1) (by omega) (Nat.le_trans HSZ.out hQ1.size) (by simp [Act.eval, Act.put]) (by simp [Act.eval, Act.put]) ?_
   intro g9 cap9 w2 hown2 hgrow2
   have hB2 : Below w1.heap.size y1 w2 := (bR.alloc (Nat.le_trans HSZ.out hQ1.size) _).grown hgrow2 (by simp; exact Nat.le_trans HSZ.out (Nat.le_trans hQ1.size (Nat.le_succ _))) (fun k hk => (World.ownsRow.lt HOW.out k hk).1)
   have far9 : ∀ {B of : Nat} {v : Value}, B < w1.heap.size → wr.cell? ⟨B, of, none⟩ = some v → w2.cell? ⟨B, of, none⟩ = some v := fun hB hc => (hB2.cell (p := ⟨_, _, none⟩) hB).trans (cL hQ1 hc)
   refine hK.out _ _ ⟨far9 lv1 c0, far9 lv1 c1, far9 lv1 c2, far9 lv1 c3, far9 lv1 c4, far9 lv1 c5, far9 lv1 c6, far9 lv1 c7, far9 lv1 c8, far9 lv1 c9, far9 lv1 c10, far9 lv1 c11, far9 lv1 c12, far9 lb1 q1⟩ (fun hH => ?_)
   clear hK K
   try simp only [Act.put, sI, sZ, sS]
   refine tk 12 6 hH ?_
   refine wpAnyH_done (by kernel_rfl) ?_ _
   have hO2 : ownI w2 w1.heap.size (.slice (some ⟨g9, 0, none⟩) (k + 1) cap9) (OC.take (k + 1)) := by rw [HT1.out]; exact hown2
   have hN2 : Below w1.heap.size w1 w2 := (hnx.trans (hQ1.mono HSZ.out)).trans hB2
   go_wp2
   go_roundw
   case rel => exact ⟨k + 1, by omega, by go_num, hO2, hN2⟩
   case measure => simp [intOf]; omega
  ·have hkn : k = n11 := by omega
   subst hkn
   obtain ⟨va, vc, hva, _⟩ := own_form HOW.out
   rw [HTL.out _ nR] at hva
   subst hva
   have HOI : Hid (intsAt wr va OC) := by have := (ownI_at HOW.out).1; rw [HTE.out] at this; exact this
   generalize hW2 : wr = W2 at *
   clear hW2
   go_wp2
   go_loopw [8] (fun t wr => ∃ i' : Nat, i' ≤ gn ∧ t = .int .i64 i' ∧ Below W2.heap.size W2 wr ∧ ∀ i, i < i' → GB i = true) (fun t _ => gn - (intOf t).toNat)
   case atStart => exact ⟨0, Nat.zero_le _, rfl, bR, fun i hi => absurd hi (Nat.not_lt_zero i)⟩
   case round =>
    obtain ⟨i', hi', rfl, hn2, hall⟩ := hrel
    have HALI : Hid (∀ i, i < i' → GB i = true) := hall
    have hbr : Below w.heap.size w wr := hbk.trans (hn2.mono hbk.size)
    have d0 := cL hn2 c0
    have d1 := cL hn2 c1
    have d2 := cL hn2 c2
    have d3 := cL hn2 c3
    have d4 := cL hn2 c4
    have d5 := cL hn2 c5
    have d6 := cL hn2 c6
    have d7 := cL hn2 c7
    have d8 := cL hn2 c8
    have d9 := cL hn2 c9
    have d10 := cL hn2 c10
    have d11 := cL hn2 c11
    have d12 := cL hn2 c12
    have lwr : w.heap.size < wr.heap.size := World.block_lt_of_cell? _ _ d0
    clear hall
    by_cases hlt : i' < gn
    ·obtain ⟨b, o, e, x1, x2, x3⟩ := HGC.out i' hlt
     have HGI := HGB.out i'
     have HNO : Hid (GB i' = false → 1 = R) := fun h => by rw [← HR.out, allB_no hlt h]; rfl
     have KKi : Hid (∀ w1, Below w.heap.size w w1 → _) := fun w1 hb => KK.out i' w1 hlt hb
     have KFi : Hid (∀ w1, Below wr.heap.size wr w1 → _) := fun w1 hb => KF.out i' va vc w1 hlt (hbr.trans (hb.mono hbr.size)) (intsAt_below (intsAt_below HOI.out hn2) hb)
     subst e
     have q1 := cL hbr x1
     have q2 := cL hbr x2
     have q3 := cL hbr x3
     have i1 : (0 : Int) ≤ (i' : Int) := by omega
     have i2 : (i' : Int) < (gn : Int) := by omega
     have HPV : Hid (∀ j, i' = j + 1 → ∃ b1 o1, some (⟨b, o, none⟩ : Addr) = some ⟨b1, o1, none⟩ ∧ w.cell? ⟨b1, o1 + j * 3, none⟩ = some (.slice (Y j).r (G j).row.length (Y j).rc)) := fun j hj => by
      obtain ⟨b1, o1, e1, z1, _⟩ := HGC.out j (by omega)
      exact ⟨b1, o1, e1, z1⟩
     have KRi0 : Hid (∀ j w1, i' = j + 1 → Below w.heap.size w w1 → Calls Tryz.prog 26 #[.slice (Y j).r (G j).row.length (Y j).rc, .slice (Y i').r (G i').row.length (Y i').rc] w1 fun e w' => e = .returned (.int .i64 (cmpRows (G j).row (G i').row)) ∧ Below w1.heap.size w1 w') := fun j w1 hj hb => KR.out i' j w1 hlt (by omega) hb
     have KBI0 : Hid (∀ j w1, (G i').bags.length = n12 → j < n12 → Below w.heap.size w w1 → _) := fun j w1 hbl hj hb => KB.out i' j w1 hlt hj hbl hb
     obtain ⟨g, hg⟩ : ∃ z, G i' = z := ⟨_, rfl⟩
     obtain ⟨⟨yr, yrc, yb, ybc, yh⟩, hy⟩ : ∃ z, Y i' = z := ⟨_, rfl⟩
     rw [hg, hy] at q1 q3 KKi KFi KRi0 KBI0
     rw [hg] at q2 HGI
     dsimp only at q1 q3 KKi KFi KRi0 KBI0
     obtain ⟨BG, hBG⟩ : ∃ f : Nat → List Tal, ∀ j, g.bags.getD j [] = f j := ⟨_, fun _ => rfl⟩
     obtain ⟨YH, hYH⟩ : ∃ f : Nat → Option Addr × Nat × Nat, ∀ j, yh.getD j (none, 0, 0) = f j := ⟨_, fun _ => rfl⟩
     simp only [hBG, hYH] at KBI0
     simp only [hBG] at HGI
     obtain ⟨rl, hrl⟩ : ∃ z, g.row.length = z := ⟨_, rfl⟩
     obtain ⟨ke, hke⟩ : ∃ z, keyErr g.row = z := ⟨_, rfl⟩
     obtain ⟨fe, hfe⟩ : ∃ z, fErr OC g.row = z := ⟨_, rfl⟩
     obtain ⟨nn, hnn⟩ : ∃ z, g.n = z := ⟨_, rfl⟩
     obtain ⟨bl, hbl⟩ : ∃ z, g.bags.length = z := ⟨_, rfl⟩
     rw [hrl] at q1 KKi KFi KRi0
     rw [hke] at KKi
     rw [hfe] at KFi
     rw [hnn] at q2 KBI0
     rw [hbl] at q3 KBI0
     rw [hrl, hke, hfe, hnn, hbl, HOL.out] at HGI
     obtain ⟨BGB, hBGB⟩ : ∃ f : Nat → Bool, ∀ j, bagB CO (AG j) nn (BG j) = f j := ⟨_, fun _ => rfl⟩
     simp only [hBGB] at KBI0 HGI
     obtain ⟨D, hD⟩ : ∃ z, (decide (rl = k) && decide (ke = 0) && decide (fe = 0) && betw nn 1 1073741824 && decide (bl = n12) && (decide (i' = 0) || decide (cmpRows (G (i' - 1)).row g.row < 0))) = z := ⟨_, rfl⟩
     rw [hD] at HGI
     have HGI2 : Hid (GB i' = (D && allB n12 BGB)) := HGI
     have HDD : Hid ((decide (rl = k) && decide (ke = 0) && decide (fe = 0) && betw nn 1 1073741824 && decide (bl = n12) && (decide (i' = 0) || decide (cmpRows (G (i' - 1)).row g.row < 0))) = D) := hD
     have HNOD : Hid (D = false → 1 = R) := fun h => HNO.out (by rw [HGI2.out, h]; rfl)
     clear HGI hD hBGB hBG hYH hrl hke hfe hnn hbl hy x1 x2 x3
     have HGI : Hid (GB i' = (D && allB n12 BGB)) := HGI2.out
     clear HGI2
     by_cases h1 : rl = k
     ·have h1' := neq_is (x := (rl : Int)) (y := (k : Int)) false (by simp; omega)
      by_cases h2 : ke = 0
      ·have h2' := neq_is (x := ke) (y := 0) false (by simpa using h2)
       by_cases h3 : fe = 0
       ·have h3' := neq_is (x := fe) (y := 0) false (by simpa using h3)
        cases h4 : betw nn 1 1073741824 with
        | true =>
         have KWi : Hid (∀ w1, Calls Tryz.prog 25 #[.int .i64 nn, .int .i64 1, .int .i64 1073741824] w1 fun e w' => e = .returned (.bool true) ∧ w' = w1) := fun w1 => by have := within_any nn 1 1073741824 w1; rwa [h4] at this
         by_cases h5 : bl = n12
         ·have HBL : Hid (bl = n12) := h5
          have h5' := neq_is (x := (bl : Int)) (y := (n12 : Int)) false (by simp; omega)
          have KBI : Hid (∀ j w1, j < n12 → Below w.heap.size w w1 → _) := fun j w1 hj hb => KBI0.out j w1 h5 hj hb
          by_cases h6 : i' = 0
          ·have HHEAD : Hid (D = true) := by show _ = _; rw [← HDD.out]; simp [h1, h2, h3, h4, h5, h6]
           have i6 := gtr_is (x := (i' : Int)) (y := 0) false (by simp; omega)
           have i7 : ¬ ((i' : Int) > 0) := by omega
           clear KBI0 HDD h1 h2 h3 h4 h5 h6 HPV KRi0
           as_aux_lemma =>
           go_wp2
           refine wp_region_held_drew (S := (fun w' => w'.cell? ⟨b, o + i' * 3, none⟩ = some (.slice yr rl yrc) ∧ w'.cell? ⟨b, o + i' * 3 + 1, none⟩ = some (.int .i64 nn) ∧ w'.cell? ⟨b, o + i' * 3 + 2, none⟩ = some (.slice yb bl ybc) ∧ w'.cell? ⟨w.heap.size, 12, none⟩ = some (.slice pag n12 ac))) (by kernel_rfl) ⟨by go_simp, by go_simp, by go_simp, by go_simp⟩ (fun hH => ?_)
           refine tk 0 46 hH ?_; refine tk 1 47 hH ?_; refine tk 2 48 hH ?_; refine tk 3 49 hH ?_; refine tk 4 50 hH ?_; refine tk 5 51 hH ?_; refine tk 6 52 hH ?_; refine tk 7 53 hH ?_; refine tk 8 54 hH ?_; refine tk 9 55 hH ?_; refine tk 10 56 hH ?_; refine tk 11 57 hH ?_; refine tk 12 58 hH ?_; refine tk 13 59 hH ?_; refine tk 14 60 hH ?_
           refine wpAnyH_ready (rs := [15]) (by kernel_rfl) (by simp) ?_
           refine AllReadyH.cons rfl (fun K hK => ?_) AllReadyH.nil
           go_simp
           refine (KKi.out _ hbr.drew).mono ?_
           rintro e y1 ⟨rfl, hy1⟩
           have hby1 : Below w.heap.size w y1 := hbr.drew.trans (hy1.mono hbr.drew.size)
           have hny1 : Below wr.heap.size wr y1 := Below.trans bR.drew (hy1.mono (by simp))
           go_wp2_with fail
           refine hK.out _ _ ⟨cL hy1 hH.1, cL hy1 hH.2.1, cL hy1 hH.2.2.1, cL hy1 hH.2.2.2⟩ (fun hH => ?_)
           clear hK K
           try simp only [Act.put, sI, sZ, sS]
           refine tk 16 62 hH ?_; refine tk 17 63 hH ?_; refine tk 18 64 hH ?_; refine tk 19 65 hH ?_; refine tk 20 66 hH ?_; refine tk 21 67 hH ?_; refine tk 22 68 hH ?_; refine tk 23 69 hH ?_; refine tk 24 70 hH ?_
           refine wpAnyH_ready (rs := [25]) (by kernel_rfl) (by simp) ?_
           refine AllReadyH.cons rfl (fun K hK => ?_) AllReadyH.nil
           go_simp
           refine (KFi.out _ hny1).mono ?_
           rintro e y2 ⟨rfl, hy2⟩
           have hby2 : Below w.heap.size w y2 := hby1.trans (hy2.mono hby1.size)
           have hny2 : Below wr.heap.size wr y2 := Below.trans hny1 (hy2.mono (by simpa using (Below.size hny1)))
           go_wp2_with fail
           refine hK.out _ _ ⟨cL hy2 hH.1, cL hy2 hH.2.1, cL hy2 hH.2.2.1, cL hy2 hH.2.2.2⟩ (fun hH => ?_)
           clear hK K
           try simp only [Act.put, sI, sZ, sS]
           refine tk 26 72 hH ?_; refine tk 27 73 hH ?_; refine tk 28 74 hH ?_; refine tk 29 75 hH ?_; refine tk 30 76 hH ?_; refine tk 31 77 hH ?_; refine tk 32 78 hH ?_; refine tk 33 79 hH ?_
           refine wpAnyH_ready (rs := [34]) (by kernel_rfl) (by simp) ?_
           refine AllReadyH.cons rfl (fun K hK => ?_) AllReadyH.nil
           go_simp
           refine (KWi.out _).mono ?_
           rintro e y9 ⟨rfl, hy9⟩
           subst hy9
           go_wp2_with fail
           refine hK.out _ _ hH (fun hH => ?_)
           clear hK K
           try simp only [Act.put, sI, sZ, sS]
           refine tk 35 81 hH ?_; refine tk 36 82 hH ?_; refine tk 37 83 hH ?_; refine tk 38 84 hH ?_; refine tk 39 85 hH ?_; refine tk 40 86 hH ?_; refine tk 41 87 hH ?_; refine tk 42 88 hH ?_; refine tk 43 89 hH ?_; refine tk 44 90 hH ?_; refine tk 45 91 hH ?_; refine tk 46 92 hH ?_; refine tk 47 93 hH ?_; refine tk 48 94 hH ?_; refine tk 49 95 hH ?_; refine tk 50 96 hH ?_; refine tk 51 97 hH ?_; refine tk 52 98 hH ?_; refine sk 53 99 hH ?_; refine sk 54 100 hH ?_; refine sk 55 101 hH ?_; refine sk 56 102 hH ?_; refine sk 57 103 hH ?_; refine sk 58 104 hH ?_; refine sk 59 105 hH ?_; refine sk 60 106 hH ?_; refine sk 61 107 hH ?_; refine sk 62 108 hH ?_; refine sk 63 109 hH ?_; refine sk 64 110 hH ?_; refine sk 65 111 hH ?_; refine tk 66 112 hH ?_; refine tk 67 113 hH ?_
           refine wpAnyH_done (by kernel_rfl) ?_ _
           go_wp2
           have hb3 := hby2
           have hn3 := hn2.trans (hny2.mono hn2.size)
           have s2 := cL hny2 q2
           have s3 := cL hny2 q3
           have e0 := cL hny2 d0
           have e1 := cL hny2 d1
           have e2 := cL hny2 d2
           have e3 := cL hny2 d3
           have e4 := cL hny2 d4
           have e5 := cL hny2 d5
           have e6 := cL hny2 d6
           have e7 := cL hny2 d7
           have e8 := cL hny2 d8
           have e9 := cL hny2 d9
           have e10 := cL hny2 d10
           have e11 := cL hny2 d11
           have e12 := cL hny2 d12
           generalize y9 = W3 at *
           go_loopw [9] (fun t wq => ∃ j : Nat, j ≤ n12 ∧ t = .int .i64 j ∧ Below W3.heap.size W3 wq ∧ ∀ i, i < j → BGB i = true) (fun t _ => n12 - (intOf t).toNat)
           case atStart => exact ⟨0, Nat.zero_le _, rfl, bR, fun i hi => absurd hi (Nat.not_lt_zero i)⟩
           case round =>
            rename World => wq
            obtain ⟨j, hj, rfl, hnq, hallj⟩ := hrel
            have HALJ : Hid (∀ i, i < j → BGB i = true) := hallj
            have hbq : Below w.heap.size w wq := hb3.trans (hnq.mono hb3.size)
            clear hallj
            have f0 := cL hnq e0
            have f1 := cL hnq e1
            have f2 := cL hnq e2
            have f3 := cL hnq e3
            have f4 := cL hnq e4
            have f5 := cL hnq e5
            have f6 := cL hnq e6
            have f7 := cL hnq e7
            have f8 := cL hnq e8
            have f9 := cL hnq e9
            have f10 := cL hnq e10
            have f11 := cL hnq e11
            have f12 := cL hnq e12
            have r2 := cL hnq s2
            have r3 := cL hnq s3
            by_cases hjl : j < n12
            ·obtain ⟨ab, ao, ea, y1, y2⟩ := HAG.out j hjl
             obtain ⟨hb, ho, e2, z3, KBj⟩ := KBI.out j wq hjl hbq
             subst ea
             subst e2
             have z1 := cL hbq y1
             have z2 := cL hbq y2
             have KF2 : Hid (∀ w2, Below wq.heap.size wq w2 → _) := fun w2 h2 => KBj w2 h2
             obtain ⟨⟨af, acol⟩, hag⟩ : ∃ z, AG j = z := ⟨_, rfl⟩
             rw [hag] at z1 z2 KF2
             obtain ⟨⟨h1, h2, h3⟩, hhh⟩ : ∃ z, YH j = z := ⟨_, rfl⟩
             rw [hhh] at z3 KF2
             obtain ⟨tl, htl⟩ : ∃ z, (BG j).length = z := ⟨_, rfl⟩
             rw [htl] at z3 KF2
             dsimp only at z1 z2 z3 KF2
             have j1 : (0 : Int) ≤ (j : Int) := by omega
             have j2 : (j : Int) < (n12 : Int) := by omega
             have j3 : (j : Int) < (bl : Int) := by have := HBL.out; omega
             obtain ⟨bv, hbv⟩ : ∃ z, BGB j = z := ⟨_, rfl⟩
             have HBV : Hid (BGB j = bv) := hbv
             rw [hbv] at KF2
             clear hag hhh htl hbv y1 y2 KBj
             cases bv with
             | true =>
              as_aux_lemma =>
              go_wp2
              go_region_held3 (fun w' => w'.cell? ⟨w.heap.size, 0, none⟩ = some (.int .i64 kind) ∧ w'.cell? ⟨w.heap.size, 1, none⟩ = some (.int .i64 mode) ∧ w'.cell? ⟨w.heap.size, 2, none⟩ = some (.int .i64 low) ∧ w'.cell? ⟨w.heap.size, 3, none⟩ = some (.int .i64 high) ∧ w'.cell? ⟨w.heap.size, 4, none⟩ = some (.int .i64 size) ∧ w'.cell? ⟨w.heap.size, 5, none⟩ = some (.int .i64 limit) ∧ w'.cell? ⟨w.heap.size, 6, none⟩ = some (.slice la n6 lc) ∧ w'.cell? ⟨w.heap.size, 7, none⟩ = some (.slice rr n7 rc) ∧ w'.cell? ⟨w.heap.size, 8, none⟩ = some (.slice lk n8 lkc) ∧ w'.cell? ⟨w.heap.size, 9, none⟩ = some (.slice rk n9 rkc) ∧ w'.cell? ⟨w.heap.size, 10, none⟩ = some (.bool true) ∧ w'.cell? ⟨w.heap.size, 11, none⟩ = some (.slice pga k gc) ∧ w'.cell? ⟨w.heap.size, 12, none⟩ = some (.slice (some ⟨ab, ao, none⟩) n12 ac) ∧ w'.cell? ⟨ab, ao + j * 2, none⟩ = some (.int .i64 af) ∧ w'.cell? ⟨ab, ao + j * 2 + 1, none⟩ = some (.int .i64 acol) ∧ w'.cell? ⟨b, o + i' * 3 + 1, none⟩ = some (.int .i64 nn) ∧ w'.cell? ⟨b, o + i' * 3 + 2, none⟩ = some (.slice (some ⟨hb, ho, none⟩) bl ybc) ∧ w'.cell? ⟨hb, ho + j, none⟩ = some (.slice h1 tl h3)) (first | exact ⟨cL hQ1 f0, cL hQ1 f1, cL hQ1 f2, cL hQ1 f3, cL hQ1 f4, cL hQ1 f5, cL hQ1 f6, cL hQ1 f7, cL hQ1 f8, cL hQ1 f9, cL hQ1 f10, cL hQ1 f11, cL hQ1 f12, cL hQ1 z1, cL hQ1 z2, cL hQ1 r2, cL hQ1 r3, cL hQ1 z3⟩ | go_keep)
               (first | (go_at_call 27; refine (KF2.out wq.drew bR.drew).mono ?_; rintro e y9 ⟨rfl, hy9⟩; have hQ1 : Below wq.heap.size wq y9 := bR.drew.trans hy9))
              all_goals
               go_wp2
               go_roundw
               case rel => exact ⟨j + 1, by omega, by go_num, hnq.trans (hQ1.mono hnq.size), fun i hi => by
                rcases Nat.lt_succ_iff_lt_or_eq.1 hi with h | h
                ·exact HALJ.out i h
                ·rw [h]; exact HBV.out⟩
               case measure => simp [intOf]; omega
             | false =>
              have HE : Hid (1 = R) := HNO.out (by rw [HGI.out, allB_no hjl HBV.out]; simp)
              as_aux_lemma =>
              go_wp2
              go_region_held3 (fun w' => w'.cell? ⟨w.heap.size, 0, none⟩ = some (.int .i64 kind) ∧ w'.cell? ⟨w.heap.size, 1, none⟩ = some (.int .i64 mode) ∧ w'.cell? ⟨w.heap.size, 2, none⟩ = some (.int .i64 low) ∧ w'.cell? ⟨w.heap.size, 3, none⟩ = some (.int .i64 high) ∧ w'.cell? ⟨w.heap.size, 4, none⟩ = some (.int .i64 size) ∧ w'.cell? ⟨w.heap.size, 5, none⟩ = some (.int .i64 limit) ∧ w'.cell? ⟨w.heap.size, 6, none⟩ = some (.slice la n6 lc) ∧ w'.cell? ⟨w.heap.size, 7, none⟩ = some (.slice rr n7 rc) ∧ w'.cell? ⟨w.heap.size, 8, none⟩ = some (.slice lk n8 lkc) ∧ w'.cell? ⟨w.heap.size, 9, none⟩ = some (.slice rk n9 rkc) ∧ w'.cell? ⟨w.heap.size, 10, none⟩ = some (.bool true) ∧ w'.cell? ⟨w.heap.size, 11, none⟩ = some (.slice pga k gc) ∧ w'.cell? ⟨w.heap.size, 12, none⟩ = some (.slice (some ⟨ab, ao, none⟩) n12 ac) ∧ w'.cell? ⟨ab, ao + j * 2, none⟩ = some (.int .i64 af) ∧ w'.cell? ⟨ab, ao + j * 2 + 1, none⟩ = some (.int .i64 acol) ∧ w'.cell? ⟨b, o + i' * 3 + 1, none⟩ = some (.int .i64 nn) ∧ w'.cell? ⟨b, o + i' * 3 + 2, none⟩ = some (.slice (some ⟨hb, ho, none⟩) bl ybc) ∧ w'.cell? ⟨hb, ho + j, none⟩ = some (.slice h1 tl h3)) (first | exact ⟨cL hQ1 f0, cL hQ1 f1, cL hQ1 f2, cL hQ1 f3, cL hQ1 f4, cL hQ1 f5, cL hQ1 f6, cL hQ1 f7, cL hQ1 f8, cL hQ1 f9, cL hQ1 f10, cL hQ1 f11, cL hQ1 f12, cL hQ1 z1, cL hQ1 z2, cL hQ1 r2, cL hQ1 r3, cL hQ1 z3⟩ | go_keep)
               (first | (go_at_call 27; refine (KF2.out wq.drew bR.drew).mono ?_; rintro e y9 ⟨rfl, hy9⟩; have hQ1 : Below wq.heap.size wq y9 := bR.drew.trans hy9))
              all_goals
               go_wp2
               go_ret
               exact ⟨ret_int HE.out, hbq.trans (hQ1.mono hbq.size)⟩
            ·have HALLB : Hid (allB n12 BGB = true) := allB_iff.2 (fun i hi => HALJ.out i (by omega))
             have HGY : Hid (GB i' = true) := by show _ = _; rw [HGI.out, HALLB.out, HHEAD.out]; rfl
             go_wp2
             go_roundw
             case rel => exact ⟨i' + 1, by omega, by go_num, hn3.trans (hnq.mono hn3.size), fun i hi => by
              rcases Nat.lt_succ_iff_lt_or_eq.1 hi with h | h
              ·exact HALI.out i h
              ·rw [h]; exact HGY.out⟩
             case measure => simp [intOf]; omega
          ·obtain ⟨j0, hj0⟩ : ∃ j, i' = j + 1 := ⟨i' - 1, by omega⟩
           obtain ⟨b9, o9, e9, x9⟩ := HPV.out j0 hj0
           injection e9 with e9
           injection e9 with e91 e92
           subst e91 e92
           have KRi : Hid (∀ w1, Below w.heap.size w w1 → _) := fun w1 hb => KRi0.out j0 w1 hj0 hb
           have q9 := cL hbr x9
           have hij : i' - 1 = j0 := by omega
           rw [hij] at HDD
           obtain ⟨CV, hCV⟩ : ∃ z, cmpRows (G j0).row g.row = z := ⟨_, rfl⟩
           rw [hCV] at HDD KRi
           obtain ⟨pr, hpr⟩ : ∃ z, (Y j0).r = z := ⟨_, rfl⟩
           obtain ⟨prc, hprc⟩ : ∃ z, (Y j0).rc = z := ⟨_, rfl⟩
           obtain ⟨prl, hprl⟩ : ∃ z, (G j0).row.length = z := ⟨_, rfl⟩
           rw [hpr, hprc, hprl] at q9 KRi
           have i6 := gtr_is (x := (i' : Int)) (y := 0) true (by simp; omega)
           have i8 : IntKind.i64.wrap ((i' : Int) - 1) = (j0 : Int) := by rw [IntKind.wrap_i64]; omega
           have i9 : (0 : Int) ≤ (j0 : Int) := by omega
           have i10 : (j0 : Int) < (gn : Int) := by omega
           by_cases h7 : CV ≥ 0
           ·have HE : Hid (1 = R) := HNOD.out (by rw [← HDD.out]; simp [h6]; intros; omega)
            have i12 := geq_is (x := CV) (y := 0) true (by simpa using h7)
            clear KBI0 HDD h1 h2 h3 h4 h5 h6 HPV KRi0 hj0 hij hCV hpr hprc hprl x9
            as_aux_lemma =>
            go_wp2
            refine wp_region_held_drew (S := (fun w' => w'.cell? ⟨b, o + i' * 3, none⟩ = some (.slice yr rl yrc) ∧ w'.cell? ⟨b, o + i' * 3 + 1, none⟩ = some (.int .i64 nn) ∧ w'.cell? ⟨b, o + i' * 3 + 2, none⟩ = some (.slice yb bl ybc) ∧ w'.cell? ⟨w.heap.size, 12, none⟩ = some (.slice pag n12 ac) ∧ w'.cell? ⟨b, o + j0 * 3, none⟩ = some (.slice pr prl prc))) (by kernel_rfl) ⟨by go_simp, by go_simp, by go_simp, by go_simp, by go_simp⟩ (fun hH => ?_)
            refine tk 0 46 hH ?_; refine tk 1 47 hH ?_; refine tk 2 48 hH ?_; refine tk 3 49 hH ?_; refine tk 4 50 hH ?_; refine tk 5 51 hH ?_; refine tk 6 52 hH ?_; refine tk 7 53 hH ?_; refine tk 8 54 hH ?_; refine tk 9 55 hH ?_; refine tk 10 56 hH ?_; refine tk 11 57 hH ?_; refine tk 12 58 hH ?_; refine tk 13 59 hH ?_; refine tk 14 60 hH ?_
            refine wpAnyH_ready (rs := [15]) (by kernel_rfl) (by simp) ?_
            refine AllReadyH.cons rfl (fun K hK => ?_) AllReadyH.nil
            go_simp
            refine (KKi.out _ hbr.drew).mono ?_
            rintro e y1 ⟨rfl, hy1⟩
            have hby1 : Below w.heap.size w y1 := hbr.drew.trans (hy1.mono hbr.drew.size)
            have hny1 : Below wr.heap.size wr y1 := Below.trans bR.drew (hy1.mono (by simp))
            go_wp2_with fail
            refine hK.out _ _ ⟨cL hy1 hH.1, cL hy1 hH.2.1, cL hy1 hH.2.2.1, cL hy1 hH.2.2.2.1, cL hy1 hH.2.2.2.2⟩ (fun hH => ?_)
            clear hK K
            try simp only [Act.put, sI, sZ, sS]
            refine tk 16 62 hH ?_; refine tk 17 63 hH ?_; refine tk 18 64 hH ?_; refine tk 19 65 hH ?_; refine tk 20 66 hH ?_; refine tk 21 67 hH ?_; refine tk 22 68 hH ?_; refine tk 23 69 hH ?_; refine tk 24 70 hH ?_
            refine wpAnyH_ready (rs := [25]) (by kernel_rfl) (by simp) ?_
            refine AllReadyH.cons rfl (fun K hK => ?_) AllReadyH.nil
            go_simp
            refine (KFi.out _ hny1).mono ?_
            rintro e y2 ⟨rfl, hy2⟩
            have hby2 : Below w.heap.size w y2 := hby1.trans (hy2.mono hby1.size)
            have hny2 : Below wr.heap.size wr y2 := Below.trans hny1 (hy2.mono (by simpa using (Below.size hny1)))
            go_wp2_with fail
            refine hK.out _ _ ⟨cL hy2 hH.1, cL hy2 hH.2.1, cL hy2 hH.2.2.1, cL hy2 hH.2.2.2.1, cL hy2 hH.2.2.2.2⟩ (fun hH => ?_)
            clear hK K
            try simp only [Act.put, sI, sZ, sS]
            refine tk 26 72 hH ?_; refine tk 27 73 hH ?_; refine tk 28 74 hH ?_; refine tk 29 75 hH ?_; refine tk 30 76 hH ?_; refine tk 31 77 hH ?_; refine tk 32 78 hH ?_; refine tk 33 79 hH ?_
            refine wpAnyH_ready (rs := [34]) (by kernel_rfl) (by simp) ?_
            refine AllReadyH.cons rfl (fun K hK => ?_) AllReadyH.nil
            go_simp
            refine (KWi.out _).mono ?_
            rintro e y9 ⟨rfl, hy9⟩
            subst hy9
            go_wp2_with fail
            refine hK.out _ _ hH (fun hH => ?_)
            clear hK K
            try simp only [Act.put, sI, sZ, sS]
            refine tk 35 81 hH ?_; refine tk 36 82 hH ?_; refine tk 37 83 hH ?_; refine tk 38 84 hH ?_; refine tk 39 85 hH ?_; refine tk 40 86 hH ?_; refine tk 41 87 hH ?_; refine tk 42 88 hH ?_; refine tk 43 89 hH ?_; refine tk 44 90 hH ?_; refine tk 45 91 hH ?_; refine tk 46 92 hH ?_; refine tk 47 93 hH ?_; refine tk 48 94 hH ?_; refine tk 49 95 hH ?_; refine tk 50 96 hH ?_; refine tk 51 97 hH ?_; refine tk 52 98 hH ?_; refine tk 53 99 hH ?_; refine tk 54 100 hH ?_; refine tk 55 101 hH ?_; refine tk 56 102 hH ?_; refine tk 57 103 hH ?_; refine tk 58 104 hH ?_; refine tk 59 105 hH ?_; refine tk 60 106 hH ?_; refine tk 61 107 hH ?_; refine tk 62 108 hH ?_; refine tk 63 109 hH ?_
            refine wpAnyH_ready (rs := [64]) (by kernel_rfl) (by simp) ?_
            refine AllReadyH.cons rfl (fun K hK => ?_) AllReadyH.nil
            go_simp
            refine (KRi.out _ hby2).mono ?_
            rintro e y3 ⟨rfl, hy3⟩
            have hby3 : Below w.heap.size w y3 := hby2.trans (hy3.mono hby2.size)
            have hny3 : Below wr.heap.size wr y3 := Below.trans hny2 (hy3.mono (by simpa using (Below.size hny2)))
            go_wp2_with fail
            refine hK.out _ _ ⟨cL hy3 hH.1, cL hy3 hH.2.1, cL hy3 hH.2.2.1, cL hy3 hH.2.2.2.1, cL hy3 hH.2.2.2.2⟩ (fun hH => ?_)
            clear hK K
            try simp only [Act.put, sI, sZ, sS]
            refine tk 65 111 hH ?_; refine tk 66 112 hH ?_; refine tk 67 113 hH ?_
            refine wpAnyH_done (by kernel_rfl) ?_ _
            go_wp2
            go_ret
            exact ⟨ret_int HE.out, hby3⟩
           ·have HHEAD : Hid (D = true) := by show _ = _; rw [← HDD.out]; simp [h1, h2, h3, h4, h5]; right; omega
            have i12 := geq_is (x := CV) (y := 0) false (by simpa using h7)
            clear KBI0 HDD h1 h2 h3 h4 h5 h6 HPV KRi0 hj0 hij hCV hpr hprc hprl x9
            as_aux_lemma =>
            go_wp2
            refine wp_region_held_drew (S := (fun w' => w'.cell? ⟨b, o + i' * 3, none⟩ = some (.slice yr rl yrc) ∧ w'.cell? ⟨b, o + i' * 3 + 1, none⟩ = some (.int .i64 nn) ∧ w'.cell? ⟨b, o + i' * 3 + 2, none⟩ = some (.slice yb bl ybc) ∧ w'.cell? ⟨w.heap.size, 12, none⟩ = some (.slice pag n12 ac) ∧ w'.cell? ⟨b, o + j0 * 3, none⟩ = some (.slice pr prl prc))) (by kernel_rfl) ⟨by go_simp, by go_simp, by go_simp, by go_simp, by go_simp⟩ (fun hH => ?_)
            refine tk 0 46 hH ?_; refine tk 1 47 hH ?_; refine tk 2 48 hH ?_; refine tk 3 49 hH ?_; refine tk 4 50 hH ?_; refine tk 5 51 hH ?_; refine tk 6 52 hH ?_; refine tk 7 53 hH ?_; refine tk 8 54 hH ?_; refine tk 9 55 hH ?_; refine tk 10 56 hH ?_; refine tk 11 57 hH ?_; refine tk 12 58 hH ?_; refine tk 13 59 hH ?_; refine tk 14 60 hH ?_
            refine wpAnyH_ready (rs := [15]) (by kernel_rfl) (by simp) ?_
            refine AllReadyH.cons rfl (fun K hK => ?_) AllReadyH.nil
            go_simp
            refine (KKi.out _ hbr.drew).mono ?_
            rintro e y1 ⟨rfl, hy1⟩
            have hby1 : Below w.heap.size w y1 := hbr.drew.trans (hy1.mono hbr.drew.size)
            have hny1 : Below wr.heap.size wr y1 := Below.trans bR.drew (hy1.mono (by simp))
            go_wp2_with fail
            refine hK.out _ _ ⟨cL hy1 hH.1, cL hy1 hH.2.1, cL hy1 hH.2.2.1, cL hy1 hH.2.2.2.1, cL hy1 hH.2.2.2.2⟩ (fun hH => ?_)
            clear hK K
            try simp only [Act.put, sI, sZ, sS]
            refine tk 16 62 hH ?_; refine tk 17 63 hH ?_; refine tk 18 64 hH ?_; refine tk 19 65 hH ?_; refine tk 20 66 hH ?_; refine tk 21 67 hH ?_; refine tk 22 68 hH ?_; refine tk 23 69 hH ?_; refine tk 24 70 hH ?_
            refine wpAnyH_ready (rs := [25]) (by kernel_rfl) (by simp) ?_
            refine AllReadyH.cons rfl (fun K hK => ?_) AllReadyH.nil
            go_simp
            refine (KFi.out _ hny1).mono ?_
            rintro e y2 ⟨rfl, hy2⟩
            have hby2 : Below w.heap.size w y2 := hby1.trans (hy2.mono hby1.size)
            have hny2 : Below wr.heap.size wr y2 := Below.trans hny1 (hy2.mono (by simpa using (Below.size hny1)))
            go_wp2_with fail
            refine hK.out _ _ ⟨cL hy2 hH.1, cL hy2 hH.2.1, cL hy2 hH.2.2.1, cL hy2 hH.2.2.2.1, cL hy2 hH.2.2.2.2⟩ (fun hH => ?_)
            clear hK K
            try simp only [Act.put, sI, sZ, sS]
            refine tk 26 72 hH ?_; refine tk 27 73 hH ?_; refine tk 28 74 hH ?_; refine tk 29 75 hH ?_; refine tk 30 76 hH ?_; refine tk 31 77 hH ?_; refine tk 32 78 hH ?_; refine tk 33 79 hH ?_
            refine wpAnyH_ready (rs := [34]) (by kernel_rfl) (by simp) ?_
            refine AllReadyH.cons rfl (fun K hK => ?_) AllReadyH.nil
            go_simp
            refine (KWi.out _).mono ?_
            rintro e y9 ⟨rfl, hy9⟩
            subst hy9
            go_wp2_with fail
            refine hK.out _ _ hH (fun hH => ?_)
            clear hK K
            try simp only [Act.put, sI, sZ, sS]
            refine tk 35 81 hH ?_; refine tk 36 82 hH ?_; refine tk 37 83 hH ?_; refine tk 38 84 hH ?_; refine tk 39 85 hH ?_; refine tk 40 86 hH ?_; refine tk 41 87 hH ?_; refine tk 42 88 hH ?_; refine tk 43 89 hH ?_; refine tk 44 90 hH ?_; refine tk 45 91 hH ?_; refine tk 46 92 hH ?_; refine tk 47 93 hH ?_; refine tk 48 94 hH ?_; refine tk 49 95 hH ?_; refine tk 50 96 hH ?_; refine tk 51 97 hH ?_; refine tk 52 98 hH ?_; refine tk 53 99 hH ?_; refine tk 54 100 hH ?_; refine tk 55 101 hH ?_; refine tk 56 102 hH ?_; refine tk 57 103 hH ?_; refine tk 58 104 hH ?_; refine tk 59 105 hH ?_; refine tk 60 106 hH ?_; refine tk 61 107 hH ?_; refine tk 62 108 hH ?_; refine tk 63 109 hH ?_
            refine wpAnyH_ready (rs := [64]) (by kernel_rfl) (by simp) ?_
            refine AllReadyH.cons rfl (fun K hK => ?_) AllReadyH.nil
            go_simp
            refine (KRi.out _ hby2).mono ?_
            rintro e y3 ⟨rfl, hy3⟩
            have hby3 : Below w.heap.size w y3 := hby2.trans (hy3.mono hby2.size)
            have hny3 : Below wr.heap.size wr y3 := Below.trans hny2 (hy3.mono (by simpa using (Below.size hny2)))
            go_wp2_with fail
            refine hK.out _ _ ⟨cL hy3 hH.1, cL hy3 hH.2.1, cL hy3 hH.2.2.1, cL hy3 hH.2.2.2.1, cL hy3 hH.2.2.2.2⟩ (fun hH => ?_)
            clear hK K
            try simp only [Act.put, sI, sZ, sS]
            refine tk 65 111 hH ?_; refine tk 66 112 hH ?_; refine tk 67 113 hH ?_
            refine wpAnyH_done (by kernel_rfl) ?_ _
            go_wp2
            have hb3 := hby3
            have hn3 := hn2.trans (hny3.mono hn2.size)
            have s2 := cL hny3 q2
            have s3 := cL hny3 q3
            have e0 := cL hny3 d0
            have e1 := cL hny3 d1
            have e2 := cL hny3 d2
            have e3 := cL hny3 d3
            have e4 := cL hny3 d4
            have e5 := cL hny3 d5
            have e6 := cL hny3 d6
            have e7 := cL hny3 d7
            have e8 := cL hny3 d8
            have e9 := cL hny3 d9
            have e10 := cL hny3 d10
            have e11 := cL hny3 d11
            have e12 := cL hny3 d12
            generalize y3 = W3 at *
            go_loopw [9] (fun t wq => ∃ j : Nat, j ≤ n12 ∧ t = .int .i64 j ∧ Below W3.heap.size W3 wq ∧ ∀ i, i < j → BGB i = true) (fun t _ => n12 - (intOf t).toNat)
            case atStart => exact ⟨0, Nat.zero_le _, rfl, bR, fun i hi => absurd hi (Nat.not_lt_zero i)⟩
            case round =>
             rename World => wq
             obtain ⟨j, hj, rfl, hnq, hallj⟩ := hrel
             have HALJ : Hid (∀ i, i < j → BGB i = true) := hallj
             have hbq : Below w.heap.size w wq := hb3.trans (hnq.mono hb3.size)
             clear hallj
             have f0 := cL hnq e0
             have f1 := cL hnq e1
             have f2 := cL hnq e2
             have f3 := cL hnq e3
             have f4 := cL hnq e4
             have f5 := cL hnq e5
             have f6 := cL hnq e6
             have f7 := cL hnq e7
             have f8 := cL hnq e8
             have f9 := cL hnq e9
             have f10 := cL hnq e10
             have f11 := cL hnq e11
             have f12 := cL hnq e12
             have r2 := cL hnq s2
             have r3 := cL hnq s3
             by_cases hjl : j < n12
             ·obtain ⟨ab, ao, ea, y1, y2⟩ := HAG.out j hjl
              obtain ⟨hb, ho, e2, z3, KBj⟩ := KBI.out j wq hjl hbq
              subst ea
              subst e2
              have z1 := cL hbq y1
              have z2 := cL hbq y2
              have KF2 : Hid (∀ w2, Below wq.heap.size wq w2 → _) := fun w2 h2 => KBj w2 h2
              obtain ⟨⟨af, acol⟩, hag⟩ : ∃ z, AG j = z := ⟨_, rfl⟩
              rw [hag] at z1 z2 KF2
              obtain ⟨⟨h1, h2, h3⟩, hhh⟩ : ∃ z, YH j = z := ⟨_, rfl⟩
              rw [hhh] at z3 KF2
              obtain ⟨tl, htl⟩ : ∃ z, (BG j).length = z := ⟨_, rfl⟩
              rw [htl] at z3 KF2
              dsimp only at z1 z2 z3 KF2
              have j1 : (0 : Int) ≤ (j : Int) := by omega
              have j2 : (j : Int) < (n12 : Int) := by omega
              have j3 : (j : Int) < (bl : Int) := by have := HBL.out; omega
              obtain ⟨bv, hbv⟩ : ∃ z, BGB j = z := ⟨_, rfl⟩
              have HBV : Hid (BGB j = bv) := hbv
              rw [hbv] at KF2
              clear hag hhh htl hbv y1 y2 KBj
              cases bv with
              | true =>
               as_aux_lemma =>
               go_wp2
               go_region_held3 (fun w' => w'.cell? ⟨w.heap.size, 0, none⟩ = some (.int .i64 kind) ∧ w'.cell? ⟨w.heap.size, 1, none⟩ = some (.int .i64 mode) ∧ w'.cell? ⟨w.heap.size, 2, none⟩ = some (.int .i64 low) ∧ w'.cell? ⟨w.heap.size, 3, none⟩ = some (.int .i64 high) ∧ w'.cell? ⟨w.heap.size, 4, none⟩ = some (.int .i64 size) ∧ w'.cell? ⟨w.heap.size, 5, none⟩ = some (.int .i64 limit) ∧ w'.cell? ⟨w.heap.size, 6, none⟩ = some (.slice la n6 lc) ∧ w'.cell? ⟨w.heap.size, 7, none⟩ = some (.slice rr n7 rc) ∧ w'.cell? ⟨w.heap.size, 8, none⟩ = some (.slice lk n8 lkc) ∧ w'.cell? ⟨w.heap.size, 9, none⟩ = some (.slice rk n9 rkc) ∧ w'.cell? ⟨w.heap.size, 10, none⟩ = some (.bool true) ∧ w'.cell? ⟨w.heap.size, 11, none⟩ = some (.slice pga k gc) ∧ w'.cell? ⟨w.heap.size, 12, none⟩ = some (.slice (some ⟨ab, ao, none⟩) n12 ac) ∧ w'.cell? ⟨ab, ao + j * 2, none⟩ = some (.int .i64 af) ∧ w'.cell? ⟨ab, ao + j * 2 + 1, none⟩ = some (.int .i64 acol) ∧ w'.cell? ⟨b, o + i' * 3 + 1, none⟩ = some (.int .i64 nn) ∧ w'.cell? ⟨b, o + i' * 3 + 2, none⟩ = some (.slice (some ⟨hb, ho, none⟩) bl ybc) ∧ w'.cell? ⟨hb, ho + j, none⟩ = some (.slice h1 tl h3)) (first | exact ⟨cL hQ1 f0, cL hQ1 f1, cL hQ1 f2, cL hQ1 f3, cL hQ1 f4, cL hQ1 f5, cL hQ1 f6, cL hQ1 f7, cL hQ1 f8, cL hQ1 f9, cL hQ1 f10, cL hQ1 f11, cL hQ1 f12, cL hQ1 z1, cL hQ1 z2, cL hQ1 r2, cL hQ1 r3, cL hQ1 z3⟩ | go_keep)
                (first | (go_at_call 27; refine (KF2.out wq.drew bR.drew).mono ?_; rintro e y9 ⟨rfl, hy9⟩; have hQ1 : Below wq.heap.size wq y9 := bR.drew.trans hy9))
               all_goals
                go_wp2
                go_roundw
                case rel => exact ⟨j + 1, by omega, by go_num, hnq.trans (hQ1.mono hnq.size), fun i hi => by
                 rcases Nat.lt_succ_iff_lt_or_eq.1 hi with h | h
                 ·exact HALJ.out i h
                 ·rw [h]; exact HBV.out⟩
                case measure => simp [intOf]; omega
              | false =>
               have HE : Hid (1 = R) := HNO.out (by rw [HGI.out, allB_no hjl HBV.out]; simp)
               as_aux_lemma =>
               go_wp2
               go_region_held3 (fun w' => w'.cell? ⟨w.heap.size, 0, none⟩ = some (.int .i64 kind) ∧ w'.cell? ⟨w.heap.size, 1, none⟩ = some (.int .i64 mode) ∧ w'.cell? ⟨w.heap.size, 2, none⟩ = some (.int .i64 low) ∧ w'.cell? ⟨w.heap.size, 3, none⟩ = some (.int .i64 high) ∧ w'.cell? ⟨w.heap.size, 4, none⟩ = some (.int .i64 size) ∧ w'.cell? ⟨w.heap.size, 5, none⟩ = some (.int .i64 limit) ∧ w'.cell? ⟨w.heap.size, 6, none⟩ = some (.slice la n6 lc) ∧ w'.cell? ⟨w.heap.size, 7, none⟩ = some (.slice rr n7 rc) ∧ w'.cell? ⟨w.heap.size, 8, none⟩ = some (.slice lk n8 lkc) ∧ w'.cell? ⟨w.heap.size, 9, none⟩ = some (.slice rk n9 rkc) ∧ w'.cell? ⟨w.heap.size, 10, none⟩ = some (.bool true) ∧ w'.cell? ⟨w.heap.size, 11, none⟩ = some (.slice pga k gc) ∧ w'.cell? ⟨w.heap.size, 12, none⟩ = some (.slice (some ⟨ab, ao, none⟩) n12 ac) ∧ w'.cell? ⟨ab, ao + j * 2, none⟩ = some (.int .i64 af) ∧ w'.cell? ⟨ab, ao + j * 2 + 1, none⟩ = some (.int .i64 acol) ∧ w'.cell? ⟨b, o + i' * 3 + 1, none⟩ = some (.int .i64 nn) ∧ w'.cell? ⟨b, o + i' * 3 + 2, none⟩ = some (.slice (some ⟨hb, ho, none⟩) bl ybc) ∧ w'.cell? ⟨hb, ho + j, none⟩ = some (.slice h1 tl h3)) (first | exact ⟨cL hQ1 f0, cL hQ1 f1, cL hQ1 f2, cL hQ1 f3, cL hQ1 f4, cL hQ1 f5, cL hQ1 f6, cL hQ1 f7, cL hQ1 f8, cL hQ1 f9, cL hQ1 f10, cL hQ1 f11, cL hQ1 f12, cL hQ1 z1, cL hQ1 z2, cL hQ1 r2, cL hQ1 r3, cL hQ1 z3⟩ | go_keep)
                (first | (go_at_call 27; refine (KF2.out wq.drew bR.drew).mono ?_; rintro e y9 ⟨rfl, hy9⟩; have hQ1 : Below wq.heap.size wq y9 := bR.drew.trans hy9))
               all_goals
                go_wp2
                go_ret
                exact ⟨ret_int HE.out, hbq.trans (hQ1.mono hbq.size)⟩
             ·have HALLB : Hid (allB n12 BGB = true) := allB_iff.2 (fun i hi => HALJ.out i (by omega))
              have HGY : Hid (GB i' = true) := by show _ = _; rw [HGI.out, HALLB.out, HHEAD.out]; rfl
              go_wp2
              go_roundw
              case rel => exact ⟨i' + 1, by omega, by go_num, hn3.trans (hnq.mono hn3.size), fun i hi => by
               rcases Nat.lt_succ_iff_lt_or_eq.1 hi with h | h
               ·exact HALI.out i h
               ·rw [h]; exact HGY.out⟩
              case measure => simp [intOf]; omega
         ·have HE : Hid (1 = R) := HNOD.out (by rw [← HDD.out]; simp [h5])
          clear h1 h2 h3 h4
          have h5' := neq_is (x := (bl : Int)) (y := (n12 : Int)) true (by simp; omega)
          as_aux_lemma =>
          go_wp2
          refine wp_region_held_drew (S := (fun w' => w'.cell? ⟨b, o + i' * 3, none⟩ = some (.slice yr rl yrc) ∧ w'.cell? ⟨b, o + i' * 3 + 1, none⟩ = some (.int .i64 nn) ∧ w'.cell? ⟨b, o + i' * 3 + 2, none⟩ = some (.slice yb bl ybc) ∧ w'.cell? ⟨w.heap.size, 12, none⟩ = some (.slice pag n12 ac))) (by kernel_rfl) ⟨by go_simp, by go_simp, by go_simp, by go_simp⟩ (fun hH => ?_)
          refine tk 0 46 hH ?_; refine tk 1 47 hH ?_; refine tk 2 48 hH ?_; refine tk 3 49 hH ?_; refine tk 4 50 hH ?_; refine tk 5 51 hH ?_; refine tk 6 52 hH ?_; refine tk 7 53 hH ?_; refine tk 8 54 hH ?_; refine tk 9 55 hH ?_; refine tk 10 56 hH ?_; refine tk 11 57 hH ?_; refine tk 12 58 hH ?_; refine tk 13 59 hH ?_; refine tk 14 60 hH ?_
          refine wpAnyH_ready (rs := [15]) (by kernel_rfl) (by simp) ?_
          refine AllReadyH.cons rfl (fun K hK => ?_) AllReadyH.nil
          go_simp
          refine (KKi.out _ hbr.drew).mono ?_
          rintro e y1 ⟨rfl, hy1⟩
          have hby1 : Below w.heap.size w y1 := hbr.drew.trans (hy1.mono hbr.drew.size)
          have hny1 : Below wr.heap.size wr y1 := Below.trans bR.drew (hy1.mono (by simp))
          go_wp2_with fail
          refine hK.out _ _ ⟨cL hy1 hH.1, cL hy1 hH.2.1, cL hy1 hH.2.2.1, cL hy1 hH.2.2.2⟩ (fun hH => ?_)
          clear hK K
          try simp only [Act.put, sI, sZ, sS]
          refine tk 16 62 hH ?_; refine tk 17 63 hH ?_; refine tk 18 64 hH ?_; refine tk 19 65 hH ?_; refine tk 20 66 hH ?_; refine tk 21 67 hH ?_; refine tk 22 68 hH ?_; refine tk 23 69 hH ?_; refine tk 24 70 hH ?_
          refine wpAnyH_ready (rs := [25]) (by kernel_rfl) (by simp) ?_
          refine AllReadyH.cons rfl (fun K hK => ?_) AllReadyH.nil
          go_simp
          refine (KFi.out _ hny1).mono ?_
          rintro e y2 ⟨rfl, hy2⟩
          have hby2 : Below w.heap.size w y2 := hby1.trans (hy2.mono hby1.size)
          have hny2 : Below wr.heap.size wr y2 := Below.trans hny1 (hy2.mono (by simpa using (Below.size hny1)))
          go_wp2_with fail
          refine hK.out _ _ ⟨cL hy2 hH.1, cL hy2 hH.2.1, cL hy2 hH.2.2.1, cL hy2 hH.2.2.2⟩ (fun hH => ?_)
          clear hK K
          try simp only [Act.put, sI, sZ, sS]
          refine tk 26 72 hH ?_; refine tk 27 73 hH ?_; refine tk 28 74 hH ?_; refine tk 29 75 hH ?_; refine tk 30 76 hH ?_; refine tk 31 77 hH ?_; refine tk 32 78 hH ?_; refine tk 33 79 hH ?_
          refine wpAnyH_ready (rs := [34]) (by kernel_rfl) (by simp) ?_
          refine AllReadyH.cons rfl (fun K hK => ?_) AllReadyH.nil
          go_simp
          refine (KWi.out _).mono ?_
          rintro e y9 ⟨rfl, hy9⟩
          subst hy9
          go_wp2_with fail
          refine hK.out _ _ hH (fun hH => ?_)
          clear hK K
          try simp only [Act.put, sI, sZ, sS]
          refine tk 35 81 hH ?_; refine tk 36 82 hH ?_; refine tk 37 83 hH ?_; refine tk 38 84 hH ?_; refine tk 39 85 hH ?_; refine tk 40 86 hH ?_; refine tk 41 87 hH ?_; refine tk 42 88 hH ?_; refine tk 43 89 hH ?_; refine tk 44 90 hH ?_; refine tk 45 91 hH ?_; refine tk 46 92 hH ?_; refine tk 47 93 hH ?_; refine tk 48 94 hH ?_; refine tk 49 95 hH ?_; refine sk 50 96 hH ?_; refine sk 51 97 hH ?_; refine sk 52 98 hH ?_; refine sk 53 99 hH ?_; refine sk 54 100 hH ?_; refine sk 55 101 hH ?_; refine sk 56 102 hH ?_; refine sk 57 103 hH ?_; refine sk 58 104 hH ?_; refine sk 59 105 hH ?_; refine sk 60 106 hH ?_; refine sk 61 107 hH ?_; refine sk 62 108 hH ?_; refine sk 63 109 hH ?_; refine sk 64 110 hH ?_; refine sk 65 111 hH ?_; refine sk 66 112 hH ?_; refine tk 67 113 hH ?_
          refine wpAnyH_done (by kernel_rfl) ?_ _
          go_wp2
          go_ret
          exact ⟨ret_int HE.out, hby2⟩
        | false =>
         have KWi : Hid (∀ w1, Calls Tryz.prog 25 #[.int .i64 nn, .int .i64 1, .int .i64 1073741824] w1 fun e w' => e = .returned (.bool false) ∧ w' = w1) := fun w1 => by have := within_any nn 1 1073741824 w1; rwa [h4] at this
         have HE : Hid (1 = R) := HNOD.out (by rw [← HDD.out]; simp [h4])
         clear h1 h2 h3 h4
         as_aux_lemma =>
         go_wp2
         refine wp_region_held_drew (S := (fun w' => w'.cell? ⟨b, o + i' * 3, none⟩ = some (.slice yr rl yrc) ∧ w'.cell? ⟨b, o + i' * 3 + 1, none⟩ = some (.int .i64 nn) ∧ w'.cell? ⟨b, o + i' * 3 + 2, none⟩ = some (.slice yb bl ybc) ∧ w'.cell? ⟨w.heap.size, 12, none⟩ = some (.slice pag n12 ac))) (by kernel_rfl) ⟨by go_simp, by go_simp, by go_simp, by go_simp⟩ (fun hH => ?_)
         refine tk 0 46 hH ?_; refine tk 1 47 hH ?_; refine tk 2 48 hH ?_; refine tk 3 49 hH ?_; refine tk 4 50 hH ?_; refine tk 5 51 hH ?_; refine tk 6 52 hH ?_; refine tk 7 53 hH ?_; refine tk 8 54 hH ?_; refine tk 9 55 hH ?_; refine tk 10 56 hH ?_; refine tk 11 57 hH ?_; refine tk 12 58 hH ?_; refine tk 13 59 hH ?_; refine tk 14 60 hH ?_
         refine wpAnyH_ready (rs := [15]) (by kernel_rfl) (by simp) ?_
         refine AllReadyH.cons rfl (fun K hK => ?_) AllReadyH.nil
         go_simp
         refine (KKi.out _ hbr.drew).mono ?_
         rintro e y1 ⟨rfl, hy1⟩
         have hby1 : Below w.heap.size w y1 := hbr.drew.trans (hy1.mono hbr.drew.size)
         have hny1 : Below wr.heap.size wr y1 := Below.trans bR.drew (hy1.mono (by simp))
         go_wp2_with fail
         refine hK.out _ _ ⟨cL hy1 hH.1, cL hy1 hH.2.1, cL hy1 hH.2.2.1, cL hy1 hH.2.2.2⟩ (fun hH => ?_)
         clear hK K
         try simp only [Act.put, sI, sZ, sS]
         refine tk 16 62 hH ?_; refine tk 17 63 hH ?_; refine tk 18 64 hH ?_; refine tk 19 65 hH ?_; refine tk 20 66 hH ?_; refine tk 21 67 hH ?_; refine tk 22 68 hH ?_; refine tk 23 69 hH ?_; refine tk 24 70 hH ?_
         refine wpAnyH_ready (rs := [25]) (by kernel_rfl) (by simp) ?_
         refine AllReadyH.cons rfl (fun K hK => ?_) AllReadyH.nil
         go_simp
         refine (KFi.out _ hny1).mono ?_
         rintro e y2 ⟨rfl, hy2⟩
         have hby2 : Below w.heap.size w y2 := hby1.trans (hy2.mono hby1.size)
         have hny2 : Below wr.heap.size wr y2 := Below.trans hny1 (hy2.mono (by simpa using (Below.size hny1)))
         go_wp2_with fail
         refine hK.out _ _ ⟨cL hy2 hH.1, cL hy2 hH.2.1, cL hy2 hH.2.2.1, cL hy2 hH.2.2.2⟩ (fun hH => ?_)
         clear hK K
         try simp only [Act.put, sI, sZ, sS]
         refine tk 26 72 hH ?_; refine tk 27 73 hH ?_; refine tk 28 74 hH ?_; refine tk 29 75 hH ?_; refine tk 30 76 hH ?_; refine tk 31 77 hH ?_; refine tk 32 78 hH ?_; refine tk 33 79 hH ?_
         refine wpAnyH_ready (rs := [34]) (by kernel_rfl) (by simp) ?_
         refine AllReadyH.cons rfl (fun K hK => ?_) AllReadyH.nil
         go_simp
         refine (KWi.out _).mono ?_
         rintro e y9 ⟨rfl, hy9⟩
         subst hy9
         go_wp2_with fail
         refine hK.out _ _ hH (fun hH => ?_)
         clear hK K
         try simp only [Act.put, sI, sZ, sS]
         refine tk 35 81 hH ?_; refine tk 36 82 hH ?_; refine tk 37 83 hH ?_; refine sk 38 84 hH ?_; refine sk 39 85 hH ?_; refine sk 40 86 hH ?_; refine sk 41 87 hH ?_; refine sk 42 88 hH ?_; refine sk 43 89 hH ?_; refine sk 44 90 hH ?_; refine sk 45 91 hH ?_; refine sk 46 92 hH ?_; refine sk 47 93 hH ?_; refine tk 48 94 hH ?_; refine tk 49 95 hH ?_; refine sk 50 96 hH ?_; refine sk 51 97 hH ?_; refine sk 52 98 hH ?_; refine sk 53 99 hH ?_; refine sk 54 100 hH ?_; refine sk 55 101 hH ?_; refine sk 56 102 hH ?_; refine sk 57 103 hH ?_; refine sk 58 104 hH ?_; refine sk 59 105 hH ?_; refine sk 60 106 hH ?_; refine sk 61 107 hH ?_; refine sk 62 108 hH ?_; refine sk 63 109 hH ?_; refine sk 64 110 hH ?_; refine sk 65 111 hH ?_; refine sk 66 112 hH ?_; refine tk 67 113 hH ?_
         refine wpAnyH_done (by kernel_rfl) ?_ _
         go_wp2
         go_ret
         exact ⟨ret_int HE.out, hby2⟩
       ·have h3' := neq_is (x := fe) (y := 0) true (by simpa using h3)
        have HE : Hid (1 = R) := HNOD.out (by rw [← HDD.out]; simp [h3])
        clear h1 h2
        as_aux_lemma =>
        go_wp2
        refine wp_region_held_drew (S := (fun w' => w'.cell? ⟨b, o + i' * 3, none⟩ = some (.slice yr rl yrc) ∧ w'.cell? ⟨b, o + i' * 3 + 1, none⟩ = some (.int .i64 nn) ∧ w'.cell? ⟨b, o + i' * 3 + 2, none⟩ = some (.slice yb bl ybc) ∧ w'.cell? ⟨w.heap.size, 12, none⟩ = some (.slice pag n12 ac))) (by kernel_rfl) ⟨by go_simp, by go_simp, by go_simp, by go_simp⟩ (fun hH => ?_)
        refine tk 0 46 hH ?_; refine tk 1 47 hH ?_; refine tk 2 48 hH ?_; refine tk 3 49 hH ?_; refine tk 4 50 hH ?_; refine tk 5 51 hH ?_; refine tk 6 52 hH ?_; refine tk 7 53 hH ?_; refine tk 8 54 hH ?_; refine tk 9 55 hH ?_; refine tk 10 56 hH ?_; refine tk 11 57 hH ?_; refine tk 12 58 hH ?_; refine tk 13 59 hH ?_; refine tk 14 60 hH ?_
        refine wpAnyH_ready (rs := [15]) (by kernel_rfl) (by simp) ?_
        refine AllReadyH.cons rfl (fun K hK => ?_) AllReadyH.nil
        go_simp
        refine (KKi.out _ hbr.drew).mono ?_
        rintro e y1 ⟨rfl, hy1⟩
        have hby1 : Below w.heap.size w y1 := hbr.drew.trans (hy1.mono hbr.drew.size)
        have hny1 : Below wr.heap.size wr y1 := Below.trans bR.drew (hy1.mono (by simp))
        go_wp2_with fail
        refine hK.out _ _ ⟨cL hy1 hH.1, cL hy1 hH.2.1, cL hy1 hH.2.2.1, cL hy1 hH.2.2.2⟩ (fun hH => ?_)
        clear hK K
        try simp only [Act.put, sI, sZ, sS]
        refine tk 16 62 hH ?_; refine tk 17 63 hH ?_; refine tk 18 64 hH ?_; refine tk 19 65 hH ?_; refine tk 20 66 hH ?_; refine tk 21 67 hH ?_; refine tk 22 68 hH ?_; refine tk 23 69 hH ?_; refine tk 24 70 hH ?_
        refine wpAnyH_ready (rs := [25]) (by kernel_rfl) (by simp) ?_
        refine AllReadyH.cons rfl (fun K hK => ?_) AllReadyH.nil
        go_simp
        refine (KFi.out _ hny1).mono ?_
        rintro e y2 ⟨rfl, hy2⟩
        have hby2 : Below w.heap.size w y2 := hby1.trans (hy2.mono hby1.size)
        have hny2 : Below wr.heap.size wr y2 := Below.trans hny1 (hy2.mono (by simpa using (Below.size hny1)))
        go_wp2_with fail
        refine hK.out _ _ ⟨cL hy2 hH.1, cL hy2 hH.2.1, cL hy2 hH.2.2.1, cL hy2 hH.2.2.2⟩ (fun hH => ?_)
        clear hK K
        try simp only [Act.put, sI, sZ, sS]
        refine tk 26 72 hH ?_; refine tk 27 73 hH ?_; refine tk 28 74 hH ?_; refine sk 29 75 hH ?_; refine sk 30 76 hH ?_; refine sk 31 77 hH ?_; refine sk 32 78 hH ?_; refine sk 33 79 hH ?_; refine sk 34 80 hH ?_; refine sk 35 81 hH ?_; refine tk 36 82 hH ?_; refine tk 37 83 hH ?_; refine sk 38 84 hH ?_; refine sk 39 85 hH ?_; refine sk 40 86 hH ?_; refine sk 41 87 hH ?_; refine sk 42 88 hH ?_; refine sk 43 89 hH ?_; refine sk 44 90 hH ?_; refine sk 45 91 hH ?_; refine sk 46 92 hH ?_; refine sk 47 93 hH ?_; refine tk 48 94 hH ?_; refine tk 49 95 hH ?_; refine sk 50 96 hH ?_; refine sk 51 97 hH ?_; refine sk 52 98 hH ?_; refine sk 53 99 hH ?_; refine sk 54 100 hH ?_; refine sk 55 101 hH ?_; refine sk 56 102 hH ?_; refine sk 57 103 hH ?_; refine sk 58 104 hH ?_; refine sk 59 105 hH ?_; refine sk 60 106 hH ?_; refine sk 61 107 hH ?_; refine sk 62 108 hH ?_; refine sk 63 109 hH ?_; refine sk 64 110 hH ?_; refine sk 65 111 hH ?_; refine sk 66 112 hH ?_; refine tk 67 113 hH ?_
        refine wpAnyH_done (by kernel_rfl) ?_ _
        go_wp2
        go_ret
        exact ⟨ret_int HE.out, hby2⟩
      ·have h2' := neq_is (x := ke) (y := 0) true (by simpa using h2)
       have HE : Hid (1 = R) := HNOD.out (by rw [← HDD.out]; simp [h2])
       clear h1
       as_aux_lemma =>
       go_wp2
       refine wp_region_held_drew (S := (fun w' => w'.cell? ⟨b, o + i' * 3, none⟩ = some (.slice yr rl yrc) ∧ w'.cell? ⟨b, o + i' * 3 + 1, none⟩ = some (.int .i64 nn) ∧ w'.cell? ⟨b, o + i' * 3 + 2, none⟩ = some (.slice yb bl ybc) ∧ w'.cell? ⟨w.heap.size, 12, none⟩ = some (.slice pag n12 ac))) (by kernel_rfl) ⟨by go_simp, by go_simp, by go_simp, by go_simp⟩ (fun hH => ?_)
       refine tk 0 46 hH ?_; refine tk 1 47 hH ?_; refine tk 2 48 hH ?_; refine tk 3 49 hH ?_; refine tk 4 50 hH ?_; refine tk 5 51 hH ?_; refine tk 6 52 hH ?_; refine tk 7 53 hH ?_; refine tk 8 54 hH ?_; refine tk 9 55 hH ?_; refine tk 10 56 hH ?_; refine tk 11 57 hH ?_; refine tk 12 58 hH ?_; refine tk 13 59 hH ?_; refine tk 14 60 hH ?_
       refine wpAnyH_ready (rs := [15]) (by kernel_rfl) (by simp) ?_
       refine AllReadyH.cons rfl (fun K hK => ?_) AllReadyH.nil
       go_simp
       refine (KKi.out _ hbr.drew).mono ?_
       rintro e y1 ⟨rfl, hy1⟩
       have hby1 : Below w.heap.size w y1 := hbr.drew.trans (hy1.mono hbr.drew.size)
       have hny1 : Below wr.heap.size wr y1 := Below.trans bR.drew (hy1.mono (by simp))
       go_wp2_with fail
       refine hK.out _ _ ⟨cL hy1 hH.1, cL hy1 hH.2.1, cL hy1 hH.2.2.1, cL hy1 hH.2.2.2⟩ (fun hH => ?_)
       clear hK K
       try simp only [Act.put, sI, sZ, sS]
       refine tk 16 62 hH ?_; refine tk 17 63 hH ?_; refine tk 18 64 hH ?_; refine sk 19 65 hH ?_; refine sk 20 66 hH ?_; refine sk 21 67 hH ?_; refine sk 22 68 hH ?_; refine sk 23 69 hH ?_; refine sk 24 70 hH ?_; refine sk 25 71 hH ?_; refine sk 26 72 hH ?_; refine tk 27 73 hH ?_; refine tk 28 74 hH ?_; refine sk 29 75 hH ?_; refine sk 30 76 hH ?_; refine sk 31 77 hH ?_; refine sk 32 78 hH ?_; refine sk 33 79 hH ?_; refine sk 34 80 hH ?_; refine sk 35 81 hH ?_; refine tk 36 82 hH ?_; refine tk 37 83 hH ?_; refine sk 38 84 hH ?_; refine sk 39 85 hH ?_; refine sk 40 86 hH ?_; refine sk 41 87 hH ?_; refine sk 42 88 hH ?_; refine sk 43 89 hH ?_; refine sk 44 90 hH ?_; refine sk 45 91 hH ?_; refine sk 46 92 hH ?_; refine sk 47 93 hH ?_; refine tk 48 94 hH ?_; refine tk 49 95 hH ?_; refine sk 50 96 hH ?_; refine sk 51 97 hH ?_; refine sk 52 98 hH ?_; refine sk 53 99 hH ?_; refine sk 54 100 hH ?_; refine sk 55 101 hH ?_; refine sk 56 102 hH ?_; refine sk 57 103 hH ?_; refine sk 58 104 hH ?_; refine sk 59 105 hH ?_; refine sk 60 106 hH ?_; refine sk 61 107 hH ?_; refine sk 62 108 hH ?_; refine sk 63 109 hH ?_; refine sk 64 110 hH ?_; refine sk 65 111 hH ?_; refine sk 66 112 hH ?_; refine tk 67 113 hH ?_
       refine wpAnyH_done (by kernel_rfl) ?_ _
       go_wp2
       go_ret
       exact ⟨ret_int HE.out, hby1⟩
     ·have h1' := neq_is (x := (rl : Int)) (y := (k : Int)) true (by simp; omega)
      have HE : Hid (1 = R) := HNOD.out (by rw [← HDD.out]; simp [h1])
      as_aux_lemma =>
      go_wp2
      refine wp_region_held_drew (S := (fun w' => w'.cell? ⟨b, o + i' * 3, none⟩ = some (.slice yr rl yrc) ∧ w'.cell? ⟨b, o + i' * 3 + 1, none⟩ = some (.int .i64 nn) ∧ w'.cell? ⟨b, o + i' * 3 + 2, none⟩ = some (.slice yb bl ybc) ∧ w'.cell? ⟨w.heap.size, 12, none⟩ = some (.slice pag n12 ac))) (by kernel_rfl) ⟨by go_simp, by go_simp, by go_simp, by go_simp⟩ (fun hH => ?_)
      refine tk 0 46 hH ?_; refine tk 1 47 hH ?_; refine tk 2 48 hH ?_; refine tk 3 49 hH ?_; refine tk 4 50 hH ?_; refine tk 5 51 hH ?_; refine tk 6 52 hH ?_; refine tk 7 53 hH ?_; refine tk 8 54 hH ?_; refine tk 9 55 hH ?_; refine sk 10 56 hH ?_; refine sk 11 57 hH ?_; refine sk 12 58 hH ?_; refine sk 13 59 hH ?_; refine sk 14 60 hH ?_; refine sk 15 61 hH ?_; refine sk 16 62 hH ?_; refine tk 17 63 hH ?_; refine tk 18 64 hH ?_; refine sk 19 65 hH ?_; refine sk 20 66 hH ?_; refine sk 21 67 hH ?_; refine sk 22 68 hH ?_; refine sk 23 69 hH ?_; refine sk 24 70 hH ?_; refine sk 25 71 hH ?_; refine sk 26 72 hH ?_; refine tk 27 73 hH ?_; refine tk 28 74 hH ?_; refine sk 29 75 hH ?_; refine sk 30 76 hH ?_; refine sk 31 77 hH ?_; refine sk 32 78 hH ?_; refine sk 33 79 hH ?_; refine sk 34 80 hH ?_; refine sk 35 81 hH ?_; refine tk 36 82 hH ?_; refine tk 37 83 hH ?_; refine sk 38 84 hH ?_; refine sk 39 85 hH ?_; refine sk 40 86 hH ?_; refine sk 41 87 hH ?_; refine sk 42 88 hH ?_; refine sk 43 89 hH ?_; refine sk 44 90 hH ?_; refine sk 45 91 hH ?_; refine sk 46 92 hH ?_; refine sk 47 93 hH ?_; refine tk 48 94 hH ?_; refine tk 49 95 hH ?_; refine sk 50 96 hH ?_; refine sk 51 97 hH ?_; refine sk 52 98 hH ?_; refine sk 53 99 hH ?_; refine sk 54 100 hH ?_; refine sk 55 101 hH ?_; refine sk 56 102 hH ?_; refine sk 57 103 hH ?_; refine sk 58 104 hH ?_; refine sk 59 105 hH ?_; refine sk 60 106 hH ?_; refine sk 61 107 hH ?_; refine sk 62 108 hH ?_; refine sk 63 109 hH ?_; refine sk 64 110 hH ?_; refine sk 65 111 hH ?_; refine sk 66 112 hH ?_; refine tk 67 113 hH ?_
      refine wpAnyH_done (by kernel_rfl) ?_ _
      go_wp2
      go_ret
      exact ⟨ret_int HE.out, hbr.drew⟩
    ·have HE : Hid (0 = R) := by show _ = _; rw [← HR.out, if_neg (by rw [allB_iff.2 (fun i hi => HALI.out i (by omega))]; simp)]
     go_wp2
     go_ret
     exact ⟨ret_int HE.out, hbr⟩
end Go.Proofs.YtbfbgdinhiglaaaGreat.gr
