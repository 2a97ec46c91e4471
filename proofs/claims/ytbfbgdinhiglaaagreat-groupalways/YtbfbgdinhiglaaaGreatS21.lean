import Derived.Test.YtbfbgdinhiglaaaGreatGrpForm
import Derived.Test.YtbfbgdinhiglaaaGreatMgBatJ
import Derived.Test.YtbfbgdinhiglaaaGreatMgPlnE
import Derived.Deep.AppendLies
import Derived.Test.YtbfbgdinhiglaaaGreatS9
import Derived.Test.YtbfbgdinhiglaaaGreatMgChgD
/- The groups' form: formRight, Check. -/
namespace Go.Proofs.YtbfbgdinhiglaaaGreat.gr
open Go.ChangeShapes Go.WideShapes Go.ChangeAt Go.RowKit
open vl pl bt
set_option linter.unusedVariables false
set_option linter.unusedSimpArgs false
attribute [local go_sem] Oper.semAt_some
theorem cell_new1 (w : World) (x : Value) (t : TypeId) (h : x.oneCell' = true) : ∀ j u, [x][j]? = some u → (w.alloc (.cells #[x] t)).cell? ((⟨w.heap.size, 0, none⟩ : Addr).add j) = some u := by
  intro j u hu
  rw [add_off]
  match j, hu with
  | 0, hu => simp at hu; subst hu; go_simp
theorem step_appI {ops : Array Oper} {o : Oper} {a : Act} {K : Act → World → Prop} {Q : Exit → Act → World → Prop} {E : Prop} (hgd : o.guard = none) (s x : Operand)
    (hop : o.op = .call { callee := .builtin .append, args := #[s, x], argTypes := #[22, 22] })
    (base : Nat) (v : Value) (L : List Int) (z : Int) (w1 : World) (ln : Nat) (hln : L.length = ln) (ho : ownI w1 base v L) (hl : ln ≤ 1000000) (hb : base ≤ w1.heap.size)
    (hs : a.eval s = v) (hx : a.eval x = .slice (some ⟨w1.heap.size, 0, none⟩) 1 1)
    (h : ∀ g cap2 w2, ownI w2 base (.slice (some ⟨g, 0, none⟩) (ln + 1) cap2) (L ++ [z]) → (w1.alloc (.cells #[.int .i64 z] 3)).grownBy w2 v.ownBlock → K (a.put o.dst (.slice (some ⟨g, 0, none⟩) (ln + 1) cap2)) w2) :
    if Region.wanted o (yielded ops a.tmps) = true then Oper.wp Tryz.prog o a (w1.alloc (.cells #[.int .i64 z] 3)) K Q else E := by
  obtain ⟨i0, hi, hz0, hz1, hz2⟩ := info_parts Tryz.info3
  unfold ownI at ho
  rw [hln] at ho
  exact step_append_lies _ hgd s x 22 hop base 3 i0 (.int .i64 0) 1 8 Tryz.underlying22 hi hz0 hz1 hz2 rfl (by decide) v ln (L.map intV) hs
    (ho.alloc _) ⟨w1.heap.size, 0, none⟩ 1 1 [.int .i64 z] hx rfl (cell_new1 _ _ _ rfl) (by intro u hu; simp at hu; rcases hu with rfl; rfl) (by decide) (by unfold maxLen; omega) (by omega) (by simp; omega) (w1.heap.size + 1) (by simp) (fun g cap2 w2 h1 h2 h3 h4 => h g cap2 w2 (by
      unfold ownI
      rw [List.map_append, List.length_append, hln]
      exact h1) h2)
theorem drop_oneI {base : Nat} {W0 wr w2 : World} {v u : Value} {r : List Int} {o : Obj} {C : Nat} (hb : Below C W0 wr) (hC : C < base) (hlow : base ≤ wr.heap.size) (hown : ownI wr base v r) (hg : (wr.alloc o).grownBy w2 v.ownBlock) (hc : wr.cell? ⟨C, 0, none⟩ = some u) (hf : wr.frozen? ⟨C, 0, none⟩ = false) :
    Below C W0 w2 ∧ w2.cell? ⟨C, 0, none⟩ = some u ∧ w2.frozen? ⟨C, 0, none⟩ = false ∧ base ≤ w2.heap.size := by
  have hlt : C < wr.heap.size := World.block_lt_of_cell? _ _ hc
  have hb1 : Below (C + 1) wr w2 := ((Below.refl _ _).alloc (by omega) o).grown hg (by simp; omega) (fun k hk => by have := (World.ownsRow.lt hown k hk).1; omega)
  refine ⟨hb.trans (hb1.mono (by omega)), ?_, ?_, ?_⟩
  · rw [hb1.cell (p := ⟨C, 0, none⟩) (by simp)]; exact hc
  · rw [hb1.frozen (p := ⟨C, 0, none⟩) (by simp)]; exact hf
  · have := hg.size; simp at this; omega
theorem ownCols_len (p : Pln) : (ownCols p).length = p.group.length := by unfold ownCols; rw [List.length_map]
theorem ownCols_take (p : Pln) (k : Nat) (h : k < p.group.length) : (ownCols p).take (k + 1) = (ownCols p).take k ++ [(cols p).getD (p.group.getD k 0).toNat 0] := by
  rw [List.take_succ_eq_append_getElem (by rw [ownCols_len]; exact h)]
  unfold ownCols
  simp [List.getD_eq_getElem?_getD, h]
set_option maxRecDepth 100000 in
set_option maxHeartbeats 8000000 in
theorem formRight_any (p : Pln) (x : PA) (a : Option Addr) (cap : Nat) (xs : List GX) (gs : List Grp) (w : World) (hp : planAt w p x) (h0 : planErr p = 0) (hgs : gsAt w a xs gs) (hwf : ∀ g ∈ gs, wfG g) (hgl : gs.length ≤ 9223372036854775807)
    (n1 : 0 < p.left.length) (n2 : 0 < p.right.length) (m1 : p.left.length ≤ 400) (m2 : p.right.length ≤ 400) (mg : p.group.length ≤ 400) (ma : p.aggs.length ≤ 400) :
    Calls Tryz.prog 33 #[planV p x, .slice a gs.length cap] w fun e w' => e = .returned (.bool (allB gs.length (grpB p gs))) ∧ Below w.heap.size w w' := by
  have hcl : (cols p).length ≤ 800 := by unfold cols; rw [List.length_append]; omega
  have KJ : Hid (∀ w1, Below w.heap.size w w1 → Calls Tryz.prog 72 #[planV p x] w1 fun e w' => (∃ ad cap, e = .returned (.slice ad (cols p).length cap) ∧ intsAt w' ad (cols p)) ∧ Below w1.heap.size w1 w') := fun w1 hb =>
    (joined_any p x w1 (planAt_below hp hb) n1 n2 m1 m2).mono (fun e w' ⟨⟨ad, cp, h1, h2⟩, h3⟩ => ⟨⟨ad, cp, h1, (ownI_at h2).1⟩, h3⟩)
  have KE : Hid (∀ O G PB C oa oc ca cc w1, Below w.heap.size w w1 → w1.cell? ⟨O, 0, none⟩ = some (.slice oa (ownCols p).length oc) → w1.cell? ⟨G, 0, none⟩ = some (.slice a gs.length cap) → w1.cell? ⟨PB, 12, none⟩ = some (.slice x.a p.aggs.length x.ac) → w1.cell? ⟨C, 0, none⟩ = some (.slice ca (cols p).length cc) → intsAt w1 oa (ownCols p) → intsAt w1 ca (cols p) →
      Calls Tryz.prog 73 #[.slice a gs.length cap, .func (.func 74) #[] #[.pointer (some ⟨O, 0, none⟩), .pointer (some ⟨G, 0, none⟩), .pointer (some ⟨PB, 0, none⟩), .pointer (some ⟨C, 0, none⟩)]] w1 fun e w' => e = .returned (.bool (allB gs.length (grpB p gs))) ∧ Below w1.heap.size w1 w') := fun O G PB C oa oc ca cc w1 hb1 hO hG hP hC ho hc =>
    everyGrp_any 74 (enters_of Tryz.func74 (by kernel_rfl) rfl) #[.pointer (some ⟨O, 0, none⟩), .pointer (some ⟨G, 0, none⟩), .pointer (some ⟨PB, 0, none⟩), .pointer (some ⟨C, 0, none⟩)] (grpB p gs) a cap xs gs w1 hgl (hgs.below hb1) (fun i w2 hi hb2 => by
      have hb3 := hb1.trans (hb2.mono hb1.size)
      exact form1_any p x i O G PB C oa a ca oc cap cc xs gs w2 (cell_later hb2 hO) (cell_later hb2 hG) (cell_later hb2 hP) (cell_later hb2 hC) (hgs.below hb3) hwf hi hgl (intsAt_below ho hb2) (intsAt_below hc hb2) (aggsAt_below hp.a hb3) (by rw [ownCols_len]; omega) (by omega) (by omega) (fun j hj => by
        have hm : p.aggs.getD j (0, 0) ∈ p.aggs := by rw [List.getD_eq_getElem?_getD, List.getElem?_eq_getElem hj]; exact List.getElem_mem hj
        exact agg_col h0 hm))
  have HG : Hid (∀ k, k < p.group.length → ∃ b o, x.g = some ⟨b, o, none⟩ ∧ w.cell? ⟨b, o + k, none⟩ = some (.int .i64 (p.group.getD k 0)) ∧ 0 ≤ p.group.getD k 0 ∧ (p.group.getD k 0).toNat < (cols p).length) := fun k hk => by
    obtain ⟨b, o, e, y⟩ := hp.g k hk
    have hm : p.group.getD k 0 ∈ p.group := by rw [List.getD_eq_getElem?_getD, List.getElem?_eq_getElem hk]; exact List.getElem_mem hk
    have := group_in h0 _ hm
    exact ⟨b, o, e, y, this.1, by omega⟩
  have HT : Hid (∀ k, k < p.group.length → (ownCols p).take (k + 1) = (ownCols p).take k ++ [(cols p).getD (p.group.getD k 0).toNat 0]) := fun k hk => ownCols_take p k hk
  have HTL : Hid (∀ k, k ≤ p.group.length → ((ownCols p).take k).length = k) := fun k hk => by show _ = _; rw [List.length_take, ownCols_len]; omega
  have HTE : Hid ((ownCols p).take p.group.length = ownCols p) := by show _ = _; rw [← ownCols_len, List.take_length]
  have HOL : Hid ((ownCols p).length = p.group.length) := ownCols_len p
  obtain ⟨R, hR⟩ : ∃ z, allB gs.length (grpB p gs) = z := ⟨_, rfl⟩
  rw [hR] at KE ⊢
  obtain ⟨OC, hOC⟩ : ∃ z, ownCols p = z := ⟨_, rfl⟩
  obtain ⟨CO, hCO⟩ : ∃ z, cols p = z := ⟨_, rfl⟩
  rw [hOC] at KE HT HTL HTE HOL
  rw [hCO] at KJ KE HG HT hcl
  obtain ⟨gn, hgn⟩ : ∃ z, gs.length = z := ⟨_, rfl⟩
  rw [hgn] at KE ⊢
  clear hR hOC hCO hgn hp h0 hgs hwf hgl n1 n2 m1 m2
  obtain ⟨kind, mode, low, high, size, limit, left, right, lkeys, rkeys, grouped, group, aggs⟩ := p
  obtain ⟨la, lc, rr, rc, lk, lkc, rk, rkc, ga, gc, ag, ac⟩ := x
  unfold planV at KJ ⊢
  dsimp only at KJ KE HG HT HTL HTE HOL mg ma ⊢
  obtain ⟨n6, h6⟩ : ∃ n, left.length = n := ⟨_, rfl⟩
  obtain ⟨n7, h7⟩ : ∃ n, right.length = n := ⟨_, rfl⟩
  obtain ⟨n8, h8⟩ : ∃ n, lkeys.length = n := ⟨_, rfl⟩
  obtain ⟨n9, h9⟩ : ∃ n, rkeys.length = n := ⟨_, rfl⟩
  obtain ⟨n11, h11⟩ : ∃ n, group.length = n := ⟨_, rfl⟩
  obtain ⟨n12, h12⟩ : ∃ n, aggs.length = n := ⟨_, rfl⟩
  simp only [h6, h7, h8, h9, h11, h12] at KJ KE HG HT HTL HTE HOL mg ma ⊢
  clear h6 h7 h8 h9 h11 h12
  obtain ⟨cn, hcn⟩ : ∃ z, CO.length = z := ⟨_, rfl⟩
  have HCN : Hid (CO.length = cn) := hcn
  rw [hcn] at KJ KE HG hcl
  rw [HOL.out] at KE
  clear hcn
  go_enter Tryz.func33, Tryz.ntmps33
  go_wp2_with fail
  generalize hV : ((World.alloc w _).alloc _) = V
  have hb0 : Below w.heap.size w V := by rw [← hV]; exact ((Below.refl _ _).alloc (Nat.le_refl _) _).alloc (by simp) _
  have v11 : V.cell? ⟨w.heap.size, 11, none⟩ = some (.slice ga n11 gc) := by subst hV; go_simp
  have v12 : V.cell? ⟨w.heap.size, 12, none⟩ = some (.slice ag n12 ac) := by subst hV; go_simp
  have vG : V.cell? ⟨w.heap.size + 1, 0, none⟩ = some (.slice a gn cap) := by subst hV; go_simp
  clear hV
  refine (KJ.out _ hb0).mono ?_
  rintro e w1 ⟨⟨ca, cc, rfl, hca⟩, hb1⟩
  have HCA : Hid (intsAt w1 ca CO) := hca
  have hbw : Below w.heap.size w w1 := hb0.trans (hb1.mono hb0.size)
  have w11 := cell_later hb1 v11
  have w12 := cell_later hb1 v12
  have wG := cell_later hb1 vG
  have lw1 : w.heap.size + 1 < w1.heap.size := World.block_lt_of_cell? _ _ wG
  have lw0 : w.heap.size < w1.heap.size := by omega
  clear hca hb1 v11 v12 vG hb0
  go_wp2
  generalize hW : ((World.alloc w1 _).alloc _) = W0
  have hb2 : Below w1.heap.size w1 W0 := by rw [← hW]; exact ((Below.refl _ _).alloc (Nat.le_refl _) _).alloc (by simp) _
  have hs2 : W0.heap.size = w1.heap.size + 1 + 1 := by rw [← hW]; simp
  have b5 : W0.cell? ⟨w1.heap.size, 0, none⟩ = some (.slice ca cn cc) := by subst hW; go_simp
  have b6 : W0.cell? ⟨w1.heap.size + 1, 0, none⟩ = some (.slice none 0 0) := by subst hW; go_simp
  have f6 : W0.frozen? ⟨w1.heap.size + 1, 0, none⟩ = false := by subst hW; go_simp
  have w11' := cell_later hb2 w11
  have w12' := cell_later hb2 w12
  have wG' := cell_later hb2 wG
  have HS2 : Hid (W0.heap.size = w1.heap.size + 1 + 1) := hs2
  have HB2 : Hid (Below w1.heap.size w1 W0) := hb2
  clear hW w11 w12 wG hs2 hb2
  go_loopw [14] (fun t wr => ∃ k va vc, k ≤ n11 ∧ t = .int .i64 (k : Nat) ∧ Below (w1.heap.size + 1) W0 wr ∧ wr.cell? ⟨w1.heap.size + 1, 0, none⟩ = some (.slice va k vc) ∧ wr.frozen? ⟨w1.heap.size + 1, 0, none⟩ = false ∧ w1.heap.size + 1 + 1 ≤ wr.heap.size ∧ ownI wr (w1.heap.size + 1 + 1) (.slice va k vc) (OC.take k)) (fun t _ => n11 - (intOf t).toNat)
  case atStart => exact ⟨0, none, 0, Nat.zero_le _, rfl, Below.refl _ _, b6, f6, by rw [HS2.out]; exact Nat.le_refl _, World.ownsRow_nil _ _ _ _⟩
  case round =>
    obtain ⟨k, va, vc, hk, rfl, hnx, cv, cf, hlow, hown⟩ := hrel
    have HOW : Hid (ownI wr (w1.heap.size + 1 + 1) (.slice va k vc) (OC.take k)) := hown
    have HLW : Hid (w1.heap.size + 1 + 1 ≤ wr.heap.size) := hlow
    have lB : w1.heap.size + 1 < wr.heap.size := World.block_lt_of_cell? _ _ cv
    have hbk : Below w1.heap.size w1 wr := HB2.out.trans (hnx.mono (by omega))
    have hbkw : Below w.heap.size w wr := hbw.trans (hbk.mono hbw.size)
    have c5 : wr.cell? ⟨w1.heap.size, 0, none⟩ = some (.slice ca cn cc) := by rw [hnx.cell (p := ⟨w1.heap.size, 0, none⟩) (by simp)]; exact b5
    have c11 : wr.cell? ⟨w.heap.size, 11, none⟩ = some (.slice ga n11 gc) := by rw [hnx.cell (p := ⟨w.heap.size, 11, none⟩) (by simp; omega)]; exact w11'
    have c12 : wr.cell? ⟨w.heap.size, 12, none⟩ = some (.slice ag n12 ac) := by rw [hnx.cell (p := ⟨w.heap.size, 12, none⟩) (by simp; omega)]; exact w12'
    have cG : wr.cell? ⟨w.heap.size + 1, 0, none⟩ = some (.slice a gn cap) := by rw [hnx.cell (p := ⟨w.heap.size + 1, 0, none⟩) (by simp; omega)]; exact wG'
    have HCR : Hid (intsAt wr ca CO) := intsAt_below HCA.out hbk
    clear hown hlow
    by_cases hlt : k < n11
    · obtain ⟨b, o, e, x1, x2, x3⟩ := HG.out k hlt
      have HT1 : Hid (OC.take (k + 1) = OC.take k ++ [CO.getD (group.getD k 0).toNat 0]) := HT.out k hlt
      have HL1 : Hid ((OC.take k).length = k) := HTL.out k hk
      obtain ⟨z, hz⟩ : ∃ z, group.getD k 0 = z := ⟨_, rfl⟩
      rw [hz] at x1 x2 x3 HT1
      obtain ⟨zn, rfl⟩ := Int.eq_ofNat_of_zero_le x2
      simp only [Int.toNat_natCast] at x3 HT1
      obtain ⟨b8, o8, e8, y8⟩ := HCR.out zn (by rw [HCN.out]; omega)
      obtain ⟨cval, hcv⟩ : ∃ z, CO.getD zn 0 = z := ⟨_, rfl⟩
      rw [hcv] at y8 HT1
      subst e
      subst e8
      have q1 := cell_later hbkw x1
      have i1 : (0 : Int) ≤ (k : Int) := by omega
      have i2 : (k : Int) < (n11 : Int) := by omega
      have j1 : (0 : Int) ≤ (zn : Int) := by omega
      have j2 : (zn : Int) < (cn : Int) := by omega
      have lb8 : b8 < wr.heap.size := World.block_lt_of_cell? _ _ y8
      clear hz hcv x1 x2
      go_wp2
      go_region_law (first
        | (refine step_appI (by rfl) (.tmp 18) (.tmp 23) (by rfl) (w1.heap.size + 1 + 1) (.slice va k vc) (OC.take k) cval wr.drew k HL1.out (World.ownsRow.drew HOW.out) (by omega) (by exact HLW.out) (by rfl) (by rfl) ?_; intro g9 cap9 w2 hown2 hgrow2; obtain ⟨p1, p2, p3, p4⟩ := drop_oneI hnx.drew (by omega) HLW.out (World.ownsRow.drew HOW.out) hgrow2 cv cf))
      all_goals
        have hO2 : ownI (w2.setCell ⟨w1.heap.size + 1, 0, none⟩ (.slice (some ⟨g9, 0, none⟩) (k + 1) cap9)) (w1.heap.size + 1 + 1) (.slice (some ⟨g9, 0, none⟩) (k + 1) cap9) (OC.take (k + 1)) := by
          rw [HT1.out]
          exact ownsRow_setCell_below hown2 (a := ⟨w1.heap.size + 1, 0, none⟩) (by simp) _
        go_wp2
        go_roundw
        case rel => exact ⟨k + 1, some ⟨g9, 0, none⟩, cap9, by omega, by go_num, p1.setCell (by simp) _, World.cell?_setCell_same _ _ _ p2, by simpa using p3, by simpa using p4, hO2⟩
        case measure => simp [intOf]; omega
    · have hkn : k = n11 := by omega
      subst hkn
      have HOI : Hid (intsAt wr va OC) := by have := (ownI_at HOW.out).1; rw [HTE.out] at this; exact this
      have KE2 : Hid (∀ w9, Below wr.heap.size wr w9 → Calls Tryz.prog 73 #[.slice a gn cap, .func (.func 74) #[] #[.pointer (some ⟨w1.heap.size + 1, 0, none⟩), .pointer (some ⟨w.heap.size + 1, 0, none⟩), .pointer (some ⟨w.heap.size, 0, none⟩), .pointer (some ⟨w1.heap.size, 0, none⟩)]] w9 fun e w' => e = .returned (.bool R) ∧ Below w9.heap.size w9 w') := fun w9 h9 => KE.out _ _ _ _ va vc ca cc w9 (hbkw.trans (h9.mono hbkw.size)) (cell_later h9 cv) (cell_later h9 cG) (cell_later h9 c12) (cell_later h9 c5) (intsAt_below HOI.out h9) (intsAt_below HCR.out h9)
      go_wp2_with (go_at_call 73; refine (KE2.out _ (Below.refl _ _)).mono ?_; rintro e w9 ⟨rfl, hb9⟩)
      go_ret
      exact ⟨rfl, hbkw.trans (hb9.mono hbkw.size)⟩
/-- what a right plan has -/
theorem few_ok {p : Pln} (h : planErr p = 0) : (0 < p.left.length ∧ p.left.length ≤ 4) ∧ 0 < p.right.length ∧ p.right.length ≤ 4 := by
  have hm := (planErr_ok h).2.2.1
  exact ⟨⟨hm.1.1.1, hm.1.1.2⟩, hm.1.2.1.1, hm.1.2.1.2⟩
set_option maxRecDepth 100000 in
set_option maxHeartbeats 4000000 in
theorem check_any (p : Pln) (x : PA) (a : Option Addr) (cap : Nat) (xs : List GX) (gs : List Grp) (w : World) (hw : wfPlan p) (hp : planAt w p x) (hgs : gsAt w a xs gs) (hwf : ∀ g ∈ gs, wfG g) (hgl : gs.length ≤ 9223372036854775807) :
    Calls Tryz.prog 9 #[planV p x, .slice a gs.length cap] w fun e w' => e = .returned (.int .i64 (grpsErr p gs)) ∧ Below w.heap.size w w' := by
  have KP : Hid (∀ w1, Below w.heap.size w w1 → Calls Tryz.prog 32 #[planV p x] w1 fun e w' => e = .returned (.int .i64 (planErr p)) ∧ Below w1.heap.size w1 w') := fun w1 hb => planCheck_any p x w1 hw (planAt_below hp hb)
  have KF : Hid (∀ w1, planErr p = 0 → p.grouped = true → Below w.heap.size w w1 → Calls Tryz.prog 33 #[planV p x, .slice a gs.length cap] w1 fun e w' => e = .returned (.bool (allB gs.length (grpB p gs))) ∧ Below w1.heap.size w1 w') := fun w1 h0 hg hb => by
    have hf := few_ok h0
    have hfg := group_few h0 hg
    exact formRight_any p x a cap xs gs w1 (planAt_below hp hb) h0 (hgs.below hb) hwf hgl hf.1.1 hf.2.1 (by omega) (by omega) (by omega) (by omega)
  obtain ⟨R, hR⟩ : ∃ z, grpsErr p gs = z := ⟨_, rfl⟩
  have HR : Hid (grpsErr p gs = R) := hR
  unfold grpsErr at HR
  rw [hR]
  clear hR hw hp hgs hwf
  obtain ⟨AB, hAB⟩ : ∃ z, allB gs.length (grpB p gs) = z := ⟨_, rfl⟩
  rw [hAB] at KF HR
  obtain ⟨E, hE⟩ : ∃ z, planErr p = z := ⟨_, rfl⟩
  rw [hE] at KP KF HR
  obtain ⟨gn, hgn⟩ : ∃ z, gs.length = z := ⟨_, rfl⟩
  rw [hgn] at KF HR hgl ⊢
  clear hAB hE hgn
  obtain ⟨kind, mode, low, high, size, limit, left, right, lkeys, rkeys, grouped, group, aggs⟩ := p
  obtain ⟨la, lc, rr, rc, lk, lkc, rk, rkc, ga, gc, ag, ac⟩ := x
  unfold planV at KP KF ⊢
  dsimp only at KP KF HR ⊢
  obtain ⟨n6, h6⟩ : ∃ n, left.length = n := ⟨_, rfl⟩
  obtain ⟨n7, h7⟩ : ∃ n, right.length = n := ⟨_, rfl⟩
  obtain ⟨n8, h8⟩ : ∃ n, lkeys.length = n := ⟨_, rfl⟩
  obtain ⟨n9, h9⟩ : ∃ n, rkeys.length = n := ⟨_, rfl⟩
  obtain ⟨n11, h11⟩ : ∃ n, group.length = n := ⟨_, rfl⟩
  obtain ⟨n12, h12⟩ : ∃ n, aggs.length = n := ⟨_, rfl⟩
  simp only [h6, h7, h8, h9, h11, h12] at KP KF ⊢
  clear h6 h7 h8 h9 h11 h12
  go_enter Tryz.func9, Tryz.ntmps9
  go_wp2_with fail
  generalize hV : (World.alloc w _) = V
  have hb0 : Below w.heap.size w V := by rw [← hV]; exact (Below.refl _ _).alloc (Nat.le_refl _) _
  have v0 : V.cell? ⟨w.heap.size, 0, none⟩ = some (.int .i64 kind) := by subst hV; go_simp
  have v1 : V.cell? ⟨w.heap.size, 1, none⟩ = some (.int .i64 mode) := by subst hV; go_simp
  have v2 : V.cell? ⟨w.heap.size, 2, none⟩ = some (.int .i64 low) := by subst hV; go_simp
  have v3 : V.cell? ⟨w.heap.size, 3, none⟩ = some (.int .i64 high) := by subst hV; go_simp
  have v4 : V.cell? ⟨w.heap.size, 4, none⟩ = some (.int .i64 size) := by subst hV; go_simp
  have v5 : V.cell? ⟨w.heap.size, 5, none⟩ = some (.int .i64 limit) := by subst hV; go_simp
  have v6 : V.cell? ⟨w.heap.size, 6, none⟩ = some (.slice la n6 lc) := by subst hV; go_simp
  have v7 : V.cell? ⟨w.heap.size, 7, none⟩ = some (.slice rr n7 rc) := by subst hV; go_simp
  have v8 : V.cell? ⟨w.heap.size, 8, none⟩ = some (.slice lk n8 lkc) := by subst hV; go_simp
  have v9 : V.cell? ⟨w.heap.size, 9, none⟩ = some (.slice rk n9 rkc) := by subst hV; go_simp
  have v10 : V.cell? ⟨w.heap.size, 10, none⟩ = some (.bool grouped) := by subst hV; go_simp
  have v11 : V.cell? ⟨w.heap.size, 11, none⟩ = some (.slice ga n11 gc) := by subst hV; go_simp
  have v12 : V.cell? ⟨w.heap.size, 12, none⟩ = some (.slice ag n12 ac) := by subst hV; go_simp
  clear hV
  refine (KP.out _ hb0).mono ?_
  rintro e w1 ⟨rfl, hb1⟩
  have hbw : Below w.heap.size w w1 := hb0.trans (hb1.mono hb0.size)
  replace v0 := cell_later hb1 v0
  replace v1 := cell_later hb1 v1
  replace v2 := cell_later hb1 v2
  replace v3 := cell_later hb1 v3
  replace v4 := cell_later hb1 v4
  replace v5 := cell_later hb1 v5
  replace v6 := cell_later hb1 v6
  replace v7 := cell_later hb1 v7
  replace v8 := cell_later hb1 v8
  replace v9 := cell_later hb1 v9
  replace v10 := cell_later hb1 v10
  replace v11 := cell_later hb1 v11
  replace v12 := cell_later hb1 v12
  clear hb1 hb0 KP
  by_cases h0 : E = 0
  · subst h0
    cases grouped with
    | false =>
      have HE : Hid (1 = R) := by show _ = _; rw [← HR.out]; simp
      go_wp2
      go_ret
      exact ⟨ret_int HE.out, hbw⟩
    | true =>
      by_cases h1 : gn > 4096
      · have HE : Hid (2 = R) := by show _ = _; rw [← HR.out]; simp; omega
        have h1' : (gn : Int) > 4096 := by omega
        go_wp2
        go_ret
        exact ⟨ret_int HE.out, hbw⟩
      · have h1' : ¬ ((gn : Int) > 4096) := by omega
        have KF2 : Hid (∀ w1, Below w.heap.size w w1 → _) := fun w1 hb => KF.out w1 rfl rfl hb
        clear KF
        cases AB with
        | true =>
          have HE : Hid (0 = R) := by show _ = _; rw [← HR.out]; simp; omega
          go_wp2_with (go_at_call 33; refine (KF2.out _ hbw).mono ?_; rintro e w2 ⟨rfl, hb2⟩)
          go_ret
          exact ⟨ret_int HE.out, hbw.trans (hb2.mono hbw.size)⟩
        | false =>
          have HE : Hid (1 = R) := by show _ = _; rw [← HR.out]; simp; omega
          go_wp2_with (go_at_call 33; refine (KF2.out _ hbw).mono ?_; rintro e w2 ⟨rfl, hb2⟩)
          go_ret
          exact ⟨ret_int HE.out, hbw.trans (hb2.mono hbw.size)⟩
  · have h0' : (E != 0) = true := by simpa using h0
    have HE : Hid (E = R) := by show _ = _; rw [← HR.out, if_pos h0]
    go_wp2
    go_ret
    exact ⟨ret_int HE.out, hbw⟩
end Go.Proofs.YtbfbgdinhiglaaaGreat.gr
/- The groups' rows: rows, View. -/
namespace Go.Proofs.YtbfbgdinhiglaaaGreat.gr
open Go.ChangeShapes Go.WideShapes Go.ChangeAt Go.RowKit
open vl pl bt
set_option linter.unusedVariables false
set_option linter.unusedSimpArgs false
attribute [local go_sem] Oper.semAt_some
/-- a row appended to a row of one's own, at a step of a region that draws its order -/
theorem step_row {ops : Array Oper} {o : Oper} {a : Act} {K : Act → World → Prop} {Q : Exit → Act → World → Prop} {E : Prop} (hgd : o.guard = none) (s x : Operand)
    (hop : o.op = .call { callee := .builtin .append, args := #[s, x], argTypes := #[50, 50] })
    (base : Nat) (v : Value) (r0 : List Cel) (ad : Option Addr) (r : List Cel) (n c : Nat) (w1 : World) (hn : r.length = n) (ho : ownV w1 base v r0) (hr : vl.rowAt w1 ad r) (hl : r0.length + n ≤ 1000000) (hb : base ≤ w1.heap.size)
    (hs : a.eval s = v) (hx : a.eval x = .slice ad n c)
    (h : ∀ v' w2, ownV w2 base v' (r0 ++ r) → w1.grownBy w2 v.ownBlock → K (a.put o.dst v') w2) :
    if Region.wanted o (yielded ops a.tmps) = true then Oper.wp Tryz.prog o a w1 K Q else E := by
  subst hn
  have hw : Region.wanted o (yielded ops a.tmps) = true := by simp [Region.wanted, hgd]
  rw [if_pos hw]
  obtain ⟨i0, hi, hz0, hz1, hz2⟩ := info_parts Tryz.infoV
  cases ad with
  | none =>
    have h0 : r = [] := by
      cases r with
      | nil => rfl
      | cons c r =>
        obtain ⟨_, _, e, _⟩ := hr 0 (by simp)
        cases e
    subst h0
    have hrun := ch.run_append_none (w := w1) base 50 o.type 68 i0 3 c Tryz.underlying50 hi v r0.length (celCells r0) ho
    have hx' : a.eval x = .slice none 0 c := hx
    unfold Oper.wp
    simp [execOp, hop, resolve, invoke, builtin, hs, hx', hrun, Result.andThen]
    exact h _ _ (by rw [List.append_nil]; exact ho) (World.grownBy.refl _ _)
  | some ad =>
    refine wp_append_own w1 s x 50 hop base 68 i0 (.agg #[.int .i64 0, .int .i64 0, .string ⟨#[]⟩]) 3 32 Tryz.underlying50 hi hz0 hz1 hz2 rfl (by decide) v r0.length (celCells r0) hs ho ad r.length c (celCells r) hx (by rw [celCells_len]) ?_ (ch.celCells_one r) (by unfold maxLen; omega) (by omega) hb (fun v' w2 h2 h3 h4 => h v' w2 (by
      unfold ownV
      rw [List.length_append, show celCells (r0 ++ r) = celCells r0 ++ celCells r by unfold celCells; rw [List.flatMap_append]]
      exact h2) h3)
    intro j u hu
    have hlen : 0 < r.length := by
      rcases Nat.eq_zero_or_pos r.length with h | h
      · rw [List.length_eq_zero_iff.1 h] at hu; cases hu
      · exact h
    obtain ⟨b, of, e, _⟩ := hr 0 hlen
    cases e
    exact ch.rowAt_cells hr j u hu
/-- one row more, of a view that is being made -/
theorem MV_snoc {w w1 w2 : World} {base g cap rc : Nat} {u : Value} {L : ch.PL} {ad : Option Addr} {r : List Cel} {m : Int} {o : Obj} (h : ch.MV w base u L) (hb : Below w.heap.size w w1) (hr : vl.rowAt w1 ad r) (hnew : ∀ b, (Value.slice ad r.length rc).ownBlock = some b → w.heap.size ≤ b ∧ b < w1.heap.size)
    (hown : w2.ownsRow base 71 2 (.slice (some ⟨g, 0, none⟩) (L.length + 1) cap) (L.length + 1) (ch.flatP (L ++ [(.slice ad r.length rc, ⟨r, m⟩)]))) (hg : (w1.alloc o).grownBy w2 u.ownBlock) (hat : u.ownBlock = some g ∨ g = w1.heap.size + 1) :
    ch.MV w2 base (.slice (some ⟨g, 0, none⟩) (L.length + 1) cap) (L ++ [(.slice ad r.length rc, ⟨r, m⟩)]) ∧ Below base w w2 := by
  have hlow := h.low
  have hs1 := hb.size
  have hs2 : w1.heap.size + 1 ≤ w2.heap.size := by have := hg.size; simpa using this
  have hult : ∀ b, u.ownBlock = some b → base ≤ b ∧ b < w.heap.size := fun b hb => ch.own_lt h.own hb
  have hblk : ∀ b, b < w1.heap.size → u.ownBlock ≠ some b → w2.heap[b]? = w1.heap[b]? := fun b hb1 hne => by
    rw [hg.block b (by simp; omega) (fun e => hne e.symm)]
    exact Below.heap_alloc _ _ b hb1
  refine ⟨⟨by omega, by rw [List.length_append]; exact hown, fun p hp => ?_⟩, ((hb.mono hlow).alloc (by omega) o).grown hg (by simp; omega) (fun b hb1 => (hult b hb1).1)⟩
  rcases List.mem_append.1 hp with hp | hp
  · have h1 := (ch.MV_below h hb).rows p hp
    refine ch.rowOne_keep h1 hblk (by omega) (fun b hb1 hne e => ?_)
    have hbg : g = b := by cases e; rfl
    rcases hat with h5 | h5
    · exact hne (by rw [← hbg]; exact h5)
    · omega
  · rw [List.mem_singleton.1 hp]
    refine ⟨ad, rc, rfl, ?_, fun b hb1 => ?_⟩
    · refine ch.rowAt_block (cap := rc) hr (fun b hb1 hlt => hblk b hlt (fun e => ?_))
      have := (hnew b hb1).1
      have := (hult b e).2
      omega
    · have h1 := hnew b hb1
      refine ⟨fun e => ?_, by omega⟩
      have hbg : g = b := by cases e; rfl
      rcases hat with h5 | h5
      · have := (hult g h5).2; omega
      · omega
theorem step_appVl {ops : Array Oper} {o : Oper} {a : Act} {K : Act → World → Prop} {Q : Exit → Act → World → Prop} {E : Prop} (hgd : o.guard = none) (s x : Operand)
    (hop : o.op = .call { callee := .builtin .append, args := #[s, x], argTypes := #[50, 50] })
    (base : Nat) (v : Value) (r : List Cel) (c : Cel) (w1 : World) (ho : ownV w1 base v r) (hl : r.length ≤ 1000000) (hb : base ≤ w1.heap.size)
    (hs : a.eval s = v) (hx : a.eval x = .slice (some ⟨w1.heap.size, 0, none⟩) 1 1)
    (h : ∀ g cap2 w2, ownV w2 base (.slice (some ⟨g, 0, none⟩) (r ++ [c]).length cap2) (r ++ [c]) → (w1.alloc (.cells #[.int .i64 c.k, .int .i64 c.n, .string c.s] 68)).grownBy w2 v.ownBlock → (v.ownBlock = some g ∨ g = w1.heap.size + 1) → g < w2.heap.size → K (a.put o.dst (.slice (some ⟨g, 0, none⟩) (r.length + 1) cap2)) w2) :
    if Region.wanted o (yielded ops a.tmps) = true then Oper.wp Tryz.prog o a (w1.alloc (.cells #[.int .i64 c.k, .int .i64 c.n, .string c.s] 68)) K Q else E := by
  obtain ⟨i0, hi, hz0, hz1, hz2⟩ := info_parts Tryz.infoV
  refine step_append_lies _ hgd s x 50 hop base 68 i0 (.agg #[.int .i64 0, .int .i64 0, .string ⟨#[]⟩]) 3 32 Tryz.underlying50 hi hz0 hz1 hz2 rfl (by decide) v r.length (celCells r) hs
    (World.ownsRow.alloc ho _) ⟨w1.heap.size, 0, none⟩ 1 1 [.int .i64 c.k, .int .i64 c.n, .string c.s] hx rfl (cell_three_new _ _ _ _ _) (by intro u hu; simp at hu; rcases hu with rfl | rfl | rfl <;> rfl) (by decide) (by unfold maxLen; omega) (by omega) (by simp; omega) (w1.heap.size + 1) (by simp) ?_
  intro g cap2 w2 h2 h3 h4 h5
  refine h g cap2 w2 ?_ h3 h4 h5
  unfold ownV
  rw [List.length_append, celCells_snoc]
  exact h2
theorem flatP_snoc (L : ch.PL) (x : Value) (c : ch.Cnt) : ch.flatP (L ++ [(x, c)]) = ch.flatP L ++ [x, .int .i64 c.n] := by rw [ch.flatP_app]; rfl
theorem farC {w1 w2 : World} {o : Obj} {row : Option Nat} {C off : Nat} {v : Value} (hg : (w1.alloc o).grownBy w2 row) (hc : w1.cell? ⟨C, off, none⟩ = some v) (hne : row ≠ some C) : w2.cell? ⟨C, off, none⟩ = some v := by
  have hlt : C < w1.heap.size := World.block_lt_of_cell? _ _ hc
  have h1 : (w1.alloc o).cell? ⟨C, off, none⟩ = some v := cell_later ((Below.refl _ _).alloc (Nat.le_refl _) o) hc
  exact (World.cell?_of_block (a := ⟨C, off, none⟩) (hg.block C (by simp; omega) (fun e => hne e.symm))).trans h1
/-- the figures of a group, its row -/
def figsG (p : Pln) (g : Grp) : List Cel := (List.range p.aggs.length).map fun j => figT (p.aggs.getD j (0, 0)).1 g.n (g.bags.getD j [])
def rowC (p : Pln) (g : Grp) : ch.Cnt := ⟨g.row ++ figsG p g, 1⟩
theorem figsG_take (p : Pln) (g : Grp) (j : Nat) (h : j < p.aggs.length) : (figsG p g).take (j + 1) = (figsG p g).take j ++ [figT (p.aggs.getD j (0, 0)).1 g.n (g.bags.getD j [])] := by
  unfold figsG
  rw [List.take_succ_eq_append_getElem (by simpa using h)]
  simp
theorem figsG_len (p : Pln) (g : Grp) : (figsG p g).length = p.aggs.length := by unfold figsG; simp
structure okG (p : Pln) (g : Grp) : Prop where
  rl : g.row.length ≤ 8
  bl : g.bags.length = p.aggs.length
  tl : ∀ l ∈ g.bags, l.length ≤ 1073741824
theorem gs_take (l : List Grp) (k : Nat) (h : k < l.length) : l.take (k + 1) = l.take k ++ [l.getD k default] := by
  rw [List.take_succ_eq_append_getElem h, List.getD_eq_getElem?_getD, List.getElem?_eq_getElem h]; rfl
/-- what right groups are -/
theorem tals_len {col : Int} : ∀ (l : List Tal) (r : Int) (q : Option Cel), talsB col r q l = true → (l.length : Int) ≤ r ∨ (l = [] ∧ r = 0)
  | [], r, q, h => by
    right
    exact ⟨rfl, by simpa [talsB] using h⟩
  | t :: l, r, q, h => by
    left
    rw [talsB] at h
    obtain ⟨h1, h2⟩ := (Bool.and_eq_true _ _).mp h
    unfold talB at h1
    simp only [Bool.and_eq_true, decide_eq_true_eq] at h1
    obtain ⟨⟨⟨_, h3⟩, h4⟩, _⟩ := h1
    rcases tals_len l _ _ h2 with h5 | ⟨h5, h6⟩
    · simp only [List.length_cons]; omega
    · rw [h5]; simp; omega
theorem okG_of {p : Pln} {gs : List Grp} (h : grpsErr p gs = 0) : planErr p = 0 ∧ p.grouped = true ∧ gs.length ≤ 4096 ∧ allB gs.length (grpB p gs) = true := by
  unfold grpsErr at h
  by_cases h0 : planErr p ≠ 0
  · rw [if_pos h0] at h; exact absurd h h0
  · rw [if_neg h0] at h
    cases hg : p.grouped with
    | false => rw [if_pos hg] at h; cases h
    | true =>
      rw [if_neg (by rw [hg]; simp)] at h
      by_cases h1 : 4096 < gs.length
      · rw [if_pos h1] at h; cases h
      · rw [if_neg h1] at h
        cases h2 : allB gs.length (grpB p gs) with
        | false => rw [if_pos h2] at h; cases h
        | true => exact ⟨by simpa using h0, rfl, by omega, rfl⟩
theorem okG_each {p : Pln} {gs : List Grp} (h : grpsErr p gs = 0) : ∀ g ∈ gs, okG p g := by
  obtain ⟨h0, hg, hl, ha⟩ := okG_of h
  intro g hm
  obtain ⟨i, hi, rfl⟩ := List.getElem_of_mem hm
  have hb := allB_iff.1 ha i hi
  have e : gs.getD i default = gs[i] := by rw [List.getD_eq_getElem?_getD, List.getElem?_eq_getElem hi]; rfl
  unfold grpB at hb
  rw [e] at hb
  simp only [Bool.and_eq_true, decide_eq_true_eq] at hb
  obtain ⟨⟨⟨⟨hk, ht⟩, hn1, hn2⟩, _⟩, hbb⟩ := hb
  have hr : (gs[i]).row.length ≤ 8 := by
    unfold keyErr at hk
    by_cases h8 : 8 < (gs[i]).row.length
    · rw [if_pos h8] at hk; cases hk
    · omega
  unfold bagsB at hbb
  obtain ⟨hbl, hba⟩ := (Bool.and_eq_true _ _).mp hbb
  refine ⟨hr, by simpa using hbl, fun l hl => ?_⟩
  obtain ⟨j, hj, rfl⟩ := List.getElem_of_mem hl
  have hbj := allB_iff.1 hba j hj
  have e2 : (gs[i]).bags.getD j [] = (gs[i]).bags[j] := by rw [List.getD_eq_getElem?_getD, List.getElem?_eq_getElem hj]; rfl
  rw [e2] at hbj
  unfold bagB at hbj
  split at hbj
  · have : ((gs[i]).bags[j]).length = 0 := by simpa using hbj
    omega
  · rcases tals_len _ _ _ hbj with h5 | ⟨h5, _⟩
    · omega
    · rw [h5]; simp
end Go.Proofs.YtbfbgdinhiglaaaGreat.gr
/- The rows of right groups rise, and are rows. -/
namespace Go.Proofs.YtbfbgdinhiglaaaGreat.gr
open Go.ChangeShapes Go.WideShapes Go.ChangeAt Go.RowKit
open vl pl bt
set_option linter.unusedVariables false
set_option linter.unusedSimpArgs false
theorem cmp_app : ∀ (a b x y : List Cel), a.length = b.length → cmpRows a b < 0 → cmpRows (a ++ x) (b ++ y) < 0
  | [], [], x, y, _, h => by simp [cmpRows] at h
  | [], _ :: _, x, y, hl, _ => by simp at hl
  | _ :: _, [], x, y, hl, _ => by simp at hl
  | a :: r, b :: s, x, y, hl, h => by
    rw [cmpRows] at h
    rw [List.cons_append, List.cons_append, cmpRows]
    by_cases h0 : cmpC a b = 0
    · rw [if_pos h0] at h ⊢
      exact cmp_app r s x y (by simpa using hl) h
    · rw [if_neg h0] at h ⊢
      exact h
/-- a cell that may stand in a row -/
def fineC (c : Cel) : Prop := c.ok ∧ c.wf
theorem fine_none : fineC noCel := by
  refine ⟨?_, ⟨by decide, by decide⟩, ?_⟩
  · show chk 0 0 ⟨#[]⟩ = 0
    decide
  · show 0 ≤ maxLen
    exact Nat.zero_le _
theorem fine_int (n : Int) (h : i64 n) : fineC ⟨2, n, ⟨#[]⟩⟩ := by
  refine ⟨?_, h, ?_⟩
  · show chk 2 n ⟨#[]⟩ = 0
    unfold chk
    rw [if_neg (by omega), if_neg (by rintro (h | h); exact h.1 rfl; exact h.2 rfl), if_neg (by show ¬ 64 < 0; omega)]
  · show 0 ≤ maxLen
    exact Nat.zero_le _
theorem fine_sum (l : List Tal) : ∀ b, fineC b → fineC (l.foldl sumT b) := by
  induction l with
  | nil => exact fun b h => h
  | cons t l ih =>
    intro b h
    refine ih _ ?_
    unfold sumT
    split
    · exact fine_int _ (by unfold wrap64; constructor <;> omega)
    · exact h
theorem fine_out (way : Int) (l : List Tal) : ∀ b, fineC b → (∀ t ∈ l, fineC t.1) → fineC (l.foldl (outT way) b) := by
  induction l with
  | nil => exact fun b h _ => h
  | cons t l ih =>
    intro b h ha
    refine ih _ ?_ (fun t ht => ha t (List.mem_cons_of_mem _ ht))
    unfold outT
    split
    · exact h
    · split
      · exact ha t (List.mem_cons_self ..)
      · exact h
theorem fine_fig (fn n : Int) (l : List Tal) (hn : i64 n) (h : ∀ t ∈ l, fineC t.1) : fineC (figT fn n l) := by
  unfold figT
  split
  · exact fine_int _ hn
  · split
    · exact fine_sum l _ fine_none
    · split
      · exact fine_out _ l _ fine_none h
      · exact fine_out _ l _ fine_none h
theorem tals_fine {col : Int} : ∀ (l : List Tal) (r : Int) (q : Option Cel), talsB col r q l = true → ∀ t ∈ l, chk t.1.k t.1.n t.1.s = 0 ∧ (t.1.k = 0 ∨ t.1.k = col)
  | [], r, q, h => fun t ht => by cases ht
  | u :: l, r, q, h => fun t ht => by
    rw [talsB] at h
    obtain ⟨h1, h2⟩ := (Bool.and_eq_true _ _).mp h
    rcases List.mem_cons.1 ht with e | e
    · subst e
      unfold talB valB at h1
      simp only [Bool.and_eq_true, decide_eq_true_eq, Bool.or_eq_true] at h1
      exact h1.1.1.1
    · exact tals_fine l _ _ h2 t e
/-- what a right group is -/
structure rightG (p : Pln) (g : Grp) : Prop where
  row : rowOk g.row
  rl : g.row.length = p.group.length
  n : 1 ≤ g.n ∧ g.n ≤ 1073741824
  bl : g.bags.length = p.aggs.length
  tl : ∀ j, j < p.aggs.length → ∀ t ∈ g.bags.getD j [], fineC t.1
  sum : ∀ j, j < p.aggs.length → (p.aggs.getD j (0, 0)).1 = 2 → ∀ t ∈ g.bags.getD j [], t.1.k = 0 ∨ t.1.k = 2
theorem right_at {p : Pln} {gs : List Grp} (h : grpsErr p gs = 0) (hwf : ∀ g ∈ gs, wfG g) (i : Nat) (hi : i < gs.length) : rightG p (gs.getD i default) ∧ (0 < i → cmpRows (gs.getD (i - 1) default).row (gs.getD i default).row < 0) := by
  obtain ⟨h0, hg, hl, ha⟩ := okG_of h
  have hb := allB_iff.1 ha i hi
  have hm : gs.getD i default ∈ gs := by rw [List.getD_eq_getElem?_getD, List.getElem?_eq_getElem hi]; exact List.getElem_mem hi
  have hw := hwf _ hm
  obtain ⟨g, hge⟩ : ∃ z, gs.getD i default = z := ⟨_, rfl⟩
  unfold grpB at hb
  rw [hge] at hb hw ⊢
  simp only [Bool.and_eq_true, decide_eq_true_eq, Bool.or_eq_true] at hb
  obtain ⟨⟨⟨⟨hk, ht⟩, hn1, hn2⟩, hcm⟩, hbb⟩ := hb
  unfold bagsB at hbb
  simp only [Bool.and_eq_true, decide_eq_true_eq] at hbb
  obtain ⟨hbl, hba⟩ := hbb
  have hag : ∀ j, j < p.aggs.length → p.aggs.getD j (0, 0) ∈ p.aggs := fun j hj => by rw [List.getD_eq_getElem?_getD, List.getElem?_eq_getElem hj]; exact List.getElem_mem hj
  have hbg : ∀ j, j < p.aggs.length → g.bags.getD j [] ∈ g.bags := fun j hj => by
    have hj2 : j < g.bags.length := by rw [hbl]; exact hj
    rw [List.getD_eq_getElem?_getD, List.getElem?_eq_getElem hj2]; exact List.getElem_mem hj2
  have hbe : ∀ j, j < p.aggs.length → ∀ t ∈ g.bags.getD j [], chk t.1.k t.1.n t.1.s = 0 ∧ (t.1.k = 0 ∨ ((p.aggs.getD j (0, 0)).1 ≠ 1 ∧ t.1.k = (cols p).getD (p.aggs.getD j (0, 0)).2.toNat 0)) := fun j hj t ht => by
    have hbj := allB_iff.1 hba j (by rw [hbl]; exact hj)
    unfold bagB at hbj
    split at hbj
    · have : (g.bags.getD j []).length = 0 := by simpa using hbj
      rw [List.length_eq_zero_iff.1 this] at ht
      cases ht
    · rename_i hne
      have := tals_fine _ _ _ hbj t ht
      exact ⟨this.1, this.2.imp id (fun h => ⟨hne, h⟩)⟩
  refine ⟨⟨ch.vl_rowOk hk hw.row, ?_, ⟨hn1, hn2⟩, hbl, fun j hj t ht => ?_, fun j hj h2 t ht => ?_⟩, fun hp => ?_⟩
  · have : g.row.length = (ownCols p).length := by
      unfold typedB at ht
      simp at ht
      exact ht.1
    rw [this, ownCols_len]
  · exact ⟨(hbe j hj t ht).1, (hw.tl _ (hbg j hj)).2 t ht |>.2.1, ((hw.tl _ (hbg j hj)).2 t ht).1⟩
  · rcases (hbe j hj t ht).2 with h | ⟨_, h⟩
    · exact Or.inl h
    · right
      rw [h]
      have h3 := (planErr_ok h0).2.2.2.2.2.2.2 _ (hag j hj)
      unfold aggOk at h3
      rw [if_neg (by rw [h2]; decide)] at h3
      exact h3.2 h2
  · rcases hcm with h | h
    · omega
    · exact h
theorem rowC_ok {p : Pln} {g : Grp} (h0 : planErr p = 0) (hg : p.grouped = true) (h : rightG p g) : rowOk (g.row ++ figsG p g) := by
  have hf := group_few h0 hg
  refine ⟨by rw [List.length_append, figsG_len, h.rl]; omega, fun c hc => ?_⟩
  rcases List.mem_append.1 hc with hc | hc
  · exact h.row.2 c hc
  · unfold figsG at hc
    obtain ⟨j, hj, rfl⟩ := List.mem_map.1 hc
    exact fine_fig _ _ _ ⟨by have := h.n.1; omega, by have := h.n.2; omega⟩ (h.tl j (List.mem_range.1 hj))
theorem view_right {p : Pln} {gs : List Grp} (h : grpsErr p gs = 0) (hwf : ∀ g ∈ gs, wfG g) : ch.viewOk (gs.map (rowC p)) ∧ ch.wfView (gs.map (rowC p)) := by
  obtain ⟨h0, hg, hl, ha⟩ := okG_of h
  have hat : ∀ i, i < gs.length → (gs.map (rowC p)).getD i default = rowC p (gs.getD i default) := fun i hi => by
    rw [List.getD_eq_getElem?_getD, List.getElem?_map, List.getD_eq_getElem?_getD, List.getElem?_eq_getElem hi]; rfl
  refine ⟨⟨by rw [List.length_map]; exact hl, fun i hi => ?_⟩, fun c hc => ?_⟩
  · rw [List.length_map] at hi
    obtain ⟨hr, hc⟩ := right_at h hwf i hi
    unfold ch.okAt
    rw [hat i hi]
    refine ⟨keyErr_ok (rowC_ok h0 hg hr), by show (1 : Int) ≤ 1; omega, by show (1 : Int) ≤ 1073741824; omega, fun hp => ?_⟩
    rw [hat (i - 1) (by omega)]
    exact cmp_app _ _ _ _ (by rw [hr.rl, (right_at h hwf (i - 1) (by omega)).1.rl]) (hc hp)
  · obtain ⟨g, hm, rfl⟩ := List.mem_map.1 hc
    obtain ⟨i, hi, rfl⟩ := List.getElem_of_mem hm
    have e : gs.getD i default = gs[i] := by rw [List.getD_eq_getElem?_getD, List.getElem?_eq_getElem hi]; rfl
    have hr := (right_at h hwf i hi).1
    rw [e] at hr
    have hok := rowC_ok h0 hg hr
    exact ⟨ch.rowOk_wf hok, by have := hok.1; show (gs[i].row ++ figsG p gs[i]).length ≤ _; omega, by show (-9223372036854775808 : Int) ≤ 1 ∧ (1 : Int) ≤ _; omega⟩
end Go.Proofs.YtbfbgdinhiglaaaGreat.gr
