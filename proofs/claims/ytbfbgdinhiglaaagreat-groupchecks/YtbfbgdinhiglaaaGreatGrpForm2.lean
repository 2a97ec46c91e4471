/- The groups' form: formRight, Check. -/
import Derived.Test.YtbfbgdinhiglaaaGreatGrpForm
import Derived.Test.YtbfbgdinhiglaaaGreatMgBatJ
import Derived.Test.YtbfbgdinhiglaaaGreatMgPlnE
import Derived.Deep.AppendLies
namespace Go.Proofs.YtbfbgdinhiglaaaGreat.gr
open Go.ChangeShapes Go.WideShapes Go.ChangeAt Go.RowKit
open vl pl bt
set_option linter.unusedVariables false
set_option linter.unusedSimpArgs false
attribute [local go_sem] Oper.semAt_some
theorem cell_new1 (w : World) (x : Value) (t : TypeId) (h : x.oneCell' = true) : ∀ j u, [x][j]? = some u → (w.alloc (.cells #[x] t)).cell? ((⟨w.heap.size, 0, none⟩ : Addr).add j) = some u := by
  intro j u hu
  rw [add_off]
  match j, hu with
  | 0, hu => simp at hu; subst hu; go_simp
theorem step_appI {ops : Array Oper} {o : Oper} {a : Act} {K : Act → World → Prop} {Q : Exit → Act → World → Prop} {E : Prop} (hgd : o.guard = none) (s x : Operand)
    (hop : o.op = .call { callee := .builtin .append, args := #[s, x], argTypes := #[22, 22] })
    (base : Nat) (v : Value) (L : List Int) (z : Int) (w1 : World) (ln : Nat) (hln : L.length = ln) (ho : ownI w1 base v L) (hl : ln ≤ 1000000) (hb : base ≤ w1.heap.size)
    (hs : a.eval s = v) (hx : a.eval x = .slice (some ⟨w1.heap.size, 0, none⟩) 1 1)
    (h : ∀ g cap2 w2, ownI w2 base (.slice (some ⟨g, 0, none⟩) (ln + 1) cap2) (L ++ [z]) → (w1.alloc (.cells #[.int .i64 z] 3)).grownBy w2 v.ownBlock → K (a.put o.dst (.slice (some ⟨g, 0, none⟩) (ln + 1) cap2)) w2) :
    if Region.wanted o (yielded ops a.tmps) = true then Oper.wp Tryz.prog o a (w1.alloc (.cells #[.int .i64 z] 3)) K Q else E := by
  obtain ⟨i0, hi, hz0, hz1, hz2⟩ := info_parts Tryz.info3
  unfold ownI at ho
  rw [hln] at ho
  exact step_append_lies _ hgd s x 22 hop base 3 i0 (.int .i64 0) 1 8 Tryz.underlying22 hi hz0 hz1 hz2 rfl (by decide) v ln (L.map intV) hs
    (ho.alloc _) ⟨w1.heap.size, 0, none⟩ 1 1 [.int .i64 z] hx rfl (cell_new1 _ _ _ rfl) (by intro u hu; simp at hu; rcases hu with rfl; rfl) (by decide) (by unfold maxLen; omega) (by omega) (by simp; omega) (w1.heap.size + 1) (by simp) (fun g cap2 w2 h1 h2 h3 h4 => h g cap2 w2 (by
      unfold ownI
      rw [List.map_append, List.length_append, hln]
      exact h1) h2)
theorem drop_oneI {base : Nat} {W0 wr w2 : World} {v u : Value} {r : List Int} {o : Obj} {C : Nat} (hb : Below C W0 wr) (hC : C < base) (hlow : base ≤ wr.heap.size) (hown : ownI wr base v r) (hg : (wr.alloc o).grownBy w2 v.ownBlock) (hc : wr.cell? ⟨C, 0, none⟩ = some u) (hf : wr.frozen? ⟨C, 0, none⟩ = false) :
    Below C W0 w2 ∧ w2.cell? ⟨C, 0, none⟩ = some u ∧ w2.frozen? ⟨C, 0, none⟩ = false ∧ base ≤ w2.heap.size := by
  have hlt : C < wr.heap.size := World.block_lt_of_cell? _ _ hc
  have hb1 : Below (C + 1) wr w2 := ((Below.refl _ _).alloc (by omega) o).grown hg (by simp; omega) (fun k hk => by have := (World.ownsRow.lt hown k hk).1; omega)
  refine ⟨hb.trans (hb1.mono (by omega)), ?_, ?_, ?_⟩
  · rw [hb1.cell (p := ⟨C, 0, none⟩) (by simp)]; exact hc
  · rw [hb1.frozen (p := ⟨C, 0, none⟩) (by simp)]; exact hf
  · have := hg.size; simp at this; omega
theorem ownCols_len (p : Pln) : (ownCols p).length = p.group.length := by unfold ownCols; rw [List.length_map]
theorem ownCols_take (p : Pln) (k : Nat) (h : k < p.group.length) : (ownCols p).take (k + 1) = (ownCols p).take k ++ [(cols p).getD (p.group.getD k 0).toNat 0] := by
  rw [List.take_succ_eq_append_getElem (by rw [ownCols_len]; exact h)]
  unfold ownCols
  simp [List.getD_eq_getElem?_getD, h]
set_option maxRecDepth 100000 in
set_option maxHeartbeats 8000000 in
theorem formRight_any (p : Pln) (x : PA) (a : Option Addr) (cap : Nat) (xs : List GX) (gs : List Grp) (w : World) (hp : planAt w p x) (h0 : planErr p = 0) (hgs : gsAt w a xs gs) (hwf : ∀ g ∈ gs, wfG g) (hgl : gs.length ≤ 9223372036854775807)
    (n1 : 0 < p.left.length) (n2 : 0 < p.right.length) (m1 : p.left.length ≤ 400) (m2 : p.right.length ≤ 400) (mg : p.group.length ≤ 400) (ma : p.aggs.length ≤ 400) :
    Calls Tryz.prog 33 #[planV p x, .slice a gs.length cap] w fun e w' => e = .returned (.bool (allB gs.length (grpB p gs))) ∧ Below w.heap.size w w' := by
  have hcl : (cols p).length ≤ 800 := by unfold cols; rw [List.length_append]; omega
  have KJ : Hid (∀ w1, Below w.heap.size w w1 → Calls Tryz.prog 72 #[planV p x] w1 fun e w' => (∃ ad cap, e = .returned (.slice ad (cols p).length cap) ∧ intsAt w' ad (cols p)) ∧ Below w1.heap.size w1 w') := fun w1 hb =>
    (joined_any p x w1 (planAt_below hp hb) n1 n2 m1 m2).mono (fun e w' ⟨⟨ad, cp, h1, h2⟩, h3⟩ => ⟨⟨ad, cp, h1, (ownI_at h2).1⟩, h3⟩)
  have KE : Hid (∀ O G PB C oa oc ca cc w1, Below w.heap.size w w1 → w1.cell? ⟨O, 0, none⟩ = some (.slice oa (ownCols p).length oc) → w1.cell? ⟨G, 0, none⟩ = some (.slice a gs.length cap) → w1.cell? ⟨PB, 12, none⟩ = some (.slice x.a p.aggs.length x.ac) → w1.cell? ⟨C, 0, none⟩ = some (.slice ca (cols p).length cc) → intsAt w1 oa (ownCols p) → intsAt w1 ca (cols p) →
      Calls Tryz.prog 73 #[.slice a gs.length cap, .func (.func 74) #[] #[.pointer (some ⟨O, 0, none⟩), .pointer (some ⟨G, 0, none⟩), .pointer (some ⟨PB, 0, none⟩), .pointer (some ⟨C, 0, none⟩)]] w1 fun e w' => e = .returned (.bool (allB gs.length (grpB p gs))) ∧ Below w1.heap.size w1 w') := fun O G PB C oa oc ca cc w1 hb1 hO hG hP hC ho hc =>
    everyGrp_any 74 (enters_of Tryz.func74 (by kernel_rfl) rfl) #[.pointer (some ⟨O, 0, none⟩), .pointer (some ⟨G, 0, none⟩), .pointer (some ⟨PB, 0, none⟩), .pointer (some ⟨C, 0, none⟩)] (grpB p gs) a cap xs gs w1 hgl (hgs.below hb1) (fun i w2 hi hb2 => by
      have hb3 := hb1.trans (hb2.mono hb1.size)
      exact form1_any p x i O G PB C oa a ca oc cap cc xs gs w2 (cell_later hb2 hO) (cell_later hb2 hG) (cell_later hb2 hP) (cell_later hb2 hC) (hgs.below hb3) hwf hi hgl (intsAt_below ho hb2) (intsAt_below hc hb2) (aggsAt_below hp.a hb3) (by rw [ownCols_len]; omega) (by omega) (by omega) (fun j hj => by
        have hm : p.aggs.getD j (0, 0) ∈ p.aggs := by rw [List.getD_eq_getElem?_getD, List.getElem?_eq_getElem hj]; exact List.getElem_mem hj
        exact agg_col h0 hm))
  have HG : Hid (∀ k, k < p.group.length → ∃ b o, x.g = some ⟨b, o, none⟩ ∧ w.cell? ⟨b, o + k, none⟩ = some (.int .i64 (p.group.getD k 0)) ∧ 0 ≤ p.group.getD k 0 ∧ (p.group.getD k 0).toNat < (cols p).length) := fun k hk => by
    obtain ⟨b, o, e, y⟩ := hp.g k hk
    have hm : p.group.getD k 0 ∈ p.group := by rw [List.getD_eq_getElem?_getD, List.getElem?_eq_getElem hk]; exact List.getElem_mem hk
    have := group_in h0 _ hm
    exact ⟨b, o, e, y, this.1, by omega⟩
  have HT : Hid (∀ k, k < p.group.length → (ownCols p).take (k + 1) = (ownCols p).take k ++ [(cols p).getD (p.group.getD k 0).toNat 0]) := fun k hk => ownCols_take p k hk
  have HTL : Hid (∀ k, k ≤ p.group.length → ((ownCols p).take k).length = k) := fun k hk => by show _ = _; rw [List.length_take, ownCols_len]; omega
  have HTE : Hid ((ownCols p).take p.group.length = ownCols p) := by show _ = _; rw [← ownCols_len, List.take_length]
  have HOL : Hid ((ownCols p).length = p.group.length) := ownCols_len p
  obtain ⟨R, hR⟩ : ∃ z, allB gs.length (grpB p gs) = z := ⟨_, rfl⟩
  rw [hR] at KE ⊢
  obtain ⟨OC, hOC⟩ : ∃ z, ownCols p = z := ⟨_, rfl⟩
  obtain ⟨CO, hCO⟩ : ∃ z, cols p = z := ⟨_, rfl⟩
  rw [hOC] at KE HT HTL HTE HOL
  rw [hCO] at KJ KE HG HT hcl
  obtain ⟨gn, hgn⟩ : ∃ z, gs.length = z := ⟨_, rfl⟩
  rw [hgn] at KE ⊢
  clear hR hOC hCO hgn hp h0 hgs hwf hgl n1 n2 m1 m2
  obtain ⟨kind, mode, low, high, size, limit, left, right, lkeys, rkeys, grouped, group, aggs⟩ := p
  obtain ⟨la, lc, rr, rc, lk, lkc, rk, rkc, ga, gc, ag, ac⟩ := x
  unfold planV at KJ ⊢
  dsimp only at KJ KE HG HT HTL HTE HOL mg ma ⊢
  obtain ⟨n6, h6⟩ : ∃ n, left.length = n := ⟨_, rfl⟩
  obtain ⟨n7, h7⟩ : ∃ n, right.length = n := ⟨_, rfl⟩
  obtain ⟨n8, h8⟩ : ∃ n, lkeys.length = n := ⟨_, rfl⟩
  obtain ⟨n9, h9⟩ : ∃ n, rkeys.length = n := ⟨_, rfl⟩
  obtain ⟨n11, h11⟩ : ∃ n, group.length = n := ⟨_, rfl⟩
  obtain ⟨n12, h12⟩ : ∃ n, aggs.length = n := ⟨_, rfl⟩
  simp only [h6, h7, h8, h9, h11, h12] at KJ KE HG HT HTL HTE HOL mg ma ⊢
  clear h6 h7 h8 h9 h11 h12
  obtain ⟨cn, hcn⟩ : ∃ z, CO.length = z := ⟨_, rfl⟩
  have HCN : Hid (CO.length = cn) := hcn
  rw [hcn] at KJ KE HG hcl
  rw [HOL.out] at KE
  clear hcn
  go_enter Tryz.func33, Tryz.ntmps33
  go_wp2_with fail
  generalize hV : ((World.alloc w _).alloc _) = V
  have hb0 : Below w.heap.size w V := by rw [← hV]; exact ((Below.refl _ _).alloc (Nat.le_refl _) _).alloc (by simp) _
  have v11 : V.cell? ⟨w.heap.size, 11, none⟩ = some (.slice ga n11 gc) := by subst hV; go_simp
  have v12 : V.cell? ⟨w.heap.size, 12, none⟩ = some (.slice ag n12 ac) := by subst hV; go_simp
  have vG : V.cell? ⟨w.heap.size + 1, 0, none⟩ = some (.slice a gn cap) := by subst hV; go_simp
  clear hV
  refine (KJ.out _ hb0).mono ?_
  rintro e w1 ⟨⟨ca, cc, rfl, hca⟩, hb1⟩
  have HCA : Hid (intsAt w1 ca CO) := hca
  have hbw : Below w.heap.size w w1 := hb0.trans (hb1.mono hb0.size)
  have w11 := cell_later hb1 v11
  have w12 := cell_later hb1 v12
  have wG := cell_later hb1 vG
  have lw1 : w.heap.size + 1 < w1.heap.size := World.block_lt_of_cell? _ _ wG
  have lw0 : w.heap.size < w1.heap.size := by omega
  clear hca hb1 v11 v12 vG hb0
  go_wp2
  generalize hW : ((World.alloc w1 _).alloc _) = W0
  have hb2 : Below w1.heap.size w1 W0 := by rw [← hW]; exact ((Below.refl _ _).alloc (Nat.le_refl _) _).alloc (by simp) _
  have hs2 : W0.heap.size = w1.heap.size + 1 + 1 := by rw [← hW]; simp
  have b5 : W0.cell? ⟨w1.heap.size, 0, none⟩ = some (.slice ca cn cc) := by subst hW; go_simp
  have b6 : W0.cell? ⟨w1.heap.size + 1, 0, none⟩ = some (.slice none 0 0) := by subst hW; go_simp
  have f6 : W0.frozen? ⟨w1.heap.size + 1, 0, none⟩ = false := by subst hW; go_simp
  have w11' := cell_later hb2 w11
  have w12' := cell_later hb2 w12
  have wG' := cell_later hb2 wG
  have HS2 : Hid (W0.heap.size = w1.heap.size + 1 + 1) := hs2
  have HB2 : Hid (Below w1.heap.size w1 W0) := hb2
  clear hW w11 w12 wG hs2 hb2
  go_loopw [14] (fun t wr => ∃ k va vc, k ≤ n11 ∧ t = .int .i64 (k : Nat) ∧ Below (w1.heap.size + 1) W0 wr ∧ wr.cell? ⟨w1.heap.size + 1, 0, none⟩ = some (.slice va k vc) ∧ wr.frozen? ⟨w1.heap.size + 1, 0, none⟩ = false ∧ w1.heap.size + 1 + 1 ≤ wr.heap.size ∧ ownI wr (w1.heap.size + 1 + 1) (.slice va k vc) (OC.take k)) (fun t _ => n11 - (intOf t).toNat)
  case atStart => exact ⟨0, none, 0, Nat.zero_le _, rfl, Below.refl _ _, b6, f6, by rw [HS2.out]; exact Nat.le_refl _, World.ownsRow_nil _ _ _ _⟩
  case round =>
    obtain ⟨k, va, vc, hk, rfl, hnx, cv, cf, hlow, hown⟩ := hrel
    have HOW : Hid (ownI wr (w1.heap.size + 1 + 1) (.slice va k vc) (OC.take k)) := hown
    have HLW : Hid (w1.heap.size + 1 + 1 ≤ wr.heap.size) := hlow
    have lB : w1.heap.size + 1 < wr.heap.size := World.block_lt_of_cell? _ _ cv
    have hbk : Below w1.heap.size w1 wr := HB2.out.trans (hnx.mono (by omega))
    have hbkw : Below w.heap.size w wr := hbw.trans (hbk.mono hbw.size)
    have c5 : wr.cell? ⟨w1.heap.size, 0, none⟩ = some (.slice ca cn cc) := by rw [hnx.cell (p := ⟨w1.heap.size, 0, none⟩) (by simp)]; exact b5
    have c11 : wr.cell? ⟨w.heap.size, 11, none⟩ = some (.slice ga n11 gc) := by rw [hnx.cell (p := ⟨w.heap.size, 11, none⟩) (by simp; omega)]; exact w11'
    have c12 : wr.cell? ⟨w.heap.size, 12, none⟩ = some (.slice ag n12 ac) := by rw [hnx.cell (p := ⟨w.heap.size, 12, none⟩) (by simp; omega)]; exact w12'
    have cG : wr.cell? ⟨w.heap.size + 1, 0, none⟩ = some (.slice a gn cap) := by rw [hnx.cell (p := ⟨w.heap.size + 1, 0, none⟩) (by simp; omega)]; exact wG'
    have HCR : Hid (intsAt wr ca CO) := intsAt_below HCA.out hbk
    clear hown hlow
    by_cases hlt : k < n11
    · obtain ⟨b, o, e, x1, x2, x3⟩ := HG.out k hlt
      have HT1 : Hid (OC.take (k + 1) = OC.take k ++ [CO.getD (group.getD k 0).toNat 0]) := HT.out k hlt
      have HL1 : Hid ((OC.take k).length = k) := HTL.out k hk
      obtain ⟨z, hz⟩ : ∃ z, group.getD k 0 = z := ⟨_, rfl⟩
      rw [hz] at x1 x2 x3 HT1
      obtain ⟨zn, rfl⟩ := Int.eq_ofNat_of_zero_le x2
      simp only [Int.toNat_natCast] at x3 HT1
      obtain ⟨b8, o8, e8, y8⟩ := HCR.out zn (by rw [HCN.out]; omega)
      obtain ⟨cval, hcv⟩ : ∃ z, CO.getD zn 0 = z := ⟨_, rfl⟩
      rw [hcv] at y8 HT1
      subst e
      subst e8
      have q1 := cell_later hbkw x1
      have i1 : (0 : Int) ≤ (k : Int) := by omega
      have i2 : (k : Int) < (n11 : Int) := by omega
      have j1 : (0 : Int) ≤ (zn : Int) := by omega
      have j2 : (zn : Int) < (cn : Int) := by omega
      have lb8 : b8 < wr.heap.size := World.block_lt_of_cell? _ _ y8
      clear hz hcv x1 x2
      go_wp2
      go_region_law (first
        | (refine step_appI (by rfl) (.tmp 18) (.tmp 23) (by rfl) (w1.heap.size + 1 + 1) (.slice va k vc) (OC.take k) cval wr.drew k HL1.out (World.ownsRow.drew HOW.out) (by omega) (by exact HLW.out) (by rfl) (by rfl) ?_; intro g9 cap9 w2 hown2 hgrow2; obtain ⟨p1, p2, p3, p4⟩ := drop_oneI hnx.drew (by omega) HLW.out (World.ownsRow.drew HOW.out) hgrow2 cv cf))
      all_goals
        have hO2 : ownI (w2.setCell ⟨w1.heap.size + 1, 0, none⟩ (.slice (some ⟨g9, 0, none⟩) (k + 1) cap9)) (w1.heap.size + 1 + 1) (.slice (some ⟨g9, 0, none⟩) (k + 1) cap9) (OC.take (k + 1)) := by
          rw [HT1.out]
          exact ownsRow_setCell_below hown2 (a := ⟨w1.heap.size + 1, 0, none⟩) (by simp) _
        go_wp2
        go_roundw
        case rel => exact ⟨k + 1, some ⟨g9, 0, none⟩, cap9, by omega, by go_num, p1.setCell (by simp) _, World.cell?_setCell_same _ _ _ p2, by simpa using p3, by simpa using p4, hO2⟩
        case measure => simp [intOf]; omega
    · have hkn : k = n11 := by omega
      subst hkn
      have HOI : Hid (intsAt wr va OC) := by have := (ownI_at HOW.out).1; rw [HTE.out] at this; exact this
      have KE2 : Hid (∀ w9, Below wr.heap.size wr w9 → Calls Tryz.prog 73 #[.slice a gn cap, .func (.func 74) #[] #[.pointer (some ⟨w1.heap.size + 1, 0, none⟩), .pointer (some ⟨w.heap.size + 1, 0, none⟩), .pointer (some ⟨w.heap.size, 0, none⟩), .pointer (some ⟨w1.heap.size, 0, none⟩)]] w9 fun e w' => e = .returned (.bool R) ∧ Below w9.heap.size w9 w') := fun w9 h9 => KE.out _ _ _ _ va vc ca cc w9 (hbkw.trans (h9.mono hbkw.size)) (cell_later h9 cv) (cell_later h9 cG) (cell_later h9 c12) (cell_later h9 c5) (intsAt_below HOI.out h9) (intsAt_below HCR.out h9)
      go_wp2_with (go_at_call 73; refine (KE2.out _ (Below.refl _ _)).mono ?_; rintro e w9 ⟨rfl, hb9⟩)
      go_ret
      exact ⟨rfl, hbkw.trans (hb9.mono hbkw.size)⟩
/-- what a right plan has -/
theorem few_ok {p : Pln} (h : planErr p = 0) : (0 < p.left.length ∧ p.left.length ≤ 4) ∧ 0 < p.right.length ∧ p.right.length ≤ 4 := by
  have hm := (planErr_ok h).2.2.1
  exact ⟨⟨hm.1.1.1, hm.1.1.2⟩, hm.1.2.1.1, hm.1.2.1.2⟩
set_option maxRecDepth 100000 in
set_option maxHeartbeats 4000000 in
theorem check_any (p : Pln) (x : PA) (a : Option Addr) (cap : Nat) (xs : List GX) (gs : List Grp) (w : World) (hw : wfPlan p) (hp : planAt w p x) (hgs : gsAt w a xs gs) (hwf : ∀ g ∈ gs, wfG g) (hgl : gs.length ≤ 9223372036854775807) :
    Calls Tryz.prog 9 #[planV p x, .slice a gs.length cap] w fun e w' => e = .returned (.int .i64 (grpsErr p gs)) ∧ Below w.heap.size w w' := by
  have KP : Hid (∀ w1, Below w.heap.size w w1 → Calls Tryz.prog 32 #[planV p x] w1 fun e w' => e = .returned (.int .i64 (planErr p)) ∧ Below w1.heap.size w1 w') := fun w1 hb => planCheck_any p x w1 hw (planAt_below hp hb)
  have KF : Hid (∀ w1, planErr p = 0 → p.grouped = true → Below w.heap.size w w1 → Calls Tryz.prog 33 #[planV p x, .slice a gs.length cap] w1 fun e w' => e = .returned (.bool (allB gs.length (grpB p gs))) ∧ Below w1.heap.size w1 w') := fun w1 h0 hg hb => by
    have hf := few_ok h0
    have hfg := group_few h0 hg
    exact formRight_any p x a cap xs gs w1 (planAt_below hp hb) h0 (hgs.below hb) hwf hgl hf.1.1 hf.2.1 (by omega) (by omega) (by omega) (by omega)
  obtain ⟨R, hR⟩ : ∃ z, grpsErr p gs = z := ⟨_, rfl⟩
  have HR : Hid (grpsErr p gs = R) := hR
  unfold grpsErr at HR
  rw [hR]
  clear hR hw hp hgs hwf
  obtain ⟨AB, hAB⟩ : ∃ z, allB gs.length (grpB p gs) = z := ⟨_, rfl⟩
  rw [hAB] at KF HR
  obtain ⟨E, hE⟩ : ∃ z, planErr p = z := ⟨_, rfl⟩
  rw [hE] at KP KF HR
  obtain ⟨gn, hgn⟩ : ∃ z, gs.length = z := ⟨_, rfl⟩
  rw [hgn] at KF HR hgl ⊢
  clear hAB hE hgn
  obtain ⟨kind, mode, low, high, size, limit, left, right, lkeys, rkeys, grouped, group, aggs⟩ := p
  obtain ⟨la, lc, rr, rc, lk, lkc, rk, rkc, ga, gc, ag, ac⟩ := x
  unfold planV at KP KF ⊢
  dsimp only at KP KF HR ⊢
  obtain ⟨n6, h6⟩ : ∃ n, left.length = n := ⟨_, rfl⟩
  obtain ⟨n7, h7⟩ : ∃ n, right.length = n := ⟨_, rfl⟩
  obtain ⟨n8, h8⟩ : ∃ n, lkeys.length = n := ⟨_, rfl⟩
  obtain ⟨n9, h9⟩ : ∃ n, rkeys.length = n := ⟨_, rfl⟩
  obtain ⟨n11, h11⟩ : ∃ n, group.length = n := ⟨_, rfl⟩
  obtain ⟨n12, h12⟩ : ∃ n, aggs.length = n := ⟨_, rfl⟩
  simp only [h6, h7, h8, h9, h11, h12] at KP KF ⊢
  clear h6 h7 h8 h9 h11 h12
  go_enter Tryz.func9, Tryz.ntmps9
  go_wp2_with fail
  generalize hV : (World.alloc w _) = V
  have hb0 : Below w.heap.size w V := by rw [← hV]; exact (Below.refl _ _).alloc (Nat.le_refl _) _
  have v0 : V.cell? ⟨w.heap.size, 0, none⟩ = some (.int .i64 kind) := by subst hV; go_simp
  have v1 : V.cell? ⟨w.heap.size, 1, none⟩ = some (.int .i64 mode) := by subst hV; go_simp
  have v2 : V.cell? ⟨w.heap.size, 2, none⟩ = some (.int .i64 low) := by subst hV; go_simp
  have v3 : V.cell? ⟨w.heap.size, 3, none⟩ = some (.int .i64 high) := by subst hV; go_simp
  have v4 : V.cell? ⟨w.heap.size, 4, none⟩ = some (.int .i64 size) := by subst hV; go_simp
  have v5 : V.cell? ⟨w.heap.size, 5, none⟩ = some (.int .i64 limit) := by subst hV; go_simp
  have v6 : V.cell? ⟨w.heap.size, 6, none⟩ = some (.slice la n6 lc) := by subst hV; go_simp
  have v7 : V.cell? ⟨w.heap.size, 7, none⟩ = some (.slice rr n7 rc) := by subst hV; go_simp
  have v8 : V.cell? ⟨w.heap.size, 8, none⟩ = some (.slice lk n8 lkc) := by subst hV; go_simp
  have v9 : V.cell? ⟨w.heap.size, 9, none⟩ = some (.slice rk n9 rkc) := by subst hV; go_simp
  have v10 : V.cell? ⟨w.heap.size, 10, none⟩ = some (.bool grouped) := by subst hV; go_simp
  have v11 : V.cell? ⟨w.heap.size, 11, none⟩ = some (.slice ga n11 gc) := by subst hV; go_simp
  have v12 : V.cell? ⟨w.heap.size, 12, none⟩ = some (.slice ag n12 ac) := by subst hV; go_simp
  clear hV
  refine (KP.out _ hb0).mono ?_
  rintro e w1 ⟨rfl, hb1⟩
  have hbw : Below w.heap.size w w1 := hb0.trans (hb1.mono hb0.size)
  replace v0 := cell_later hb1 v0
  replace v1 := cell_later hb1 v1
  replace v2 := cell_later hb1 v2
  replace v3 := cell_later hb1 v3
  replace v4 := cell_later hb1 v4
  replace v5 := cell_later hb1 v5
  replace v6 := cell_later hb1 v6
  replace v7 := cell_later hb1 v7
  replace v8 := cell_later hb1 v8
  replace v9 := cell_later hb1 v9
  replace v10 := cell_later hb1 v10
  replace v11 := cell_later hb1 v11
  replace v12 := cell_later hb1 v12
  clear hb1 hb0 KP
  by_cases h0 : E = 0
  · subst h0
    cases grouped with
    | false =>
      have HE : Hid (1 = R) := by show _ = _; rw [← HR.out]; simp
      go_wp2
      go_ret
      exact ⟨ret_int HE.out, hbw⟩
    | true =>
      by_cases h1 : gn > 4096
      · have HE : Hid (2 = R) := by show _ = _; rw [← HR.out]; simp; omega
        have h1' : (gn : Int) > 4096 := by omega
        go_wp2
        go_ret
        exact ⟨ret_int HE.out, hbw⟩
      · have h1' : ¬ ((gn : Int) > 4096) := by omega
        have KF2 : Hid (∀ w1, Below w.heap.size w w1 → _) := fun w1 hb => KF.out w1 rfl rfl hb
        clear KF
        cases AB with
        | true =>
          have HE : Hid (0 = R) := by show _ = _; rw [← HR.out]; simp; omega
          go_wp2_with (go_at_call 33; refine (KF2.out _ hbw).mono ?_; rintro e w2 ⟨rfl, hb2⟩)
          go_ret
          exact ⟨ret_int HE.out, hbw.trans (hb2.mono hbw.size)⟩
        | false =>
          have HE : Hid (1 = R) := by show _ = _; rw [← HR.out]; simp; omega
          go_wp2_with (go_at_call 33; refine (KF2.out _ hbw).mono ?_; rintro e w2 ⟨rfl, hb2⟩)
          go_ret
          exact ⟨ret_int HE.out, hbw.trans (hb2.mono hbw.size)⟩
  · have h0' : (E != 0) = true := by simpa using h0
    have HE : Hid (E = R) := by show _ = _; rw [← HR.out, if_pos h0]
    go_wp2
    go_ret
    exact ⟨ret_int HE.out, hbw⟩
end Go.Proofs.YtbfbgdinhiglaaaGreat.gr
