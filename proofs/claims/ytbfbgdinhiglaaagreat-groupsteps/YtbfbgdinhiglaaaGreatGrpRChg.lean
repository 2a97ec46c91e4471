import Derived.Test.YtbfbgdinhiglaaaGreatGrpRChg1
import Derived.Test.YtbfbgdinhiglaaaGreatMgValA
namespace Go.Proofs.YtbfbgdinhiglaaaGreat.gr
open Go.ChangeShapes Go.WideShapes Go.ChangeAt Go.RowKit
open vl pl bt
set_option linter.unusedVariables false
set_option linter.unusedSimpArgs false
attribute [local go_sem] Oper.semAt_some
theorem row_any (p : Pln) (x : PA) (a : Option Addr) (xs : List GX) (gs : List Grp) (w : World) (hp : planAt w p x) (hgs : gsAt w a xs gs) (h : grpsErr p gs = 0) (hwf : ∀ g ∈ gs, wfG g) : ∀ i, i < gs.length → ∀ w1, Below w.heap.size w w1 → Calls Tryz.prog 36 #[planV p x, grpV (xs.getD i default) (gs.getD i default)] w1 fun e w' => (∃ ad c, e = .returned (.slice ad (rowC p (gs.getD i default)).r.length c) ∧ ownV w' w1.heap.size (.slice ad (rowC p (gs.getD i default)).r.length c) (rowC p (gs.getD i default)).r) ∧ Below w1.heap.size w1 w' := fun i hi w1 hb => by
 obtain ⟨h0, hg, hl, ha⟩ := okG_of h
 have hf := group_few h0 hg
 exact rowOf_any p x _ _ w1 (planAt_below hp hb) ((hgs.each i hi).below hb) (okG_each h _ (getD_mm hi)) (by omega) (fun j hj => (agg_in h0 (by rw [List.getD_eq_getElem?_getD, List.getElem?_eq_getElem hj]; exact List.getElem_mem hj) hg).1) (right_at h hwf i hi).1.sum
theorem row_eq (p : Pln) (gs : List Grp) (h : grpsErr p gs = 0) (hwf : ∀ g ∈ gs, wfG g) : ∀ g ∈ gs, g.row.length = p.group.length := fun g hm => row_len ((gs_right h hwf).each g hm).1
set_option maxRecDepth 100000 in
set_option maxHeartbeats 16000000 in
theorem rchanged_any (p : Pln) (x : PA) (a1 a2 : Option Addr) (c1 c2 : Nat) (xs xs2 : List GX) (gs gs2 : List Grp) (w : World) (hp : planAt w p x) (h1 : gsAt w a1 xs gs) (h2 : gsAt w a2 xs2 gs2) (e1 : grpsErr p gs = 0) (e2 : grpsErr p gs2 = 0) (hwf1 : ∀ g ∈ gs, wfG g) (hwf2 : ∀ g ∈ gs2, wfG g) :
 Calls Tryz.prog 44 #[planV p x, .slice a1 gs.length c1, .slice a2 gs2.length c2] w fun e w' => toldOut (toldR p.group.length (gs.map fun g => (rowC p g).r) (gs2.map fun g => (rowC p g).r)) e w' ∧ Below w.heap.size w w' := by
 have hl1 := (okG_of e1).2.2.1
 have hl2 := (okG_of e2).2.2.1
 have hf := group_few (okG_of e1).1 (okG_of e1).2.1
 have HR1 := row_eq p gs e1 hwf1
 have HR2 := row_eq p gs2 e2 hwf2
 have KA : Hid _ := row_any p x a1 xs gs w hp h1 e1 hwf1
 have KB : Hid _ := row_any p x a2 xs2 gs2 w hp h2 e2 hwf2
 have KC : Hid (∀ i k, i < gs.length → k < gs2.length → ∀ w1, Below w.heap.size w w1 → Calls Tryz.prog 26 #[.slice (xs.getD i default).r (gs.getD i default).row.length (xs.getD i default).rc, .slice (xs2.getD k default).r (gs2.getD k default).row.length (xs2.getD k default).rc] w1 fun e w' => e = .returned (.int .i64 (cmpRows (gs.getD i default).row (gs2.getD k default).row)) ∧ Below w1.heap.size w1 w') := fun i k hi hk w1 hb => vl.rrows_any _ _ _ _ _ _ w1 (vl.rowAt_below (h1.each i hi).row hb) (vl.rowAt_below (h2.each k hk).row hb) (by rw [HR1 _ (getD_mm hi)]; omega) (by rw [HR2 _ (getD_mm hk)]; omega)
 have HRL : Hid (∀ i, i < gs.length → (rowC p (gs.getD i default)).r.length ≤ 8) := fun i hi => by
  show (_ ++ figsG p _).length ≤ 8
  rw [List.length_append, figsG_len, HR1 _ (getD_mm hi)]; omega
 have HRL2 : Hid (∀ i, i < gs2.length → (rowC p (gs2.getD i default)).r.length ≤ 8) := fun i hi => by
  show (_ ++ figsG p _).length ≤ 8
  rw [List.length_append, figsG_len, HR2 _ (getD_mm hi)]; omega
 have T1 : Hid (∀ i k, i ≤ gs.length → k ≤ gs2.length → firstG gs gs2 i k < 0 → _) := fun i k hi hk h => told_less HR1 HR2 hi hk h
 have T2 : Hid (∀ i k, i ≤ gs.length → k ≤ gs2.length → (i < gs.length ∨ k < gs2.length) → 0 < firstG gs gs2 i k → _) := fun i k hi hk hik h => told_more HR1 HR2 hi hk hik h
 have T3 : Hid (∀ i k, i ≤ gs.length → k ≤ gs2.length → firstG gs gs2 i k = 0 → _) := fun i k hi hk h => told_same HR1 HR2 hi hk h
 have HF : Hid (∀ i k, firstG gs gs2 i k = if i = gs.length then 1 else if k = gs2.length then -1 else cmpRows (gs.getD i default).row (gs2.getD k default).row) := fun i k => rfl
 have G1 : Hid (∀ i, i < gs.length → ∃ b o, a1 = some ⟨b, o, none⟩ ∧ w.cell? ⟨b, o + i * 3, none⟩ = some (.slice (xs.getD i default).r (gs.getD i default).row.length (xs.getD i default).rc) ∧ w.cell? ⟨b, o + i * 3 + 1, none⟩ = some (.int .i64 (gs.getD i default).n) ∧ w.cell? ⟨b, o + i * 3 + 1 + 1, none⟩ = some (.slice (xs.getD i default).b (gs.getD i default).bags.length (xs.getD i default).bc)) := h1.cells
 have G2 : Hid (∀ i, i < gs2.length → ∃ b o, a2 = some ⟨b, o, none⟩ ∧ w.cell? ⟨b, o + i * 3, none⟩ = some (.slice (xs2.getD i default).r (gs2.getD i default).row.length (xs2.getD i default).rc) ∧ w.cell? ⟨b, o + i * 3 + 1, none⟩ = some (.int .i64 (gs2.getD i default).n) ∧ w.cell? ⟨b, o + i * 3 + 1 + 1, none⟩ = some (.slice (xs2.getD i default).b (gs2.getD i default).bags.length (xs2.getD i default).bc)) := h2.cells
 obtain ⟨T, hT⟩ : ∃ z, toldR p.group.length (gs.map fun g => (rowC p g).r) (gs2.map fun g => (rowC p g).r) = z := ⟨_, rfl⟩
 have HT0 : Hid (toldR p.group.length ((gs.drop 0).map fun g => (rowC p g).r) ((gs2.drop 0).map fun g => (rowC p g).r) = T) := hT
 rw [hT]
 obtain ⟨n1, hn1⟩ : ∃ z, gs.length = z := ⟨_, rfl⟩
 obtain ⟨n2, hn2⟩ : ∃ z, gs2.length = z := ⟨_, rfl⟩
 have HN : Hid (gs.length = n1 ∧ gs2.length = n2) := ⟨hn1, hn2⟩
 rw [hn1] at KA KC HRL T1 T2 T3 HF G1 hl1 ⊢
 rw [hn2] at KB KC HRL2 T1 T2 T3 HF G2 hl2 ⊢
 clear hp h1 h2 e1 e2 hwf1 hwf2 HR1 HR2 hf hT hn1 hn2
 unfold planV grpV at KA KB
 unfold planV
 go_enter Tryz.func44, Tryz.ntmps44
 go_upto_block 0 with fail
 generalize hV : (World.alloc w _) = V
 have hbV : Below w.heap.size w V := by rw [← hV]; exact bR.alloc nR _
 have HB : Hid (boxP V w.heap.size p x) := by subst hV; exact box_new ..
 clear hV
 go_wp2_with fail
 go_loopw [7, 8, 9] (fun o ti tk wr => ∃ (i k : Nat) (L : List CO), i ≤ n1 ∧ k ≤ n2 ∧ ti = .int .i64 i ∧ tk = .int .i64 k ∧ Hid (CG wr V.heap.size o L) ∧ Hid (L.map CO.chg ++ toldR p.group.length ((gs.drop i).map fun g => (rowC p g).r) ((gs2.drop k).map fun g => (rowC p g).r) = T) ∧ L.length ≤ i + k ∧ Below V.heap.size V wr) (fun _ ti tk _ => (n1 - (intOf ti).toNat) + (n2 - (intOf tk).toNat))
 case atStart => exact ⟨0, 0, [], Nat.zero_le _, Nat.zero_le _, rfl, rfl, CG.start nR, HT0.out, Nat.le_refl _, bR⟩
 case round =>
  obtain ⟨i, k, L, hi, hk, rfl, rfl, HCG, HTT, hLl, hbr⟩ := hrel
  have hbw : Below w.heap.size w wr := hbV.trans (hbr.mono hbV.size)
  have HBr : Hid (boxP wr w.heap.size p x) := box_later HB.out hbr
  by_cases hik : i < n1 ∨ k < n2
  ·obtain ⟨C, hC⟩ : ∃ z, firstG gs gs2 i k = z := ⟨_, rfl⟩
   have HC : Hid (firstG gs gs2 i k = C) := hC
   clear hC
   have i1 : (0 : Int) ≤ (i : Int) := by omega
   have k1 : (0 : Int) ≤ (k : Int) := by omega
   go_upto_region 3 with fail
   go_cut [22] (fun b wc => b = .bool true ∧ wc = wr)
   case first =>
    by_cases hin : i < n1
    ·go_wp2
     go_meet
     exact ⟨rfl, rfl⟩
    ·have hkn : k < n2 := by omega
     go_wp2
     go_meet
     exact ⟨rfl, rfl⟩
   case rest =>
    obtain ⟨rfl, hw4⟩ := hcut
    subst hw4
    rename World => wr
    go_upto_block 2 with fail
    go_cut [10] (fun c wc => c = .int .i64 C ∧ Below wr.heap.size wr wc)
    case first =>
     by_cases hin : i = n1
     ·have e1 : ((i : Int) == (n1 : Int)) = true := by simp [hin]
      have HX : Hid (C = 1) := by show _ = _; rw [← HC.out, HF.out, if_pos hin]
      clear hin
      go_wp2
      go_meet
      exact ⟨by rw [HX.out], bR⟩
     ·have e1 : ((i : Int) == (n1 : Int)) = false := by simp; omega
      by_cases hkn : k = n2
      ·have e2 : ((k : Int) == (n2 : Int)) = true := by simp [hkn]
       have HX : Hid (C = -1) := by show _ = _; rw [← HC.out, HF.out, if_neg hin, if_pos hkn]
       clear hin hkn
       go_wp2
       go_meet
       exact ⟨by rw [HX.out], bR⟩
      ·have e2 : ((k : Int) == (n2 : Int)) = false := by simp; omega
       have HX : Hid (C = cmpRows (gs.getD i default).row (gs2.getD k default).row) := by show _ = _; rw [← HC.out, HF.out, if_neg hin, if_neg hkn]
       obtain ⟨b, o, ea, x1, _, _⟩ := G1.out i (by omega)
       obtain ⟨d, q, eb, y1, _, _⟩ := G2.out k (by omega)
       have K0 := KC.out i k (by omega) (by omega)
       rw [← HX.out] at K0
       have KC2 : Hid _ := K0
       have i2 : (i : Int) < (n1 : Int) := by omega
       have k2 : (k : Int) < (n2 : Int) := by omega
       subst ea eb
       have z1 := cL hbw x1
       have z2 := cL hbw y1
       obtain ⟨al, hal⟩ : ∃ z, (gs.getD i default).row.length = z := ⟨_, rfl⟩
       obtain ⟨bl, hbl⟩ : ∃ z, (gs2.getD k default).row.length = z := ⟨_, rfl⟩
       obtain ⟨ar, har⟩ : ∃ z, (xs.getD i default).r = z := ⟨_, rfl⟩
       obtain ⟨arc, harc⟩ : ∃ z, (xs.getD i default).rc = z := ⟨_, rfl⟩
       obtain ⟨br, hbr2⟩ : ∃ z, (xs2.getD k default).r = z := ⟨_, rfl⟩
       obtain ⟨brc, hbrc⟩ : ∃ z, (xs2.getD k default).rc = z := ⟨_, rfl⟩
       rw [hal, har, harc] at z1 KC2
       rw [hbl, hbr2, hbrc] at z2 KC2
       clear hal hbl har harc hbr2 hbrc hin hkn x1 y1 K0
       go_wp2
       go_region_held3 (fun w' => w'.cell? ⟨b, o + i * 3, none⟩ = some (.slice ar al arc) ∧ w'.cell? ⟨d, q + k * 3, none⟩ = some (.slice br bl brc)) (first | exact ⟨cL hy z1, cL hy z2⟩ | go_keep)
        (first | (go_at_call 26; refine (KC2.out _ hbw.drew).mono ?_; rintro e y1 ⟨rfl, hb1⟩; have hy : Below wr.heap.size wr y1 := bR.drew.trans hb1))
       all_goals
        go_wp2
        go_meet
        exact ⟨rfl, hy⟩
    case rest =>
     obtain ⟨rfl, hb4⟩ := hcut
     rename World => W4
     replace HCG : Hid (CG W4 V.heap.size u7 L) := HCG.out.below hb4
     replace HBr : Hid (boxP W4 w.heap.size p x) := box_later HBr.out hb4
     have hb4V : Below V.heap.size V W4 := hbr.trans (hb4.mono hbr.size)
     have hb4w : Below w.heap.size w W4 := hbV.trans (hb4V.mono hbV.size)
     have HSK : Hid (∀ {w' : World}, Below V.heap.size V w' → boxP w' w.heap.size p x) := fun hb => box_later HB.out hb
     have hcap : L.length ≤ 8192 := by omega
     obtain ⟨pn, hpn⟩ : ∃ z, (L.map CO.pair).length = z := ⟨_, rfl⟩
     have HPN : Hid ((L.map CO.pair).length = pn) := hpn
     have HLP : Hid (L.length = pn) := by rw [← hpn]; show _ = _; simp
     have hpb : pn ≤ 8192 := by rw [← HLP.out]; exact hcap
     have HOW : Hid (W4.ownsRow V.heap.size 65 2 u7 pn (ch.flatC (L.map CO.pair))) := by have h := HCG.out.own; rw [HLP.out] at h; exact h
     have hlo := HCG.out.low
     have HLL : Hid (L.length ≤ i + k) := hLl
     obtain ⟨v0, v1, v2, v3, v4, v5, v6, v7, v8, v9, v10, v11, v12⟩ := HBr.out
     clear hbr hbw hb4 HBr hpn hcap hLl KC HF
     rcases Int.lt_trichotomy C 0 with hC | hC | hC
     ·obtain ⟨hin, hst⟩ := T1.out i k hi hk (by rw [HC.out]; exact hC)
      have r2 : C ≤ 0 := by omega
      have r3 : ¬ C ≥ 0 := by omega
      obtain ⟨b, o, ea, x1, x2, x3⟩ := G1.out i hin
      have K0 := KA.out i hin
      have hrl := HRL.out i hin
      subst ea
      have z1 := cL hb4w x1
      have z2 := cL hb4w x2
      have z3 := cL hb4w x3
      obtain ⟨gi, hgi⟩ : ∃ z, gs.getD i default = z := ⟨_, rfl⟩
      obtain ⟨xi, hxi⟩ : ∃ z, xs.getD i default = z := ⟨_, rfl⟩
      rw [hgi] at z1 z2 z3 K0 hrl hst
      rw [hxi] at z1 z3 K0
      obtain ⟨ar, arc, ab, abc, ah⟩ := xi
      dsimp only at z1 z3 K0
      obtain ⟨R1, hR1⟩ : ∃ z, (rowC p gi).r = z := ⟨_, rfl⟩
      rw [hR1] at K0 hrl hst
      obtain ⟨rl, hrl2⟩ : ∃ z, R1.length = z := ⟨_, rfl⟩
      obtain ⟨al, hal⟩ : ∃ z, gi.row.length = z := ⟨_, rfl⟩
      obtain ⟨abl, habl⟩ : ∃ z, gi.bags.length = z := ⟨_, rfl⟩
      obtain ⟨an, han⟩ : ∃ z, gi.n = z := ⟨_, rfl⟩
      rw [hrl2] at K0 hrl
      rw [hal] at z1 K0
      rw [habl] at z3 K0
      rw [han] at z2 K0
      have KX : Hid _ := K0
      have HST : Hid ((L ++ [(⟨2, .slice none 0 0, R1⟩ : CO)]).map CO.chg ++ toldR p.group.length ((gs.drop (i + 1)).map fun g => (rowC p g).r) ((gs2.drop (k)).map fun g => (rowC p g).r) = T) := by
       show _ = _
       rw [← HTT.out, hst, List.map_append, List.append_assoc]; rfl
      have HMC : Hid (∀ rv, (L ++ [(⟨2, rv, R1⟩ : CO)]).map CO.chg = (L ++ [(⟨2, .slice none 0 0, R1⟩ : CO)]).map CO.chg) := fun rv => by rw [List.map_append, List.map_append]; rfl
      have i2 : (i : Int) < (n1 : Int) := by omega
      have lb : b < w.heap.size := World.block_lt_of_cell? _ _ x1
      have HS3 : Hid (∀ {w' : World}, Below V.heap.size V w' → w'.cell? ⟨b, o + i * 3, none⟩ = some (.slice ar al arc) ∧ w'.cell? ⟨b, o + i * 3 + 1, none⟩ = some (.int .i64 an) ∧ w'.cell? ⟨b, o + i * 3 + 1 + 1, none⟩ = some (.slice ab abl abc)) := fun hb => by
       have hw := hbV.trans (hb.mono hbV.size)
       rw [hgi, hal, hxi] at x1
       rw [hgi, han] at x2
       rw [hgi, habl, hxi] at x3
       exact ⟨cL hw x1, cL hw x2, cL hw x3⟩
      clear hgi hxi hR1 hrl2 hal habl han K0 x1 x2 x3 hst
      go_wp2
      go_region_held3 (fun w' => (w'.cell? ⟨w.heap.size, 0, none⟩ = some (.int .i64 p.kind) ∧ w'.cell? ⟨w.heap.size, 1, none⟩ = some (.int .i64 p.mode) ∧ w'.cell? ⟨w.heap.size, 2, none⟩ = some (.int .i64 p.low) ∧ w'.cell? ⟨w.heap.size, 3, none⟩ = some (.int .i64 p.high) ∧ w'.cell? ⟨w.heap.size, 4, none⟩ = some (.int .i64 p.size) ∧ w'.cell? ⟨w.heap.size, 5, none⟩ = some (.int .i64 p.limit) ∧ w'.cell? ⟨w.heap.size, 6, none⟩ = some (.slice x.l p.left.length x.lc) ∧ w'.cell? ⟨w.heap.size, 7, none⟩ = some (.slice x.r p.right.length x.rc) ∧ w'.cell? ⟨w.heap.size, 8, none⟩ = some (.slice x.lk p.lkeys.length x.lkc) ∧ w'.cell? ⟨w.heap.size, 9, none⟩ = some (.slice x.rk p.rkeys.length x.rkc) ∧ w'.cell? ⟨w.heap.size, 10, none⟩ = some (.bool p.grouped) ∧ w'.cell? ⟨w.heap.size, 11, none⟩ = some (.slice x.g p.group.length x.gc) ∧ w'.cell? ⟨w.heap.size, 12, none⟩ = some (.slice x.a p.aggs.length x.ac)) ∧ (w'.cell? ⟨b, o + i * 3, none⟩ = some (.slice ar al arc) ∧ w'.cell? ⟨b, o + i * 3 + 1, none⟩ = some (.int .i64 an) ∧ w'.cell? ⟨b, o + i * 3 + 1 + 1, none⟩ = some (.slice ab abl abc))) (first | exact ⟨HSK.out hy3, HS3.out hy3⟩ | exact ⟨HSK.out hya, HS3.out hya⟩ | exact ⟨HSK.out hy1, HS3.out hy1⟩ | go_keep)
       (first
        | (go_at_call 36; refine (KX.out _ hb4w.drew).mono ?_; rintro e y1 ⟨⟨ad1, c9, rfl, hov⟩, hb1⟩; have hy1 : Below V.heap.size V y1 := hb4V.drew.trans (hb1.mono hb4V.size); have hya := hy1.alloc hy1.size (.cells #[.int .i64 2, .slice ad1 rl c9] 65); have HO1 : Hid (y1.ownsRow V.heap.size 65 2 u7 pn (ch.flatC (L.map CO.pair))) := ch.own_below HOW.out (bR.drew.trans hb1))
        | (refine step_appG1 rfl (.tmp 70) (.tmp 78) rfl V.heap.size u7 (L.map CO.pair) 2 (.slice ad1 rl c9) y1 pn HPN.out HO1.out (by omega) (Nat.le_trans hlo hb1.size) rfl (by simp [Act.eval, Act.put]) (by simp [Act.eval, Act.put]) ?_; intro g cap2 w3 hown2 hgrow2 hat2 hlt2; have hy3 : Below V.heap.size V w3 := ch.below_app hy1 (Nat.le_trans hlo hb1.size) HO1.out hgrow2))
      all_goals
       have HNW : Hid (CG w3 V.heap.size (.slice (some ⟨g, 0, none⟩) (pn + 1) cap2) (L ++ [⟨2, .slice ad1 rl c9, R1⟩])) := (HCG.out.below bR.drew).add hb1 hov hgrow2 (by rw [HLP.out]; exact hown2) (fun g' hg' => by cases hg'; rcases hat2 with h | h; exact .inl h; exact .inr (by show _ ≤ g; omega))
       go_wp2
       go_roundw
       case rel => exact ⟨i + 1, k, _, by omega, by omega, by go_num, by go_num, HNW, by rw [HMC.out]; exact HST.out, by rw [List.length_append, List.length_singleton]; have := HLL.out; omega, hy3⟩
       case measure => simp [intOf]; omega
     ·subst hC
      obtain ⟨hin, hkn, hst⟩ := T3.out i k hi hk HC.out
      obtain ⟨ba, oa, ea, ax1, ax2, ax3⟩ := G1.out i hin
      have Ka0 := KA.out i hin
      have hrla := HRL.out i hin
      subst ea
      obtain ⟨ga, hga⟩ : ∃ z, gs.getD i default = z := ⟨_, rfl⟩
      obtain ⟨xa, hxa⟩ : ∃ z, xs.getD i default = z := ⟨_, rfl⟩
      rw [hga] at ax1 ax2 ax3 Ka0 hrla hst
      rw [hxa] at ax1 ax3 Ka0
      obtain ⟨ar, arc, ab, abc, ah⟩ := xa
      dsimp only at ax1 ax3 Ka0
      obtain ⟨R1, hR1⟩ : ∃ z, (rowC p ga).r = z := ⟨_, rfl⟩
      rw [hR1] at Ka0 hrla hst
      obtain ⟨q1, hq1⟩ : ∃ z, R1.length = z := ⟨_, rfl⟩
      have Hq1 : Hid (R1.length = q1) := hq1
      obtain ⟨al, hal⟩ : ∃ z, ga.row.length = z := ⟨_, rfl⟩
      obtain ⟨abl, habl⟩ : ∃ z, ga.bags.length = z := ⟨_, rfl⟩
      obtain ⟨an, han⟩ : ∃ z, ga.n = z := ⟨_, rfl⟩
      rw [hq1] at Ka0 hrla
      rw [hal] at ax1 Ka0
      rw [habl] at ax3 Ka0
      rw [han] at ax2 Ka0
      have KXa : Hid _ := Ka0
      have ai2 : (i : Int) < (n1 : Int) := by omega
      have la : ba < w.heap.size := World.block_lt_of_cell? _ _ ax1
      have HSa : Hid (∀ {w' : World}, Below V.heap.size V w' → w'.cell? ⟨ba, oa + i * 3, none⟩ = some (.slice ar al arc) ∧ w'.cell? ⟨ba, oa + i * 3 + 1, none⟩ = some (.int .i64 an) ∧ w'.cell? ⟨ba, oa + i * 3 + 1 + 1, none⟩ = some (.slice ab abl abc)) := fun hb => by
       have hw := hbV.trans (hb.mono hbV.size)
       exact ⟨cL hw ax1, cL hw ax2, cL hw ax3⟩
      have az1 := cL hb4w ax1
      have az2 := cL hb4w ax2
      have az3 := cL hb4w ax3
      clear hga hxa hR1 hq1 hal habl han Ka0 ax1 ax2 ax3
      obtain ⟨bb, ob, ed, dx1, dx2, dx3⟩ := G2.out k hkn
      have Kd0 := KB.out k hkn
      have hrld := HRL2.out k hkn
      subst ed
      obtain ⟨gd, hgd⟩ : ∃ z, gs2.getD k default = z := ⟨_, rfl⟩
      obtain ⟨xd, hxd⟩ : ∃ z, xs2.getD k default = z := ⟨_, rfl⟩
      rw [hgd] at dx1 dx2 dx3 Kd0 hrld hst
      rw [hxd] at dx1 dx3 Kd0
      obtain ⟨dr, drc, db, dbc, dh⟩ := xd
      dsimp only at dx1 dx3 Kd0
      obtain ⟨R2, hR2⟩ : ∃ z, (rowC p gd).r = z := ⟨_, rfl⟩
      rw [hR2] at Kd0 hrld hst
      obtain ⟨q2, hq2⟩ : ∃ z, R2.length = z := ⟨_, rfl⟩
      have Hq2 : Hid (R2.length = q2) := hq2
      obtain ⟨dl, hdl⟩ : ∃ z, gd.row.length = z := ⟨_, rfl⟩
      obtain ⟨dbl, hdbl⟩ : ∃ z, gd.bags.length = z := ⟨_, rfl⟩
      obtain ⟨dn, hdn⟩ : ∃ z, gd.n = z := ⟨_, rfl⟩
      rw [hq2] at Kd0 hrld
      rw [hdl] at dx1 Kd0
      rw [hdbl] at dx3 Kd0
      rw [hdn] at dx2 Kd0
      have KXd : Hid _ := Kd0
      have di2 : (k : Int) < (n2 : Int) := by omega
      have ld : bb < w.heap.size := World.block_lt_of_cell? _ _ dx1
      have HSd : Hid (∀ {w' : World}, Below V.heap.size V w' → w'.cell? ⟨bb, ob + k * 3, none⟩ = some (.slice dr dl drc) ∧ w'.cell? ⟨bb, ob + k * 3 + 1, none⟩ = some (.int .i64 dn) ∧ w'.cell? ⟨bb, ob + k * 3 + 1 + 1, none⟩ = some (.slice db dbl dbc)) := fun hb => by
       have hw := hbV.trans (hb.mono hbV.size)
       exact ⟨cL hw dx1, cL hw dx2, cL hw dx3⟩
      have dz1 := cL hb4w dx1
      have dz2 := cL hb4w dx2
      have dz3 := cL hb4w dx3
      clear hgd hxd hR2 hq2 hdl hdbl hdn Kd0 dx1 dx2 dx3
      have HST := hst
      clear hst
      have HSTT : Hid (L.map CO.chg ++ ((if R1 = R2 then [] else [⟨3, R1⟩, ⟨4, R2⟩]) ++ toldR p.group.length ((gs.drop (i + 1)).map fun g => (rowC p g).r) ((gs2.drop (k + 1)).map fun g => (rowC p g).r)) = T) := by
       show _ = _
       rw [← HTT.out, HST]
      clear HST
      go_wp2
      go_region_held3 (fun w' => (w'.cell? ⟨w.heap.size, 0, none⟩ = some (.int .i64 p.kind) ∧ w'.cell? ⟨w.heap.size, 1, none⟩ = some (.int .i64 p.mode) ∧ w'.cell? ⟨w.heap.size, 2, none⟩ = some (.int .i64 p.low) ∧ w'.cell? ⟨w.heap.size, 3, none⟩ = some (.int .i64 p.high) ∧ w'.cell? ⟨w.heap.size, 4, none⟩ = some (.int .i64 p.size) ∧ w'.cell? ⟨w.heap.size, 5, none⟩ = some (.int .i64 p.limit) ∧ w'.cell? ⟨w.heap.size, 6, none⟩ = some (.slice x.l p.left.length x.lc) ∧ w'.cell? ⟨w.heap.size, 7, none⟩ = some (.slice x.r p.right.length x.rc) ∧ w'.cell? ⟨w.heap.size, 8, none⟩ = some (.slice x.lk p.lkeys.length x.lkc) ∧ w'.cell? ⟨w.heap.size, 9, none⟩ = some (.slice x.rk p.rkeys.length x.rkc) ∧ w'.cell? ⟨w.heap.size, 10, none⟩ = some (.bool p.grouped) ∧ w'.cell? ⟨w.heap.size, 11, none⟩ = some (.slice x.g p.group.length x.gc) ∧ w'.cell? ⟨w.heap.size, 12, none⟩ = some (.slice x.a p.aggs.length x.ac)) ∧ (w'.cell? ⟨ba, oa + i * 3, none⟩ = some (.slice ar al arc) ∧ w'.cell? ⟨ba, oa + i * 3 + 1, none⟩ = some (.int .i64 an) ∧ w'.cell? ⟨ba, oa + i * 3 + 1 + 1, none⟩ = some (.slice ab abl abc)) ∧ (w'.cell? ⟨bb, ob + k * 3, none⟩ = some (.slice dr dl drc) ∧ w'.cell? ⟨bb, ob + k * 3 + 1, none⟩ = some (.int .i64 dn) ∧ w'.cell? ⟨bb, ob + k * 3 + 1 + 1, none⟩ = some (.slice db dbl dbc))) (first | exact ⟨HSK.out hyA, HSa.out hyA, HSd.out hyA⟩ | exact ⟨HSK.out hyB, HSa.out hyB, HSd.out hyB⟩ | go_keep)
       (first
        | (go_at_call 36; (with_reducible refine (KXa.out _ (by first | exact hb4w.drew | exact hwB)).mono ?_); rintro e yA ⟨⟨adA, cA, rfl, hovA⟩, hbA⟩; have hyA : Below V.heap.size V yA := by first | exact hyB.trans (hbA.mono hyB.size) | exact hb4V.drew.trans (hbA.mono hb4V.size)
           have hwA : Below w.heap.size w yA := hbV.trans (hyA.mono hbV.size))
        | (go_at_call 36; (with_reducible refine (KXd.out _ (by first | exact hb4w.drew | exact hwA)).mono ?_); rintro e yB ⟨⟨adB, cB, rfl, hovB⟩, hbB⟩; have hyB : Below V.heap.size V yB := by first | exact hyA.trans (hbB.mono hyA.size) | exact hb4V.drew.trans (hbB.mono hb4V.size)
           have hwB : Below w.heap.size w yB := hbV.trans (hyB.mono hbV.size)))
      all_goals
       first
        | (have HTW : Hid (Est yB V.heap.size ((⟨u7, 65, 2, L.length, ch.flatC (L.map CO.pair)⟩ : Own1) :: rowOw (.slice adA q1 cA) R1 :: rowOw (.slice adB q2 cB) R2 :: L.map fun x => rowOw x.rv x.row)) := (HCG.out.below bR.drew).two hbA hovA hbB hovB
           have hyY := hyB
           generalize yB = Y at HTW hyY ⊢)
        | (have HTW : Hid (Est yA V.heap.size ((⟨u7, 65, 2, L.length, ch.flatC (L.map CO.pair)⟩ : Own1) :: rowOw (.slice adA q1 cA) R1 :: rowOw (.slice adB q2 cB) R2 :: L.map fun x => rowOw x.rv x.row)) := (HCG.out.below bR.drew).two2 hbB hovB hbA hovA
           have hyY := hyA
           generalize yA = Y at HTW hyY ⊢)
       have HR1 : Hid (vl.rowAt Y adA R1) := by
        have h : ownV Y V.heap.size (.slice adA q1 cA) R1 := HTW.out.own (rowOw (.slice adA q1 cA) R1) (by simp)
        rw [← Hq1.out] at h
        exact vl.ownV_row h
       have HR2 : Hid (vl.rowAt Y adB R2) := by
        have h : ownV Y V.heap.size (.slice adB q2 cB) R2 := HTW.out.own (rowOw (.slice adB q2 cB) R2) (by simp)
        rw [← Hq2.out] at h
        exact vl.ownV_row h
       have KS0 : ∀ w1, Below Y.heap.size Y w1 → Calls Tryz.prog 34 #[.slice adA q1 cA, .slice adB q2 cB] w1 fun e w' => e = .returned (.bool (decide (R1 = R2))) ∧ Below w1.heap.size w1 w' := fun w1 hb => by
        have h := vl.same_any adA adB cA cB R1 R2 w1 (vl.rowAt_below HR1.out hb) (vl.rowAt_below HR2.out hb) (by rw [Hq1.out]; omega) (by rw [Hq2.out]; omega)
        rw [Hq1.out, Hq2.out] at h
        exact h
       by_cases hq : R1 = R2
       ·have KS : Hid (∀ w1, Below Y.heap.size Y w1 → Calls Tryz.prog 34 #[.slice adA q1 cA, .slice adB q2 cB] w1 fun e w' => e = .returned (.bool true) ∧ Below w1.heap.size w1 w') := fun w1 hb => by have h := KS0 w1 hb; rw [decide_eq_true hq] at h; exact h
        have HNX : Hid (L.map CO.chg ++ toldR p.group.length ((gs.drop (i + 1)).map fun g => (rowC p g).r) ((gs2.drop (k + 1)).map fun g => (rowC p g).r) = T) := by
         have h := HSTT.out
         rw [if_pos hq] at h
         exact h
        clear KS0 hq HSTT
        go_wp2_with (go_at_call 34; refine (KS.out _ bR).mono ?_; rintro e Y2 ⟨rfl, hbY2⟩)
        go_roundw
        case rel => exact ⟨i + 1, k + 1, L, by omega, by omega, by go_num, by go_num, (CG.left HTW.out).below hbY2, HNX, by have := HLL.out; omega, hyY.trans (hbY2.mono hyY.size)⟩
        case measure => simp [intOf]; omega
       ·have KS : Hid (∀ w1, Below Y.heap.size Y w1 → Calls Tryz.prog 34 #[.slice adA q1 cA, .slice adB q2 cB] w1 fun e w' => e = .returned (.bool false) ∧ Below w1.heap.size w1 w') := fun w1 hb => by have h := KS0 w1 hb; rw [decide_eq_false hq] at h; exact h
        have HNX : Hid ((L ++ [(⟨3, .slice adA q1 cA, R1⟩ : CO), ⟨4, .slice adB q2 cB, R2⟩]).map CO.chg ++ toldR p.group.length ((gs.drop (i + 1)).map fun g => (rowC p g).r) ((gs2.drop (k + 1)).map fun g => (rowC p g).r) = T) := by
         have h := HSTT.out
         rw [if_neg hq] at h
         rw [List.map_append, List.append_assoc]
         exact h
        clear KS0 hq HSTT
        go_wp2_with (first
         | (go_at_call 34; refine (KS.out _ bR).mono ?_; rintro e Y2 ⟨rfl, hbY2⟩; have HO2 : Hid (Y2.ownsRow V.heap.size 65 2 u7 pn (ch.flatC (L.map CO.pair))) := by
              have h := (CG.left HTW.out).own
              rw [HLP.out] at h
              exact ch.own_below h hbY2)
         | (at_builtin; refine wpList_appG2 rfl (.tmp 60) (.tmp 65) rfl V.heap.size u7 (L.map CO.pair) 3 (.slice adA q1 cA) 4 (.slice adB q2 cB) Y2 pn HPN.out HO2.out (by omega) (Nat.le_trans hyY.size hbY2.size) rfl rfl rfl rfl ?_; intro g cap2 w3 hown2 hgrow2 hat2 hlt2))
        have hyY2 : Below V.heap.size V Y2 := hyY.trans (hbY2.mono hyY.size)
        have hy3 : Below V.heap.size V w3 := ch.below_app hyY2 (Nat.le_trans hyY.size hbY2.size) HO2.out hgrow2
        have HNW : Hid (CG w3 V.heap.size (.slice (some ⟨g, 0, none⟩) (pn + 2) cap2) (L ++ [⟨3, .slice adA q1 cA, R1⟩, ⟨4, .slice adB q2 cB, R2⟩])) := CG.add2 (E := []) HTW.out hbY2 hgrow2 (by rw [HLP.out]; exact hown2) (fun g' hg' => by cases hg'; rcases hat2 with h | h; exact .inl h; exact .inr (by show _ ≤ g; omega))
        go_roundw
        case rel => exact ⟨i + 1, k + 1, _, by omega, by omega, by go_num, by go_num, HNW, HNX, by rw [List.length_append]; simp only [List.length_cons, List.length_nil]; have := HLL.out; omega, hy3⟩
        case measure => simp [intOf]; omega
     ·obtain ⟨hkn, hst⟩ := T2.out i k hi hk hik (by rw [HC.out]; exact hC)
      have r1 : ¬ C < 0 := by omega
      have r2 : ¬ C ≤ 0 := by omega
      have r3 : C ≥ 0 := by omega
      have r4 : C > 0 := hC
      obtain ⟨b, o, ea, x1, x2, x3⟩ := G2.out k hkn
      have K0 := KB.out k hkn
      have hrl := HRL2.out k hkn
      subst ea
      have z1 := cL hb4w x1
      have z2 := cL hb4w x2
      have z3 := cL hb4w x3
      obtain ⟨gi, hgi⟩ : ∃ z, gs2.getD k default = z := ⟨_, rfl⟩
      obtain ⟨xi, hxi⟩ : ∃ z, xs2.getD k default = z := ⟨_, rfl⟩
      rw [hgi] at z1 z2 z3 K0 hrl hst
      rw [hxi] at z1 z3 K0
      obtain ⟨ar, arc, ab, abc, ah⟩ := xi
      dsimp only at z1 z3 K0
      obtain ⟨R1, hR1⟩ : ∃ z, (rowC p gi).r = z := ⟨_, rfl⟩
      rw [hR1] at K0 hrl hst
      obtain ⟨rl, hrl2⟩ : ∃ z, R1.length = z := ⟨_, rfl⟩
      obtain ⟨al, hal⟩ : ∃ z, gi.row.length = z := ⟨_, rfl⟩
      obtain ⟨abl, habl⟩ : ∃ z, gi.bags.length = z := ⟨_, rfl⟩
      obtain ⟨an, han⟩ : ∃ z, gi.n = z := ⟨_, rfl⟩
      rw [hrl2] at K0 hrl
      rw [hal] at z1 K0
      rw [habl] at z3 K0
      rw [han] at z2 K0
      have KX : Hid _ := K0
      have HST : Hid ((L ++ [(⟨1, .slice none 0 0, R1⟩ : CO)]).map CO.chg ++ toldR p.group.length ((gs.drop (i)).map fun g => (rowC p g).r) ((gs2.drop (k + 1)).map fun g => (rowC p g).r) = T) := by
       show _ = _
       rw [← HTT.out, hst, List.map_append, List.append_assoc]; rfl
      have HMC : Hid (∀ rv, (L ++ [(⟨1, rv, R1⟩ : CO)]).map CO.chg = (L ++ [(⟨1, .slice none 0 0, R1⟩ : CO)]).map CO.chg) := fun rv => by rw [List.map_append, List.map_append]; rfl
      have i2 : (k : Int) < (n2 : Int) := by omega
      have lb : b < w.heap.size := World.block_lt_of_cell? _ _ x1
      have HS3 : Hid (∀ {w' : World}, Below V.heap.size V w' → w'.cell? ⟨b, o + k * 3, none⟩ = some (.slice ar al arc) ∧ w'.cell? ⟨b, o + k * 3 + 1, none⟩ = some (.int .i64 an) ∧ w'.cell? ⟨b, o + k * 3 + 1 + 1, none⟩ = some (.slice ab abl abc)) := fun hb => by
       have hw := hbV.trans (hb.mono hbV.size)
       rw [hgi, hal, hxi] at x1
       rw [hgi, han] at x2
       rw [hgi, habl, hxi] at x3
       exact ⟨cL hw x1, cL hw x2, cL hw x3⟩
      clear hgi hxi hR1 hrl2 hal habl han K0 x1 x2 x3 hst
      go_wp2
      go_region_held3 (fun w' => (w'.cell? ⟨w.heap.size, 0, none⟩ = some (.int .i64 p.kind) ∧ w'.cell? ⟨w.heap.size, 1, none⟩ = some (.int .i64 p.mode) ∧ w'.cell? ⟨w.heap.size, 2, none⟩ = some (.int .i64 p.low) ∧ w'.cell? ⟨w.heap.size, 3, none⟩ = some (.int .i64 p.high) ∧ w'.cell? ⟨w.heap.size, 4, none⟩ = some (.int .i64 p.size) ∧ w'.cell? ⟨w.heap.size, 5, none⟩ = some (.int .i64 p.limit) ∧ w'.cell? ⟨w.heap.size, 6, none⟩ = some (.slice x.l p.left.length x.lc) ∧ w'.cell? ⟨w.heap.size, 7, none⟩ = some (.slice x.r p.right.length x.rc) ∧ w'.cell? ⟨w.heap.size, 8, none⟩ = some (.slice x.lk p.lkeys.length x.lkc) ∧ w'.cell? ⟨w.heap.size, 9, none⟩ = some (.slice x.rk p.rkeys.length x.rkc) ∧ w'.cell? ⟨w.heap.size, 10, none⟩ = some (.bool p.grouped) ∧ w'.cell? ⟨w.heap.size, 11, none⟩ = some (.slice x.g p.group.length x.gc) ∧ w'.cell? ⟨w.heap.size, 12, none⟩ = some (.slice x.a p.aggs.length x.ac)) ∧ (w'.cell? ⟨b, o + k * 3, none⟩ = some (.slice ar al arc) ∧ w'.cell? ⟨b, o + k * 3 + 1, none⟩ = some (.int .i64 an) ∧ w'.cell? ⟨b, o + k * 3 + 1 + 1, none⟩ = some (.slice ab abl abc))) (first | exact ⟨HSK.out hy3, HS3.out hy3⟩ | exact ⟨HSK.out hya, HS3.out hya⟩ | exact ⟨HSK.out hy1, HS3.out hy1⟩ | go_keep)
       (first
        | (go_at_call 36; refine (KX.out _ hb4w.drew).mono ?_; rintro e y1 ⟨⟨ad1, c9, rfl, hov⟩, hb1⟩; have hy1 : Below V.heap.size V y1 := hb4V.drew.trans (hb1.mono hb4V.size); have hya := hy1.alloc hy1.size (.cells #[.int .i64 1, .slice ad1 rl c9] 65); have HO1 : Hid (y1.ownsRow V.heap.size 65 2 u7 pn (ch.flatC (L.map CO.pair))) := ch.own_below HOW.out (bR.drew.trans hb1))
        | (refine step_appG1 rfl (.tmp 83) (.tmp 91) rfl V.heap.size u7 (L.map CO.pair) 1 (.slice ad1 rl c9) y1 pn HPN.out HO1.out (by omega) (Nat.le_trans hlo hb1.size) rfl (by simp [Act.eval, Act.put]) (by simp [Act.eval, Act.put]) ?_; intro g cap2 w3 hown2 hgrow2 hat2 hlt2; have hy3 : Below V.heap.size V w3 := ch.below_app hy1 (Nat.le_trans hlo hb1.size) HO1.out hgrow2))
      all_goals
       have HNW : Hid (CG w3 V.heap.size (.slice (some ⟨g, 0, none⟩) (pn + 1) cap2) (L ++ [⟨1, .slice ad1 rl c9, R1⟩])) := (HCG.out.below bR.drew).add hb1 hov hgrow2 (by rw [HLP.out]; exact hown2) (fun g' hg' => by cases hg'; rcases hat2 with h | h; exact .inl h; exact .inr (by show _ ≤ g; omega))
       go_wp2
       go_roundw
       case rel => exact ⟨i, k + 1, _, by omega, by omega, by go_num, by go_num, HNW, by rw [HMC.out]; exact HST.out, by rw [List.length_append, List.length_singleton]; have := HLL.out; omega, hy3⟩
       case measure => simp [intOf]; omega
  ·have e1 : i = n1 := by omega
   have e2 : k = n2 := by omega
   have HE : Hid (L.map CO.chg = T) := by
    show L.map CO.chg = T
    have h := HTT.out
    rw [List.drop_of_length_le (l := gs) (by rw [HN.out.1, e1]; exact Nat.le_refl _), List.drop_of_length_le (l := gs2) (by rw [HN.out.2, e2]; exact Nat.le_refl _)] at h
    simpa [toldR] using h
   obtain ⟨hv, hch⟩ := HCG.out.chgs
   obtain ⟨ad, had⟩ : ∃ z, adOf u7 = z := ⟨_, rfl⟩
   obtain ⟨cp, hcp⟩ : ∃ z, cpOf u7 = z := ⟨_, rfl⟩
   rw [had, hcp] at hv
   rw [had] at hch
   have HCH : Hid (ch.chgsAt wr ad T) := by rw [← HE.out]; exact hch
   have HLT : Hid (T.length = L.length) := by rw [← HE.out]; show _ = _; simp
   obtain ⟨ll, hll⟩ : ∃ z, L.length = z := ⟨_, rfl⟩
   rw [hll] at hv HLT
   clear had hcp hch hll
   subst hv
   have i3 : ¬ ((i : Int) < (n1 : Int)) := by omega
   have i4 : ¬ ((k : Int) < (n2 : Int)) := by omega
   clear e1 e2
   go_wp2
   go_ret
   exact ⟨⟨ad, cp, by rw [HLT.out]; rfl, HCH.out⟩, hbw⟩
end Go.Proofs.YtbfbgdinhiglaaaGreat.gr
