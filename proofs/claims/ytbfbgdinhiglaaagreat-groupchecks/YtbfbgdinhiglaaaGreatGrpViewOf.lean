/- The document's ViewOf: the groups' rows. -/
import Derived.Test.YtbfbgdinhiglaaaGreatGrpRowOf
import Derived.Test.YtbfbgdinhiglaaaGreatGrpUp
import Derived.Test.YtbfbgdinhiglaaaGreatMgBatF
namespace Go.Proofs.YtbfbgdinhiglaaaGreat.gr
open Go.ChangeShapes Go.WideShapes Go.ChangeAt Go.RowKit
open vl pl bt
set_option linter.unusedVariables false
set_option linter.unusedSimpArgs false
attribute [local go_sem] Oper.semAt_some
theorem more_last {p : Pln} {gs : List Grp} (h : grpsErr p gs = 0) (hwf : ∀ g ∈ gs, wfG g) (j B c : Nat) (L : ch.PL) (u : Value) (ad : Option Addr) (w1 w2 : World) (hj : j < gs.length) (hm : ch.MV w1 B u L) (hL : ch.outOf L = (gs.take j).map (rowC p)) (hb : Below w1.heap.size w1 w2)
    (ho : ownV w2 w1.heap.size (.slice ad ((gs.getD j default).row ++ figsG p (gs.getD j default)).length c) ((gs.getD j default).row ++ figsG p (gs.getD j default))) :
    Calls Tryz.prog 35 #[u, .slice ad ((gs.getD j default).row ++ figsG p (gs.getD j default)).length c, .int .i64 1] w2 fun e w' => (∃ v' L', e = .returned (.tuple #[v', .int .i64 0]) ∧ ch.MV w' B v' L' ∧ ch.outOf L' = (gs.take (j + 1)).map (rowC p)) ∧ Below B w2 w' := by
  obtain ⟨h0, hg, hl, ha⟩ := okG_of h
  have hv := view_take (view_right h hwf) j
  rw [← List.map_take, ← hL] at hv
  have hv2 := view_take (view_right h hwf) (j + 1)
  rw [← List.map_take] at hv2
  have hr := (right_at h hwf j hj).1
  have hok := rowC_ok h0 hg hr
  have hsn : (gs.take (j + 1)).map (rowC p) = (gs.take j).map (rowC p) ++ [⟨(gs.getD j default).row ++ figsG p (gs.getD j default), 1⟩] := by rw [gs_take gs j hj, List.map_append]; rfl
  obtain ⟨R, hR⟩ : ∃ z, (gs.getD j default).row ++ figsG p (gs.getD j default) = z := ⟨_, rfl⟩
  rw [hR] at ho hok hsn ⊢
  have hgd := ch.view_good hv2.2 hv2.1
  have hkv : ch.kvOf ((gs.take (j + 1)).map (rowC p)) = ch.kvP L ++ [(encR R, 1)] := by
    rw [hsn, ← hL]; simp [ch.kvP, ch.kvOf]
  rw [hkv] at hgd
  have hA : ∀ q ∈ ch.kvP L, bytesBefore q.1 (encR R) = true := fun q hq => (List.pairwise_append.1 hgd.up).2.2 q hq (encR R, 1) (List.mem_singleton.2 rfl)
  have hlen : (ch.kvP L ++ []).length ≠ 4096 := by
    rw [List.append_nil, ch.kvP_len, ← ch.out_len, hL, List.length_map, List.length_take]; omega
  have hE : ch.addE (ch.kvP L) (encR R) 1 = 0 := by
    have := ch.addE_new (B := []) hA (fun q hq => by cases hq) (n := 1) (by decide)
    rw [if_neg (by decide), if_neg (by decide), if_neg hlen, List.append_nil] at this
    exact this
  have hV : ch.addV (ch.kvP L) (encR R) 1 = ch.kvP L ++ [(encR R, 1)] := by
    have := ch.addV_new (B := []) hA (fun q hq => by cases hq) (n := 1) (by decide) (by decide) hlen
    rwa [List.append_nil] at this
  refine (ch.rmore_own ad c B u L R 1 w2 (ch.MV_below hm hb) hv.1 hv.2 (ownV_row ho) (fun b o x e hu => ?_) hok (by decide) (by decide)).mono ?_
  · subst e
    have h1 := (ch.own_lt hm.own hu).2
    have h2 := (ch.own_lt ho (g := b) rfl).1
    omega
  · rintro e w' ⟨hres, hb'⟩
    refine ⟨?_, hb'⟩
    rcases hres with ⟨h1, _⟩ | ⟨_, v', L', hk, hrow, he, hmv, _⟩
    · exact absurd hE h1
    · refine ⟨v', L', he, hmv, ?_⟩
      rw [hV, ← hkv] at hk
      refine ch.kvOf_inj (fun c hc => ?_) (ch.view_rows hv2.2 hv2.1) hk
      obtain ⟨q, hq, rfl⟩ := List.mem_map.1 hc
      exact hrow q hq
set_option maxRecDepth 100000 in
set_option maxHeartbeats 8000000 in
theorem viewOf_any (p : Pln) (x : PA) (a : Option Addr) (cap : Nat) (xs : List GX) (gs : List Grp) (w : World) (hp : planAt w p x) (hgs : gsAt w a xs gs) (h : grpsErr p gs = 0) (hwf : ∀ g ∈ gs, wfG g) :
    Calls Tryz.prog 11 #[planV p x, .slice a gs.length cap] w fun e w' => (∃ ad c, e = .returned (.slice ad gs.length c) ∧ ch.viewAt w' ad (gs.map (rowC p))) ∧ Below w.heap.size w w' := by
  have hmem : ∀ i, i < gs.length → gs.getD i default ∈ gs := fun i hi => by rw [List.getD_eq_getElem?_getD, List.getElem?_eq_getElem hi]; exact List.getElem_mem hi
  have HG : Hid (∀ i, i < gs.length → ∃ b o, a = some ⟨b, o, none⟩ ∧ w.cell? ⟨b, o + i * 3, none⟩ = some (.slice (xs.getD i default).r (gs.getD i default).row.length (xs.getD i default).rc) ∧ w.cell? ⟨b, o + i * 3 + 1, none⟩ = some (.int .i64 (gs.getD i default).n) ∧ w.cell? ⟨b, o + i * 3 + 2, none⟩ = some (.slice (xs.getD i default).b (gs.getD i default).bags.length (xs.getD i default).bc)) := fun i hi => hgs.cells i hi
  have KR : Hid (∀ i w1, i < gs.length → Below w.heap.size w w1 → Calls Tryz.prog 36 #[planV p x, grpV (xs.getD i default) (gs.getD i default)] w1 fun e w' => (∃ ad c, e = .returned (.slice ad ((gs.getD i default).row ++ figsG p (gs.getD i default)).length c) ∧ ownV w' w1.heap.size (.slice ad ((gs.getD i default).row ++ figsG p (gs.getD i default)).length c) ((gs.getD i default).row ++ figsG p (gs.getD i default))) ∧ Below w1.heap.size w1 w') := fun i w1 hi hb => by
    obtain ⟨h0, hg, hl, ha⟩ := okG_of h
    have hf := group_few h0 hg
    exact rowOf_any p x _ _ w1 (planAt_below hp hb) ((hgs.each i hi).below hb) (okG_each h _ (hmem i hi)) (by omega) (fun j hj => (agg_in h0 (by rw [List.getD_eq_getElem?_getD, List.getElem?_eq_getElem hj]; exact List.getElem_mem hj) hg).1) (right_at h hwf i hi).1.sum
  have KM : Hid (∀ i B c L u ad w1 w2, i < gs.length → ch.MV w1 B u L → ch.outOf L = (gs.take i).map (rowC p) → Below w1.heap.size w1 w2 → ownV w2 w1.heap.size (.slice ad ((gs.getD i default).row ++ figsG p (gs.getD i default)).length c) ((gs.getD i default).row ++ figsG p (gs.getD i default)) → Calls Tryz.prog 35 #[u, .slice ad ((gs.getD i default).row ++ figsG p (gs.getD i default)).length c, .int .i64 1] w2 fun e w' => (∃ v' L', e = .returned (.tuple #[v', .int .i64 0]) ∧ ch.MV w' B v' L' ∧ ch.outOf L' = (gs.take (i + 1)).map (rowC p)) ∧ Below B w2 w') := fun i B c L u ad w1 w2 hi hm hL hb ho => more_last h hwf i B c L u ad w1 w2 hi hm hL hb ho
  have hl : gs.length ≤ 4096 := (okG_of h).2.2.1
  obtain ⟨RC, hRC⟩ : ∃ f : Grp → ch.Cnt, rowC p = f := ⟨_, rfl⟩
  obtain ⟨RR, hRR⟩ : ∃ f : Nat → List Cel, ∀ i, (gs.getD i default).row ++ figsG p (gs.getD i default) = f i := ⟨_, fun _ => rfl⟩
  rw [hRC] at KM ⊢
  simp only [hRR] at KM KR
  clear hmem hp hgs hwf h hRC hRR
  unfold grpV at KR
  obtain ⟨kind, mode, low, high, size, limit, left, right, lkeys, rkeys, grouped, group, aggs⟩ := p
  obtain ⟨la, lc, rr, rc, lk, lkc, rk, rkc, ga, gc, ag, ac⟩ := x
  unfold planV at KR ⊢
  dsimp only at KR ⊢
  obtain ⟨n6, h6⟩ : ∃ n, left.length = n := ⟨_, rfl⟩
  obtain ⟨n7, h7⟩ : ∃ n, right.length = n := ⟨_, rfl⟩
  obtain ⟨n8, h8⟩ : ∃ n, lkeys.length = n := ⟨_, rfl⟩
  obtain ⟨n9, h9⟩ : ∃ n, rkeys.length = n := ⟨_, rfl⟩
  obtain ⟨n11, h11⟩ : ∃ n, group.length = n := ⟨_, rfl⟩
  obtain ⟨n12, h12⟩ : ∃ n, aggs.length = n := ⟨_, rfl⟩
  simp only [h6, h7, h8, h9, h11, h12] at KR ⊢
  clear h6 h7 h8 h9 h11 h12
  obtain ⟨n, hn⟩ : ∃ z, gs.length = z := ⟨_, rfl⟩
  have HN : Hid (gs.length = n) := hn
  rw [hn] at HG KR KM hl ⊢
  clear hn
  go_enter Tryz.func11, Tryz.ntmps11
  go_wp2
  generalize hV : (World.alloc w _) = W0
  have hb0 : Below w.heap.size w W0 := by rw [← hV]; exact (Below.refl _ _).alloc (Nat.le_refl _) _
  have v0 : W0.cell? ⟨w.heap.size, 0, none⟩ = some (.int .i64 kind) := by subst hV; go_simp
  have v1 : W0.cell? ⟨w.heap.size, 1, none⟩ = some (.int .i64 mode) := by subst hV; go_simp
  have v2 : W0.cell? ⟨w.heap.size, 2, none⟩ = some (.int .i64 low) := by subst hV; go_simp
  have v3 : W0.cell? ⟨w.heap.size, 3, none⟩ = some (.int .i64 high) := by subst hV; go_simp
  have v4 : W0.cell? ⟨w.heap.size, 4, none⟩ = some (.int .i64 size) := by subst hV; go_simp
  have v5 : W0.cell? ⟨w.heap.size, 5, none⟩ = some (.int .i64 limit) := by subst hV; go_simp
  have v6 : W0.cell? ⟨w.heap.size, 6, none⟩ = some (.slice la n6 lc) := by subst hV; go_simp
  have v7 : W0.cell? ⟨w.heap.size, 7, none⟩ = some (.slice rr n7 rc) := by subst hV; go_simp
  have v8 : W0.cell? ⟨w.heap.size, 8, none⟩ = some (.slice lk n8 lkc) := by subst hV; go_simp
  have v9 : W0.cell? ⟨w.heap.size, 9, none⟩ = some (.slice rk n9 rkc) := by subst hV; go_simp
  have v10 : W0.cell? ⟨w.heap.size, 10, none⟩ = some (.bool grouped) := by subst hV; go_simp
  have v11 : W0.cell? ⟨w.heap.size, 11, none⟩ = some (.slice ga n11 gc) := by subst hV; go_simp
  have v12 : W0.cell? ⟨w.heap.size, 12, none⟩ = some (.slice ag n12 ac) := by subst hV; go_simp
  clear hV
  go_loopw [5, 6] (fun u i wq => ∃ (j : Nat) (L : ch.PL), j ≤ n ∧ i = .int .i64 j ∧ ch.MV wq W0.heap.size u L ∧ ch.outOf L = (gs.take j).map RC ∧ Below W0.heap.size W0 wq) (fun _ i _ => n - (intOf i).toNat)
  case atStart => exact ⟨0, [], Nat.zero_le _, rfl, ⟨Nat.le_refl _, World.ownsRow_nil _ _ _ _, fun p hp => (by cases hp)⟩, rfl, Below.refl _ _⟩
  case round =>
    obtain ⟨i', L, hi', rfl, hmv, hLo, hnk⟩ := hrel
    have HMV : Hid (ch.MV wr W0.heap.size u5 L) := hmv
    have HLO : Hid (ch.outOf L = (gs.take i').map RC) := hLo
    have hbr : Below w.heap.size w wr := hb0.trans (hnk.mono hb0.size)
    clear hmv hLo
    have c0 := cell_later hnk v0
    have c1 := cell_later hnk v1
    have c2 := cell_later hnk v2
    have c3 := cell_later hnk v3
    have c4 := cell_later hnk v4
    have c5 := cell_later hnk v5
    have c6 := cell_later hnk v6
    have c7 := cell_later hnk v7
    have c8 := cell_later hnk v8
    have c9 := cell_later hnk v9
    have c10 := cell_later hnk v10
    have c11 := cell_later hnk v11
    have c12 := cell_later hnk v12
    by_cases hlt : i' < n
    · obtain ⟨b, o, e, x1, x2, x3⟩ := HG.out i' hlt
      have KRi : Hid (∀ w1, Below w.heap.size w w1 → _) := fun w1 hb => KR.out i' w1 hlt hb
      have KMi : Hid (∀ c ad w2, Below wr.drew.heap.size wr.drew w2 → ownV w2 wr.drew.heap.size (.slice ad (RR i').length c) (RR i') → _) := fun c ad w2 hb ho => KM.out i' W0.heap.size c L u5 ad wr.drew w2 hlt (ch.MV_below HMV.out (Below.refl _ _).drew) HLO.out hb ho
      subst e
      obtain ⟨⟨yr, yrc, yb, ybc, yhs⟩, hy⟩ : ∃ z, xs.getD i' default = z := ⟨_, rfl⟩
      obtain ⟨⟨hd, gn, bags⟩, hg⟩ : ∃ z, gs.getD i' default = z := ⟨_, rfl⟩
      rw [hy, hg] at x1 x3 KRi
      rw [hg] at x2
      dsimp only at x1 x2 x3 KRi
      obtain ⟨hn, hhn⟩ : ∃ z, hd.length = z := ⟨_, rfl⟩
      obtain ⟨bn, hbn⟩ : ∃ z, bags.length = z := ⟨_, rfl⟩
      obtain ⟨R, hR⟩ : ∃ z, RR i' = z := ⟨_, rfl⟩
      rw [hhn] at x1 KRi
      rw [hbn] at x3 KRi
      rw [hR] at KRi KMi
      have g1 := cell_later hb0 x1
      have g2 := cell_later hb0 x2
      have g3 := cell_later hb0 x3
      have q1 := cell_later hnk g1
      have q2 := cell_later hnk g2
      have q3 := cell_later hnk g3
      have i1 : (0 : Int) ≤ (i' : Int) := by omega
      have i2 : (i' : Int) < (n : Int) := by omega
      clear hy hg hhn hbn hR x1 x2 x3
      go_wp2
      go_region_held3 (fun w' => w'.cell? ⟨w.heap.size, 0, none⟩ = some (.int .i64 kind) ∧ w'.cell? ⟨w.heap.size, 1, none⟩ = some (.int .i64 mode) ∧ w'.cell? ⟨w.heap.size, 2, none⟩ = some (.int .i64 low) ∧ w'.cell? ⟨w.heap.size, 3, none⟩ = some (.int .i64 high) ∧ w'.cell? ⟨w.heap.size, 4, none⟩ = some (.int .i64 size) ∧ w'.cell? ⟨w.heap.size, 5, none⟩ = some (.int .i64 limit) ∧ w'.cell? ⟨w.heap.size, 6, none⟩ = some (.slice la n6 lc) ∧ w'.cell? ⟨w.heap.size, 7, none⟩ = some (.slice rr n7 rc) ∧ w'.cell? ⟨w.heap.size, 8, none⟩ = some (.slice lk n8 lkc) ∧ w'.cell? ⟨w.heap.size, 9, none⟩ = some (.slice rk n9 rkc) ∧ w'.cell? ⟨w.heap.size, 10, none⟩ = some (.bool grouped) ∧ w'.cell? ⟨w.heap.size, 11, none⟩ = some (.slice ga n11 gc) ∧ w'.cell? ⟨w.heap.size, 12, none⟩ = some (.slice ag n12 ac) ∧ w'.cell? ⟨b, o + i' * 3, none⟩ = some (.slice yr hn yrc) ∧ w'.cell? ⟨b, o + i' * 3 + 1, none⟩ = some (.int .i64 gn) ∧ w'.cell? ⟨b, o + i' * 3 + 2, none⟩ = some (.slice yb bn ybc)) (first | exact ⟨cell_later hN2 v0, cell_later hN2 v1, cell_later hN2 v2, cell_later hN2 v3, cell_later hN2 v4, cell_later hN2 v5, cell_later hN2 v6, cell_later hN2 v7, cell_later hN2 v8, cell_later hN2 v9, cell_later hN2 v10, cell_later hN2 v11, cell_later hN2 v12, cell_later hN2 g1, cell_later hN2 g2, cell_later hN2 g3⟩ | exact ⟨cell_later hN1 v0, cell_later hN1 v1, cell_later hN1 v2, cell_later hN1 v3, cell_later hN1 v4, cell_later hN1 v5, cell_later hN1 v6, cell_later hN1 v7, cell_later hN1 v8, cell_later hN1 v9, cell_later hN1 v10, cell_later hN1 v11, cell_later hN1 v12, cell_later hN1 g1, cell_later hN1 g2, cell_later hN1 g3⟩ | go_keep)
        (first | (go_at_call 36; refine (KRi.out wr.drew hbr.drew).mono ?_; rintro e y1 ⟨⟨ad, c, rfl, hown⟩, hy1⟩; have hN1 : Below W0.heap.size W0 y1 := hnk.drew.trans (hy1.mono hnk.size)) | (go_at_call 35; refine (KMi.out c ad y1 hy1 hown).mono ?_; rintro e y2 ⟨⟨v', L', rfl, hmv2, hL2⟩, hy2⟩; have hN2 : Below W0.heap.size W0 y2 := hN1.trans hy2))
      all_goals
        go_wp2
        go_roundw
        case rel => exact ⟨i' + 1, L', by omega, by go_num, hmv2, hL2, hN2⟩
        case measure => simp [intOf]; omega
    · have hje : i' = n := by omega
      subst hje
      obtain ⟨ad, cap', hu, _⟩ := ch.MV_len HMV.out
      have HLO2 : Hid (ch.outOf L = gs.map RC) := by show ch.outOf L = _; rw [HLO.out, ← HN.out, List.take_length]
      have hll : L.length = i' := by rw [← ch.out_len, HLO2.out, List.length_map]; exact HN.out
      rw [hll] at hu
      subst hu
      have HVW : Hid (ch.viewAt wr ad (gs.map RC)) := by have := ch.MV_view HMV.out; rw [HLO2.out] at this; exact this
      clear hll
      go_wp2
      go_ret
      exact ⟨⟨ad, cap', rfl, HVW.out⟩, hbr⟩
end Go.Proofs.YtbfbgdinhiglaaaGreat.gr
