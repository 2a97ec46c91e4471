import Derived.Test.YtbfbgdinhiglaaaGreatS34
import Derived.Deep.AppendLies
/- Group: the walk. -/
namespace Go.Proofs.YtbfbgdinhiglaaaGreat.bt
open Go.ChangeShapes Go.WideShapes Go.ChangeAt Go.RowKit Go.Maps Go.WideMaps Go.Sort
open vl pl
set_option linter.unusedVariables false
set_option linter.unusedSimpArgs false
theorem GS_look_all {W0 wr : World} {base B nn : Nat} {kf : ch.Cnt → List UInt8} {vs : List ch.Cnt} {kv : ch.KV} (h : GS W0 base wr B nn kf vs kv) (k : ByteArray) (hk : k.size ≤ maxLen) :
    ∃ v, isAt v (ch.getK kv k.data.toList) ∧ GR W0 base wr v (ofKey kf vs k.data.toList) ∧ ∀ w', Below wr.heap.size wr w' → (Instr.lookup 94 (.map (some B)) (.string k) false).run Tryz.prog w' = .ok v w' := by
  obtain ⟨v, _, h2, h3⟩ := GS_look h k hk
  refine ⟨v, h2, h3, fun w' hb => ?_⟩
  obtain ⟨u, k1, k2, _⟩ := GS_look (GS_below h hb) k hk
  rw [isAt_inj h2 k2]
  exact k1
theorem flatP_snoc (L : ch.PL) (x : Value) (c : ch.Cnt) : ch.flatP (L ++ [(x, c)]) = ch.flatP L ++ [x, .int .i64 c.n] := by rw [ch.flatP_app]; rfl
theorem figs_take (p : Pln) (v : List ch.Cnt) (k : List UInt8) (j : Nat) (h : j < p.aggs.length) : (figsR p v k).take (j + 1) = (figsR p v k).take j ++ [figC (p.aggs.getD j (0, 0)) (ofKey (keyG p) v k)] := by
  unfold figsR
  rw [List.take_succ_eq_append_getElem (by rw [List.length_map]; exact h)]
  simp [List.getD_eq_getElem?_getD, h]
set_option maxRecDepth 100000 in
set_option maxHeartbeats 4000000 in
theorem Group_err (p : Pln) (x : PA) (a : Option Addr) (ca : Nat) (v : List ch.Cnt) (w : World) (hw : wfPlan p) (hp : planAt w p x) (hl : v.length ≤ 9223372036854775807) (hv : ch.viewAt w a v) (hwv : ch.wfView v) (h0 : groupErr p v ≠ 0) :
    Calls Tryz.prog 17 #[planV p x, .slice a v.length ca] w fun e w' => e = .returned (.tuple #[.slice none 0 0, .int .i64 (groupErr p v)]) ∧ Below w.heap.size w w' := by
  have K1 : Hid (∀ w1, Below w.heap.size w w1 → Calls Tryz.prog 50 #[planV p x, .slice a v.length ca] w1 fun e w' => e = .returned (.int .i64 (groupErr p v)) ∧ Below w1.heap.size w1 w') := fun w1 hb => checkView_any p x a ca v w1 hw (planAt_below hp hb) hl (ch.viewAt_below hv hb) hwv
  obtain ⟨be, hbe⟩ : ∃ z, groupErr p v = z := ⟨_, rfl⟩
  rw [hbe] at K1 h0 ⊢
  obtain ⟨n, hn⟩ : ∃ n, v.length = n := ⟨_, rfl⟩
  rw [hn] at K1 ⊢
  have h0' : (be != 0) = true := by simpa using h0
  clear hbe hn hw hp hl hv hwv h0
  obtain ⟨kind, mode, low, high, size, limit, left, right, lkeys, rkeys, grouped, group, aggs⟩ := p
  obtain ⟨la, lc, rr, rc, lk, lkc, rk, rkc, g, gc, ag, ac⟩ := x
  unfold planV at K1 ⊢
  dsimp only at K1 ⊢
  obtain ⟨n6, h6⟩ : ∃ n, left.length = n := ⟨_, rfl⟩
  obtain ⟨n7, h7⟩ : ∃ n, right.length = n := ⟨_, rfl⟩
  obtain ⟨n8, h8⟩ : ∃ n, lkeys.length = n := ⟨_, rfl⟩
  obtain ⟨n9, h9⟩ : ∃ n, rkeys.length = n := ⟨_, rfl⟩
  obtain ⟨n11, h11⟩ : ∃ n, group.length = n := ⟨_, rfl⟩
  obtain ⟨n12, h12⟩ : ∃ n, aggs.length = n := ⟨_, rfl⟩
  simp only [h6, h7, h8, h9, h11, h12] at K1 ⊢
  clear h6 h7 h8 h9 h11 h12
  go_enter Tryz.func17, Tryz.ntmps17
  go_wp2_with fail
  refine (K1.out _ ((Below.refl _ _).alloc (Nat.le_refl _) _)).mono ?_
  rintro e w1 ⟨rfl, hb1⟩
  have hba := ((Below.refl _ _).alloc (Nat.le_refl _) _).trans (hb1.mono (by simp))
  go_wp2
  go_ret2
  exact ⟨rfl, hba⟩
set_option maxRecDepth 100000 in
set_option maxHeartbeats 8000000 in
theorem Group_ok (p : Pln) (x : PA) (a : Option Addr) (ca : Nat) (v : List ch.Cnt) (w : World) (hw : wfPlan p) (hp : planAt w p x) (hl : v.length ≤ 9223372036854775807) (hv : ch.viewAt w a v) (hwv : ch.wfView v) (h0 : groupErr p v = 0) :
    Calls Tryz.prog 17 #[planV p x, .slice a v.length ca] w fun e w' => (∃ ad cap, e = .returned (.tuple #[.slice ad (groupOut p v).length cap, .int .i64 0]) ∧ ch.viewAt w' ad (groupOut p v)) ∧ Below w.heap.size w w' := by
  have hok := group_ok h0
  have hfew := group_few hok.plan hok.grouped
  have hlen : v.length ≤ 4096 := hok.view.1
  obtain ⟨i0, hii, hz0, hz1, hz2⟩ := info_parts ch.infoC
  have HI : Hid (Tryz.prog.info? 71 = some i0 ∧ i0.zero = some (.agg #[.slice none 0 0, .int .i64 0]) ∧ i0.size = 2 ∧ i0.bytes = 32) := ⟨hii, hz0, hz1, hz2⟩
  clear hii hz0 hz1 hz2
  have K1 : Hid (∀ w1, Below w.heap.size w w1 → Calls Tryz.prog 50 #[planV p x, .slice a v.length ca] w1 fun e w' => e = .returned (.int .i64 0) ∧ Below w1.heap.size w1 w') := fun w1 hb => by
    have := checkView_any p x a ca v w1 hw (planAt_below hp hb) hl (ch.viewAt_below hv hb) hwv
    rwa [h0] at this
  have K2 : Hid (∀ w1 k ra rc, k < v.length → Below w.heap.size w w1 → vl.rowAt w1 ra (v.getD k default).r → Calls Tryz.prog 52 #[.slice ra (cols p).length rc, .slice x.g p.group.length x.gc] w1 fun e w' => (∃ ad' c', e = .returned (.slice ad' (headG p (v.getD k default)).length c') ∧ vl.rowAt w' ad' (headG p (v.getD k default))) ∧ Below w1.heap.size w1 w') := fun w1 k ra rc hk hb hr => by
    have hm : v.getD k default ∈ v := getD_mem hk
    have hrl := hok.len _ hm
    have := pick_any ra x.g rc x.gc (v.getD k default).r p.group w1 (ch.wfv_at hwv k hk).2.1 (by omega) hr (intsAt_below hp.g hb) (by rw [hrl]; exact group_in hok.plan)
    rw [hrl] at this
    refine this.mono ?_
    rintro e w' ⟨⟨ad', c', he, ho⟩, hb'⟩
    exact ⟨⟨ad', c', he, ownV_row ho⟩, hb'⟩
  have K3 : Hid (∀ w1 k ad' c', k < v.length → vl.rowAt w1 ad' (headG p (v.getD k default)) → Calls Tryz.prog 51 #[.slice ad' (headG p (v.getD k default)).length c'] w1 fun e w' => e = .returned (.tuple #[.string (keyS (headG p (v.getD k default))), .int .i64 0]) ∧ Below w1.heap.size w1 w') := fun w1 k ad' c' hk hr => key_ok ad' c' _ w1 hr (head_ok hok hwv (getD_mem hk))
  have HKS : Hid (∀ k, k < v.length → (keyS (headG p (v.getD k default))).data.toList = keyG p (v.getD k default) ∧ (keyS (headG p (v.getD k default))).size ≤ maxLen) := fun k hk => by
    have h1 := head_ok hok hwv (c := v.getD k default) (getD_mem hk)
    have h2 := keyS_ok h1
    refine ⟨h2, ?_⟩
    rw [← list_len, h2]
    have := encR_len _ (fun c hc => (h1.2 c hc).1)
    have := h1.1
    unfold maxLen; omega
  have HROW : Hid (∀ i, i < v.length → ∃ b off ra rc, a = some ⟨b, off, none⟩ ∧ w.cell? ⟨b, off + i * 2, none⟩ = some (.slice ra (cols p).length rc) ∧ vl.rowAt w ra (v.getD i default).r ∧ w.cell? ⟨b, off + i * 2 + 1, none⟩ = some (.int .i64 (v.getD i default).n)) := fun i hi => by
    have := hv i hi
    rw [hok.len _ (getD_mem hi)] at this
    exact this
  have HRL : Hid (∀ i, i < v.length → (v.getD i default).r.length = (cols p).length) := fun i hi => hok.len _ (getD_mem hi)
  have hgl : (gkeys p v).length = (groupOut p v).length := by unfold groupOut; rw [List.length_map]
  have HGK : Hid (∀ W0 base wr B nn kv, GS W0 base wr B nn (keyG p) v kv → kv.length = (groupOut p v).length ∧ ∀ i, i < (groupOut p v).length → (kv.getD i ([], 0)).1 = ((gkeys p v).getD i ([], 0)).1) := fun W0 base wr B nn kv h => by
    have e := GS_keys h
    have e1 : kv.length = (gkeys p v).length := by have := congrArg List.length e; simpa using this
    refine ⟨by rw [e1, hgl], fun i hi => ?_⟩
    have e2 := congrArg (fun l => l.getD i []) e
    have hi2 : i < (gkeys p v).length := by rw [hgl]; exact hi
    simpa [List.getD_eq_getElem?_getD, hi2, e1] using e2
  have HKM : Hid (∀ i, i < (groupOut p v).length → ∃ c ∈ v, keyG p c = ((gkeys p v).getD i ([], 0)).1) := fun i hi => (gkeys_mem p v _).1 ⟨_, by
    have hi2 : i < (gkeys p v).length := by rw [hgl]; exact hi
    simp [List.getD_eq_getElem?_getD, hi2], rfl⟩
  have HOUT : Hid (∀ i, i < (groupOut p v).length → (groupOut p v).take (i + 1) = (groupOut p v).take i ++ [⟨headR p v ((gkeys p v).getD i ([], 0)).1 ++ figsR p v ((gkeys p v).getD i ([], 0)).1, 1⟩]) := fun i hi => by
    rw [List.take_succ_eq_append_getElem hi]
    have hi2 : i < (gkeys p v).length := by rw [hgl]; exact hi
    simp [groupOut, groupRow, List.getD_eq_getElem?_getD, hi2]
  have HHD : Hid (∀ i, i < (groupOut p v).length → rowOk (headR p v ((gkeys p v).getD i ([], 0)).1) ∧ encR (headR p v ((gkeys p v).getD i ([], 0)).1) = ((gkeys p v).getD i ([], 0)).1) := fun i hi => headR_is hok hwv (HKM.out i hi)
  have K5 : Hid (∀ j w1 k ad cap, j < p.aggs.length → ch.viewAt w1 ad (ofKey (keyG p) v k) → Calls Tryz.prog 56 #[.agg #[.int .i64 (p.aggs.getD j (0, 0)).1, .int .i64 (p.aggs.getD j (0, 0)).2], .slice ad (ofKey (keyG p) v k).length cap] w1 fun e w' => e = .returned (celV (figC (p.aggs.getD j (0, 0)) (ofKey (keyG p) v k))) ∧ Below w1.heap.size w1 w') := fun j w1 k ad cap hj hva => by
    have hm : p.aggs.getD j (0, 0) ∈ p.aggs := by simp [List.getD_eq_getElem?_getD, hj]
    have ha := agg_in hok.plan hm hok.grouped
    have hsub : ∀ c ∈ ofKey (keyG p) v k, c ∈ v := fun c hc => by unfold ofKey at hc; exact (List.mem_filter.1 hc).1
    refine figure_any ad cap _ _ w1 ?_ hva ha.1 ⟨(agg_col hok.plan hm).1, fun c hc => by rw [hok.len c (hsub c hc)]; exact (agg_col hok.plan hm).2⟩ (fun c hc => (hwv c (hsub c hc)).2.1)
    have : (ofKey (keyG p) v k).length ≤ v.length := by unfold ofKey; exact List.length_filter_le _ _
    omega
  have HFT : Hid (∀ k j, j < p.aggs.length → (figsR p v k).take (j + 1) = (figsR p v k).take j ++ [figC (p.aggs.getD j (0, 0)) (ofKey (keyG p) v k)]) := fun k j h => figs_take p v k j h
  have HFE : Hid (∀ k, (figsR p v k).take p.aggs.length = figsR p v k ∧ (figsR p v k).length = p.aggs.length) := fun k => by
    have : (figsR p v k).length = p.aggs.length := by unfold figsR; rw [List.length_map]
    exact ⟨by rw [← this, List.take_length], this⟩
  have HAG : Hid (∀ j, j < p.aggs.length → ∃ b off, x.a = some ⟨b, off, none⟩ ∧ w.cell? ⟨b, off + j * 2, none⟩ = some (.int .i64 (p.aggs.getD j (0, 0)).1) ∧ w.cell? ⟨b, off + j * 2 + 1, none⟩ = some (.int .i64 (p.aggs.getD j (0, 0)).2)) := hp.a
  have HTK : Hid (∀ k, k < v.length → v.take (k + 1) = v.take k ++ [v.getD k default]) := fun k hk => take_c v k hk
  obtain ⟨kf, e1⟩ : ∃ f, keyG p = f := ⟨_, rfl⟩
  obtain ⟨HDf, e2⟩ : ∃ f : Nat → List Cel, ∀ k, headG p (v.getD k default) = f k := ⟨_, fun _ => rfl⟩
  obtain ⟨KSf, e3⟩ : ∃ f : Nat → ByteArray, ∀ k, keyS (HDf k) = f k := ⟨_, fun _ => rfl⟩
  obtain ⟨KY, e4⟩ : ∃ f : Nat → List UInt8, ∀ i, ((gkeys p v).getD i ([], 0)).1 = f i := ⟨_, fun _ => rfl⟩
  obtain ⟨HR, e5⟩ : ∃ f : List UInt8 → List Cel, ∀ k, headR p v k = f k := ⟨_, fun _ => rfl⟩
  obtain ⟨FG, e6⟩ : ∃ f : List UInt8 → List Cel, ∀ k, figsR p v k = f k := ⟨_, fun _ => rfl⟩
  obtain ⟨OUT, e7⟩ : ∃ z, groupOut p v = z := ⟨_, rfl⟩
  simp only [e1, e2, e4, e5, e6, e7] at K2 K3 HKS HGK HKM HOUT HHD K5 HFT HFE ⊢
  simp only [e3] at K3 HKS
  obtain ⟨cn, e8⟩ : ∃ z, (cols p).length = z := ⟨_, rfl⟩
  simp only [e8] at K2 HROW HRL
  obtain ⟨AG, e9⟩ : ∃ f : Nat → Int × Int, ∀ j, p.aggs.getD j (0, 0) = f j := ⟨_, fun _ => rfl⟩
  simp only [e9] at K5 HFT HAG
  obtain ⟨n, hn⟩ : ∃ n, v.length = n := ⟨_, rfl⟩
  have HNV : Hid (v.take n = v) := by show v.take n = v; rw [← hn, List.take_length]
  simp only [hn] at K1 K2 K3 HKS HROW HRL HTK hlen ⊢
  clear e1 e2 e3 e4 e5 e6 e7 e8 e9 hn hgl hw hp hl hv hwv h0 hok HKM
  obtain ⟨kind, mode, low, high, size, limit, left, right, lkeys, rkeys, grouped, group, aggs⟩ := p
  obtain ⟨la, lc, rr, rc, lk, lkc, rk, rkc, g, gc, ag, ac⟩ := x
  unfold planV at K1 ⊢
  dsimp only at K1 K2 K5 HFT HFE HAG hfew ⊢
  obtain ⟨n6, h6⟩ : ∃ n, left.length = n := ⟨_, rfl⟩
  obtain ⟨n7, h7⟩ : ∃ n, right.length = n := ⟨_, rfl⟩
  obtain ⟨n8, h8⟩ : ∃ n, lkeys.length = n := ⟨_, rfl⟩
  obtain ⟨n9, h9⟩ : ∃ n, rkeys.length = n := ⟨_, rfl⟩
  obtain ⟨n11, h11⟩ : ∃ n, group.length = n := ⟨_, rfl⟩
  obtain ⟨n12, h12⟩ : ∃ n, aggs.length = n := ⟨_, rfl⟩
  simp only [h6, h7, h8, h9, h11, h12] at K1 K2 K5 HFT HFE HAG hfew ⊢
  clear h6 h7 h8 h9 h11 h12
  go_enter Tryz.func17, Tryz.ntmps17
  go_wp2_with fail
  generalize hW0 : (World.alloc w _) = W0
  have hb0 : Below w.heap.size w W0 := by rw [← hW0]; exact (Below.refl _ _).alloc (Nat.le_refl _) _
  have s11 : W0.cell? ⟨w.heap.size, 11, none⟩ = some (.slice g n11 gc) := by subst hW0; go_simp
  have s12 : W0.cell? ⟨w.heap.size, 12, none⟩ = some (.slice ag n12 ac) := by subst hW0; go_simp
  clear hW0
  refine (K1.out _ hb0).mono ?_
  rintro e W1 ⟨rfl, hb1⟩
  have hbw : Below w.heap.size w W1 := hb0.trans (hb1.mono hb0.size)
  replace s11 := cell_later hb1 s11
  replace s12 := cell_later hb1 s12
  have hmm := @run_makeMap Tryz.prog
  go_wp2
  go_loopw [28] (fun i wr => ∃ (k nn : Nat) (kv : ch.KV), k ≤ n ∧ i = .int .i64 k ∧ nn ≤ k ∧ GS W1 (W1.heap.size + 1) wr W1.heap.size nn kf (v.take k) kv ∧ Below W1.heap.size W1 wr) (fun i _ => n - (intOf i).toNat)
  case atStart => exact ⟨0, 0, [], Nat.zero_le _, rfl, Nat.le_refl _, GS_start W1 W1 kf, (Below.refl _ _).alloc (Nat.le_refl _) _⟩
  case round =>
    obtain ⟨k, nn, kv, hk, rfl, hnn, hgs, hnx⟩ := hrel
    have HGS : Hid (GS W1 (W1.heap.size + 1) wr W1.heap.size nn kf (v.take k) kv) := hgs
    have hbr : Below w.heap.size w wr := hbw.trans (hnx.mono hbw.size)
    have hsz := hnx.size
    have hlow := hgs.low
    have c11 := cell_later hnx s11
    have c12 := cell_later hnx s12
    have hlw : w.heap.size < wr.heap.size := World.block_lt_of_cell? _ _ c11
    clear hgs
    by_cases hlt : k < n
    · obtain ⟨b, o, ra, rc2, e, x1, x2, x3⟩ := HROW.out k hlt
      subst e
      have q1 := cell_later hbr x1
      have q3 := cell_later hbr x3
      have i1 : (0 : Int) ≤ (k : Int) := by omega
      have i2 : (k : Int) < (n : Int) := by omega
      have HR1 : Hid (vl.rowAt W1 ra (v.getD k default).r) := rowAt_below x2 hbw
      have KK2 : Hid (∀ w1, Below wr.heap.size wr w1 → _) := fun w1 hb => K2.out w1 k ra rc2 hlt (hbr.trans (hb.mono hbr.size)) (rowAt_below (rowAt_below x2 hbr) hb)
      have KK3 : Hid (∀ w1 ad' c', vl.rowAt w1 ad' (HDf k) → _) := fun w1 ad' c' hr => K3.out w1 k ad' c' hlt hr
      have HKk := HKS.out k hlt
      have HKB : Hid ((KSf k).data.toList = kf (v.getD k default)) := HKk.1
      have hks := HKk.2
      have HCR : Hid ((v.getD k default).r.length = cn) := HRL.out k hlt
      have HT1 : Hid (v.take (k + 1) = v.take k ++ [v.getD k default]) := HTK.out k hlt
      obtain ⟨c, hc⟩ : ∃ z, v.getD k default = z := ⟨_, rfl⟩
      rw [hc] at HR1 HKB HCR HT1 q3
      obtain ⟨cr, m⟩ := c
      dsimp only at HR1 HCR q3
      obtain ⟨ks, hks'⟩ : ∃ z, KSf k = z := ⟨_, rfl⟩
      obtain ⟨hd, hhd⟩ : ∃ z, HDf k = z := ⟨_, rfl⟩
      rw [hks'] at HKB hks KK3
      rw [hhd] at KK2 KK3
      obtain ⟨hn', hhn⟩ : ∃ z, hd.length = z := ⟨_, rfl⟩
      rw [hhn] at KK2 KK3
      clear hc hks' hhd hhn HKk x1 x2 x3
      go_wp2_with fail
      refine (KK2.out _ ((Below.refl _ _).alloc (Nat.le_refl _) _)).mono ?_
      rintro e w1 ⟨⟨ad', c', rfl, hrow⟩, hb1'⟩
      have HRW : Hid (vl.rowAt w1 ad' hd) := hrow
      have hbx : Below wr.heap.size wr w1 := ((Below.refl _ _).alloc (Nat.le_refl _) _).trans (hb1'.mono (by simp))
      have l0 : w1.cell? ⟨wr.heap.size, 0, none⟩ = some (.slice ra cn rc2) := cell_later hb1' (by go_simp)
      have l1 : w1.cell? ⟨wr.heap.size, 1, none⟩ = some (.int .i64 m) := cell_later hb1' (by go_simp)
      clear hrow
      go_wp2_with fail
      refine (KK3.out _ ad' c' HRW.out).mono ?_
      rintro e w2 ⟨rfl, hb2⟩
      have hby : Below wr.heap.size wr w2 := hbx.trans (hb2.mono hbx.size)
      replace l0 := cell_later hb2 l0
      replace l1 := cell_later hb2 l1
      have HGS2 : Hid (GS W1 (W1.heap.size + 1) w2 W1.heap.size nn kf (v.take k) kv) := GS_below HGS.out hby
      obtain ⟨lv, hla, ⟨L, hL1, hL2, hL3⟩, hlook⟩ := GS_look_all HGS2.out ks hks
      have hlook2 := hlook w2 (Below.refl _ _)
      have HLA : Hid (isAt lv (ch.getK kv ks.data.toList)) := hla
      have HL : Hid (w2.ownsRow (W1.heap.size + 1) 71 2 lv L.length (ch.flatP L) ∧ ch.outOf L = ofKey kf (v.take k) ks.data.toList ∧ ∀ p ∈ L, ∃ ad cap, p.1 = .slice ad p.2.r.length cap ∧ vl.rowAt W1 ad p.2.r) := ⟨hL1, hL2, hL3⟩
      have HLL : Hid (L.length ≤ 4096) := by
        show L.length ≤ 4096
        have e := congrArg List.length hL2
        rw [ch.out_len] at e
        have e2 : (ofKey kf (v.take k) ks.data.toList).length ≤ (v.take k).length := by unfold ofKey; exact List.length_filter_le _ _
        rw [List.length_take] at e2
        omega
      have hl2 : W1.heap.size + 1 ≤ w2.heap.size := HGS2.out.low
      have HMP : Hid (w2.ownsMap Tryz.prog 9 hElem W1.heap.size nn (ch.toD kv)) := HGS2.out.map
      have HVB : Hid (some W1.heap.size ≠ lv.ownBlock) := fun e => by
        have := (ch.own_lt hL1 e.symm).1; omega
      have HKEY : Hid (keyOf Tryz.prog 9 (.string ks) = some (.string ks.data.toList)) := keyOf_string_mk Tryz.underlying9 hks
      obtain ⟨ln, hln⟩ : ∃ z, L.length = z := ⟨_, rfl⟩
      have HLN : Hid (L.length = ln) := hln
      have HL1 : Hid (w2.ownsRow (W1.heap.size + 1) 71 2 lv ln (ch.flatP L)) := by have := hL1; rw [hln] at this; exact this
      have hln4 : ln ≤ 4096 := by rw [← hln]; exact HLL.out
      clear hla hL1 hL2 hL3 hlook hln
      go_wp2_with (first
        | (at_builtin; refine wpList_append_lies _ rfl (.tmp 48) (.tmp 50) 27 rfl (W1.heap.size + 1) 71 i0 (.agg #[.slice none 0 0, .int .i64 0]) 2 32 Tryz.underlying27 HI.out.1 HI.out.2.1 HI.out.2.2.1 HI.out.2.2.2 rfl (by decide) lv ln (ch.flatP L) rfl (World.ownsRow.alloc HL1.out _) ⟨w2.heap.size, 0, none⟩ 1 1 [.slice ra cn rc2, .int .i64 m] rfl rfl (cell_two_new _ _ _ _) (by intro u hu; simp at hu; rcases hu with rfl | rfl <;> rfl) (by decide) (by unfold maxLen; omega) (by omega) (by simp; omega) (w2.heap.size + 1) (by simp) ?_; intro g4 cap4 w4 hown4 hgrow4 hat4 hlt4)
        | (at_mapUpdate; refine wpList_mapUpdate_own _ rfl (.tmp 44) (.tmp 45) (.tmp 51) 94 rfl 9 27 ch.law Tryz.underlying94 hElem W1.heap.size nn _ rfl ((HMP.out.alloc _).kept hgrow4 HVB.out) (by unfold maxLen; omega) _ _ (.string ks.data.toList) rfl rfl HKEY.out _ [] (isAt_some g4 (ln + 1) cap4) ?_; intro w5 hmap5 hgrow5)
        | go_in)
      have HST : Hid (GS W1 (W1.heap.size + 1) w5 W1.heap.size (nn + 1) kf (v.take (k + 1)) (ch.putK kv (kf ⟨cr, m⟩) ((pr (pr g4 (ln + 1)) cap4 : Nat) + 1))) := by
        show GS _ _ _ _ _ _ _ _
        rw [HT1.out]
        have hA := HLA.out
        have hB := HL.out
        rw [HKB.out] at hA hB hmap5
        have hr1 : cr.length = cn := HCR.out
        have := GS_put (c := ⟨cr, m⟩) (rc := rc2) (ad := ra) HGS2.out hA hB.1 hB.2.1 hB.2.2 HR1.out hgrow4 hat4 (cap := cap4) (by
          rw [flatP_snoc, hr1, HLN.out]; exact hown4) (by rw [HLN.out]; exact hmap5) hgrow5
        rw [HLN.out] at this
        exact this
      have hbz : Below W1.heap.size W1 w5 := by
        have h1 : Below W1.heap.size W1 w2 := hnx.trans (hby.mono hsz)
        exact ((h1.alloc (by omega) _).grown hgrow4 (by simp; omega) (fun b hb => by have := (ch.own_lt HL1.out hb).1; omega)).grown hgrow5 (by have := hgrow4.size; simp at this; omega) (fun b hb => by cases hb; exact Nat.le_refl _)
      go_roundw
      case rel => exact ⟨k + 1, nn + 1, _, by omega, by go_num, by omega, HST.out, hbz⟩
      case measure => simp [intOf]; omega
    · have hkn : k = n := by omega
      subst hkn
      have HGV : Hid (GS W1 (W1.heap.size + 1) wr W1.heap.size nn kf v kv) := by have := HGS.out; rw [HNV.out] at this; exact this
      obtain ⟨hkl, hky⟩ := HGK.out _ _ _ _ _ _ HGV.out
      have HKY : Hid (∀ i, i < OUT.length → (kv.getD i ([], 0)).1 = KY i) := hky
      have HUP : Hid (ch.rising kv) := HGV.out.up
      have hkn2 := HGV.out.map.size_le
      rw [ch.toD_size] at hkn2
      obtain ⟨on, hon⟩ : ∃ z, OUT.length = z := ⟨_, rfl⟩
      have HON : Hid (OUT.length = on) := hon
      have HKL : Hid (kv.length = on) := by show kv.length = on; rw [hkl, hon]
      rw [hkl, hon] at hkn2
      rw [hon] at HOUT HHD HKY
      have hWr : Below W1.heap.size W1 wr := hnx
      clear hky hkl hon HGS
      go_wp2_with fail
      refine (keysC_any _ _).mono ?_
      rintro e w' ⟨rfl, hw'⟩
      subst hw'
      go_wp2_with fail
      refine (sortedC_any W1.heap.size nn kv wr HGV.out.map HUP.out (by rw [HKL.out]; omega)).mono ?_
      rintro e W2 ⟨⟨sv, rfl, hrow⟩, hb2⟩
      obtain ⟨ks, kc, hsv, hks⟩ := ch.row_form hrow
      rw [HKL.out] at hsv hks
      subst hsv
      have HRW : Hid (W2.ownsRow (wr.heap.size + 1) 9 1 (.slice ks on kc) kv.length ((kv.map (·.1)).map encStr)) := hrow
      have hb2w : Below wr.heap.size wr W2 := ((Below.refl _ _).alloc (Nat.le_refl _) _).trans (hb2.mono (by omega))
      clear hrow
      go_wp2
      go_loopw [12, 57] (fun u i wq => ∃ (j : Nat) (L : ch.PL), j ≤ on ∧ i = .int .i64 j ∧ ch.MV wq W2.heap.size u L ∧ ch.outOf L = OUT.take j ∧ Below W2.heap.size W2 wq) (fun _ i _ => on - (intOf i).toNat)
      case atStart => exact ⟨0, [], Nat.zero_le _, rfl, ⟨Nat.le_refl _, World.ownsRow_nil _ _ _ _, fun p hp => (by cases hp)⟩, rfl, Below.refl _ _⟩
      case round =>
        rename World => wk
        obtain ⟨i', L, hi', rfl, hmv, hLo, hnk⟩ := hrel
        have HMV : Hid (ch.MV wk W2.heap.size u12 L) := hmv
        have HLO : Hid (ch.outOf L = OUT.take i') := hLo
        have hbk : Below wr.heap.size wr wk := hb2w.trans (hnk.mono hb2w.size)
        have hbkw : Below w.heap.size w wk := hbr.trans (hbk.mono hbr.size)
        have hbk1 : Below W1.heap.size W1 wk := hWr.trans (hbk.mono hWr.size)
        have d12 := cell_later hbk c12
        have hLl : L.length ≤ 4096 := by
          have e := congrArg List.length hLo
          rw [ch.out_len, List.length_take, HON.out] at e
          omega
        clear hmv hLo
        by_cases hlt2 : i' < on
        · obtain ⟨gk, rfl⟩ := hks (by omega)
          have hrow2 := HRW.out
          have hcw : W2.cell? ⟨gk, i', none⟩ = some (.string ⟨(kv.getD i' ([], 0)).1.toArray⟩) := by
            have := hrow2
            rw [← HKL.out] at this
            exact ch.row_cell this i' (by rw [HKL.out]; exact hlt2)
          rw [HKY.out i' hlt2] at hcw
          have hck := cell_later hnk hcw
          obtain ⟨hro, hre⟩ := HHD.out i' hlt2
          have HO1 := HOUT.out i' hlt2
          obtain ⟨ky, hky⟩ : ∃ z, KY i' = z := ⟨_, rfl⟩
          rw [hky] at hck hro hre HO1
          obtain ⟨hd, hhd⟩ : ∃ z, HR ky = z := ⟨_, rfl⟩
          rw [hhd] at hro hre HO1
          obtain ⟨fg, hfg⟩ : ∃ z, FG ky = z := ⟨_, rfl⟩
          have HFT1 : Hid (∀ j, j < n12 → fg.take (j + 1) = fg.take j ++ [figC (AG j) (ofKey kf v ky)]) := fun j hj => by rw [← hfg]; exact HFT.out ky j hj
          have HFE1 := HFE.out ky
          rw [hfg] at HFE1 HO1
          have HFE2 : Hid (fg.take n12 = fg ∧ fg.length = n12) := HFE1
          have HO2 : Hid (OUT.take (i' + 1) = OUT.take i' ++ [⟨hd ++ fg, 1⟩]) := HO1
          have hel := encR_len hd (fun c hc => (hro.2 c hc).1)
          have hr8 := hro.1
          obtain ⟨key, hkey⟩ : ∃ z, (⟨ky.toArray⟩ : ByteArray) = z := ⟨_, rfl⟩
          have hkd : key.data.toList = ky := by rw [← hkey]
          have hksz : key.size ≤ maxLen := by rw [← list_len, hkd, ← hre]; unfold maxLen; omega
          have KB := back_yes key hd wk hksz hro (by rw [hkd]; exact hre)
          rw [hkey] at hck
          obtain ⟨gv, hga, hgr, hglook⟩ := GS_look_all (GS_below HGV.out hbk) key hksz
          rw [hkd] at hga hgr
          obtain ⟨gad, gcap, hgv, hgview⟩ := GR_view hgr hbk1
          have KF : Hid (∀ j w1, j < n12 → Below wk.heap.size wk w1 → Calls Tryz.prog 56 #[.agg #[.int .i64 (AG j).1, .int .i64 (AG j).2], .slice gad (ofKey kf v ky).length gcap] w1 fun e w' => e = .returned (celV (figC (AG j) (ofKey kf v ky))) ∧ Below w1.heap.size w1 w') := fun j w1 hj hb => K5.out j w1 ky gad gcap hj (ch.viewAt_below hgview hb)
          subst hgv
          obtain ⟨gl, hgl⟩ : ∃ z, (ofKey kf v ky).length = z := ⟨_, rfl⟩
          rw [hgl] at KF hglook
          obtain ⟨hn', hhn⟩ : ∃ z, hd.length = z := ⟨_, rfl⟩
          have HHN : Hid (hd.length = hn') := hhn
          have hhn8 : hn' ≤ 8 := by omega
          have HGLK : Hid (∀ w', Below wk.heap.size wk w' → (Instr.lookup 94 (.map (some W1.heap.size)) (.string key) false).run Tryz.prog w' = .ok (.slice gad gl gcap) w') := hglook
          rw [hhn] at KB
          have KBH : Hid (Calls Tryz.prog 55 #[.string key] wk fun e w' => (∃ ad cap, e = .returned (.tuple #[.slice ad hn' cap, .int .i64 0]) ∧ ownV w' wk.heap.size (.slice ad hn' cap) hd) ∧ Below wk.heap.size wk w') := KB
          have i1 : (0 : Int) ≤ (i' : Int) := by omega
          have i2 : (i' : Int) < (on : Int) := by omega
          clear hcw hrow2 hky hhd hfg HFE1 HO1 hel hr8 hkey hkd hksz hro hre KB hga hgr hglook hgview hgl hhn
          go_wp2_with fail
          refine KBH.out.mono ?_
          rintro e w3 ⟨⟨ad3, cap3, rfl, hov⟩, hb3⟩
          have HOV : Hid (ownV w3 wk.heap.size (.slice ad3 hn' cap3) hd) := hov
          have e12 := cell_later hb3 d12
          clear hov
          go_wp2
          go_loopw [15, 72] (fun rv i wq => ∃ j : Nat, j ≤ n12 ∧ i = .int .i64 j ∧ ownV wq wk.heap.size rv (hd ++ fg.take j) ∧ Below wk.heap.size wk wq) (fun _ i _ => n12 - (intOf i).toNat)
          case atStart => exact ⟨0, Nat.zero_le _, rfl, by simpa using HOV.out, hb3⟩
          case round =>
            rename World => wq
            obtain ⟨j, hj, rfl, hrv, hbq⟩ := hrel
            have HRV : Hid (ownV wq wk.heap.size u15 (hd ++ fg.take j)) := hrv
            have hsq := hbq.size
            clear hrv
            by_cases hjl : j < n12
            · obtain ⟨ab, ao, e, y1, y2⟩ := HAG.out j hjl
              subst e
              have hbqw : Below w.heap.size w wq := hbkw.trans (hbq.mono hbkw.size)
              have z1 := cell_later hbqw y1
              have z2 := cell_later hbqw y2
              have KFj : Hid (∀ w1, Below wk.heap.size wk w1 → _) := fun w1 hb => KF.out j w1 hjl hb
              have HF1 := HFT1.out j hjl
              obtain ⟨⟨af, acol⟩, hag⟩ : ∃ z, AG j = z := ⟨_, rfl⟩
              rw [hag] at z1 z2 KFj HF1
              obtain ⟨⟨fk, fv, fs⟩, hfc⟩ : ∃ z, figC (af, acol) (ofKey kf v ky) = z := ⟨_, rfl⟩
              rw [hfc] at KFj HF1
              unfold celV at KFj
              dsimp only at z1 z2 KFj
              have HF2 : Hid (fg.take (j + 1) = fg.take j ++ [⟨fk, fv, fs⟩]) := HF1
              have hlk := fun o => HGLK.out (wq.alloc o) (hbq.alloc hsq o)
              have hrl : (hd ++ fg.take j).length ≤ 1000000 := by rw [List.length_append, HHN.out, List.length_take]; omega
              have HRLE : Hid ((hd ++ fg.take j).length ≤ 1000000) := hrl
              have j1 : (0 : Int) ≤ (j : Int) := by omega
              have j2 : (j : Int) < (n12 : Int) := by omega
              clear hag hfc HF1 y1 y2 hrl
              go_wp2_with (first
                | (go_at_call 56; refine (KFj.out _ (hbq.alloc hsq _)).mono ?_; rintro e w6 ⟨rfl, hb6⟩; have hb6' := (hbq.alloc hsq _).trans (hb6.mono (by simp; omega)); have HRV6 : Hid (ownV w6 wk.heap.size u15 (hd ++ fg.take j)) := ownV_below (ownV_alloc HRV.out _) hb6; have hs6 := hb6'.size)
                | (at_builtin; refine append_cell rfl (.tmp 76) (.tmp 82) rfl wk.heap.size u15 (hd ++ fg.take j) rfl w6 HRV6.out ⟨fk, fv, fs⟩ w6.heap.size rfl rfl HRLE.out hs6 ?_; intro v7 w7 hown7 hgrow7))
              obtain ⟨ad7, cap7, hv7⟩ := ownV_form hown7
              have hb7 := below_appendV hb6' hs6 HRV6.out hgrow7
              subst hv7
              go_roundw
              case rel => exact ⟨j + 1, by omega, by go_num, by rw [HF2.out, ← List.append_assoc]; exact hown7, hb7⟩
              case measure => simp [intOf]; omega
            · have hje : j = n12 := by omega
              subst hje
              have HRE : Hid (ownV wq wk.heap.size u15 (hd ++ fg)) := by have := HRV.out; rw [HFE2.out.1] at this; exact this
              obtain ⟨ad5, cap5, hv5⟩ := ownV_form HRE.out
              have HRN : Hid ((hd ++ fg).length = hn' + j) := by show (hd ++ fg).length = hn' + j; rw [List.length_append, HHN.out, HFE2.out.2]
              rw [HRN.out] at hv5
              subst hv5
              have HMQ : Hid (ch.MV wq W2.heap.size u12 L) := ch.MV_below HMV.out hbq
              obtain ⟨ln, hln⟩ : ∃ z, L.length = z := ⟨_, rfl⟩
              have HLN : Hid (L.length = ln) := hln
              have HL1 : Hid (wq.ownsRow W2.heap.size 71 2 u12 ln (ch.flatP L)) := by have := HMQ.out.own; rw [hln] at this; exact this
              have hlq : W2.heap.size ≤ wq.heap.size := HMQ.out.low
              rw [hln] at hLl
              clear hln HRV
              go_wp2_with (at_builtin; refine wpList_append_lies _ rfl (.tmp 85) (.tmp 88) 27 rfl W2.heap.size 71 i0 (.agg #[.slice none 0 0, .int .i64 0]) 2 32 Tryz.underlying27 HI.out.1 HI.out.2.1 HI.out.2.2.1 HI.out.2.2.2 rfl (by decide) u12 ln (ch.flatP L) rfl (World.ownsRow.alloc HL1.out _) ⟨wq.heap.size, 0, none⟩ 1 1 [.slice ad5 (hn' + j) cap5, .int .i64 1] rfl rfl (cell_two_new _ _ _ _) (by intro u hu; simp at hu; rcases hu with rfl | rfl <;> rfl) (by decide) (by unfold maxLen; omega) (by omega) (by simp; omega) (wq.heap.size + 1) (by simp) ?_; intro g8 cap8 w8 hown8 hgrow8 hat8 hlt8)
              have hsn := MV_snoc (rc := cap5) (r := hd ++ fg) (m := 1) (cap := cap8) HMV.out hbq (ownV_row (by rw [HRN.out]; exact HRE.out)) (fun b hb => by rw [HRN.out] at hb; exact ch.own_lt HRE.out hb) (by rw [flatP_snoc, HRN.out, HLN.out]; exact hown8) hgrow8 hat8
              have HSN : Hid (ch.MV w8 W2.heap.size (.slice (some ⟨g8, 0, none⟩) (ln + 1) cap8) (L ++ [(.slice ad5 (hd ++ fg).length cap5, ⟨hd ++ fg, 1⟩)]) ∧ Below W2.heap.size W2 w8) := by
                have h1 := hsn.1
                rw [HLN.out] at h1
                exact ⟨h1, hnk.trans (hsn.2.mono (Nat.le_refl _))⟩
              clear hsn
              go_roundw
              case rel => exact ⟨i' + 1, _, by omega, by go_num, HSN.out.1, by rw [HO2.out, ← HLO.out]; simp [ch.outOf], HSN.out.2⟩
              case measure => simp [intOf]; omega
        · have hje : i' = on := by omega
          subst hje
          obtain ⟨ad, cap, hu, _⟩ := ch.MV_len HMV.out
          have HLO2 : Hid (ch.outOf L = OUT) := by show ch.outOf L = OUT; rw [HLO.out, ← HON.out, List.take_length]
          have hll : L.length = i' := by rw [← ch.out_len, HLO2.out]; exact HON.out
          rw [hll] at hu
          subst hu
          have HVW : Hid (ch.viewAt wk ad OUT) := by have := ch.MV_view HMV.out; rw [HLO2.out] at this; exact this
          clear hll
          go_wp2
          go_ret2
          exact ⟨⟨ad, cap, (by rw [HON.out]; rfl), HVW.out⟩, hbkw⟩
theorem Group_any (p : Pln) (x : PA) (a : Option Addr) (ca : Nat) (v : List ch.Cnt) (w : World) (hw : wfPlan p) (hp : planAt w p x) (hl : v.length ≤ 9223372036854775807) (hv : ch.viewAt w a v) (hwv : ch.wfView v) :
    Calls Tryz.prog 17 #[planV p x, .slice a v.length ca] w fun e w' => grpRes p v e w' ∧ Below w.heap.size w w' := by
  by_cases h0 : groupErr p v = 0
  · exact (Group_ok p x a ca v w hw hp hl hv hwv h0).mono fun e w' h => ⟨.inr ⟨h0, h.1⟩, h.2⟩
  · exact (Group_err p x a ca v w hw hp hl hv hwv h0).mono fun e w' h => ⟨.inl ⟨h0, h.1⟩, h.2⟩
end Go.Proofs.YtbfbgdinhiglaaaGreat.bt
