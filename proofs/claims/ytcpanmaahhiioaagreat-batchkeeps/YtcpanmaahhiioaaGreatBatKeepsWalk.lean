/- BatchKeeps answers true. -/
import Derived.Test.YtcpanmaahhiioaaGreatBatKeep2
import Derived.Test.YtcpanmaahhiioaaGreatCapJoined
import Derived.Test.YtcpanmaahhiioaaGreatBatOrd1
import Derived.Test.YtcpanmaahhiioaaGreatMgBatL
import Derived.BigRegion
namespace Go.Proofs.YtcpanmaahhiioaaGreat.bt
open Go.ChangeShapes Go.WideShapes Go.ChangeAt Go.RowKit Go.Maps Go.WideMaps
open vl pl
set_option linter.unusedVariables false
set_option linter.unusedSimpArgs false
/-- a view of these counts -/
def ofRows (rk : ch.KV) (V : List ch.Cnt) : Prop := ch.kvOf V = rk ∧ ch.viewOk V ∧ ch.wfView V
theorem joined_n {p : Pln} {L R : List Stm} {V : List ch.Cnt} (h : batchErr p L R = 0) (hL : wfStms L) (hR : wfStms R) (hv : ofRows (rowsK (told p L R)) V) : ∀ c ∈ V, (0 ≤ c.n ∧ c.n ≤ 4096) ∧ c.r.length ≤ 4096 := by
  intro c hc
  have hT := told_ok h hL hR
  have hTl : (told p L R).length ≤ 4096 := by have := told_len p L R (batch_ok h).many; omega
  have hg := rowsK_good (fun r hr => (hT r hr).1) hTl
  have hmem : (encR c.r, c.n) ∈ rowsK (told p L R) := by rw [← hv.1]; exact List.mem_map.2 ⟨c, hc, rfl⟩
  have hge : (cntR (told p L R) (encR c.r) : Int) = c.n := by rw [← rowsK_get hTl]; exact ch.getK_of hg.up hmem
  have h2 : cntR (told p L R) (encR c.r) ≤ (told p L R).length := List.length_filter_le _ _
  exact ⟨⟨by omega, by omega⟩, by have := (ch.view_rows hv.2.2 hv.2.1 c hc).1; omega⟩
/-- how often a left row came, among the first -/
def cameK (L : List Stm) (i k : Nat) : Nat := ((L.take k).filter fun s => decide (s.r = (L.getD i default).r)).length
theorem cameK_succ (L : List Stm) (i k : Nat) (h : k < L.length) : cameK L i (k + 1) = cameK L i k + if (L.getD k default).r = (L.getD i default).r then 1 else 0 := by
  unfold cameK
  rw [take_stm L k h, List.filter_append, List.length_append]
  congr 1
  rw [List.filter_cons, List.filter_nil]
  by_cases e : (L.getD k default).r = (L.getD i default).r
  · rw [if_pos e, if_pos (decide_eq_true e)]; rfl
  · rw [if_neg e, if_neg (by rw [decide_eq_false e]; decide)]; rfl
theorem cameK_le (L : List Stm) (i k : Nat) : cameK L i k ≤ L.length := by
  unfold cameK
  have h1 := List.length_filter_le (fun s : Stm => decide (s.r = (L.getD i default).r)) (L.take k)
  have h2 := List.length_take_le' k L
  omega
theorem kept {p : Pln} {L R : List Stm} {V : List ch.Cnt} (h : batchErr p L R = 0) (hL : wfStms L) (hR : wfStms R) (hv : ofRows (rowsK (told (inMode p 2) L R)) V) (i : Nat) (hi : i < L.length) :
    (cameK L i L.length : Int) ≤ sumQ (preB (L.getD i default).r) V ∧ (p.kind = 3 → sumQ (preB (L.getD i default).r) V = (cameK L i L.length : Int)) := by
  have b := batch_ok h
  have h' : batchErr (inMode p 2) L R = 0 := mode_batch (.inr rfl) h
  have hT := told_ok h' hL hR
  have hTl : (told (inMode p 2) L R).length ≤ 4096 := by have := told_len (inMode p 2) L R b.many; omega
  have hlen : ∀ s ∈ L, s.r.length = (L.getD i default).r.length := fun s hs => by
    have e1 := (rErr_ok (firstErr_ok b.l s hs)).1
    have e2 := (rErr_ok (firstErr_ok b.l (L.getD i default) (getD_mem hi))).1
    omega
  rw [sumQ_rows _ (fun r hr => (hT r hr).1) hTl (ch.view_rows hv.2.2 hv.2.1) hv.1]
  unfold cameK
  rw [List.take_length]
  refine ⟨?_, fun hk => ?_⟩
  · have := left_least (p := inMode p 2) rfl (R := R) hlen
    omega
  · have := left_just (p := inMode p 2) rfl hk (R := R) hlen
    omega
set_option maxRecDepth 100000 in
set_option maxHeartbeats 16000000 in
theorem keeps_walk (p : Pln) (x : PA) (a1 : Option Addr) (c1 : Nat) (L : List Stm) (a2 : Option Addr) (c2 : Nat) (R : List Stm) (w : World) (hw : wfPlan p) (hp : planAt w p x) (hl : L.length + R.length ≤ 9223372036854775807) (h1 : stmsAt w a1 L) (h2 : stmsAt w a2 R) (hL : wfStms L) (hR : wfStms R) :
    Calls Tryz.prog 8 #[planV p x, .slice a1 L.length c1, .slice a2 R.length c2] w fun e w' => e = .returned (.bool true) ∧ Below w.heap.size w w' := by
  have K1 : Hid (∀ w1, Below w.heap.size w w1 → Calls Tryz.prog 9 #[planV p x, .slice a1 L.length c1, .slice a2 R.length c2] w1 fun e w' => ((∃ z : Int, (z != 0) = true ∧ e = .returned (.tuple #[.slice none 0 0, .int .i64 z])) ∨ (batchErr p L R = 0 ∧ ∃ V ad cap, ofRows (rowsK (told p L R)) V ∧ e = .returned (.tuple #[.slice ad V.length cap, .int .i64 0]) ∧ ch.viewAt w' ad V)) ∧ Below w1.heap.size w1 w') := fun w1 hb => (Join_any p x a1 a2 c1 c2 L R w1 hw (planAt_below hp hb) hl (stmsAt_below h1 hb) (stmsAt_below h2 hb) hL hR).mono fun e w' h => ⟨by
    rcases h.1 with ⟨h3, h4⟩ | ⟨h3, V, ad, cap, v1, v2, v3, h4, h5⟩
    · exact .inl ⟨_, by simpa using h3, h4⟩
    · exact .inr ⟨h3, V, ad, cap, ⟨v1, v2, v3⟩, h4, h5⟩, h.2⟩
  have KM : ∀ m : Int, m = 1 ∨ m = 2 → batchErr p L R = 0 → ∀ w1, Below w.heap.size w w1 → Calls Tryz.prog 9 #[planV (inMode p m) x, .slice a1 L.length c1, .slice a2 R.length c2] w1 fun e w' => (∃ V ad cap, ofRows (rowsK (told (inMode p m) L R)) V ∧ e = .returned (.tuple #[.slice ad V.length cap, .int .i64 0]) ∧ ch.viewAtC w' ad V) ∧ Below w1.heap.size w1 w' := fun m hm h0 w1 hb => by
    have ht := mode_batch hm h0
    have hpa := planAt_below hp hb
    refine (Join_anyC (inMode p m) x a1 a2 c1 c2 L R w1 ⟨hw.low, hw.high, hw.l, hw.r, hw.lk, hw.rk, hw.g, hw.a⟩ ⟨hpa.l, hpa.r, hpa.lk, hpa.rk, hpa.g, hpa.a⟩ hl (stmsAt_below h1 hb) (stmsAt_below h2 hb) hL hR).mono fun e w' h => ⟨?_, h.2⟩
    rcases h.1 with ⟨h3, h4⟩ | ⟨h3, V, ad, cap, v1, v2, v3, h4, h5⟩
    · exact absurd ht h3
    · exact ⟨V, ad, cap, ⟨v1, v2, v3⟩, h4, h5⟩
  have K2 : Hid (batchErr p L R = 0 → ∀ w1, Below w.heap.size w w1 → _) := KM 1 (.inl rfl)
  have K3 : Hid (batchErr p L R = 0 → ∀ w1, Below w.heap.size w w1 → _) := KM 2 (.inr rfl)
  clear KM
  have KD : Hid (batchErr p L R = 0 → ∀ A V a b ca cb w1, ofRows (rowsK (told (inMode p 1) L R)) A → ofRows (rowsK (told p L R)) V → ch.viewAt w1 a A → ch.viewAt w1 b V → Calls Tryz.prog 24 #[.slice a A.length ca, .slice b V.length cb] w1 fun e w' => (∃ D ad cap, (D.length ≤ 4096 ∧ ∀ i, i < D.length → (D.getD i default).k = 1) ∧ e = .returned (.tuple #[.slice ad D.length cap, .int .i64 0]) ∧ ch.chgsAt w' ad D) ∧ Below w1.heap.size w1 w') := fun h0 A V a b ca cb w1 v1 v2 m1 m2 => by
    refine (ch.diff_any a b ca cb A V w1 m1 m2 v1.2.2 v2.2.2 (by have := v1.2.1.1; omega) (by have := v2.2.1.1; omega)).mono fun e w' h => ⟨?_, h.2⟩
    rcases h.1 with ⟨h3, _⟩ | ⟨_, h3, _⟩ | ⟨_, _, _, _, out, o1, o2, o3, h4⟩
    · exact absurd (ch.viewErr_ok v1.2.1) h3
    · exact absurd (ch.viewErr_ok v2.2.1) h3
    · rw [v1.1, v2.1] at o3
      have hd := diff_up h0 hL hR o2 o3
      rcases h4 with ⟨h5, _⟩ | ⟨h5, ad, cap, h6, h7⟩
      · omega
      · exact ⟨ch.madeL out, ad, cap, ⟨h5, fun i hi => hd.2 _ (by simp [List.getD_eq_getElem?_getD, hi])⟩, h6, h7⟩
  have KL : Hid (batchErr p L R = 0 → ∀ V b cb i ra rc w1, ofRows (rowsK (told (inMode p 2) L R)) V → ch.viewAtC w1 b V → i < L.length → vl.rowAt w1 ra (L.getD i default).r → Calls Tryz.prog 26 #[.slice b V.length cb, .slice ra (L.getD i default).r.length rc] w1 fun e w' => (∃ z : Int, e = .returned (.int .i64 z) ∧ (cameK L i L.length : Int) ≤ z ∧ (p.kind = 3 → z = (cameK L i L.length : Int))) ∧ Below w1.heap.size w1 w') := fun h0 V b cb i ra rc w1 hv hva hi hr => by
    have hj := joined_n (mode_batch (.inr rfl) h0 : batchErr (inMode p 2) L R = 0) hL hR hv
    have hk := kept h0 hL hR hv i hi
    have hrl : (L.getD i default).r.length ≤ 4096 := by
      have b := batch_ok h0
      have e2 := (rErr_ok (firstErr_ok b.l (L.getD i default) (getD_mem hi))).1
      have := cols_few b.plan
      have e3 : (colsOf p 1).length = p.left.length := rfl
      omega
    refine (leftParts_any b cb V ra rc _ w1 hva hr hv.2.1.1 hrl (fun c hc => (hj c hc).1) (fun c hc => (hj c hc).2)).mono fun e w' h => ⟨⟨_, h.1, hk.1, hk.2⟩, h.2⟩
  have KS : Hid (batchErr p L R = 0 → ∀ (ra rb : Option Addr) (rc rd : Nat) i k w1, i < L.length → k < L.length → vl.rowAt w1 ra (L.getD k default).r → vl.rowAt w1 rb (L.getD i default).r → Calls Tryz.prog 25 #[.slice ra (L.getD k default).r.length rc, .slice rb (L.getD i default).r.length rd] w1 fun e w' => e = .returned (.bool (decide ((L.getD k default).r = (L.getD i default).r))) ∧ Below w1.heap.size w1 w') := fun h0 ra rb rc rd i k w1 hi hk m1 m2 => vl.same_any ra rb rc rd _ _ w1 m1 m2 (wfs_at hL k hk).2.1 (wfs_at hL i hi).2.1
  have KG : Hid (∀ w1, Calls Tryz.prog 11 #[] w1 fun e w' => e = .returned (.bool true) ∧ Below w1.heap.size w1 w') := fun w1 => bt.begun_any w1
  have HLS : Hid (∀ i, i < L.length → ∃ b o ra rc, a1 = some ⟨b, o, none⟩ ∧ w.cell? ⟨b, o + i * 2 + 1, none⟩ = some (.slice ra (L.getD i default).r.length rc) ∧ vl.rowAt w ra (L.getD i default).r) := fun i hi => by
    obtain ⟨b, o, ra, rc, e, z, z2, z3⟩ := h1 i hi
    exact ⟨b, o, ra, rc, e, z2, z3⟩
  have HM : Hid (batchErr p L R = 0 → L.length ≤ 120) := fun h0 => by have := (batch_ok h0).many; omega
  have HCS : Hid (∀ i k, k < L.length → cameK L i (k + 1) = cameK L i k + if (L.getD k default).r = (L.getD i default).r then 1 else 0) := fun i k hk => cameK_succ L i k hk
  have HCL : Hid (∀ i k, cameK L i k ≤ L.length) := fun i k => cameK_le L i k
  have HC0 : Hid (∀ i, cameK L i 0 = 0) := fun i => rfl
  obtain ⟨be, hbe⟩ : ∃ z, batchErr p L R = z := ⟨_, rfl⟩
  obtain ⟨RK, hRK⟩ : ∃ z, ofRows (rowsK (told p L R)) = z := ⟨_, rfl⟩
  obtain ⟨RA, hRA⟩ : ∃ z, ofRows (rowsK (told (inMode p 1) L R)) = z := ⟨_, rfl⟩
  obtain ⟨RB, hRB⟩ : ∃ z, ofRows (rowsK (told (inMode p 2) L R)) = z := ⟨_, rfl⟩
  rw [hbe, hRK] at K1
  rw [hbe, hRA] at K2
  rw [hbe, hRB] at K3
  rw [hbe, hRA, hRK] at KD
  rw [hbe, hRB] at KL
  rw [hbe] at KS HM
  obtain ⟨CK, hCK⟩ : ∃ z, cameK L = z := ⟨_, rfl⟩
  rw [hCK] at KL HCS HCL HC0
  obtain ⟨m2, hm2⟩ : ∃ n, R.length = n := ⟨_, rfl⟩
  obtain ⟨m1, hm1⟩ : ∃ n, L.length = n := ⟨_, rfl⟩
  simp only [hm1, hm2] at K1 K2 K3 KL KS HLS HM HCS HCL ⊢
  clear hbe hRK hRA hRB hCK hm1 hm2 hw hp hl h1 h2 hL hR
  obtain ⟨kind, mode, low, high, size, limit, left, right, lkeys, rkeys, grouped, group, aggs⟩ := p
  obtain ⟨la, lc, rr, rc, lk, lkc, rk, rkc, g, gc, ag, ac⟩ := x
  unfold planV inMode at K2 K3
  unfold planV at K1 ⊢
  dsimp only at K1 K2 K3 KL ⊢
  obtain ⟨n6, h6⟩ : ∃ n, left.length = n := ⟨_, rfl⟩
  obtain ⟨n7, h7⟩ : ∃ n, right.length = n := ⟨_, rfl⟩
  obtain ⟨n8, h8⟩ : ∃ n, lkeys.length = n := ⟨_, rfl⟩
  obtain ⟨n9, h9⟩ : ∃ n, rkeys.length = n := ⟨_, rfl⟩
  obtain ⟨n11, h11⟩ : ∃ n, group.length = n := ⟨_, rfl⟩
  obtain ⟨n12, h12⟩ : ∃ n, aggs.length = n := ⟨_, rfl⟩
  simp only [h6, h7, h8, h9, h11, h12] at K1 K2 K3 ⊢
  clear h6 h7 h8 h9 h11 h12
  go_enter Tryz.func8, Tryz.ntmps8
  go_wp2_with fail
  generalize hW0 : (World.alloc w _) = W0
  have hb0 : Below w.heap.size w W0 := by rw [← hW0]; exact (Below.refl _ _).alloc (Nat.le_refl _) _
  have s0 : W0.cell? ⟨w.heap.size, 0, none⟩ = some (.int .i64 kind) := by subst hW0; go_simp
  have s1 : W0.cell? ⟨w.heap.size, 1, none⟩ = some (.int .i64 mode) := by subst hW0; go_simp
  have s2 : W0.cell? ⟨w.heap.size, 2, none⟩ = some (.int .i64 low) := by subst hW0; go_simp
  have s3 : W0.cell? ⟨w.heap.size, 3, none⟩ = some (.int .i64 high) := by subst hW0; go_simp
  have s4 : W0.cell? ⟨w.heap.size, 4, none⟩ = some (.int .i64 size) := by subst hW0; go_simp
  have s5 : W0.cell? ⟨w.heap.size, 5, none⟩ = some (.int .i64 limit) := by subst hW0; go_simp
  have s6 : W0.cell? ⟨w.heap.size, 6, none⟩ = some (.slice la n6 lc) := by subst hW0; go_simp
  have s7 : W0.cell? ⟨w.heap.size, 7, none⟩ = some (.slice rr n7 rc) := by subst hW0; go_simp
  have s8 : W0.cell? ⟨w.heap.size, 8, none⟩ = some (.slice lk n8 lkc) := by subst hW0; go_simp
  have s9 : W0.cell? ⟨w.heap.size, 9, none⟩ = some (.slice rk n9 rkc) := by subst hW0; go_simp
  have s10 : W0.cell? ⟨w.heap.size, 10, none⟩ = some (.bool grouped) := by subst hW0; go_simp
  have s11 : W0.cell? ⟨w.heap.size, 11, none⟩ = some (.slice g n11 gc) := by subst hW0; go_simp
  have s12 : W0.cell? ⟨w.heap.size, 12, none⟩ = some (.slice ag n12 ac) := by subst hW0; go_simp
  have HS : Hid (∀ W1, Below W0.heap.size W0 W1 → W1.cell? ⟨w.heap.size, 0, none⟩ = some (.int .i64 kind) ∧ W1.cell? ⟨w.heap.size, 1, none⟩ = some (.int .i64 mode) ∧ W1.cell? ⟨w.heap.size, 2, none⟩ = some (.int .i64 low) ∧ W1.cell? ⟨w.heap.size, 3, none⟩ = some (.int .i64 high) ∧ W1.cell? ⟨w.heap.size, 4, none⟩ = some (.int .i64 size) ∧ W1.cell? ⟨w.heap.size, 5, none⟩ = some (.int .i64 limit) ∧ W1.cell? ⟨w.heap.size, 6, none⟩ = some (.slice la n6 lc) ∧ W1.cell? ⟨w.heap.size, 7, none⟩ = some (.slice rr n7 rc) ∧ W1.cell? ⟨w.heap.size, 8, none⟩ = some (.slice lk n8 lkc) ∧ W1.cell? ⟨w.heap.size, 9, none⟩ = some (.slice rk n9 rkc) ∧ W1.cell? ⟨w.heap.size, 10, none⟩ = some (.bool grouped) ∧ W1.cell? ⟨w.heap.size, 11, none⟩ = some (.slice g n11 gc) ∧ W1.cell? ⟨w.heap.size, 12, none⟩ = some (.slice ag n12 ac)) := fun W1 hb => ⟨cell_later hb s0, cell_later hb s1, cell_later hb s2, cell_later hb s3, cell_later hb s4, cell_later hb s5, cell_later hb s6, cell_later hb s7, cell_later hb s8, cell_later hb s9, cell_later hb s10, cell_later hb s11, cell_later hb s12⟩
  clear hW0
  clear s0 s1 s2 s3 s4 s5 s6 s7 s8 s9 s10 s11 s12
  obtain ⟨e0, e1, e2, e3, e4, e5, e6, e7, e8, e9, e10, e11, e12⟩ := HS.out W0 (Below.refl _ _)
  refine (K1.out _ hb0).mono ?_
  clear e0 e1 e2 e3 e4 e5 e6 e7 e8 e9 e10 e11 e12
  rintro e w1 ⟨hres, hb1⟩
  have hbn := hb0.trans (hb1.mono hb0.size)
  obtain ⟨e0, e1, e2, e3, e4, e5, e6, e7, e8, e9, e10, e11, e12⟩ := HS.out w1 hb1
  rcases hres with ⟨z, hz, rfl⟩ | ⟨rfl, V, ad, cap, hV, rfl, hVa⟩
  · go_wp2_with (go_at_call 11; refine (KG.out _).mono ?_; rintro e w3 ⟨rfl, hb3⟩)
    go_ret
    exact ⟨rfl, hbn.trans (hb3.mono hbn.size)⟩
  · obtain ⟨vn, hvn⟩ : ∃ n, V.length = n := ⟨_, rfl⟩
    have H1 : Hid (RK V ∧ V.length = vn ∧ ∀ W1, Below w1.heap.size w1 W1 → ch.viewAt W1 ad V) := ⟨hV, hvn, fun W1 hb => ch.viewAt_below hVa hb⟩
    rw [hvn]
    clear hV hVa hvn K1
    replace K2 := K2.out rfl
    have K2 : Hid (∀ w1, _) := K2
    replace K3 := K3.out rfl
    have K3 : Hid (∀ w1, _) := K3
    replace KD := KD.out rfl
    have KD : Hid (∀ A V a b ca cb w1, _) := KD
    replace KL := KL.out rfl
    have KL : Hid (∀ V b cb i ra rc w1, _) := KL
    replace KS := KS.out rfl
    have KS : Hid (∀ (ra rb : Option Addr) (rc rd : Nat) i k w1, _) := KS
    have hm1 := HM.out rfl
    clear HM
    have hlw : w.heap.size < w1.heap.size := World.block_lt_of_cell? _ _ e0
    have hlw1 : w.heap.size ≠ w1.heap.size := by omega
    have hlw2 : w.heap.size < w1.heap.size + 1 := by omega
    have hlw3 : w.heap.size ≠ w1.heap.size + 1 := by omega
    go_wp2
    go_region
    · go_wp2_with fail
      generalize hW4 : World.drew (World.alloc (World.alloc w1 _) _) = W4
      have hb4 : Below w1.heap.size w1 W4 := by subst hW4; exact Below.drew (((Below.refl _ _).alloc (Nat.le_refl _) _).alloc (by simp) _)
      have q0 : W4.cell? ⟨w1.heap.size + 1, 0, none⟩ = some (.int .i64 kind) := by subst hW4; go_simp
      have q1 : W4.cell? ⟨w1.heap.size + 1, 1, none⟩ = some (.int .i64 2) := by subst hW4; go_simp
      have q2 : W4.cell? ⟨w1.heap.size + 1, 2, none⟩ = some (.int .i64 low) := by subst hW4; go_simp
      have q3 : W4.cell? ⟨w1.heap.size + 1, 3, none⟩ = some (.int .i64 high) := by subst hW4; go_simp
      have q4 : W4.cell? ⟨w1.heap.size + 1, 4, none⟩ = some (.int .i64 size) := by subst hW4; go_simp
      have q5 : W4.cell? ⟨w1.heap.size + 1, 5, none⟩ = some (.int .i64 limit) := by subst hW4; go_simp
      have q6 : W4.cell? ⟨w1.heap.size + 1, 6, none⟩ = some (.slice la n6 lc) := by subst hW4; go_simp
      have q7 : W4.cell? ⟨w1.heap.size + 1, 7, none⟩ = some (.slice rr n7 rc) := by subst hW4; go_simp
      have q8 : W4.cell? ⟨w1.heap.size + 1, 8, none⟩ = some (.slice lk n8 lkc) := by subst hW4; go_simp
      have q9 : W4.cell? ⟨w1.heap.size + 1, 9, none⟩ = some (.slice rk n9 rkc) := by subst hW4; go_simp
      have q10 : W4.cell? ⟨w1.heap.size + 1, 10, none⟩ = some (.bool grouped) := by subst hW4; go_simp
      have q11 : W4.cell? ⟨w1.heap.size + 1, 11, none⟩ = some (.slice g n11 gc) := by subst hW4; go_simp
      have q12 : W4.cell? ⟨w1.heap.size + 1, 12, none⟩ = some (.slice ag n12 ac) := by subst hW4; go_simp
      clear hW4
      have hbm := hbn.trans (hb4.mono hbn.size)
      refine (K2.out _ hbm).mono ?_
      rintro e w5 ⟨⟨A, ad5, cap5, hA, rfl, hAa⟩, hb5⟩
      have hbo := hbm.trans (hb5.mono hbm.size)
      replace q0 := cell_later hb5 q0
      replace q1 := cell_later hb5 q1
      replace q2 := cell_later hb5 q2
      replace q3 := cell_later hb5 q3
      replace q4 := cell_later hb5 q4
      replace q5 := cell_later hb5 q5
      replace q6 := cell_later hb5 q6
      replace q7 := cell_later hb5 q7
      replace q8 := cell_later hb5 q8
      replace q9 := cell_later hb5 q9
      replace q10 := cell_later hb5 q10
      replace q11 := cell_later hb5 q11
      replace q12 := cell_later hb5 q12
      obtain ⟨an, han⟩ : ∃ n, A.length = n := ⟨_, rfl⟩
      have H5 : Hid (RA A ∧ A.length = an ∧ ∀ W1, Below w5.heap.size w5 W1 → ch.viewAt W1 ad5 A) := ⟨hA, han, fun W1 hb => ch.viewAt_below hAa.1 hb⟩
      rw [han]
      clear hA hAa han K2
      go_wp2_with fail
      refine (K3.out _ hbo).mono ?_
      rintro e w6 ⟨⟨B, ad6, cap6, hB, rfl, hBa⟩, hb6⟩
      have hbp := hbo.trans (hb6.mono hbo.size)
      have hb06 : Below W0.heap.size W0 w6 := ((hb1.trans (hb4.mono hb1.size)).trans (hb5.mono (hb1.trans (hb4.mono hb1.size)).size)).trans (hb6.mono ((hb1.trans (hb4.mono hb1.size)).trans (hb5.mono (hb1.trans (hb4.mono hb1.size)).size)).size)
      have hb16 : Below w1.heap.size w1 w6 := (hb4.trans (hb5.mono hb4.size)).trans (hb6.mono (hb4.trans (hb5.mono hb4.size)).size)
      obtain ⟨bn, hbn2⟩ : ∃ n, B.length = n := ⟨_, rfl⟩
      have H6 : Hid (RB B ∧ B.length = bn ∧ ∀ W1, Below w6.heap.size w6 W1 → ch.viewAtC W1 ad6 B) := ⟨hB, hbn2, fun W1 hb => ch.viewAtC_below hBa hb⟩
      rw [hbn2]
      clear hB hBa hbn2 K3
      clear q0 q1 q2 q3 q4 q5 q6 q7 q8 q9 q10 q11 q12
      clear e0 e1 e2 e3 e4 e5 e6 e7 e8 e9 e10 e11 e12
      have KDD : Hid (Calls Tryz.prog 24 #[.slice ad5 an cap5, .slice ad vn cap] w6 fun e w' => (∃ D ad cap, (D.length ≤ 4096 ∧ ∀ i, i < D.length → (D.getD i default).k = 1) ∧ e = .returned (.tuple #[.slice ad D.length cap, .int .i64 0]) ∧ ch.chgsAt w' ad D) ∧ Below w6.heap.size w6 w') := by
        have := KD.out A V ad5 ad cap5 cap w6 H5.out.1 H1.out.1 (H5.out.2.2 w6 hb6) (H1.out.2.2 w6 hb16)
        rw [H5.out.2.1, H1.out.2.1] at this
        exact this
      go_wp2_with fail
      refine KDD.out.mono ?_
      rintro e w7 ⟨⟨D, ad7, cap7, ⟨d1, d2⟩, rfl, hDa⟩, hb7⟩
      have hbq7 := hbp.trans (hb7.mono hbp.size)
      have hb07 := hb06.trans (hb7.mono hb06.size)
      obtain ⟨dn, hdn⟩ : ∃ n, D.length = n := ⟨_, rfl⟩
      have HD : Hid (∀ i, i < dn → ∃ b o, ad7 = some ⟨b, o, none⟩ ∧ w7.cell? ⟨b, o + i * 2, none⟩ = some (.int .i64 1)) := fun i hi => by
        obtain ⟨b, o, ra, rc, e, x1, _, _⟩ := hDa i (by rw [hdn]; exact hi)
        rw [d2 i (by rw [hdn]; exact hi)] at x1
        exact ⟨b, o, e, x1⟩
      rw [hdn] at d1 ⊢
      clear d2 hDa hdn KD KDD H5 H1
      go_wp2
      go_loopw [17] (fun i wr => ∃ k : Nat, k ≤ dn ∧ i = .int .i64 k ∧ Below w7.heap.size w7 wr) (fun i _ => dn - (intOf i).toNat)
      case atStart => exact ⟨0, Nat.zero_le _, rfl, Below.refl _ _⟩
      case round =>
        obtain ⟨k, hkn, rfl, hnx⟩ := hrel
        by_cases hlt : k < dn
        · obtain ⟨b, o, e, x1⟩ := HD.out k hlt
          subst e
          have y1 := cell_later hnx x1
          have i1 : (0 : Int) ≤ (k : Int) := by omega
          have i2 : (k : Int) < (dn : Int) := by omega
          go_wp2
          go_roundw
          case rel => exact ⟨k + 1, by omega, by go_num, hnx⟩
          case measure => simp [intOf]; omega
        · go_wp2
          go_loopw [18, 19, 20, 21] (fun i _ _ _ wy => ∃ k : Nat, k ≤ m1 ∧ i = .int .i64 k ∧ Below w7.heap.size w7 wy) (fun i _ _ _ _ => m1 - (intOf i).toNat)
          case atStart => exact ⟨0, Nat.zero_le _, rfl, hnx⟩
          case round =>
            rename World => wy
            obtain ⟨i, him, rfl, hny⟩ := hrel
            have hby := hbq7.trans (hny.mono hbq7.size)
            by_cases hil : i < m1
            · obtain ⟨b, o, ra, rca, e, x1, x2⟩ := HLS.out i hil
              subst e
              have HXI : Hid (vl.rowAt w ra (L.getD i default).r) := x2
              obtain ⟨li, hli⟩ : ∃ n, (L.getD i default).r.length = n := ⟨_, rfl⟩
              rw [hli] at x1
              have HLI : Hid ((L.getD i default).r.length = li) := hli
              have i1 : (0 : Int) ≤ (i : Int) := by omega
              have i2 : (i : Int) < (m1 : Int) := by omega
              have KLL : Hid (∀ W1, Below w7.heap.size w7 W1 → Calls Tryz.prog 26 #[.slice ad6 bn cap6, .slice ra li rca] W1 fun e w' => (∃ z : Int, e = .returned (.int .i64 z) ∧ (CK i m1 : Int) ≤ z ∧ (kind = 3 → z = (CK i m1 : Int))) ∧ Below W1.heap.size W1 w') := fun W1 hb => by
                have := KL.out B ad6 cap6 i ra rca W1 H6.out.1 (H6.out.2.2 W1 (hb7.trans (hb.mono hb7.size))) hil (rowAt_below HXI.out (hbq7.trans (hb.mono hbq7.size)))
                rw [H6.out.2.1, HLI.out] at this
                exact this
              clear x2 hli
              go_wp2
              go_loopw [19, 20] (fun c j wz => ∃ k : Nat, k ≤ m1 ∧ j = .int .i64 k ∧ c = .int .i64 (CK i k : Int) ∧ Below w7.heap.size w7 wz) (fun _ j _ => m1 - (intOf j).toNat)
              case atStart => exact ⟨0, Nat.zero_le _, rfl, by rw [HC0.out i]; rfl, hny⟩
              case round =>
                rename World => wz
                obtain ⟨k, hkm, rfl, rfl, hnz⟩ := hrel
                have hbz := hbq7.trans (hnz.mono hbq7.size)
                have y1 := cell_later hbz x1
                by_cases hkl : k < m1
                · obtain ⟨b', o', rb, rcb, e', z1, z2⟩ := HLS.out k hkl
                  cases e'
                  have HXK : Hid (vl.rowAt w rb (L.getD k default).r) := z2
                  have hck := HCL.out i k
                  have HCK := HCS.out i k hkl
                  have KSS : Hid (Calls Tryz.prog 25 #[.slice rb (L.getD k default).r.length rcb, .slice ra (L.getD i default).r.length rca] wz.drew fun e w' => e = .returned (.bool (decide ((L.getD k default).r = (L.getD i default).r))) ∧ Below wz.drew.heap.size wz.drew w') := KS.out rb ra rcb rca i k wz.drew hil hkl (rowAt_below HXK.out hbz.drew) (rowAt_below HXI.out hbz.drew)
                  rw [HLI.out] at KSS
                  obtain ⟨lk2, hlk2⟩ : ∃ n, (L.getD k default).r.length = n := ⟨_, rfl⟩
                  rw [hlk2] at z1 KSS
                  have y2 := cell_later hbz z1
                  clear z1 z2 hlk2
                  have j1 : (0 : Int) ≤ (k : Int) := by omega
                  have j2 : (k : Int) < (m1 : Int) := by omega
                  by_cases he : (L.getD k default).r = (L.getD i default).r
                  · rw [decide_eq_true he] at KSS
                    rw [if_pos he] at HCK
                    have HC1 : Hid (CK i (k + 1) = CK i k + 1) := HCK
                    obtain ⟨ck, hck2⟩ : ∃ n, CK i k = n := ⟨_, rfl⟩
                    rw [hck2] at hck HC1 ⊢
                    clear HCK hck2
                    go_wp2
                    go_region_held3 (fun w' => w'.cell? ⟨b, o + k * 2 + 1, none⟩ = some (.slice rb lk2 rcb) ∧ w'.cell? ⟨b, o + i * 2 + 1, none⟩ = some (.slice ra li rca)) (first | go_keep | exact ⟨cell_later hbq y2, cell_later hbq y1⟩)
                      (first | (go_at_call 25; refine KSS.out.mono ?_; rintro e wq ⟨rfl, hbq⟩))
                    have hnq : Below w7.heap.size w7 wq := hnz.drew.trans (hbq.mono hnz.drew.size)
                    go_wp2
                    go_roundw
                    case rel => exact ⟨k + 1, by omega, by go_num, by rw [HC1.out]; go_num, hnq⟩
                    case measure => simp [intOf]; omega
                  · rw [decide_eq_false he] at KSS
                    rw [if_neg he, Nat.add_zero] at HCK
                    have HC1 : Hid (CK i (k + 1) = CK i k) := HCK
                    clear HCK
                    go_wp2
                    go_region_held3 (fun w' => w'.cell? ⟨b, o + k * 2 + 1, none⟩ = some (.slice rb lk2 rcb) ∧ w'.cell? ⟨b, o + i * 2 + 1, none⟩ = some (.slice ra li rca)) (first | go_keep | exact ⟨cell_later hbq y2, cell_later hbq y1⟩)
                      (first | (go_at_call 25; refine KSS.out.mono ?_; rintro e wq ⟨rfl, hbq⟩))
                    have hnq : Below w7.heap.size w7 wq := hnz.drew.trans (hbq.mono hnz.drew.size)
                    go_wp2
                    go_roundw
                    case rel => exact ⟨k + 1, by omega, by go_num, by rw [HC1.out], hnq⟩
                    case measure => simp [intOf]; omega
                · have hke : k = m1 := by omega
                  subst hke
                  go_wp2_with fail
                  refine (KLL.out _ hnz).mono ?_
                  rintro e wl ⟨⟨z, rfl, hz1, hz2⟩, hbl⟩
                  have hnl := hnz.trans (hbl.mono hnz.size)
                  obtain ⟨c0, _⟩ := HS.out wl (hb07.trans (hnl.mono hb07.size))
                  have dz : decide (z < (CK i k : Int)) = false := decide_eq_false (by omega)
                  have hck := HCL.out i k
                  cases hk3 : (kind == 3) with
                  | true =>
                    have hzz : z = (CK i k : Int) := hz2 (by simpa using hk3)
                    have hne : (z != (CK i k : Int)) = false := by rw [hzz]; simp
                    clear hz1 hz2 hzz
                    go_wp2
                    go_roundw
                    case rel => exact ⟨i + 1, by omega, by go_num, hnl⟩
                    case measure => simp [intOf]; omega
                  | false =>
                    clear hz1 hz2
                    go_wp2
                    go_roundw
                    case rel => exact ⟨i + 1, by omega, by go_num, hnl⟩
                    case measure => simp [intOf]; omega
            · go_wp2_with fail
              refine (KG.out _).mono ?_
              rintro e w8 ⟨rfl, hb8⟩
              go_wp2
              go_ret
              exact ⟨rfl, hby.trans (hb8.mono hby.size)⟩
    · go_wp2_with fail
      generalize hW4 : World.drew (World.alloc (World.alloc w1 _) _) = W4
      have hb4 : Below w1.heap.size w1 W4 := by subst hW4; exact Below.drew (((Below.refl _ _).alloc (Nat.le_refl _) _).alloc (by simp) _)
      have q0 : W4.cell? ⟨w1.heap.size, 0, none⟩ = some (.int .i64 kind) := by subst hW4; go_simp
      have q1 : W4.cell? ⟨w1.heap.size, 1, none⟩ = some (.int .i64 2) := by subst hW4; go_simp
      have q2 : W4.cell? ⟨w1.heap.size, 2, none⟩ = some (.int .i64 low) := by subst hW4; go_simp
      have q3 : W4.cell? ⟨w1.heap.size, 3, none⟩ = some (.int .i64 high) := by subst hW4; go_simp
      have q4 : W4.cell? ⟨w1.heap.size, 4, none⟩ = some (.int .i64 size) := by subst hW4; go_simp
      have q5 : W4.cell? ⟨w1.heap.size, 5, none⟩ = some (.int .i64 limit) := by subst hW4; go_simp
      have q6 : W4.cell? ⟨w1.heap.size, 6, none⟩ = some (.slice la n6 lc) := by subst hW4; go_simp
      have q7 : W4.cell? ⟨w1.heap.size, 7, none⟩ = some (.slice rr n7 rc) := by subst hW4; go_simp
      have q8 : W4.cell? ⟨w1.heap.size, 8, none⟩ = some (.slice lk n8 lkc) := by subst hW4; go_simp
      have q9 : W4.cell? ⟨w1.heap.size, 9, none⟩ = some (.slice rk n9 rkc) := by subst hW4; go_simp
      have q10 : W4.cell? ⟨w1.heap.size, 10, none⟩ = some (.bool grouped) := by subst hW4; go_simp
      have q11 : W4.cell? ⟨w1.heap.size, 11, none⟩ = some (.slice g n11 gc) := by subst hW4; go_simp
      have q12 : W4.cell? ⟨w1.heap.size, 12, none⟩ = some (.slice ag n12 ac) := by subst hW4; go_simp
      clear hW4
      have hbm := hbn.trans (hb4.mono hbn.size)
      refine (K2.out _ hbm).mono ?_
      rintro e w5 ⟨⟨A, ad5, cap5, hA, rfl, hAa⟩, hb5⟩
      have hbo := hbm.trans (hb5.mono hbm.size)
      replace q0 := cell_later hb5 q0
      replace q1 := cell_later hb5 q1
      replace q2 := cell_later hb5 q2
      replace q3 := cell_later hb5 q3
      replace q4 := cell_later hb5 q4
      replace q5 := cell_later hb5 q5
      replace q6 := cell_later hb5 q6
      replace q7 := cell_later hb5 q7
      replace q8 := cell_later hb5 q8
      replace q9 := cell_later hb5 q9
      replace q10 := cell_later hb5 q10
      replace q11 := cell_later hb5 q11
      replace q12 := cell_later hb5 q12
      obtain ⟨an, han⟩ : ∃ n, A.length = n := ⟨_, rfl⟩
      have H5 : Hid (RA A ∧ A.length = an ∧ ∀ W1, Below w5.heap.size w5 W1 → ch.viewAt W1 ad5 A) := ⟨hA, han, fun W1 hb => ch.viewAt_below hAa.1 hb⟩
      rw [han]
      clear hA hAa han K2
      go_wp2_with fail
      refine (K3.out _ hbo).mono ?_
      rintro e w6 ⟨⟨B, ad6, cap6, hB, rfl, hBa⟩, hb6⟩
      have hbp := hbo.trans (hb6.mono hbo.size)
      have hb06 : Below W0.heap.size W0 w6 := ((hb1.trans (hb4.mono hb1.size)).trans (hb5.mono (hb1.trans (hb4.mono hb1.size)).size)).trans (hb6.mono ((hb1.trans (hb4.mono hb1.size)).trans (hb5.mono (hb1.trans (hb4.mono hb1.size)).size)).size)
      have hb16 : Below w1.heap.size w1 w6 := (hb4.trans (hb5.mono hb4.size)).trans (hb6.mono (hb4.trans (hb5.mono hb4.size)).size)
      obtain ⟨bn, hbn2⟩ : ∃ n, B.length = n := ⟨_, rfl⟩
      have H6 : Hid (RB B ∧ B.length = bn ∧ ∀ W1, Below w6.heap.size w6 W1 → ch.viewAtC W1 ad6 B) := ⟨hB, hbn2, fun W1 hb => ch.viewAtC_below hBa hb⟩
      rw [hbn2]
      clear hB hBa hbn2 K3
      clear q0 q1 q2 q3 q4 q5 q6 q7 q8 q9 q10 q11 q12
      clear e0 e1 e2 e3 e4 e5 e6 e7 e8 e9 e10 e11 e12
      have KDD : Hid (Calls Tryz.prog 24 #[.slice ad5 an cap5, .slice ad vn cap] w6 fun e w' => (∃ D ad cap, (D.length ≤ 4096 ∧ ∀ i, i < D.length → (D.getD i default).k = 1) ∧ e = .returned (.tuple #[.slice ad D.length cap, .int .i64 0]) ∧ ch.chgsAt w' ad D) ∧ Below w6.heap.size w6 w') := by
        have := KD.out A V ad5 ad cap5 cap w6 H5.out.1 H1.out.1 (H5.out.2.2 w6 hb6) (H1.out.2.2 w6 hb16)
        rw [H5.out.2.1, H1.out.2.1] at this
        exact this
      go_wp2_with fail
      refine KDD.out.mono ?_
      rintro e w7 ⟨⟨D, ad7, cap7, ⟨d1, d2⟩, rfl, hDa⟩, hb7⟩
      have hbq7 := hbp.trans (hb7.mono hbp.size)
      have hb07 := hb06.trans (hb7.mono hb06.size)
      obtain ⟨dn, hdn⟩ : ∃ n, D.length = n := ⟨_, rfl⟩
      have HD : Hid (∀ i, i < dn → ∃ b o, ad7 = some ⟨b, o, none⟩ ∧ w7.cell? ⟨b, o + i * 2, none⟩ = some (.int .i64 1)) := fun i hi => by
        obtain ⟨b, o, ra, rc, e, x1, _, _⟩ := hDa i (by rw [hdn]; exact hi)
        rw [d2 i (by rw [hdn]; exact hi)] at x1
        exact ⟨b, o, e, x1⟩
      rw [hdn] at d1 ⊢
      clear d2 hDa hdn KD KDD H5 H1
      go_wp2
      go_loopw [17] (fun i wr => ∃ k : Nat, k ≤ dn ∧ i = .int .i64 k ∧ Below w7.heap.size w7 wr) (fun i _ => dn - (intOf i).toNat)
      case atStart => exact ⟨0, Nat.zero_le _, rfl, Below.refl _ _⟩
      case round =>
        obtain ⟨k, hkn, rfl, hnx⟩ := hrel
        by_cases hlt : k < dn
        · obtain ⟨b, o, e, x1⟩ := HD.out k hlt
          subst e
          have y1 := cell_later hnx x1
          have i1 : (0 : Int) ≤ (k : Int) := by omega
          have i2 : (k : Int) < (dn : Int) := by omega
          go_wp2
          go_roundw
          case rel => exact ⟨k + 1, by omega, by go_num, hnx⟩
          case measure => simp [intOf]; omega
        · go_wp2
          go_loopw [18, 19, 20, 21] (fun i _ _ _ wy => ∃ k : Nat, k ≤ m1 ∧ i = .int .i64 k ∧ Below w7.heap.size w7 wy) (fun i _ _ _ _ => m1 - (intOf i).toNat)
          case atStart => exact ⟨0, Nat.zero_le _, rfl, hnx⟩
          case round =>
            rename World => wy
            obtain ⟨i, him, rfl, hny⟩ := hrel
            have hby := hbq7.trans (hny.mono hbq7.size)
            by_cases hil : i < m1
            · obtain ⟨b, o, ra, rca, e, x1, x2⟩ := HLS.out i hil
              subst e
              have HXI : Hid (vl.rowAt w ra (L.getD i default).r) := x2
              obtain ⟨li, hli⟩ : ∃ n, (L.getD i default).r.length = n := ⟨_, rfl⟩
              rw [hli] at x1
              have HLI : Hid ((L.getD i default).r.length = li) := hli
              have i1 : (0 : Int) ≤ (i : Int) := by omega
              have i2 : (i : Int) < (m1 : Int) := by omega
              have KLL : Hid (∀ W1, Below w7.heap.size w7 W1 → Calls Tryz.prog 26 #[.slice ad6 bn cap6, .slice ra li rca] W1 fun e w' => (∃ z : Int, e = .returned (.int .i64 z) ∧ (CK i m1 : Int) ≤ z ∧ (kind = 3 → z = (CK i m1 : Int))) ∧ Below W1.heap.size W1 w') := fun W1 hb => by
                have := KL.out B ad6 cap6 i ra rca W1 H6.out.1 (H6.out.2.2 W1 (hb7.trans (hb.mono hb7.size))) hil (rowAt_below HXI.out (hbq7.trans (hb.mono hbq7.size)))
                rw [H6.out.2.1, HLI.out] at this
                exact this
              clear x2 hli
              go_wp2
              go_loopw [19, 20] (fun c j wz => ∃ k : Nat, k ≤ m1 ∧ j = .int .i64 k ∧ c = .int .i64 (CK i k : Int) ∧ Below w7.heap.size w7 wz) (fun _ j _ => m1 - (intOf j).toNat)
              case atStart => exact ⟨0, Nat.zero_le _, rfl, by rw [HC0.out i]; rfl, hny⟩
              case round =>
                rename World => wz
                obtain ⟨k, hkm, rfl, rfl, hnz⟩ := hrel
                have hbz := hbq7.trans (hnz.mono hbq7.size)
                have y1 := cell_later hbz x1
                by_cases hkl : k < m1
                · obtain ⟨b', o', rb, rcb, e', z1, z2⟩ := HLS.out k hkl
                  cases e'
                  have HXK : Hid (vl.rowAt w rb (L.getD k default).r) := z2
                  have hck := HCL.out i k
                  have HCK := HCS.out i k hkl
                  have KSS : Hid (Calls Tryz.prog 25 #[.slice rb (L.getD k default).r.length rcb, .slice ra (L.getD i default).r.length rca] wz.drew fun e w' => e = .returned (.bool (decide ((L.getD k default).r = (L.getD i default).r))) ∧ Below wz.drew.heap.size wz.drew w') := KS.out rb ra rcb rca i k wz.drew hil hkl (rowAt_below HXK.out hbz.drew) (rowAt_below HXI.out hbz.drew)
                  rw [HLI.out] at KSS
                  obtain ⟨lk2, hlk2⟩ : ∃ n, (L.getD k default).r.length = n := ⟨_, rfl⟩
                  rw [hlk2] at z1 KSS
                  have y2 := cell_later hbz z1
                  clear z1 z2 hlk2
                  have j1 : (0 : Int) ≤ (k : Int) := by omega
                  have j2 : (k : Int) < (m1 : Int) := by omega
                  by_cases he : (L.getD k default).r = (L.getD i default).r
                  · rw [decide_eq_true he] at KSS
                    rw [if_pos he] at HCK
                    have HC1 : Hid (CK i (k + 1) = CK i k + 1) := HCK
                    obtain ⟨ck, hck2⟩ : ∃ n, CK i k = n := ⟨_, rfl⟩
                    rw [hck2] at hck HC1 ⊢
                    clear HCK hck2
                    go_wp2
                    go_region_held3 (fun w' => w'.cell? ⟨b, o + k * 2 + 1, none⟩ = some (.slice rb lk2 rcb) ∧ w'.cell? ⟨b, o + i * 2 + 1, none⟩ = some (.slice ra li rca)) (first | go_keep | exact ⟨cell_later hbq y2, cell_later hbq y1⟩)
                      (first | (go_at_call 25; refine KSS.out.mono ?_; rintro e wq ⟨rfl, hbq⟩))
                    have hnq : Below w7.heap.size w7 wq := hnz.drew.trans (hbq.mono hnz.drew.size)
                    go_wp2
                    go_roundw
                    case rel => exact ⟨k + 1, by omega, by go_num, by rw [HC1.out]; go_num, hnq⟩
                    case measure => simp [intOf]; omega
                  · rw [decide_eq_false he] at KSS
                    rw [if_neg he, Nat.add_zero] at HCK
                    have HC1 : Hid (CK i (k + 1) = CK i k) := HCK
                    clear HCK
                    go_wp2
                    go_region_held3 (fun w' => w'.cell? ⟨b, o + k * 2 + 1, none⟩ = some (.slice rb lk2 rcb) ∧ w'.cell? ⟨b, o + i * 2 + 1, none⟩ = some (.slice ra li rca)) (first | go_keep | exact ⟨cell_later hbq y2, cell_later hbq y1⟩)
                      (first | (go_at_call 25; refine KSS.out.mono ?_; rintro e wq ⟨rfl, hbq⟩))
                    have hnq : Below w7.heap.size w7 wq := hnz.drew.trans (hbq.mono hnz.drew.size)
                    go_wp2
                    go_roundw
                    case rel => exact ⟨k + 1, by omega, by go_num, by rw [HC1.out], hnq⟩
                    case measure => simp [intOf]; omega
                · have hke : k = m1 := by omega
                  subst hke
                  go_wp2_with fail
                  refine (KLL.out _ hnz).mono ?_
                  rintro e wl ⟨⟨z, rfl, hz1, hz2⟩, hbl⟩
                  have hnl := hnz.trans (hbl.mono hnz.size)
                  obtain ⟨c0, _⟩ := HS.out wl (hb07.trans (hnl.mono hb07.size))
                  have dz : decide (z < (CK i k : Int)) = false := decide_eq_false (by omega)
                  have hck := HCL.out i k
                  cases hk3 : (kind == 3) with
                  | true =>
                    have hzz : z = (CK i k : Int) := hz2 (by simpa using hk3)
                    have hne : (z != (CK i k : Int)) = false := by rw [hzz]; simp
                    clear hz1 hz2 hzz
                    go_wp2
                    go_roundw
                    case rel => exact ⟨i + 1, by omega, by go_num, hnl⟩
                    case measure => simp [intOf]; omega
                  | false =>
                    clear hz1 hz2
                    go_wp2
                    go_roundw
                    case rel => exact ⟨i + 1, by omega, by go_num, hnl⟩
                    case measure => simp [intOf]; omega
            · go_wp2_with fail
              refine (KG.out _).mono ?_
              rintro e w8 ⟨rfl, hb8⟩
              go_wp2
              go_ret
              exact ⟨rfl, hby.trans (hb8.mono hby.size)⟩
end Go.Proofs.YtcpanmaahhiioaaGreat.bt
