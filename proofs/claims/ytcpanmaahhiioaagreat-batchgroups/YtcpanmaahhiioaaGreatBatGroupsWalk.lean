/- BatchGroups answers true. -/
import Derived.Test.YtcpanmaahhiioaaGreatBatGAll
import Derived.Test.YtcpanmaahhiioaaGreatBatGErr
import Derived.Test.YtcpanmaahhiioaaGreatMgBatK
import Derived.Test.YtcpanmaahhiioaaGreatBatOrd1
import Derived.Test.YtcpanmaahhiioaaGreatMgBatL
import Derived.Test.YtcpanmaahhiioaaGreatMgPlnF
namespace Go.Proofs.YtcpanmaahhiioaaGreat.bt
open Go.ChangeShapes Go.WideShapes Go.ChangeAt Go.RowKit Go.Maps Go.WideMaps
open vl pl
set_option linter.unusedVariables false
set_option linter.unusedSimpArgs false
set_option maxRecDepth 100000 in
set_option maxHeartbeats 4000000 in
theorem groups_walk (p : Pln) (x : PA) (a : Option Addr) (ca : Nat) (v : List ch.Cnt) (w : World) (hw : wfPlan p) (hp : planAt w p x) (hl : v.length ≤ 9223372036854775807) (hv : ch.viewAt w a v) (hwv : ch.wfView v) :
    Calls Tryz.prog 4 #[planV p x, .slice a v.length ca] w fun e w' => e = .returned (.bool true) ∧ Below w.heap.size w w' := by
  have K1 : Hid (∀ w1, Below w.heap.size w w1 → Calls Tryz.prog 14 #[planV p x, .slice a v.length ca] w1 fun e w' => grpRes p v e w' ∧ Below w1.heap.size w1 w') := fun w1 hb => Group_any p x a ca v w1 hw (planAt_below hp hb) hl (ch.viewAt_below hv hb) hwv
  have K2 : Hid (∀ w1, Below w.heap.size w w1 → Calls Tryz.prog 15 #[planV p x] w1 fun e w' => e = .returned (.int .i64 (planErr p)) ∧ Below w1.heap.size w1 w') := fun w1 hb => checkPlan_any p x w1 hw (planAt_below hp hb)
  have K3 : Hid (planErr p = 0 → ∀ w1, Below w.heap.size w w1 → Calls Tryz.prog 16 #[planV p x, .slice a v.length ca] w1 fun e w' => e = .returned (.int .i64 (groupErr p v)) ∧ Below w1.heap.size w1 w') := fun h0 w1 hb => groupError_any p x a ca v w1 (planAt_below hp hb) h0 hl (ch.viewAt_below hv hb) hwv
  have K4 : Hid (groupErr p v = 0 → ∀ w1, Below w.heap.size w w1 → Calls Tryz.prog 17 #[planV p x, .slice a v.length ca] w1 fun e w' => (∃ ad cap, e = .returned (.slice ad (groupOut p v).length cap) ∧ ch.viewAt w' ad (groupOut p v)) ∧ Below w1.heap.size w1 w') := fun h0 w1 hb => GroupAll_any p x a ca v w1 (planAt_below hp hb) h0 (ch.viewAt_below hv hb) hwv
  have KG : Hid (∀ w1, Calls Tryz.prog 11 #[] w1 fun e w' => e = .returned (.bool true) ∧ Below w1.heap.size w1 w') := fun w1 => bt.begun_any w1
  have KS : Hid (groupErr p v = 0 → ∀ ad ad' cap cap' w1, ch.viewAt w1 ad (groupOut p v) → ch.viewAt w1 ad' (groupOut p v) → Calls Tryz.prog 12 #[.slice ad (groupOut p v).length cap, .slice ad' (groupOut p v).length cap'] w1 fun e w' => e = .returned (.bool true) ∧ Below w1.heap.size w1 w') := fun h0 ad ad' cap cap' w1 m1 m2 => by
    have hk := group_ok h0
    have hwf := groupOut_wf hk.plan hk.grouped hwv
    have hlen : (groupOut p v).length ≤ 4096 := by have := gkeys_len p v; have := hk.view.1; unfold groupOut; rw [List.length_map]; omega
    refine (ch.sameViews_any ad ad' cap cap' _ _ w1 m1 m2 hwf hwf (by omega) (by omega)).mono ?_
    rintro e w' ⟨he, hb⟩
    exact ⟨by rw [he]; simp, hb⟩
  have HPE : Hid (planErr p ≠ 0 → groupErr p v = planErr p) := fun h => by unfold groupErr; rw [if_pos h]
  unfold grpRes at K1
  obtain ⟨pe, hpe⟩ : ∃ z, planErr p = z := ⟨_, rfl⟩
  obtain ⟨ge, hge⟩ : ∃ z, groupErr p v = z := ⟨_, rfl⟩
  obtain ⟨OUT, hOUT⟩ : ∃ z, groupOut p v = z := ⟨_, rfl⟩
  rw [hge, hOUT] at K1
  rw [hpe] at K2
  rw [hpe, hge] at K3
  rw [hge, hOUT] at K4 KS
  rw [hpe, hge] at HPE
  obtain ⟨n, hn⟩ : ∃ n, v.length = n := ⟨_, rfl⟩
  rw [hn] at K1 K3 K4 ⊢
  clear hpe hge hOUT hn hw hp hl hv hwv
  obtain ⟨kind, mode, low, high, size, limit, left, right, lkeys, rkeys, grouped, group, aggs⟩ := p
  obtain ⟨la, lc, rr, rc, lk, lkc, rk, rkc, g, gc, ag, ac⟩ := x
  unfold planV at K1 K2 K3 K4 ⊢
  dsimp only at K1 K2 K3 K4 ⊢
  obtain ⟨n6, h6⟩ : ∃ n, left.length = n := ⟨_, rfl⟩
  obtain ⟨n7, h7⟩ : ∃ n, right.length = n := ⟨_, rfl⟩
  obtain ⟨n8, h8⟩ : ∃ n, lkeys.length = n := ⟨_, rfl⟩
  obtain ⟨n9, h9⟩ : ∃ n, rkeys.length = n := ⟨_, rfl⟩
  obtain ⟨n11, h11⟩ : ∃ n, group.length = n := ⟨_, rfl⟩
  obtain ⟨n12, h12⟩ : ∃ n, aggs.length = n := ⟨_, rfl⟩
  simp only [h6, h7, h8, h9, h11, h12] at K1 K2 K3 K4 ⊢
  clear h6 h7 h8 h9 h11 h12
  go_enter Tryz.func4, Tryz.ntmps4
  go_wp2_with fail
  generalize hW0 : (World.alloc w _) = W0
  have hb0 : Below w.heap.size w W0 := by rw [← hW0]; exact (Below.refl _ _).alloc (Nat.le_refl _) _
  have s0 : W0.cell? ⟨w.heap.size, 0, none⟩ = some (.int .i64 kind) := by subst hW0; go_simp
  have s1 : W0.cell? ⟨w.heap.size, 1, none⟩ = some (.int .i64 mode) := by subst hW0; go_simp
  have s2 : W0.cell? ⟨w.heap.size, 2, none⟩ = some (.int .i64 low) := by subst hW0; go_simp
  have s3 : W0.cell? ⟨w.heap.size, 3, none⟩ = some (.int .i64 high) := by subst hW0; go_simp
  have s4 : W0.cell? ⟨w.heap.size, 4, none⟩ = some (.int .i64 size) := by subst hW0; go_simp
  have s5 : W0.cell? ⟨w.heap.size, 5, none⟩ = some (.int .i64 limit) := by subst hW0; go_simp
  have s6 : W0.cell? ⟨w.heap.size, 6, none⟩ = some (.slice la n6 lc) := by subst hW0; go_simp
  have s7 : W0.cell? ⟨w.heap.size, 7, none⟩ = some (.slice rr n7 rc) := by subst hW0; go_simp
  have s8 : W0.cell? ⟨w.heap.size, 8, none⟩ = some (.slice lk n8 lkc) := by subst hW0; go_simp
  have s9 : W0.cell? ⟨w.heap.size, 9, none⟩ = some (.slice rk n9 rkc) := by subst hW0; go_simp
  have s10 : W0.cell? ⟨w.heap.size, 10, none⟩ = some (.bool grouped) := by subst hW0; go_simp
  have s11 : W0.cell? ⟨w.heap.size, 11, none⟩ = some (.slice g n11 gc) := by subst hW0; go_simp
  have s12 : W0.cell? ⟨w.heap.size, 12, none⟩ = some (.slice ag n12 ac) := by subst hW0; go_simp
  have HS : Hid (∀ W1, Below W0.heap.size W0 W1 → W1.cell? ⟨w.heap.size, 0, none⟩ = some (.int .i64 kind) ∧ W1.cell? ⟨w.heap.size, 1, none⟩ = some (.int .i64 mode) ∧ W1.cell? ⟨w.heap.size, 2, none⟩ = some (.int .i64 low) ∧ W1.cell? ⟨w.heap.size, 3, none⟩ = some (.int .i64 high) ∧ W1.cell? ⟨w.heap.size, 4, none⟩ = some (.int .i64 size) ∧ W1.cell? ⟨w.heap.size, 5, none⟩ = some (.int .i64 limit) ∧ W1.cell? ⟨w.heap.size, 6, none⟩ = some (.slice la n6 lc) ∧ W1.cell? ⟨w.heap.size, 7, none⟩ = some (.slice rr n7 rc) ∧ W1.cell? ⟨w.heap.size, 8, none⟩ = some (.slice lk n8 lkc) ∧ W1.cell? ⟨w.heap.size, 9, none⟩ = some (.slice rk n9 rkc) ∧ W1.cell? ⟨w.heap.size, 10, none⟩ = some (.bool grouped) ∧ W1.cell? ⟨w.heap.size, 11, none⟩ = some (.slice g n11 gc) ∧ W1.cell? ⟨w.heap.size, 12, none⟩ = some (.slice ag n12 ac)) := fun W1 hb => ⟨cell_later hb s0, cell_later hb s1, cell_later hb s2, cell_later hb s3, cell_later hb s4, cell_later hb s5, cell_later hb s6, cell_later hb s7, cell_later hb s8, cell_later hb s9, cell_later hb s10, cell_later hb s11, cell_later hb s12⟩
  clear hW0
  clear s0 s1 s2 s3 s4 s5 s6 s7 s8 s9 s10 s11 s12
  obtain ⟨s0, s1, s2, s3, s4, s5, s6, s7, s8, s9, s10, s11, s12⟩ := HS.out W0 (Below.refl _ _)
  refine (K1.out _ hb0).mono ?_
  clear s0 s1 s2 s3 s4 s5 s6 s7 s8 s9 s10 s11 s12
  rintro e w1 ⟨hres, hb1⟩
  have hbn := hb0.trans (hb1.mono hb0.size)
  obtain ⟨s0, s1, s2, s3, s4, s5, s6, s7, s8, s9, s10, s11, s12⟩ := HS.out w1 hb1
  rcases hres with ⟨hne, rfl⟩ | ⟨rfl, ad, cap, rfl, hva⟩
  · have hne' : (ge != 0) = true := by simpa using hne
    have hnz : (ge == 0) = false := by simpa using hne
    go_wp2_with fail
    refine (K2.out _ hbn).mono ?_
    rintro e w2 ⟨rfl, hb2⟩
    have hbm := hbn.trans (hb2.mono hbn.size)
    have hb02 := hb1.trans (hb2.mono hb1.size)
    clear s0 s1 s2 s3 s4 s5 s6 s7 s8 s9 s10 s11 s12
    by_cases h0 : pe = 0
    · subst h0
      obtain ⟨s0, s1, s2, s3, s4, s5, s6, s7, s8, s9, s10, s11, s12⟩ := HS.out w2 hb02
      go_wp2_with fail
      refine (K3.out (by trivial) _ hbm).mono ?_
      rintro e w3 ⟨rfl, hb3⟩
      have hbo := hbm.trans (hb3.mono hbm.size)
      go_wp2_with fail
      refine (KG.out _).mono ?_
      rintro e w4 ⟨rfl, hb4⟩
      go_wp2
      go_ret
      exact ⟨rfl, hbo.trans (hb4.mono hbo.size)⟩
    · have hge : ge = pe := HPE.out h0
      subst hge
      go_wp2_with fail
      refine (KG.out _).mono ?_
      rintro e w4 ⟨rfl, hb4⟩
      go_wp2
      go_ret
      exact ⟨rfl, hbm.trans (hb4.mono hbm.size)⟩
  · have hpe : pe = 0 := by
      by_cases h0 : pe = 0
      · exact h0
      · exact absurd (HPE.out h0).symm h0
    subst hpe
    obtain ⟨on, hon⟩ : ∃ z, OUT.length = z := ⟨_, rfl⟩
    have HVA : Hid (∀ W1, Below w1.heap.size w1 W1 → ch.viewAt W1 ad OUT) := fun W1 hb => ch.viewAt_below hva hb
    have K4' : Hid (∀ w1, Below w.heap.size w w1 → _) := K4.out rfl
    have KS' : Hid (∀ ad ad' cap cap' w1, ch.viewAt w1 ad OUT → ch.viewAt w1 ad' OUT → _) := KS.out rfl
    rw [hon] at K4' KS' ⊢
    clear hva K4 KS hon
    go_wp2_with fail
    refine (K2.out _ hbn).mono ?_
    rintro e w2 ⟨rfl, hb2⟩
    have hbm := hbn.trans (hb2.mono hbn.size)
    have hb02 := hb1.trans (hb2.mono hb1.size)
    clear s0 s1 s2 s3 s4 s5 s6 s7 s8 s9 s10 s11 s12
    obtain ⟨s0, s1, s2, s3, s4, s5, s6, s7, s8, s9, s10, s11, s12⟩ := HS.out w2 hb02
    go_wp2_with fail
    refine (K3.out (by trivial) _ hbm).mono ?_
    rintro e w3 ⟨rfl, hb3⟩
    have hbo := hbm.trans (hb3.mono hbm.size)
    have hb03 := hb02.trans (hb3.mono hb02.size)
    clear s0 s1 s2 s3 s4 s5 s6 s7 s8 s9 s10 s11 s12
    go_wp2_with fail
    refine (KG.out _).mono ?_
    rintro e w4 ⟨rfl, hb4⟩
    have hbp := hbo.trans (hb4.mono hbo.size)
    have hb04 := hb03.trans (hb4.mono hb03.size)
    obtain ⟨s0, s1, s2, s3, s4, s5, s6, s7, s8, s9, s10, s11, s12⟩ := HS.out w4 hb04
    go_wp2_with fail
    refine (K4'.out _ hbp).mono ?_
    rintro e w5 ⟨⟨ad2, cap2, rfl, hva2⟩, hb5⟩
    have hbq := hbp.trans (hb5.mono hbp.size)
    have h15 : Below w1.heap.size w1 w5 := ((hb2.trans (hb3.mono hb2.size)).trans (hb4.mono (hb2.trans (hb3.mono hb2.size)).size)).trans (hb5.mono ((hb2.trans (hb3.mono hb2.size)).trans (hb4.mono (hb2.trans (hb3.mono hb2.size)).size)).size)
    go_wp2_with fail
    refine (KS'.out ad ad2 cap cap2 w5 (HVA.out w5 h15) hva2).mono ?_
    rintro e w6 ⟨rfl, hb6⟩
    go_wp2
    go_ret
    exact ⟨rfl, hbq.trans (hb6.mono hbq.size)⟩
end Go.Proofs.YtcpanmaahhiioaaGreat.bt
