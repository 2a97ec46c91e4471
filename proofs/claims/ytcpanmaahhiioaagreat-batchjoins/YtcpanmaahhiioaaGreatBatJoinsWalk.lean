/- BatchJoins answers true. -/
import Derived.Test.YtcpanmaahhiioaaGreatMgBatD
import Derived.Test.YtcpanmaahhiioaaGreatMgBatE
import Derived.Test.YtcpanmaahhiioaaGreatMgBatH
import Derived.Test.YtcpanmaahhiioaaGreatMgBatL
namespace Go.Proofs.YtcpanmaahhiioaaGreat.bt
open Go.ChangeShapes Go.WideShapes Go.ChangeAt Go.RowKit
open vl pl
set_option linter.unusedVariables false
set_option linter.unusedSimpArgs false
set_option maxRecDepth 100000 in
set_option maxHeartbeats 4000000 in
theorem joins_walk (p : Pln) (x : PA) (a1 : Option Addr) (c1 : Nat) (L : List Stm) (a2 : Option Addr) (c2 : Nat) (R : List Stm) (w : World) (hw : wfPlan p) (hp : planAt w p x) (hl : L.length + R.length ≤ 9223372036854775807) (h1 : stmsAt w a1 L) (h2 : stmsAt w a2 R) (hL : wfStms L) (hR : wfStms R) :
    Calls Tryz.prog 3 #[planV p x, .slice a1 L.length c1, .slice a2 R.length c2] w fun e w' => e = .returned (.bool true) ∧ Below w.heap.size w w' := by
  have K1 : Hid (∀ w1, Below w.heap.size w w1 → Calls Tryz.prog 9 #[planV p x, .slice a1 L.length c1, .slice a2 R.length c2] w1 fun e w' => viewRes (batchErr p L R) (rowsK (told p L R)) e w' ∧ Below w1.heap.size w1 w') := fun w1 hb => Join_any p x a1 a2 c1 c2 L R w1 hw (planAt_below hp hb) hl (stmsAt_below h1 hb) (stmsAt_below h2 hb) hL hR
  have K2 : Hid (∀ w1, Below w.heap.size w w1 → Calls Tryz.prog 10 #[planV p x, .slice a1 L.length c1, .slice a2 R.length c2] w1 fun e w' => e = .returned (.int .i64 (batchErr p L R)) ∧ Below w1.heap.size w1 w') := fun w1 hb => batchError_any p x a1 a2 c1 c2 L R w1 hw (planAt_below hp hb) (by omega) (by omega) (stmsAt_below h1 hb) (stmsAt_below h2 hb) hL hR
  have K3 : Hid (batchErr p L R = 0 → ∀ w1, Below w.heap.size w w1 → Calls Tryz.prog 13 #[planV p x, .slice a1 L.length c1, .slice a2 R.length c2] w1 fun e w' => (∃ out ad cap, ch.kvOf out = rowsK (told p L R) ∧ ch.viewOk out ∧ ch.wfView out ∧ e = .returned (.slice ad out.length cap) ∧ ch.viewAt w' ad out) ∧ Below w1.heap.size w1 w') := fun h0 w1 hb => JoinAll_any p x a1 a2 c1 c2 L R w1 hw (planAt_below hp hb) h0 (stmsAt_below h1 hb) (stmsAt_below h2 hb) hL hR
  have KG : Hid (∀ w1, Calls Tryz.prog 11 #[] w1 fun e w' => e = .returned (.bool true) ∧ Below w1.heap.size w1 w') := fun w1 => bt.begun_any w1
  obtain ⟨be, hbe⟩ : ∃ z, batchErr p L R = z := ⟨_, rfl⟩
  obtain ⟨RK, hRK⟩ : ∃ z, rowsK (told p L R) = z := ⟨_, rfl⟩
  rw [hbe] at K1 K2 K3
  rw [hRK] at K1 K3
  obtain ⟨n2, hn2⟩ : ∃ n, R.length = n := ⟨_, rfl⟩
  obtain ⟨n1, hn1⟩ : ∃ n, L.length = n := ⟨_, rfl⟩
  simp only [hn1, hn2] at K1 K2 K3 ⊢
  clear hbe hRK hn1 hn2 hw hp hl h1 h2 hL hR
  obtain ⟨kind, mode, low, high, size, limit, left, right, lkeys, rkeys, grouped, group, aggs⟩ := p
  obtain ⟨la, lc, rr, rc, lk, lkc, rk, rkc, g, gc, ag, ac⟩ := x
  unfold planV at K1 K2 K3 ⊢
  dsimp only at K1 K2 K3 ⊢
  obtain ⟨n6, h6⟩ : ∃ n, left.length = n := ⟨_, rfl⟩
  obtain ⟨n7, h7⟩ : ∃ n, right.length = n := ⟨_, rfl⟩
  obtain ⟨n8, h8⟩ : ∃ n, lkeys.length = n := ⟨_, rfl⟩
  obtain ⟨n9, h9⟩ : ∃ n, rkeys.length = n := ⟨_, rfl⟩
  obtain ⟨n11, h11⟩ : ∃ n, group.length = n := ⟨_, rfl⟩
  obtain ⟨n12, h12⟩ : ∃ n, aggs.length = n := ⟨_, rfl⟩
  simp only [h6, h7, h8, h9, h11, h12] at K1 K2 K3 ⊢
  clear h6 h7 h8 h9 h11 h12
  go_enter Tryz.func3, Tryz.ntmps3
  go_wp2_with fail
  generalize hW0 : (World.alloc w _) = W0
  have hb0 : Below w.heap.size w W0 := by rw [← hW0]; exact (Below.refl _ _).alloc (Nat.le_refl _) _
  have s0 : W0.cell? ⟨w.heap.size, 0, none⟩ = some (.int .i64 kind) := by subst hW0; go_simp
  have s1 : W0.cell? ⟨w.heap.size, 1, none⟩ = some (.int .i64 mode) := by subst hW0; go_simp
  have s2 : W0.cell? ⟨w.heap.size, 2, none⟩ = some (.int .i64 low) := by subst hW0; go_simp
  have s3 : W0.cell? ⟨w.heap.size, 3, none⟩ = some (.int .i64 high) := by subst hW0; go_simp
  have s4 : W0.cell? ⟨w.heap.size, 4, none⟩ = some (.int .i64 size) := by subst hW0; go_simp
  have s5 : W0.cell? ⟨w.heap.size, 5, none⟩ = some (.int .i64 limit) := by subst hW0; go_simp
  have s6 : W0.cell? ⟨w.heap.size, 6, none⟩ = some (.slice la n6 lc) := by subst hW0; go_simp
  have s7 : W0.cell? ⟨w.heap.size, 7, none⟩ = some (.slice rr n7 rc) := by subst hW0; go_simp
  have s8 : W0.cell? ⟨w.heap.size, 8, none⟩ = some (.slice lk n8 lkc) := by subst hW0; go_simp
  have s9 : W0.cell? ⟨w.heap.size, 9, none⟩ = some (.slice rk n9 rkc) := by subst hW0; go_simp
  have s10 : W0.cell? ⟨w.heap.size, 10, none⟩ = some (.bool grouped) := by subst hW0; go_simp
  have s11 : W0.cell? ⟨w.heap.size, 11, none⟩ = some (.slice g n11 gc) := by subst hW0; go_simp
  have s12 : W0.cell? ⟨w.heap.size, 12, none⟩ = some (.slice ag n12 ac) := by subst hW0; go_simp
  clear hW0
  refine (K1.out _ hb0).mono ?_
  rintro e w1 ⟨hres, hb1⟩
  have hbn := hb0.trans (hb1.mono hb0.size)
  replace s0 := cell_later hb1 s0
  replace s1 := cell_later hb1 s1
  replace s2 := cell_later hb1 s2
  replace s3 := cell_later hb1 s3
  replace s4 := cell_later hb1 s4
  replace s5 := cell_later hb1 s5
  replace s6 := cell_later hb1 s6
  replace s7 := cell_later hb1 s7
  replace s8 := cell_later hb1 s8
  replace s9 := cell_later hb1 s9
  replace s10 := cell_later hb1 s10
  replace s11 := cell_later hb1 s11
  replace s12 := cell_later hb1 s12
  rcases hres with ⟨hne, rfl⟩ | ⟨rfl, out, ad, cap, f1, f2, f3, rfl, f5⟩
  · have hne' : (be != 0) = true := by simpa using hne
    clear K3 hne
    go_wp2_with fail
    refine (K2.out _ hbn).mono ?_
    rintro e w2 ⟨rfl, hb2⟩
    have hbm := hbn.trans (hb2.mono hbn.size)
    go_wp2_with (go_at_call 11; refine (KG.out _).mono ?_; rintro e w3 ⟨rfl, hb3⟩)
    go_ret
    exact ⟨rfl, hbm.trans (hb3.mono hbm.size)⟩
  · have HF : Hid (ch.kvOf out = RK ∧ ch.viewOk out ∧ ch.wfView out ∧ ch.viewAt w1 ad out) := ⟨f1, f2, f3, f5⟩
    replace K3 := K3.out rfl
    have KA : Hid (∀ w1, Below w.heap.size w w1 → _) := K3
    have hol : out.length ≤ 9223372036854775807 := by have := f2.1; omega
    have HOL : Hid (out.length ≤ 9223372036854775807) := hol
    obtain ⟨on, hon⟩ : ∃ z, out.length = z := ⟨_, rfl⟩
    have HON : Hid (out.length = on) := hon
    rw [hon]
    clear f1 f2 f3 f5 K3 hol hon
    go_wp2_with fail
    refine (K2.out _ hbn).mono ?_
    rintro e w2 ⟨rfl, hb2⟩
    have hbm := hbn.trans (hb2.mono hbn.size)
    replace s0 := cell_later hb2 s0
    replace s1 := cell_later hb2 s1
    replace s2 := cell_later hb2 s2
    replace s3 := cell_later hb2 s3
    replace s4 := cell_later hb2 s4
    replace s5 := cell_later hb2 s5
    replace s6 := cell_later hb2 s6
    replace s7 := cell_later hb2 s7
    replace s8 := cell_later hb2 s8
    replace s9 := cell_later hb2 s9
    replace s10 := cell_later hb2 s10
    replace s11 := cell_later hb2 s11
    replace s12 := cell_later hb2 s12
    go_wp2_with fail
    refine (KG.out _).mono ?_
    rintro e w3 ⟨rfl, hb3⟩
    have hbo := hbm.trans (hb3.mono hbm.size)
    replace s0 := cell_later hb3 s0
    replace s1 := cell_later hb3 s1
    replace s2 := cell_later hb3 s2
    replace s3 := cell_later hb3 s3
    replace s4 := cell_later hb3 s4
    replace s5 := cell_later hb3 s5
    replace s6 := cell_later hb3 s6
    replace s7 := cell_later hb3 s7
    replace s8 := cell_later hb3 s8
    replace s9 := cell_later hb3 s9
    replace s10 := cell_later hb3 s10
    replace s11 := cell_later hb3 s11
    replace s12 := cell_later hb3 s12
    go_wp2_with fail
    refine (KA.out _ hbo).mono ?_
    rintro e w4 ⟨⟨out2, ad2, cap2, g1, g2, g3, rfl, g5⟩, hb4⟩
    have hbp := hbo.trans (hb4.mono hbo.size)
    have heq : out = out2 := ch.kvOf_inj (ch.view_rows HF.out.2.2.1 HF.out.2.1) (ch.view_rows g3 g2) (HF.out.1.trans g1.symm)
    subst heq
    have KS : Hid (Calls Tryz.prog 12 #[.slice ad on cap, .slice ad2 on cap2] w4 fun e w' => e = .returned (.bool true) ∧ Below w4.heap.size w4 w') := by
      have := ch.sameViews_any ad ad2 cap cap2 out out w4 (ch.viewAt_below (ch.viewAt_below (ch.viewAt_below HF.out.2.2.2 hb2) hb3) hb4) g5 g3 g3 HOL.out HOL.out
      rw [HON.out] at this
      refine this.mono ?_
      rintro e w' ⟨he, hb⟩
      exact ⟨by rw [he]; simp, hb⟩
    rw [HON.out]
    clear g1 g2 g3 g5
    go_wp2_with (go_at_call 12; refine KS.out.mono ?_; rintro e w5 ⟨rfl, hb5⟩)
    go_ret
    exact ⟨rfl, hbp.trans (hb5.mono hbp.size)⟩
end Go.Proofs.YtcpanmaahhiioaaGreat.bt
