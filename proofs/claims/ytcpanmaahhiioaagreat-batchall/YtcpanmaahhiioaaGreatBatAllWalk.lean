/- BatchAll answers true. -/
import Derived.Test.YtcpanmaahhiioaaGreatBatGAll
import Derived.Test.YtcpanmaahhiioaaGreatBatAllP
import Derived.Test.YtcpanmaahhiioaaGreatBatOrd1
import Derived.Test.YtcpanmaahhiioaaGreatMgBatE
import Derived.Test.YtcpanmaahhiioaaGreatMgBatH
import Derived.Test.YtcpanmaahhiioaaGreatMgBatL
namespace Go.Proofs.YtcpanmaahhiioaaGreat.bt
open Go.ChangeShapes Go.WideShapes Go.ChangeAt Go.RowKit Go.Maps Go.WideMaps
open vl pl
set_option linter.unusedVariables false
set_option linter.unusedSimpArgs false
set_option maxRecDepth 100000 in
set_option maxHeartbeats 4000000 in
theorem Everything_any (p : Pln) (x : PA) (a1 a2 : Option Addr) (c1 c2 : Nat) (L R : List Stm) (w : World) (hw : wfPlan p) (hp : planAt w p x) (hE : batchErr p L R = 0) (h1 : stmsAt w a1 L) (h2 : stmsAt w a2 R) (hL : wfStms L) (hR : wfStms R) :
    Calls Tryz.prog 19 #[planV p x, .slice a1 L.length c1, .slice a2 R.length c2] w fun e w' => (∃ V ad cap, allV p (rowsK (told p L R)) V ∧ e = .returned (.slice ad V.length cap) ∧ ch.viewAt w' ad V) ∧ Below w.heap.size w w' := by
  have K1 : Hid (∀ w1, Below w.heap.size w w1 → Calls Tryz.prog 13 #[planV p x, .slice a1 L.length c1, .slice a2 R.length c2] w1 fun e w' => (∃ out ad cap, (ch.kvOf out = rowsK (told p L R) ∧ ch.viewOk out ∧ ch.wfView out) ∧ e = .returned (.slice ad out.length cap) ∧ ch.viewAt w' ad out) ∧ Below w1.heap.size w1 w') := fun w1 hb => (JoinAll_any p x a1 a2 c1 c2 L R w1 hw (planAt_below hp hb) hE (stmsAt_below h1 hb) (stmsAt_below h2 hb) hL hR).mono fun e w' h => ⟨by
    obtain ⟨out, ad, cap, e1, e2, e3, e4, e5⟩ := h.1
    exact ⟨out, ad, cap, ⟨e1, e2, e3⟩, e4, e5⟩, h.2⟩
  have K2 : Hid (p.grouped = true → ∀ out ad cap w1, (ch.kvOf out = rowsK (told p L R) ∧ ch.viewOk out ∧ ch.wfView out) → ch.viewAt w1 ad out → Below w.heap.size w w1 → Calls Tryz.prog 17 #[planV p x, .slice ad out.length cap] w1 fun e w' => (∃ V ad cap, allV p (rowsK (told p L R)) V ∧ e = .returned (.slice ad V.length cap) ∧ ch.viewAt w' ad V) ∧ Below w1.heap.size w1 w') := fun hg out ad cap w1 ho hva hb => (GroupAll_any p x ad cap out w1 (planAt_below hp hb) (join_groups hE hg hL hR ho.1 ho.2.1 ho.2.2) hva ho.2.2).mono fun e w' h => ⟨by
    obtain ⟨ad', cap', e1, e2⟩ := h.1
    exact ⟨groupOut p out, ad', cap', ⟨out, ho.1, ho.2.1, ho.2.2, by rw [if_pos hg]⟩, e1, e2⟩, h.2⟩
  have HNG : Hid (p.grouped = false → ∀ out, (ch.kvOf out = rowsK (told p L R) ∧ ch.viewOk out ∧ ch.wfView out) → allV p (rowsK (told p L R)) out) := fun hg out ho => ⟨out, ho.1, ho.2.1, ho.2.2, by rw [if_neg (by rw [hg]; decide)]⟩
  obtain ⟨OK, hOK⟩ : ∃ z : List ch.Cnt → Prop, (fun out => ch.kvOf out = rowsK (told p L R) ∧ ch.viewOk out ∧ ch.wfView out) = z := ⟨_, rfl⟩
  have hOK' : ∀ out, (ch.kvOf out = rowsK (told p L R) ∧ ch.viewOk out ∧ ch.wfView out) = OK out := fun out => by rw [← hOK]
  simp only [hOK'] at K1 K2 HNG
  obtain ⟨AV, hAV⟩ : ∃ z, allV p (rowsK (told p L R)) = z := ⟨_, rfl⟩
  rw [hAV] at K2 HNG ⊢
  obtain ⟨m2, hm2⟩ : ∃ n, R.length = n := ⟨_, rfl⟩
  obtain ⟨m1, hm1⟩ : ∃ n, L.length = n := ⟨_, rfl⟩
  simp only [hm1, hm2] at K1 ⊢
  clear hOK hOK' hAV hm1 hm2 hw hp hE h1 h2 hL hR
  obtain ⟨kind, mode, low, high, size, limit, left, right, lkeys, rkeys, grouped, group, aggs⟩ := p
  obtain ⟨la, lc, rr, rc, lk, lkc, rk, rkc, g, gc, ag, ac⟩ := x
  unfold planV at K1 K2 ⊢
  dsimp only at K1 K2 HNG ⊢
  obtain ⟨n6, h6⟩ : ∃ n, left.length = n := ⟨_, rfl⟩
  obtain ⟨n7, h7⟩ : ∃ n, right.length = n := ⟨_, rfl⟩
  obtain ⟨n8, h8⟩ : ∃ n, lkeys.length = n := ⟨_, rfl⟩
  obtain ⟨n9, h9⟩ : ∃ n, rkeys.length = n := ⟨_, rfl⟩
  obtain ⟨n11, h11⟩ : ∃ n, group.length = n := ⟨_, rfl⟩
  obtain ⟨n12, h12⟩ : ∃ n, aggs.length = n := ⟨_, rfl⟩
  simp only [h6, h7, h8, h9, h11, h12] at K1 K2 ⊢
  clear h6 h7 h8 h9 h11 h12
  go_enter Tryz.func19, Tryz.ntmps19
  go_wp2_with fail
  generalize hW0 : (World.alloc w _) = W0
  have hb0 : Below w.heap.size w W0 := by rw [← hW0]; exact (Below.refl _ _).alloc (Nat.le_refl _) _
  have s0 : W0.cell? ⟨w.heap.size, 0, none⟩ = some (.int .i64 kind) := by subst hW0; go_simp
  have s1 : W0.cell? ⟨w.heap.size, 1, none⟩ = some (.int .i64 mode) := by subst hW0; go_simp
  have s2 : W0.cell? ⟨w.heap.size, 2, none⟩ = some (.int .i64 low) := by subst hW0; go_simp
  have s3 : W0.cell? ⟨w.heap.size, 3, none⟩ = some (.int .i64 high) := by subst hW0; go_simp
  have s4 : W0.cell? ⟨w.heap.size, 4, none⟩ = some (.int .i64 size) := by subst hW0; go_simp
  have s5 : W0.cell? ⟨w.heap.size, 5, none⟩ = some (.int .i64 limit) := by subst hW0; go_simp
  have s6 : W0.cell? ⟨w.heap.size, 6, none⟩ = some (.slice la n6 lc) := by subst hW0; go_simp
  have s7 : W0.cell? ⟨w.heap.size, 7, none⟩ = some (.slice rr n7 rc) := by subst hW0; go_simp
  have s8 : W0.cell? ⟨w.heap.size, 8, none⟩ = some (.slice lk n8 lkc) := by subst hW0; go_simp
  have s9 : W0.cell? ⟨w.heap.size, 9, none⟩ = some (.slice rk n9 rkc) := by subst hW0; go_simp
  have s10 : W0.cell? ⟨w.heap.size, 10, none⟩ = some (.bool grouped) := by subst hW0; go_simp
  have s11 : W0.cell? ⟨w.heap.size, 11, none⟩ = some (.slice g n11 gc) := by subst hW0; go_simp
  have s12 : W0.cell? ⟨w.heap.size, 12, none⟩ = some (.slice ag n12 ac) := by subst hW0; go_simp
  have HS : Hid (∀ W1, Below W0.heap.size W0 W1 → W1.cell? ⟨w.heap.size, 0, none⟩ = some (.int .i64 kind) ∧ W1.cell? ⟨w.heap.size, 1, none⟩ = some (.int .i64 mode) ∧ W1.cell? ⟨w.heap.size, 2, none⟩ = some (.int .i64 low) ∧ W1.cell? ⟨w.heap.size, 3, none⟩ = some (.int .i64 high) ∧ W1.cell? ⟨w.heap.size, 4, none⟩ = some (.int .i64 size) ∧ W1.cell? ⟨w.heap.size, 5, none⟩ = some (.int .i64 limit) ∧ W1.cell? ⟨w.heap.size, 6, none⟩ = some (.slice la n6 lc) ∧ W1.cell? ⟨w.heap.size, 7, none⟩ = some (.slice rr n7 rc) ∧ W1.cell? ⟨w.heap.size, 8, none⟩ = some (.slice lk n8 lkc) ∧ W1.cell? ⟨w.heap.size, 9, none⟩ = some (.slice rk n9 rkc) ∧ W1.cell? ⟨w.heap.size, 10, none⟩ = some (.bool grouped) ∧ W1.cell? ⟨w.heap.size, 11, none⟩ = some (.slice g n11 gc) ∧ W1.cell? ⟨w.heap.size, 12, none⟩ = some (.slice ag n12 ac)) := fun W1 hb => ⟨cell_later hb s0, cell_later hb s1, cell_later hb s2, cell_later hb s3, cell_later hb s4, cell_later hb s5, cell_later hb s6, cell_later hb s7, cell_later hb s8, cell_later hb s9, cell_later hb s10, cell_later hb s11, cell_later hb s12⟩
  clear hW0
  clear s0 s1 s2 s3 s4 s5 s6 s7 s8 s9 s10 s11 s12
  obtain ⟨s0, s1, s2, s3, s4, s5, s6, s7, s8, s9, s10, s11, s12⟩ := HS.out W0 (Below.refl _ _)
  refine (K1.out _ hb0).mono ?_
  clear s0 s1 s2 s3 s4 s5 s6 s7 s8 s9 s10 s11 s12
  rintro e w1 ⟨⟨out, ad, cap, hok, rfl, hva⟩, hb1⟩
  have hbn := hb0.trans (hb1.mono hb0.size)
  obtain ⟨s0, s1, s2, s3, s4, s5, s6, s7, s8, s9, s10, s11, s12⟩ := HS.out w1 hb1
  have HOK : Hid (OK out ∧ ch.viewAt w1 ad out) := ⟨hok, hva⟩
  cases grouped with
  | true =>
    have KK : Hid (Calls Tryz.prog 17 _ w1 fun e w' => (∃ V ad cap, AV V ∧ e = .returned (.slice ad V.length cap) ∧ ch.viewAt w' ad V) ∧ Below w1.heap.size w1 w') := K2.out rfl out ad cap w1 hok hva hbn
    obtain ⟨on, hon⟩ : ∃ z, out.length = z := ⟨_, rfl⟩
    rw [hon] at KK ⊢
    clear hok hva hon K2
    go_wp2_with fail
    refine KK.out.mono ?_
    rintro e w2 ⟨⟨V, ad2, cap2, hV, rfl, hva2⟩, hb2⟩
    have HR : Hid (AV V ∧ ch.viewAt w2 ad2 V) := ⟨hV, hva2⟩
    obtain ⟨vn, hvn⟩ : ∃ z, V.length = z := ⟨_, rfl⟩
    have HVN : Hid (V.length = vn) := hvn
    rw [hvn]
    clear hV hva2 hvn
    go_wp2
    go_ret
    exact ⟨⟨V, ad2, cap2, HR.out.1, by rw [HVN.out]; rfl, HR.out.2⟩, hbn.trans (hb2.mono hbn.size)⟩
  | false =>
    have HAV : Hid (AV out) := HNG.out rfl out hok
    obtain ⟨on, hon⟩ : ∃ z, out.length = z := ⟨_, rfl⟩
    have HON : Hid (out.length = on) := hon
    rw [hon]
    clear hok hva hon K2
    go_wp2
    go_ret
    exact ⟨⟨out, ad, cap, HAV.out, by rw [HON.out]; rfl, HOK.out.2⟩, hbn⟩
set_option maxRecDepth 100000 in
set_option maxHeartbeats 4000000 in
theorem all_walk (p : Pln) (x : PA) (a1 : Option Addr) (c1 : Nat) (L : List Stm) (a2 : Option Addr) (c2 : Nat) (R : List Stm) (w : World) (hw : wfPlan p) (hp : planAt w p x) (hl : L.length + R.length ≤ 9223372036854775807) (h1 : stmsAt w a1 L) (h2 : stmsAt w a2 R) (hL : wfStms L) (hR : wfStms R) :
    Calls Tryz.prog 5 #[planV p x, .slice a1 L.length c1, .slice a2 R.length c2] w fun e w' => e = .returned (.bool true) ∧ Below w.heap.size w w' := by
  have K1 : Hid (∀ w1, Below w.heap.size w w1 → Calls Tryz.prog 18 #[planV p x, .slice a1 L.length c1, .slice a2 R.length c2] w1 fun e w' => ((batchErr p L R ≠ 0 ∧ e = .returned (.tuple #[.slice none 0 0, .int .i64 (batchErr p L R)])) ∨ (batchErr p L R = 0 ∧ ∃ V ad cap, allV p (rowsK (told p L R)) V ∧ e = .returned (.tuple #[.slice ad V.length cap, .int .i64 0]) ∧ ch.viewAt w' ad V)) ∧ Below w1.heap.size w1 w') := fun w1 hb => (All_any p x a1 a2 c1 c2 L R w1 hw (planAt_below hp hb) hl (stmsAt_below h1 hb) (stmsAt_below h2 hb) hL hR).mono fun e w' h => ⟨by
    rcases h.1 with h3 | ⟨h3, out, o1, o2, o3, ad, cap, h4, h5⟩
    · exact .inl h3
    · exact .inr ⟨h3, _, ad, cap, ⟨out, o1, o2, o3, rfl⟩, h4, h5⟩, h.2⟩
  have K2 : Hid (∀ w1, Below w.heap.size w w1 → Calls Tryz.prog 10 #[planV p x, .slice a1 L.length c1, .slice a2 R.length c2] w1 fun e w' => e = .returned (.int .i64 (batchErr p L R)) ∧ Below w1.heap.size w1 w') := fun w1 hb => batchError_any p x a1 a2 c1 c2 L R w1 hw (planAt_below hp hb) (by omega) (by omega) (stmsAt_below h1 hb) (stmsAt_below h2 hb) hL hR
  have K3 : Hid (batchErr p L R = 0 → ∀ w1, Below w.heap.size w w1 → Calls Tryz.prog 19 #[planV p x, .slice a1 L.length c1, .slice a2 R.length c2] w1 fun e w' => (∃ V ad cap, allV p (rowsK (told p L R)) V ∧ e = .returned (.slice ad V.length cap) ∧ ch.viewAt w' ad V) ∧ Below w1.heap.size w1 w') := fun h0 w1 hb => Everything_any p x a1 a2 c1 c2 L R w1 hw (planAt_below hp hb) h0 (stmsAt_below h1 hb) (stmsAt_below h2 hb) hL hR
  have KG : Hid (∀ w1, Calls Tryz.prog 11 #[] w1 fun e w' => e = .returned (.bool true) ∧ Below w1.heap.size w1 w') := fun w1 => bt.begun_any w1
  have KV : Hid (batchErr p L R = 0 → ∀ V V' ad ad' cap cap' w1, allV p (rowsK (told p L R)) V → allV p (rowsK (told p L R)) V' → ch.viewAt w1 ad V → ch.viewAt w1 ad' V' → Calls Tryz.prog 12 #[.slice ad V.length cap, .slice ad' V'.length cap'] w1 fun e w' => e = .returned (.bool true) ∧ Below w1.heap.size w1 w') := fun h0 V V' ad ad' cap cap' w1 v1 v2 m1 m2 => by
    have hwf := allV_wf (batch_ok h0).plan v1
    have e := allV_one v1 v2
    subst e
    refine (ch.sameViews_any ad ad' cap cap' V V w1 m1 m2 hwf.1 hwf.1 (by have := hwf.2; omega) (by have := hwf.2; omega)).mono ?_
    rintro e w' ⟨he, hb⟩
    exact ⟨by rw [he]; simp, hb⟩
  obtain ⟨be, hbe⟩ : ∃ z, batchErr p L R = z := ⟨_, rfl⟩
  obtain ⟨AV, hAV⟩ : ∃ z, allV p (rowsK (told p L R)) = z := ⟨_, rfl⟩
  rw [hbe, hAV] at K1 K3 KV
  rw [hbe] at K2
  obtain ⟨m2, hm2⟩ : ∃ n, R.length = n := ⟨_, rfl⟩
  obtain ⟨m1, hm1⟩ : ∃ n, L.length = n := ⟨_, rfl⟩
  simp only [hm1, hm2] at K1 K2 K3 ⊢
  clear hbe hAV hm1 hm2 hw hp hl h1 h2 hL hR
  obtain ⟨kind, mode, low, high, size, limit, left, right, lkeys, rkeys, grouped, group, aggs⟩ := p
  obtain ⟨la, lc, rr, rc, lk, lkc, rk, rkc, g, gc, ag, ac⟩ := x
  unfold planV at K1 K2 K3 ⊢
  dsimp only at K1 K2 K3 ⊢
  obtain ⟨n6, h6⟩ : ∃ n, left.length = n := ⟨_, rfl⟩
  obtain ⟨n7, h7⟩ : ∃ n, right.length = n := ⟨_, rfl⟩
  obtain ⟨n8, h8⟩ : ∃ n, lkeys.length = n := ⟨_, rfl⟩
  obtain ⟨n9, h9⟩ : ∃ n, rkeys.length = n := ⟨_, rfl⟩
  obtain ⟨n11, h11⟩ : ∃ n, group.length = n := ⟨_, rfl⟩
  obtain ⟨n12, h12⟩ : ∃ n, aggs.length = n := ⟨_, rfl⟩
  simp only [h6, h7, h8, h9, h11, h12] at K1 K2 K3 ⊢
  clear h6 h7 h8 h9 h11 h12
  go_enter Tryz.func5, Tryz.ntmps5
  go_wp2_with fail
  generalize hW0 : (World.alloc w _) = W0
  have hb0 : Below w.heap.size w W0 := by rw [← hW0]; exact (Below.refl _ _).alloc (Nat.le_refl _) _
  have s0 : W0.cell? ⟨w.heap.size, 0, none⟩ = some (.int .i64 kind) := by subst hW0; go_simp
  have s1 : W0.cell? ⟨w.heap.size, 1, none⟩ = some (.int .i64 mode) := by subst hW0; go_simp
  have s2 : W0.cell? ⟨w.heap.size, 2, none⟩ = some (.int .i64 low) := by subst hW0; go_simp
  have s3 : W0.cell? ⟨w.heap.size, 3, none⟩ = some (.int .i64 high) := by subst hW0; go_simp
  have s4 : W0.cell? ⟨w.heap.size, 4, none⟩ = some (.int .i64 size) := by subst hW0; go_simp
  have s5 : W0.cell? ⟨w.heap.size, 5, none⟩ = some (.int .i64 limit) := by subst hW0; go_simp
  have s6 : W0.cell? ⟨w.heap.size, 6, none⟩ = some (.slice la n6 lc) := by subst hW0; go_simp
  have s7 : W0.cell? ⟨w.heap.size, 7, none⟩ = some (.slice rr n7 rc) := by subst hW0; go_simp
  have s8 : W0.cell? ⟨w.heap.size, 8, none⟩ = some (.slice lk n8 lkc) := by subst hW0; go_simp
  have s9 : W0.cell? ⟨w.heap.size, 9, none⟩ = some (.slice rk n9 rkc) := by subst hW0; go_simp
  have s10 : W0.cell? ⟨w.heap.size, 10, none⟩ = some (.bool grouped) := by subst hW0; go_simp
  have s11 : W0.cell? ⟨w.heap.size, 11, none⟩ = some (.slice g n11 gc) := by subst hW0; go_simp
  have s12 : W0.cell? ⟨w.heap.size, 12, none⟩ = some (.slice ag n12 ac) := by subst hW0; go_simp
  have HS : Hid (∀ W1, Below W0.heap.size W0 W1 → W1.cell? ⟨w.heap.size, 0, none⟩ = some (.int .i64 kind) ∧ W1.cell? ⟨w.heap.size, 1, none⟩ = some (.int .i64 mode) ∧ W1.cell? ⟨w.heap.size, 2, none⟩ = some (.int .i64 low) ∧ W1.cell? ⟨w.heap.size, 3, none⟩ = some (.int .i64 high) ∧ W1.cell? ⟨w.heap.size, 4, none⟩ = some (.int .i64 size) ∧ W1.cell? ⟨w.heap.size, 5, none⟩ = some (.int .i64 limit) ∧ W1.cell? ⟨w.heap.size, 6, none⟩ = some (.slice la n6 lc) ∧ W1.cell? ⟨w.heap.size, 7, none⟩ = some (.slice rr n7 rc) ∧ W1.cell? ⟨w.heap.size, 8, none⟩ = some (.slice lk n8 lkc) ∧ W1.cell? ⟨w.heap.size, 9, none⟩ = some (.slice rk n9 rkc) ∧ W1.cell? ⟨w.heap.size, 10, none⟩ = some (.bool grouped) ∧ W1.cell? ⟨w.heap.size, 11, none⟩ = some (.slice g n11 gc) ∧ W1.cell? ⟨w.heap.size, 12, none⟩ = some (.slice ag n12 ac)) := fun W1 hb => ⟨cell_later hb s0, cell_later hb s1, cell_later hb s2, cell_later hb s3, cell_later hb s4, cell_later hb s5, cell_later hb s6, cell_later hb s7, cell_later hb s8, cell_later hb s9, cell_later hb s10, cell_later hb s11, cell_later hb s12⟩
  clear hW0
  clear s0 s1 s2 s3 s4 s5 s6 s7 s8 s9 s10 s11 s12
  obtain ⟨s0, s1, s2, s3, s4, s5, s6, s7, s8, s9, s10, s11, s12⟩ := HS.out W0 (Below.refl _ _)
  refine (K1.out _ hb0).mono ?_
  clear s0 s1 s2 s3 s4 s5 s6 s7 s8 s9 s10 s11 s12
  rintro e w1 ⟨hres, hb1⟩
  have hbn := hb0.trans (hb1.mono hb0.size)
  obtain ⟨s0, s1, s2, s3, s4, s5, s6, s7, s8, s9, s10, s11, s12⟩ := HS.out w1 hb1
  rcases hres with ⟨hne, rfl⟩ | ⟨rfl, V, ad, cap, hV, rfl, hva⟩
  · have hne' : (be != 0) = true := by simpa using hne
    clear K3 hne
    go_wp2_with fail
    refine (K2.out _ hbn).mono ?_
    rintro e w2 ⟨rfl, hb2⟩
    have hbm := hbn.trans (hb2.mono hbn.size)
    go_wp2_with fail
    refine (KG.out _).mono ?_
    rintro e w3 ⟨rfl, hb3⟩
    go_wp2
    go_ret
    exact ⟨rfl, hbm.trans (hb3.mono hbm.size)⟩
  · have HVV : Hid (AV V ∧ ∀ W1, Below w1.heap.size w1 W1 → ch.viewAt W1 ad V) := ⟨hV, fun W1 hb => ch.viewAt_below hva hb⟩
    have K3' : Hid (∀ w1, Below w.heap.size w w1 → _) := K3.out rfl
    have KV' : Hid (∀ V V' ad ad' cap cap' w1, AV V → AV V' → _) := KV.out rfl
    obtain ⟨vn, hvn⟩ : ∃ z, V.length = z := ⟨_, rfl⟩
    have HVN : Hid (V.length = vn) := hvn
    rw [hvn]
    clear hV hva hvn K3 KV K1
    go_wp2_with fail
    refine (K2.out _ hbn).mono ?_
    rintro e w2 ⟨rfl, hb2⟩
    have hbm := hbn.trans (hb2.mono hbn.size)
    have hb02 := hb1.trans (hb2.mono hb1.size)
    clear s0 s1 s2 s3 s4 s5 s6 s7 s8 s9 s10 s11 s12
    go_wp2_with fail
    refine (KG.out _).mono ?_
    rintro e w3 ⟨rfl, hb3⟩
    have hbo := hbm.trans (hb3.mono hbm.size)
    have hb03 := hb02.trans (hb3.mono hb02.size)
    obtain ⟨s0, s1, s2, s3, s4, s5, s6, s7, s8, s9, s10, s11, s12⟩ := HS.out w3 hb03
    go_wp2_with fail
    refine (K3'.out _ hbo).mono ?_
    rintro e w4 ⟨⟨V2, ad2, cap2, hV2, rfl, hva2⟩, hb4⟩
    have hbp := hbo.trans (hb4.mono hbo.size)
    have h14 : Below w1.heap.size w1 w4 := (hb2.trans (hb3.mono hb2.size)).trans (hb4.mono (hb2.trans (hb3.mono hb2.size)).size)
    have KS : Hid (Calls Tryz.prog 12 #[.slice ad vn cap, .slice ad2 V2.length cap2] w4 fun e w' => e = .returned (.bool true) ∧ Below w4.heap.size w4 w') := by
      have := KV'.out V V2 ad ad2 cap cap2 w4 HVV.out.1 hV2 (HVV.out.2 w4 h14) hva2
      rw [HVN.out] at this
      exact this
    obtain ⟨vn2, hvn2⟩ : ∃ z, V2.length = z := ⟨_, rfl⟩
    rw [hvn2] at KS ⊢
    clear hV2 hva2 hvn2
    go_wp2_with fail
    refine KS.out.mono ?_
    rintro e w5 ⟨rfl, hb5⟩
    go_wp2
    go_ret
    exact ⟨rfl, hbp.trans (hb5.mono hbp.size)⟩
end Go.Proofs.YtcpanmaahhiioaaGreat.bt
