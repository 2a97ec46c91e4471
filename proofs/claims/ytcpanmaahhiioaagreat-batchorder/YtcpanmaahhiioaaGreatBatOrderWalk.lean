/- BatchOrder answers true. -/
import Derived.Test.YtcpanmaahhiioaaGreatBatSwap2
import Derived.Test.YtcpanmaahhiioaaGreatBatOrd1
import Derived.Test.YtcpanmaahhiioaaGreatBatAllP
import Derived.Test.YtcpanmaahhiioaaGreatMgBatL
import Derived.BigQuiet
import Derived.Deep.QuietTactic
namespace Go.Proofs.YtcpanmaahhiioaaGreat.bt
open Go.ChangeShapes Go.WideShapes Go.ChangeAt Go.RowKit Go.Maps Go.WideMaps
open vl pl
set_option linter.unusedVariables false
set_option linter.unusedSimpArgs false
/-- the statement's inner loop, as far as it came -/
def inB (t : Nat → Int) (i : Nat) (u : Bool) : Nat → Bool
  | 0 => u
  | k + 1 => inB t i u k && decide (t i ≠ t k)
/-- its outer loop -/
def unB (t : Nat → Int) : Nat → Bool
  | 0 => true
  | n + 1 => inB t n (unB t n) n
theorem inB_is {t : Nat → Int} {i : Nat} {u : Bool} : ∀ {k : Nat}, inB t i u k = true → u = true ∧ ∀ b, b < k → t i ≠ t b
  | 0, h => ⟨h, fun b hb => absurd hb (Nat.not_lt_zero b)⟩
  | k + 1, h => by
    unfold inB at h
    rw [Bool.and_eq_true, decide_eq_true_eq] at h
    have ih := inB_is h.1
    refine ⟨ih.1, fun b hb => ?_⟩
    rcases Nat.lt_succ_iff_lt_or_eq.1 hb with h2 | h2
    · exact ih.2 b h2
    · rw [h2]; exact h.2
theorem unB_is {R : List Stm} : ∀ {n : Nat}, unB (fun i => (R.getD i default).t) n = true → unlike R n
  | 0, _ => fun a ha => absurd ha (Nat.not_lt_zero a)
  | n + 1, h => by
    unfold unB at h
    have h1 := inB_is h
    have ih := unB_is h1.1
    intro a ha b hb
    rcases Nat.lt_succ_iff_lt_or_eq.1 ha with h2 | h2
    · exact ih a h2 b hb
    · rw [h2] at hb ⊢; exact h1.2 b hb
/-- what All answers where nothing is wrong -/
def allOk (p : Pln) (rk : ch.KV) (e : Ending) (w' : World) : Prop := ∃ V ad cap, allV p rk V ∧ e = .returned (.tuple #[.slice ad V.length cap, .int .i64 0]) ∧ ch.viewAt w' ad V
theorem allRes_ok {p : Pln} {L R : List Stm} {e : Ending} {w' : World} (h0 : batchErr p L R = 0) (h : allRes p L R e w') : allOk p (rowsK (told p L R)) e w' := by
  rcases h with ⟨h1, _⟩ | ⟨_, out, h1, h2, h3, ad, cap, h4, h5⟩
  · exact absurd h0 h1
  · exact ⟨_, ad, cap, ⟨out, h1, h2, h3, rfl⟩, h4, h5⟩
set_option maxRecDepth 100000 in
set_option maxHeartbeats 16000000 in
theorem order_walk (p : Pln) (x : PA) (a1 : Option Addr) (c1 : Nat) (L : List Stm) (a2 : Option Addr) (c2 : Nat) (R : List Stm) (ca cb : Int) (w : World) (hw : wfPlan p) (hp : planAt w p x) (hl : L.length + R.length ≤ 9223372036854775807) (h1 : stmsAt w a1 L) (h2 : stmsAt w a2 R) (hL : wfStms L) (hR : wfStms R) (x1 : -9223372036854775808 ≤ ca) (x2 : ca ≤ 9223372036854775807) (y1 : -9223372036854775808 ≤ cb) (y2 : cb ≤ 9223372036854775807) :
    Calls Tryz.prog 7 #[planV p x, .slice a1 L.length c1, .slice a2 R.length c2, .int .i64 ca, .int .i64 cb] w fun e w' => e = .returned (.bool true) ∧ Below w.heap.size w w' := by
  have K1 : Hid (∀ w1, Below w.heap.size w w1 → Calls Tryz.prog 18 #[planV p x, .slice a1 L.length c1, .slice a2 R.length c2] w1 fun e w' => ((∃ z : Int, (z != 0) = true ∧ e = .returned (.tuple #[.slice none 0 0, .int .i64 z])) ∨ (batchErr p L R = 0 ∧ allOk p (rowsK (told p L R)) e w')) ∧ Below w1.heap.size w1 w') := fun w1 hb => (All_any p x a1 a2 c1 c2 L R w1 hw (planAt_below hp hb) hl (stmsAt_below h1 hb) (stmsAt_below h2 hb) hL hR).mono fun e w' h => ⟨by
    rcases h.1 with ⟨h3, h4⟩ | h3
    · exact .inl ⟨_, by simpa using h3, h4⟩
    · exact .inr ⟨h3.1, allRes_ok h3.1 h.1⟩, h.2⟩
  have KS1 : Hid (batchErr p L R = 0 → ∀ w1, Below w.heap.size w w1 → Calls Tryz.prog 23 #[.slice a1 L.length c1, .int .i64 ca, .int .i64 cb] w1 fun e w' => (∃ ad c l', l'.Perm L ∧ e = .returned (.slice ad L.length c) ∧ stmsAt w' ad l') ∧ Below w1.heap.size w1 w') := fun h0 w1 hb => swapped_any a1 c1 L ca cb w1 (stmsAt_below h1 hb) (by have := (batch_ok h0).many; omega) x1 x2 y1 y2
  have KS2 : Hid (batchErr p L R = 0 → ∀ w1, Below w.heap.size w w1 → Calls Tryz.prog 23 #[.slice a2 R.length c2, .int .i64 ca, .int .i64 cb] w1 fun e w' => (∃ ad c l', l'.Perm R ∧ e = .returned (.slice ad R.length c) ∧ stmsAt w' ad l') ∧ Below w1.heap.size w1 w') := fun h0 w1 hb => swapped_any a2 c2 R ca cb w1 (stmsAt_below h2 hb) (by have := (batch_ok h0).many; omega) x1 x2 y1 y2
  have K2 : Hid (batchErr p L R = 0 → ∀ ad c l' w1, l'.Perm L → stmsAt w1 ad l' → Below w.heap.size w w1 → Calls Tryz.prog 18 #[planV p x, .slice ad L.length c, .slice a2 R.length c2] w1 fun e w' => allOk p (rowsK (told p L R)) e w' ∧ Below w1.heap.size w1 w') := fun h0 ad c l' w1 hpm hs hb => by
    have := All_any p x ad a2 c c2 l' R w1 hw (planAt_below hp hb) (by rw [hpm.length_eq]; exact hl) hs (stmsAt_below h2 hb) (stms_perm hL hpm) hR
    rw [hpm.length_eq] at this
    exact this.mono fun e w' h => ⟨by rw [← order_left h0 hL hR hpm]; exact allRes_ok (batch_perm h0 hpm (List.Perm.refl R)) h.1, h.2⟩
  have K3 : Hid (batchErr p L R = 0 → (p.kind = 3 → unlike R R.length) → ∀ ad c l' w1, l'.Perm R → stmsAt w1 ad l' → Below w.heap.size w w1 → Calls Tryz.prog 18 #[planV p x, .slice a1 L.length c1, .slice ad R.length c] w1 fun e w' => allOk p (rowsK (told p L R)) e w' ∧ Below w1.heap.size w1 w') := fun h0 hu ad c l' w1 hpm hs hb => by
    have := All_any p x a1 ad c1 c L l' w1 hw (planAt_below hp hb) (by rw [hpm.length_eq]; exact hl) (stmsAt_below h1 hb) hs hL (stms_perm hR hpm)
    rw [hpm.length_eq] at this
    exact this.mono fun e w' h => ⟨by rw [← order_right h0 hL hR hpm hu]; exact allRes_ok (batch_perm h0 (List.Perm.refl L) hpm) h.1, h.2⟩
  have KG : Hid (∀ w1, Calls Tryz.prog 11 #[] w1 fun e w' => e = .returned (.bool true) ∧ Below w1.heap.size w1 w') := fun w1 => bt.begun_any w1
  have KV : Hid (batchErr p L R = 0 → ∀ V V' ad ad' cap cap' w1, allV p (rowsK (told p L R)) V → allV p (rowsK (told p L R)) V' → ch.viewAt w1 ad V → ch.viewAt w1 ad' V' → Calls Tryz.prog 12 #[.slice ad V.length cap, .slice ad' V'.length cap'] w1 fun e w' => e = .returned (.bool true) ∧ Below w1.heap.size w1 w') := fun h0 V V' ad ad' cap cap' w1 v1 v2 m1 m2 => by
    have hwf := allV_wf (batch_ok h0).plan v1
    have e := allV_one v1 v2
    subst e
    refine (ch.sameViews_any ad ad' cap cap' V V w1 m1 m2 hwf.1 hwf.1 (by have := hwf.2; omega) (by have := hwf.2; omega)).mono ?_
    rintro e w' ⟨he, hb⟩
    exact ⟨by rw [he]; simp, hb⟩
  have HU : Hid (∀ n, n = R.length → unB (fun i => (R.getD i default).t) n = true → unlike R R.length) := fun n hn h => by rw [← hn]; exact unB_is h
  have HT : Hid (∀ i, i < R.length → ∃ b o, a2 = some ⟨b, o, none⟩ ∧ w.cell? ⟨b, o + i * 2, none⟩ = some (.int .i64 ((fun i => (R.getD i default).t) i))) := fun i hi => by
    obtain ⟨b, o, ra, rc, e, z, _⟩ := h2 i hi
    exact ⟨b, o, e, z⟩
  have HM : Hid (batchErr p L R = 0 → R.length ≤ 120) := fun h0 => by have := (batch_ok h0).many; omega
  obtain ⟨be, hbe⟩ : ∃ z, batchErr p L R = z := ⟨_, rfl⟩
  obtain ⟨RK, hRK⟩ : ∃ z, rowsK (told p L R) = z := ⟨_, rfl⟩
  obtain ⟨t, ht⟩ : ∃ z, (fun i => (R.getD i default).t) = z := ⟨_, rfl⟩
  obtain ⟨AV, hAV⟩ : ∃ z, allV p RK = z := ⟨_, rfl⟩
  have HAO : Hid (∀ e w', allOk p RK e w' → ∃ V ad cap, AV V ∧ e = .returned (.tuple #[.slice ad V.length cap, .int .i64 0]) ∧ ch.viewAt w' ad V) := by rw [← hAV]; exact fun e w' h => h
  obtain ⟨AO, hAO⟩ : ∃ z, allOk p RK = z := ⟨_, rfl⟩
  obtain ⟨UL, hUL⟩ : ∃ z, unlike R R.length = z := ⟨_, rfl⟩
  rw [hbe, hRK, hAO] at K1
  rw [hbe, hRK, hAO] at K2
  rw [hbe, hRK, hAO, hUL] at K3
  rw [hbe] at KS1 KS2 HM
  rw [hbe, hRK, hAV] at KV
  rw [ht, hUL] at HU
  rw [ht] at HT
  rw [hAO] at HAO
  obtain ⟨n2, hn2⟩ : ∃ n, R.length = n := ⟨_, rfl⟩
  obtain ⟨n1, hn1⟩ : ∃ n, L.length = n := ⟨_, rfl⟩
  simp only [hn1, hn2] at K1 K2 K3 KS1 KS2 HU HT HM ⊢
  clear hbe hRK ht hAV hAO hUL hn1 hn2 hw hp hl h1 h2 hL hR x1 x2 y1 y2
  obtain ⟨kind, mode, low, high, size, limit, left, right, lkeys, rkeys, grouped, group, aggs⟩ := p
  obtain ⟨la, lc, rr, rc, lk, lkc, rk, rkc, g, gc, ag, ac⟩ := x
  unfold planV at K1 K2 K3 ⊢
  dsimp only at K1 K2 K3 ⊢
  obtain ⟨n6, h6⟩ : ∃ n, left.length = n := ⟨_, rfl⟩
  obtain ⟨n7, h7⟩ : ∃ n, right.length = n := ⟨_, rfl⟩
  obtain ⟨n8, h8⟩ : ∃ n, lkeys.length = n := ⟨_, rfl⟩
  obtain ⟨n9, h9⟩ : ∃ n, rkeys.length = n := ⟨_, rfl⟩
  obtain ⟨n11, h11⟩ : ∃ n, group.length = n := ⟨_, rfl⟩
  obtain ⟨n12, h12⟩ : ∃ n, aggs.length = n := ⟨_, rfl⟩
  simp only [h6, h7, h8, h9, h11, h12] at K1 K2 K3 ⊢
  clear h6 h7 h8 h9 h11 h12
  go_enter Tryz.func7, Tryz.ntmps7
  go_wp2_with fail
  generalize hW0 : (World.alloc w _) = W0
  have hb0 : Below w.heap.size w W0 := by rw [← hW0]; exact (Below.refl _ _).alloc (Nat.le_refl _) _
  have s0 : W0.cell? ⟨w.heap.size, 0, none⟩ = some (.int .i64 kind) := by subst hW0; go_simp
  have s1 : W0.cell? ⟨w.heap.size, 1, none⟩ = some (.int .i64 mode) := by subst hW0; go_simp
  have s2 : W0.cell? ⟨w.heap.size, 2, none⟩ = some (.int .i64 low) := by subst hW0; go_simp
  have s3 : W0.cell? ⟨w.heap.size, 3, none⟩ = some (.int .i64 high) := by subst hW0; go_simp
  have s4 : W0.cell? ⟨w.heap.size, 4, none⟩ = some (.int .i64 size) := by subst hW0; go_simp
  have s5 : W0.cell? ⟨w.heap.size, 5, none⟩ = some (.int .i64 limit) := by subst hW0; go_simp
  have s6 : W0.cell? ⟨w.heap.size, 6, none⟩ = some (.slice la n6 lc) := by subst hW0; go_simp
  have s7 : W0.cell? ⟨w.heap.size, 7, none⟩ = some (.slice rr n7 rc) := by subst hW0; go_simp
  have s8 : W0.cell? ⟨w.heap.size, 8, none⟩ = some (.slice lk n8 lkc) := by subst hW0; go_simp
  have s9 : W0.cell? ⟨w.heap.size, 9, none⟩ = some (.slice rk n9 rkc) := by subst hW0; go_simp
  have s10 : W0.cell? ⟨w.heap.size, 10, none⟩ = some (.bool grouped) := by subst hW0; go_simp
  have s11 : W0.cell? ⟨w.heap.size, 11, none⟩ = some (.slice g n11 gc) := by subst hW0; go_simp
  have s12 : W0.cell? ⟨w.heap.size, 12, none⟩ = some (.slice ag n12 ac) := by subst hW0; go_simp
  have HS : Hid (∀ W1, Below W0.heap.size W0 W1 → W1.cell? ⟨w.heap.size, 0, none⟩ = some (.int .i64 kind) ∧ W1.cell? ⟨w.heap.size, 1, none⟩ = some (.int .i64 mode) ∧ W1.cell? ⟨w.heap.size, 2, none⟩ = some (.int .i64 low) ∧ W1.cell? ⟨w.heap.size, 3, none⟩ = some (.int .i64 high) ∧ W1.cell? ⟨w.heap.size, 4, none⟩ = some (.int .i64 size) ∧ W1.cell? ⟨w.heap.size, 5, none⟩ = some (.int .i64 limit) ∧ W1.cell? ⟨w.heap.size, 6, none⟩ = some (.slice la n6 lc) ∧ W1.cell? ⟨w.heap.size, 7, none⟩ = some (.slice rr n7 rc) ∧ W1.cell? ⟨w.heap.size, 8, none⟩ = some (.slice lk n8 lkc) ∧ W1.cell? ⟨w.heap.size, 9, none⟩ = some (.slice rk n9 rkc) ∧ W1.cell? ⟨w.heap.size, 10, none⟩ = some (.bool grouped) ∧ W1.cell? ⟨w.heap.size, 11, none⟩ = some (.slice g n11 gc) ∧ W1.cell? ⟨w.heap.size, 12, none⟩ = some (.slice ag n12 ac)) := fun W1 hb => ⟨cell_later hb s0, cell_later hb s1, cell_later hb s2, cell_later hb s3, cell_later hb s4, cell_later hb s5, cell_later hb s6, cell_later hb s7, cell_later hb s8, cell_later hb s9, cell_later hb s10, cell_later hb s11, cell_later hb s12⟩
  have hWs : w.heap.size < W0.heap.size := World.block_lt_of_cell? _ _ s0
  clear hW0
  clear s0 s1 s2 s3 s4 s5 s6 s7 s8 s9 s10 s11 s12
  obtain ⟨c0, c1, c2, c3, c4, c5, c6, c7, c8, c9, c10, c11, c12⟩ := HS.out W0 (Below.refl _ _)
  refine (K1.out _ hb0).mono ?_
  clear c0 c1 c2 c3 c4 c5 c6 c7 c8 c9 c10 c11 c12
  rintro e w1 ⟨hres, hb1⟩
  have hbn := hb0.trans (hb1.mono hb0.size)
  rcases hres with ⟨z, hz, rfl⟩ | ⟨rfl, hok⟩
  · go_wp2_with (go_at_call 11; refine (KG.out _).mono ?_; rintro e w3 ⟨rfl, hb3⟩)
    go_ret
    exact ⟨rfl, hbn.trans (hb3.mono hbn.size)⟩
  · obtain ⟨V, ad, cap, hV, rfl, hVa⟩ := HAO.out _ _ hok
    replace K2 := K2.out rfl
    have K2 : Hid (∀ ad c l' w1, _) := K2
    replace K3 := K3.out rfl
    have K3 : Hid (_ → ∀ ad c l' w1, _) := K3
    replace KV := KV.out rfl
    have KV : Hid (∀ V V' ad ad' cap cap' w1, _) := KV
    replace KS1 := KS1.out rfl
    have KS1 : Hid (∀ w1, _) := KS1
    replace KS2 := KS2.out rfl
    have KS2 : Hid (∀ w1, _) := KS2
    have hm := HM.out rfl
    have H1 : Hid (AV V ∧ ∀ W1, Below w1.heap.size w1 W1 → ch.viewAt W1 ad V) := ⟨hV, fun W1 hb => ch.viewAt_below hVa hb⟩
    obtain ⟨vn, hvn⟩ : ∃ n, V.length = n := ⟨_, rfl⟩
    have HVN : Hid (V.length = vn) := hvn
    rw [hvn]
    clear hok hV hVa hvn K1 HM
    obtain ⟨c0, c1, c2, c3, c4, c5, c6, c7, c8, c9, c10, c11, c12⟩ := HS.out w1 hb1
    go_wp2
    go_region_held3 (fun w' => w'.cell? ⟨w.heap.size, 0, none⟩ = some (.int .i64 kind) ∧ w'.cell? ⟨w.heap.size, 1, none⟩ = some (.int .i64 mode) ∧ w'.cell? ⟨w.heap.size, 2, none⟩ = some (.int .i64 low) ∧ w'.cell? ⟨w.heap.size, 3, none⟩ = some (.int .i64 high) ∧ w'.cell? ⟨w.heap.size, 4, none⟩ = some (.int .i64 size) ∧ w'.cell? ⟨w.heap.size, 5, none⟩ = some (.int .i64 limit) ∧ w'.cell? ⟨w.heap.size, 6, none⟩ = some (.slice la n6 lc) ∧ w'.cell? ⟨w.heap.size, 7, none⟩ = some (.slice rr n7 rc) ∧ w'.cell? ⟨w.heap.size, 8, none⟩ = some (.slice lk n8 lkc) ∧ w'.cell? ⟨w.heap.size, 9, none⟩ = some (.slice rk n9 rkc) ∧ w'.cell? ⟨w.heap.size, 10, none⟩ = some (.bool grouped) ∧ w'.cell? ⟨w.heap.size, 11, none⟩ = some (.slice g n11 gc) ∧ w'.cell? ⟨w.heap.size, 12, none⟩ = some (.slice ag n12 ac)) (first | go_keep | exact ⟨cell_later hbq c0, cell_later hbq c1, cell_later hbq c2, cell_later hbq c3, cell_later hbq c4, cell_later hbq c5, cell_later hbq c6, cell_later hbq c7, cell_later hbq c8, cell_later hbq c9, cell_later hbq c10, cell_later hbq c11, cell_later hbq c12⟩ | exact ⟨cell_later hbq2 (cell_later hbq c0), cell_later hbq2 (cell_later hbq c1), cell_later hbq2 (cell_later hbq c2), cell_later hbq2 (cell_later hbq c3), cell_later hbq2 (cell_later hbq c4), cell_later hbq2 (cell_later hbq c5), cell_later hbq2 (cell_later hbq c6), cell_later hbq2 (cell_later hbq c7), cell_later hbq2 (cell_later hbq c8), cell_later hbq2 (cell_later hbq c9), cell_later hbq2 (cell_later hbq c10), cell_later hbq2 (cell_later hbq c11), cell_later hbq2 (cell_later hbq c12)⟩)
      (first | (go_at_call 23; refine (KS1.out w1.drew hbn.drew).mono ?_; rintro e wq ⟨⟨ad1, cc1, l', hpm, rfl, hs'⟩, hbq⟩) | (go_at_call 18; refine (K2.out ad1 cc1 l' wq hpm hs' (hbn.drew.trans (hbq.mono hbn.drew.size))).mono ?_; rintro e wq2 ⟨hok2, hbq2⟩; obtain ⟨V2, ad2, cap2, hV2, rfl, hVa2⟩ := HAO.out _ _ hok2))
    have hbm : Below w.heap.size w wq2 := (hbn.drew.trans (hbq.mono hbn.drew.size)).trans (hbq2.mono (hbn.drew.trans (hbq.mono hbn.drew.size)).size)
    have hbw : Below W0.heap.size W0 wq2 := (hb1.drew.trans (hbq.mono hb1.drew.size)).trans (hbq2.mono (hb1.drew.trans (hbq.mono hb1.drew.size)).size)
    have hb12 : Below w1.heap.size w1 wq2 := ((Below.refl _ w1).drew.trans hbq).trans (hbq2.mono hbq.size)
    have H2 : Hid (AV V2 ∧ ∀ W1, Below wq2.heap.size wq2 W1 → ch.viewAt W1 ad2 V2) := ⟨hV2, fun W1 hb => ch.viewAt_below hVa2 hb⟩
    obtain ⟨vn2, hvn2⟩ : ∃ n, V2.length = n := ⟨_, rfl⟩
    have HVN2 : Hid (V2.length = vn2) := hvn2
    rw [hvn2]
    clear hok2 hV2 hVa2 hvn2 K2 KS1 hpm hs' hbq hbq2
    clear c0 c1 c2 c3 c4 c5 c6 c7 c8 c9 c10 c11 c12
    have KA : Hid (∀ W1, Below wq2.heap.size wq2 W1 → Calls Tryz.prog 12 #[.slice ad vn cap, .slice ad2 vn2 cap2] W1 fun e w' => e = .returned (.bool true) ∧ Below W1.heap.size W1 w') := fun W1 hb => by
      have := KV.out V V2 ad ad2 cap cap2 W1 H1.out.1 H2.out.1 (H1.out.2 W1 (hb12.trans (hb.mono hb12.size))) (H2.out.2 W1 hb)
      rw [HVN.out, HVN2.out] at this
      exact this
    have KB : Hid (∀ V' ad' cap' W1, AV V' → ch.viewAt W1 ad' V' → Below wq2.heap.size wq2 W1 → Calls Tryz.prog 12 #[.slice ad vn cap, .slice ad' V'.length cap'] W1 fun e w' => e = .returned (.bool true) ∧ Below W1.heap.size W1 w') := fun V' ad' cap' W1 hv hm hb => by
      have := KV.out V V' ad ad' cap cap' W1 H1.out.1 hv (H1.out.2 W1 (hb12.trans (hb.mono hb12.size))) hm
      rw [HVN.out] at this
      exact this
    clear KV H1 H2 HVN HVN2
    go_wp2
    go_loopw [15, 16, 17] (fun u i _ wr => ∃ k : Nat, k ≤ n2 ∧ i = .int .i64 k ∧ u = .bool (unB t k) ∧ Below wq2.heap.size wq2 wr) (fun _ i _ _ => n2 - (intOf i).toNat)
    case atStart => exact ⟨0, Nat.zero_le _, rfl, rfl, Below.refl _ _⟩
    case round =>
      obtain ⟨k, hkn, rfl, rfl, hnx⟩ := hrel
      have hbr := hbm.trans (hnx.mono hbm.size)
      have hbx := hbw.trans (hnx.mono hbw.size)
      obtain ⟨c0, _⟩ := HS.out wr hbx
      by_cases hlt : k < n2
      · cases hk3 : (kind == 3) with
        | true =>
          go_wp2
          go_loopw [15, 17] (fun u i wy => ∃ j : Nat, j ≤ k ∧ i = .int .i64 j ∧ u = .bool (inB t k (unB t k) j) ∧ Below wq2.heap.size wq2 wy) (fun _ i _ => k - (intOf i).toNat)
          case atStart => exact ⟨0, Nat.zero_le _, rfl, rfl, hnx⟩
          case round =>
            rename World => wy
            obtain ⟨j, hj, rfl, rfl, hny⟩ := hrel
            by_cases hjk : j < k
            · obtain ⟨b, o, e, z1⟩ := HT.out k hlt
              subst e
              obtain ⟨b', o', e', z2⟩ := HT.out j (by omega)
              cases e'
              have hby := hbm.trans (hny.mono hbm.size)
              have r1 := cell_later hby z1
              have r2 := cell_later hby z2
              have HIN : Hid (inB t k (unB t k) (j + 1) = (inB t k (unB t k) j && decide (t k ≠ t j))) := rfl
              obtain ⟨tk, htk⟩ : ∃ z, t k = z := ⟨_, rfl⟩
              obtain ⟨tj, htj⟩ : ∃ z, t j = z := ⟨_, rfl⟩
              rw [htk, htj] at HIN
              rw [htk] at r1
              rw [htj] at r2
              clear z1 z2 htk htj
              have i1 : (0 : Int) ≤ (k : Int) := by omega
              have i2 : (k : Int) < (n2 : Int) := by omega
              have j1 : (0 : Int) ≤ (j : Int) := by omega
              have j2 : (j : Int) < (n2 : Int) := by omega
              cases hin : inB t k (unB t k) j with
              | true =>
                cases hne : (tk != tj) with
                | true =>
                  have HE : Hid (inB t k (unB t k) (j + 1) = true) := by show inB t k (unB t k) (j + 1) = true; rw [HIN.out, hin]; simpa using hne
                  clear HIN
                  go_wp2
                  go_quiet (fail)
                  have hld := below_drewN hny nq
                  go_wp2
                  go_roundw
                  case rel => exact ⟨j + 1, by omega, by go_num, by rw [HE.out], hld⟩
                  case measure => simp [intOf]; omega
                | false =>
                  have HE : Hid (inB t k (unB t k) (j + 1) = false) := by show inB t k (unB t k) (j + 1) = false; rw [HIN.out, hin]; simpa using hne
                  clear HIN
                  go_wp2
                  go_quiet (fail)
                  have hld := below_drewN hny nq
                  go_wp2
                  go_roundw
                  case rel => exact ⟨j + 1, by omega, by go_num, by rw [HE.out], hld⟩
                  case measure => simp [intOf]; omega
              | false =>
                have HE : Hid (inB t k (unB t k) (j + 1) = false) := by rw [HIN.out, hin]; rfl
                clear HIN
                go_wp2
                go_quiet (fail)
                have hld := below_drewN hny nq
                go_wp2
                go_roundw
                case rel => exact ⟨j + 1, by omega, by go_num, by rw [HE.out], hld⟩
                case measure => simp [intOf]; omega
            · have hjk2 : j = k := by omega
              subst hjk2
              go_wp2
              go_roundw
              case rel => exact ⟨j + 1, by omega, by go_num, rfl, hny⟩
              case measure => simp [intOf]; omega
        | false =>
          have HUU : Hid (unB t k = true → kind = 3 → UL) := fun _ h => absurd h (by simpa using hk3)
          cases hub : unB t k with
          | false =>
            go_wp2_with fail
            refine (KG.out _).mono ?_
            rintro e w4 ⟨rfl, hb4⟩
            have hq4 := hnx.trans (hb4.mono hnx.size)
            go_wp2_with fail
            refine (KA.out _ hq4).mono ?_
            rintro e w5 ⟨rfl, hb5⟩
            go_wp2
            go_ret
            exact ⟨rfl, (hbr.trans (hb4.mono hbr.size)).trans (hb5.mono (hbr.trans (hb4.mono hbr.size)).size)⟩
          | true =>
            replace K3 := K3.out (HUU.out hub)
            have K3 : Hid (∀ ad c l' w1, _) := K3
            clear c0
            obtain ⟨c0, c1, c2, c3, c4, c5, c6, c7, c8, c9, c10, c11, c12⟩ := HS.out wr hbx
            go_wp2
            go_region_held3 (fun w' => w'.cell? ⟨w.heap.size, 0, none⟩ = some (.int .i64 kind) ∧ w'.cell? ⟨w.heap.size, 1, none⟩ = some (.int .i64 mode) ∧ w'.cell? ⟨w.heap.size, 2, none⟩ = some (.int .i64 low) ∧ w'.cell? ⟨w.heap.size, 3, none⟩ = some (.int .i64 high) ∧ w'.cell? ⟨w.heap.size, 4, none⟩ = some (.int .i64 size) ∧ w'.cell? ⟨w.heap.size, 5, none⟩ = some (.int .i64 limit) ∧ w'.cell? ⟨w.heap.size, 6, none⟩ = some (.slice la n6 lc) ∧ w'.cell? ⟨w.heap.size, 7, none⟩ = some (.slice rr n7 rc) ∧ w'.cell? ⟨w.heap.size, 8, none⟩ = some (.slice lk n8 lkc) ∧ w'.cell? ⟨w.heap.size, 9, none⟩ = some (.slice rk n9 rkc) ∧ w'.cell? ⟨w.heap.size, 10, none⟩ = some (.bool grouped) ∧ w'.cell? ⟨w.heap.size, 11, none⟩ = some (.slice g n11 gc) ∧ w'.cell? ⟨w.heap.size, 12, none⟩ = some (.slice ag n12 ac)) (first | go_keep | exact ⟨cell_later hbq c0, cell_later hbq c1, cell_later hbq c2, cell_later hbq c3, cell_later hbq c4, cell_later hbq c5, cell_later hbq c6, cell_later hbq c7, cell_later hbq c8, cell_later hbq c9, cell_later hbq c10, cell_later hbq c11, cell_later hbq c12⟩ | exact ⟨cell_later hbq3 (cell_later hbq c0), cell_later hbq3 (cell_later hbq c1), cell_later hbq3 (cell_later hbq c2), cell_later hbq3 (cell_later hbq c3), cell_later hbq3 (cell_later hbq c4), cell_later hbq3 (cell_later hbq c5), cell_later hbq3 (cell_later hbq c6), cell_later hbq3 (cell_later hbq c7), cell_later hbq3 (cell_later hbq c8), cell_later hbq3 (cell_later hbq c9), cell_later hbq3 (cell_later hbq c10), cell_later hbq3 (cell_later hbq c11), cell_later hbq3 (cell_later hbq c12)⟩)
              (first | (go_at_call 23; refine (KS2.out wr.drew hbr.drew).mono ?_; rintro e wq ⟨⟨ad3, cc3, l3, hpm, rfl, hs'⟩, hbq⟩) | (go_at_call 18; refine (K3.out ad3 cc3 l3 wq hpm hs' (hbr.drew.trans (hbq.mono hbr.drew.size))).mono ?_; rintro e wq3 ⟨hok3, hbq3⟩; obtain ⟨V3, ad4, cap4, hV3, rfl, hVa3⟩ := HAO.out _ _ hok3))
            have hbz : Below w.heap.size w wq3 := (hbr.drew.trans (hbq.mono hbr.drew.size)).trans (hbq3.mono (hbr.drew.trans (hbq.mono hbr.drew.size)).size)
            have hqz : Below wq2.heap.size wq2 wq3 := (hnx.drew.trans (hbq.mono hnx.drew.size)).trans (hbq3.mono (hnx.drew.trans (hbq.mono hnx.drew.size)).size)
            have KC : Hid (∀ W1, Below wq3.heap.size wq3 W1 → Calls Tryz.prog 12 #[.slice ad vn cap, .slice ad4 V3.length cap4] W1 fun e w' => e = .returned (.bool true) ∧ Below W1.heap.size W1 w') := fun W1 hb => KB.out V3 ad4 cap4 W1 hV3 (ch.viewAt_below hVa3 hb) (hqz.trans (hb.mono hqz.size))
            obtain ⟨vn3, hvn3⟩ : ∃ n, V3.length = n := ⟨_, rfl⟩
            rw [hvn3] at KC ⊢
            clear hok3 hV3 hVa3 hvn3 K3 hpm hs' hbq hbq3 KB KS2
            clear c0 c1 c2 c3 c4 c5 c6 c7 c8 c9 c10 c11 c12
            go_wp2_with fail
            refine (KG.out _).mono ?_
            rintro e w4 ⟨rfl, hb4⟩
            have hq4 := hqz.trans (hb4.mono hqz.size)
            go_wp2_with fail
            refine (KA.out _ hq4).mono ?_
            rintro e w5 ⟨rfl, hb5⟩
            have hq5 := hb4.trans (hb5.mono hb4.size)
            go_wp2_with fail
            refine (KC.out _ hq5).mono ?_
            rintro e w6 ⟨rfl, hb6⟩
            have hq6 := hq5.trans (hb6.mono hq5.size)
            go_wp2
            go_ret
            exact ⟨rfl, hbz.trans (hq6.mono hbz.size)⟩
      · have HUU : Hid (unB t k = true → kind = 3 → UL) := fun h _ => HU.out k (by omega) h
        cases hub : unB t k with
        | false =>
          go_wp2_with fail
          refine (KG.out _).mono ?_
          rintro e w4 ⟨rfl, hb4⟩
          have hq4 := hnx.trans (hb4.mono hnx.size)
          go_wp2_with fail
          refine (KA.out _ hq4).mono ?_
          rintro e w5 ⟨rfl, hb5⟩
          go_wp2
          go_ret
          exact ⟨rfl, (hbr.trans (hb4.mono hbr.size)).trans (hb5.mono (hbr.trans (hb4.mono hbr.size)).size)⟩
        | true =>
          replace K3 := K3.out (HUU.out hub)
          have K3 : Hid (∀ ad c l' w1, _) := K3
          clear c0
          obtain ⟨c0, c1, c2, c3, c4, c5, c6, c7, c8, c9, c10, c11, c12⟩ := HS.out wr hbx
          go_wp2
          go_region_held3 (fun w' => w'.cell? ⟨w.heap.size, 0, none⟩ = some (.int .i64 kind) ∧ w'.cell? ⟨w.heap.size, 1, none⟩ = some (.int .i64 mode) ∧ w'.cell? ⟨w.heap.size, 2, none⟩ = some (.int .i64 low) ∧ w'.cell? ⟨w.heap.size, 3, none⟩ = some (.int .i64 high) ∧ w'.cell? ⟨w.heap.size, 4, none⟩ = some (.int .i64 size) ∧ w'.cell? ⟨w.heap.size, 5, none⟩ = some (.int .i64 limit) ∧ w'.cell? ⟨w.heap.size, 6, none⟩ = some (.slice la n6 lc) ∧ w'.cell? ⟨w.heap.size, 7, none⟩ = some (.slice rr n7 rc) ∧ w'.cell? ⟨w.heap.size, 8, none⟩ = some (.slice lk n8 lkc) ∧ w'.cell? ⟨w.heap.size, 9, none⟩ = some (.slice rk n9 rkc) ∧ w'.cell? ⟨w.heap.size, 10, none⟩ = some (.bool grouped) ∧ w'.cell? ⟨w.heap.size, 11, none⟩ = some (.slice g n11 gc) ∧ w'.cell? ⟨w.heap.size, 12, none⟩ = some (.slice ag n12 ac)) (first | go_keep | exact ⟨cell_later hbq c0, cell_later hbq c1, cell_later hbq c2, cell_later hbq c3, cell_later hbq c4, cell_later hbq c5, cell_later hbq c6, cell_later hbq c7, cell_later hbq c8, cell_later hbq c9, cell_later hbq c10, cell_later hbq c11, cell_later hbq c12⟩ | exact ⟨cell_later hbq3 (cell_later hbq c0), cell_later hbq3 (cell_later hbq c1), cell_later hbq3 (cell_later hbq c2), cell_later hbq3 (cell_later hbq c3), cell_later hbq3 (cell_later hbq c4), cell_later hbq3 (cell_later hbq c5), cell_later hbq3 (cell_later hbq c6), cell_later hbq3 (cell_later hbq c7), cell_later hbq3 (cell_later hbq c8), cell_later hbq3 (cell_later hbq c9), cell_later hbq3 (cell_later hbq c10), cell_later hbq3 (cell_later hbq c11), cell_later hbq3 (cell_later hbq c12)⟩)
            (first | (go_at_call 23; refine (KS2.out wr.drew hbr.drew).mono ?_; rintro e wq ⟨⟨ad3, cc3, l3, hpm, rfl, hs'⟩, hbq⟩) | (go_at_call 18; refine (K3.out ad3 cc3 l3 wq hpm hs' (hbr.drew.trans (hbq.mono hbr.drew.size))).mono ?_; rintro e wq3 ⟨hok3, hbq3⟩; obtain ⟨V3, ad4, cap4, hV3, rfl, hVa3⟩ := HAO.out _ _ hok3))
          have hbz : Below w.heap.size w wq3 := (hbr.drew.trans (hbq.mono hbr.drew.size)).trans (hbq3.mono (hbr.drew.trans (hbq.mono hbr.drew.size)).size)
          have hqz : Below wq2.heap.size wq2 wq3 := (hnx.drew.trans (hbq.mono hnx.drew.size)).trans (hbq3.mono (hnx.drew.trans (hbq.mono hnx.drew.size)).size)
          have KC : Hid (∀ W1, Below wq3.heap.size wq3 W1 → Calls Tryz.prog 12 #[.slice ad vn cap, .slice ad4 V3.length cap4] W1 fun e w' => e = .returned (.bool true) ∧ Below W1.heap.size W1 w') := fun W1 hb => KB.out V3 ad4 cap4 W1 hV3 (ch.viewAt_below hVa3 hb) (hqz.trans (hb.mono hqz.size))
          obtain ⟨vn3, hvn3⟩ : ∃ n, V3.length = n := ⟨_, rfl⟩
          rw [hvn3] at KC ⊢
          clear hok3 hV3 hVa3 hvn3 K3 hpm hs' hbq hbq3 KB KS2
          clear c0 c1 c2 c3 c4 c5 c6 c7 c8 c9 c10 c11 c12
          go_wp2_with fail
          refine (KG.out _).mono ?_
          rintro e w4 ⟨rfl, hb4⟩
          have hq4 := hqz.trans (hb4.mono hqz.size)
          go_wp2_with fail
          refine (KA.out _ hq4).mono ?_
          rintro e w5 ⟨rfl, hb5⟩
          have hq5 := hb4.trans (hb5.mono hb4.size)
          go_wp2_with fail
          refine (KC.out _ hq5).mono ?_
          rintro e w6 ⟨rfl, hb6⟩
          have hq6 := hq5.trans (hb6.mono hq5.size)
          go_wp2
          go_ret
          exact ⟨rfl, hbz.trans (hq6.mono hbz.size)⟩
end Go.Proofs.YtcpanmaahhiioaaGreat.bt
