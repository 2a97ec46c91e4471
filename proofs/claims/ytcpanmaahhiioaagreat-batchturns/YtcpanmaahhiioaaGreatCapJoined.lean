/- Join, over again: and no row of the answer is longer than its capacity. -/
import Derived.Test.YtcpanmaahhiioaaGreatMgBatD
import Derived.Test.YtcpanmaahhiioaaGreatMgBatA
import Derived.Test.YtcpanmaahhiioaaGreatCapFold
namespace Go.Proofs.YtcpanmaahhiioaaGreat.bt
open Go.ChangeShapes Go.WideShapes Go.ChangeAt Go.RowKit Go.Maps Go.WideMaps
open vl pl
set_option linter.unusedVariables false
set_option linter.unusedSimpArgs false
/-- an answer: an error and no rows, or these counts -/
def viewResC (er : Int) (kv : ch.KV) (e : Ending) (w' : World) : Prop :=
  (er ≠ 0 ∧ e = .returned (.tuple #[.slice none 0 0, .int .i64 er])) ∨
  (er = 0 ∧ ∃ out ad cap, ch.kvOf out = kv ∧ ch.viewOk out ∧ ch.wfView out ∧ e = .returned (.tuple #[.slice ad out.length cap, .int .i64 0]) ∧ ch.viewAtC w' ad out)
theorem fold_toldC (c : Option Addr) (cc : Nat) (rows : List (List Cel)) (w : World) (hc : ch.chgsAt w c (insT rows)) (h : ∀ r ∈ rows, rowOk r) (hl : rows.length ≤ 4096) :
    Calls Tryz.prog 22 #[.slice none 0 0, .slice c rows.length cc] w fun e w' => (∃ out ad cap, ch.kvOf out = rowsK rows ∧ ch.viewOk out ∧ ch.wfView out ∧ e = .returned (.tuple #[.slice ad out.length cap, .int .i64 0, .int .i64 0]) ∧ ch.viewAtC w' ad out) ∧ Below w.heap.size w w' := by
  have hf := ch.fold_anyC none c 0 cc [] (insT rows) w (fun i hi => absurd hi (Nat.not_lt_zero i)) (fun c hc => by cases hc) (by decide) hc (insT_wf h) (by rw [insT_len]; omega)
  rw [insT_len] at hf
  refine hf.mono ?_
  rintro e w' ⟨hr, hb⟩
  refine ⟨?_, hb⟩
  have h1 := insT_form h hl
  have h2 := insT_errs hl
  rcases hr with ⟨h3, _⟩ | ⟨_, h3, _⟩ | ⟨_, _, k, hk, _, h3, _⟩ | ⟨_, _, _, out, ad, cap, e1, e2, e3, e4, e5⟩
  · exact absurd nil_view h3
  · exact absurd h1 h3
  · exact absurd (h2 k (by rw [insT_len] at hk; exact hk)) h3
  · rw [insT_len] at e1
    exact ⟨out, ad, cap, e1, e2, e3, e4, e5⟩
set_option maxRecDepth 100000 in
set_option maxHeartbeats 4000000 in
theorem Join_anyC (p : Pln) (x : PA) (a1 a2 : Option Addr) (c1 c2 : Nat) (L R : List Stm) (w : World) (hw : wfPlan p) (hp : planAt w p x) (hl : L.length + R.length ≤ 9223372036854775807) (h1 : stmsAt w a1 L) (h2 : stmsAt w a2 R) (hL : wfStms L) (hR : wfStms R) :
    Calls Tryz.prog 9 #[planV p x, .slice a1 L.length c1, .slice a2 R.length c2] w fun e w' => viewResC (batchErr p L R) (rowsK (told p L R)) e w' ∧ Below w.heap.size w w' := by
  have K1 : Hid (∀ w1, Below w.heap.size w w1 → Calls Tryz.prog 27 #[planV p x, .slice a1 L.length c1, .slice a2 R.length c2] w1 fun e w' => e = .returned (.int .i64 (batchErr p L R)) ∧ Below w1.heap.size w1 w') := fun w1 hb => checkRows_any p x a1 a2 c1 c2 L R w1 hw (planAt_below hp hb) hl (stmsAt_below h1 hb) (stmsAt_below h2 hb) hL hR
  have K2 : Hid (batchErr p L R = 0 → ∀ C w0 w1, Below w.heap.size w w0 → Below w0.heap.size w0 w1 → w0.heap.size ≤ C → w1.cell? ⟨C, 0, none⟩ = some (.slice none 0 0) → w1.frozen? ⟨C, 0, none⟩ = false → Calls Tryz.prog 28 #[planV p x, .slice a1 L.length c1, .slice a2 R.length c2, .func (.func 29) #[] #[.pointer (some ⟨C, 0, none⟩)]] w1 fun e w' => e = .returned (.tuple #[]) ∧ (∃ v base, OS w' C base v (insT (told p L R))) ∧ Below w0.heap.size w0 w') := fun h0 C w0 w1 hb hb1 hC hc hf =>
    join_any p x a1 a2 c1 c2 L R C w0 w1 hw (planAt_below hp hb) h0 (stmsAt_below h1 hb) (stmsAt_below h2 hb) hL hR hb1 hC hc hf
  have K3 : Hid (batchErr p L R = 0 → ∀ c cc w1, ch.chgsAt w1 c (insT (told p L R)) → Calls Tryz.prog 22 #[.slice none 0 0, .slice c (told p L R).length cc] w1 fun e w' => (∃ out ad cap, ch.kvOf out = rowsK (told p L R) ∧ ch.viewOk out ∧ ch.wfView out ∧ e = .returned (.tuple #[.slice ad out.length cap, .int .i64 0, .int .i64 0]) ∧ ch.viewAtC w' ad out) ∧ Below w1.heap.size w1 w') := fun h0 c cc w1 hc =>
    fold_toldC c cc _ w1 hc (fun r hr => (told_ok h0 hL hR r hr).1) (by have := told_len p L R (batch_ok h0).many; omega)
  have HF : Hid (∀ w' C base v, OS w' C base v (insT (told p L R)) → ∃ ad cap, v = .slice ad (told p L R).length cap ∧ ch.chgsAt w' ad (insT (told p L R)) ∧ w'.cell? ⟨C, 0, none⟩ = some v) := fun w' C base v h => by
    obtain ⟨ad, cap, e1, e2⟩ := OS_form h
    rw [insT_len] at e1
    exact ⟨ad, cap, e1, e2, h.cell⟩
  obtain ⟨be, hbe⟩ : ∃ z, batchErr p L R = z := ⟨_, rfl⟩
  obtain ⟨TO, hTO⟩ : ∃ z, insT (told p L R) = z := ⟨_, rfl⟩
  obtain ⟨tn, htn⟩ : ∃ z, (told p L R).length = z := ⟨_, rfl⟩
  obtain ⟨RK, hRK⟩ : ∃ z, rowsK (told p L R) = z := ⟨_, rfl⟩
  rw [hbe] at K1 K2 K3
  rw [hTO] at K2 K3 HF
  rw [htn] at K3 HF
  rw [hRK] at K3
  rw [hbe, hRK]
  clear hbe hTO htn hRK hw hp hl h1 h2 hL hR
  obtain ⟨n, hn⟩ : ∃ n, R.length = n := ⟨_, rfl⟩
  obtain ⟨nL, hnL⟩ : ∃ n, L.length = n := ⟨_, rfl⟩
  simp only [hn, hnL] at K1 K2 ⊢
  clear hn hnL
  obtain ⟨kind, mode, low, high, size, limit, left, right, lkeys, rkeys, grouped, group, aggs⟩ := p
  obtain ⟨la, lc, rr, rc, lk, lkc, rk, rkc, g, gc, ag, ac⟩ := x
  unfold planV at K1 K2 ⊢
  dsimp only at K1 K2 ⊢
  obtain ⟨n6, h6⟩ : ∃ n, left.length = n := ⟨_, rfl⟩
  obtain ⟨n7, h7⟩ : ∃ n, right.length = n := ⟨_, rfl⟩
  obtain ⟨n8, h8⟩ : ∃ n, lkeys.length = n := ⟨_, rfl⟩
  obtain ⟨n9, h9⟩ : ∃ n, rkeys.length = n := ⟨_, rfl⟩
  obtain ⟨n11, h11⟩ : ∃ n, group.length = n := ⟨_, rfl⟩
  obtain ⟨n12, h12⟩ : ∃ n, aggs.length = n := ⟨_, rfl⟩
  simp only [h6, h7, h8, h9, h11, h12] at K1 K2 ⊢
  clear h6 h7 h8 h9 h11 h12
  go_enter Tryz.func9, Tryz.ntmps9
  go_wp2_with fail
  generalize hW0 : (World.alloc w _) = W0
  have hb0 : Below w.heap.size w W0 := by rw [← hW0]; exact (Below.refl _ _).alloc (Nat.le_refl _) _
  have s0 : W0.cell? ⟨w.heap.size, 0, none⟩ = some (.int .i64 kind) := by subst hW0; go_simp
  have s1 : W0.cell? ⟨w.heap.size, 1, none⟩ = some (.int .i64 mode) := by subst hW0; go_simp
  have s2 : W0.cell? ⟨w.heap.size, 2, none⟩ = some (.int .i64 low) := by subst hW0; go_simp
  have s3 : W0.cell? ⟨w.heap.size, 3, none⟩ = some (.int .i64 high) := by subst hW0; go_simp
  have s4 : W0.cell? ⟨w.heap.size, 4, none⟩ = some (.int .i64 size) := by subst hW0; go_simp
  have s5 : W0.cell? ⟨w.heap.size, 5, none⟩ = some (.int .i64 limit) := by subst hW0; go_simp
  have s6 : W0.cell? ⟨w.heap.size, 6, none⟩ = some (.slice la n6 lc) := by subst hW0; go_simp
  have s7 : W0.cell? ⟨w.heap.size, 7, none⟩ = some (.slice rr n7 rc) := by subst hW0; go_simp
  have s8 : W0.cell? ⟨w.heap.size, 8, none⟩ = some (.slice lk n8 lkc) := by subst hW0; go_simp
  have s9 : W0.cell? ⟨w.heap.size, 9, none⟩ = some (.slice rk n9 rkc) := by subst hW0; go_simp
  have s10 : W0.cell? ⟨w.heap.size, 10, none⟩ = some (.bool grouped) := by subst hW0; go_simp
  have s11 : W0.cell? ⟨w.heap.size, 11, none⟩ = some (.slice g n11 gc) := by subst hW0; go_simp
  have s12 : W0.cell? ⟨w.heap.size, 12, none⟩ = some (.slice ag n12 ac) := by subst hW0; go_simp
  clear hW0
  refine (K1.out W0 hb0).mono ?_
  rintro e W1 ⟨rfl, hb1⟩
  have hb01 : Below w.heap.size w W1 := hb0.trans (hb1.mono hb0.size)
  replace s0 := cell_later hb1 s0
  replace s1 := cell_later hb1 s1
  replace s2 := cell_later hb1 s2
  replace s3 := cell_later hb1 s3
  replace s4 := cell_later hb1 s4
  replace s5 := cell_later hb1 s5
  replace s6 := cell_later hb1 s6
  replace s7 := cell_later hb1 s7
  replace s8 := cell_later hb1 s8
  replace s9 := cell_later hb1 s9
  replace s10 := cell_later hb1 s10
  replace s11 := cell_later hb1 s11
  replace s12 := cell_later hb1 s12
  by_cases h0 : be = 0
  · subst h0
    have hlw : w.heap.size < W1.heap.size := World.block_lt_of_cell? _ _ s0
    go_wp2_with fail
    refine (K2.out (by trivial) _ W1 _ hb01 ((Below.refl _ _).alloc (Nat.le_refl _) _) (Nat.le_refl _) (by go_simp) (by go_simp)).mono ?_
    rintro e W2 ⟨rfl, ⟨v, base, hos⟩, hb2⟩
    obtain ⟨ad, cap, rfl, hchg, hcell⟩ := HF.out _ _ _ _ hos
    have HC : Hid (ch.chgsAt W2 ad TO) := hchg
    have hb02 : Below w.heap.size w W2 := hb01.trans (hb2.mono hb01.size)
    clear hos hchg
    go_wp2_with fail
    refine (K3.out (by trivial) ad cap W2 HC.out).mono ?_
    rintro e W3 ⟨⟨out, ad3, cap3, e1, e2, e3, rfl, e5⟩, hb3⟩
    have HR : Hid (ch.kvOf out = RK ∧ ch.viewOk out ∧ ch.wfView out ∧ ch.viewAtC W3 ad3 out) := ⟨e1, e2, e3, e5⟩
    have hb03 : Below w.heap.size w W3 := hb02.trans (hb3.mono hb02.size)
    obtain ⟨on, hon⟩ : ∃ z, out.length = z := ⟨_, rfl⟩
    have HON : Hid (out.length = on) := hon
    rw [hon]
    clear e1 e2 e3 e5 hon
    go_wp2
    go_ret2
    exact ⟨.inr ⟨rfl, out, ad3, cap3, HR.out.1, HR.out.2.1, HR.out.2.2.1, (by rw [HON.out]; rfl), HR.out.2.2.2⟩, hb03⟩
  · have h0' : (be != 0) = true := by simpa using h0
    have HN : Hid (be ≠ 0) := h0
    clear h0
    go_wp2
    go_ret2
    exact ⟨.inl ⟨HN.out, rfl⟩, hb01⟩
end Go.Proofs.YtcpanmaahhiioaaGreat.bt
