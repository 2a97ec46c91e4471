/- GroupChecks, walked. -/
import Derived.Test.YtbfbgdinhiglaaaGreatGrpRCheck
import Derived.Test.YtbfbgdinhiglaaaGreatGrpRErr
import Derived.Test.YtbfbgdinhiglaaaGreatGrpBegun
import Derived.Test.YtbfbgdinhiglaaaGreatGrpViewOf
namespace Go.Proofs.YtbfbgdinhiglaaaGreat.gr
open Go.ChangeShapes Go.WideShapes Go.ChangeAt Go.RowKit
open vl pl bt
set_option linter.unusedVariables false
set_option linter.unusedSimpArgs false
attribute [local go_sem] Oper.semAt_some
theorem checkGroups_any (p : Pln) (x : PA) (a : Option Addr) (cap : Nat) (xs : List GX) (gs : List Grp) (w : World) (hw : wfPlan p) (hp : planAt w p x) (hgs : gsAt w a xs gs) (hwf : ∀ g ∈ gs, wfG g) (hgl : gs.length ≤ 9223372036854775807) :
    Calls Tryz.prog 7 #[planV p x, .slice a gs.length cap] w fun e w' => e = .returned (.int .i64 (grpsErr p gs)) ∧ Below w.heap.size w w' := by
  by_cases h : planErr p ≠ 0 ∨ p.grouped = false ∨ 4096 < gs.length
  · exact checkGroups_bad p x a cap gs w hw hp hgl h
  · have h1 : planErr p = 0 := Classical.byContradiction fun e => h (.inl e)
    have h2 : p.grouped = true := by
      cases e : p.grouped with
      | true => rfl
      | false => exact absurd (.inr (.inl e)) h
    have h3 : gs.length ≤ 4096 := by
      rcases Nat.lt_or_ge 4096 gs.length with e | e
      · exact absurd (.inr (.inr e)) h
      · exact e
    have := checkGroups_ok p x a cap xs gs w hw hp hgs hwf h3 h1 h2
    rw [show grpsErr p gs = (if allB gs.length (grpB p gs) = false then 1 else 0) by
      unfold grpsErr
      rw [if_neg (by simpa using h1), if_neg (by simp [h2]), if_neg (by omega)]]
    exact this
set_option maxRecDepth 100000 in
set_option maxHeartbeats 8000000 in
theorem groupChecks_walk (p : Pln) (x : PA) (a : Option Addr) (cap : Nat) (xs : List GX) (gs : List Grp) (w : World) (hw : wfPlan p) (hp : planAt w p x) (hgs : gsAt w a xs gs) (hwf : ∀ g ∈ gs, wfG g) (hgl : gs.length ≤ 9223372036854775807) :
    Calls Tryz.prog 3 #[planV p x, .slice a gs.length cap] w fun e w' => e = .returned (.bool true) ∧ Below w.heap.size w w' := by
  have KV : Hid (∀ w1, Below w.heap.size w w1 → Calls Tryz.prog 6 #[planV p x, .slice a gs.length cap] w1 fun e w' => viewRes (grpsErr p gs) gs.length (gs.map (rowC p)) e w' ∧ Below w1.heap.size w1 w') := fun w1 hb => view_any p x a cap xs gs w1 hw (planAt_below hp hb) (hgs.below hb) hwf hgl
  have KR : Hid (∀ w1, Below w.heap.size w w1 → Calls Tryz.prog 7 #[planV p x, .slice a gs.length cap] w1 fun e w' => e = .returned (.int .i64 (grpsErr p gs)) ∧ Below w1.heap.size w1 w') := fun w1 hb => checkGroups_any p x a cap xs gs w1 hw (planAt_below hp hb) (hgs.below hb) hwf hgl
  have KC : Hid (∀ w1, Below w.heap.size w w1 → Calls Tryz.prog 9 #[planV p x, .slice a gs.length cap] w1 fun e w' => e = .returned (.int .i64 (grpsErr p gs)) ∧ Below w1.heap.size w1 w') := fun w1 hb => check_any p x a cap xs gs w1 hw (planAt_below hp hb) (hgs.below hb) hwf hgl
  have KO : Hid (∀ w1, grpsErr p gs = 0 → Below w.heap.size w w1 → Calls Tryz.prog 11 #[planV p x, .slice a gs.length cap] w1 fun e w' => (∃ ad c, e = .returned (.slice ad gs.length c) ∧ ch.viewAt w' ad (gs.map (rowC p))) ∧ Below w1.heap.size w1 w') := fun w1 h hb => viewOf_any p x a cap xs gs w1 (planAt_below hp hb) (hgs.below hb) h hwf
  have KS : Hid (∀ a1 a2 c1 c2 w1, grpsErr p gs = 0 → ch.viewAt w1 a1 (gs.map (rowC p)) → ch.viewAt w1 a2 (gs.map (rowC p)) → Calls Tryz.prog 10 #[.slice a1 gs.length c1, .slice a2 gs.length c2] w1 fun e w' => e = .returned (.bool true) ∧ Below w1.heap.size w1 w') := fun a1 a2 c1 c2 w1 h h1 h2 => by
    have hv := (view_right h hwf).2
    have hl : (gs.map (rowC p)).length = gs.length := List.length_map ..
    have := ch.sameViews_any a1 a2 c1 c2 (gs.map (rowC p)) (gs.map (rowC p)) w1 h1 h2 hv hv (by omega) (by omega)
    rw [hl] at this
    refine this.mono ?_
    rintro e w' ⟨he, hb⟩
    exact ⟨by rw [he]; simp, hb⟩
  obtain ⟨E, hE⟩ : ∃ z, grpsErr p gs = z := ⟨_, rfl⟩
  rw [hE] at KV KR KC KO KS
  obtain ⟨VW, hVW⟩ : ∃ z, gs.map (rowC p) = z := ⟨_, rfl⟩
  rw [hVW] at KV KO KS
  obtain ⟨gn, hgn⟩ : ∃ z, gs.length = z := ⟨_, rfl⟩
  rw [hgn] at KV KR KC KO KS hgl ⊢
  clear hE hVW hgn hw hp hgs hwf
  obtain ⟨kind, mode, low, high, size, limit, left, right, lkeys, rkeys, grouped, group, aggs⟩ := p
  obtain ⟨la, lc, rr, rc, lk, lkc, rk, rkc, ga, gc, ag, ac⟩ := x
  unfold planV at KV KR KC KO ⊢
  dsimp only at KV KR KC KO ⊢
  obtain ⟨n6, h6⟩ : ∃ n, left.length = n := ⟨_, rfl⟩
  obtain ⟨n7, h7⟩ : ∃ n, right.length = n := ⟨_, rfl⟩
  obtain ⟨n8, h8⟩ : ∃ n, lkeys.length = n := ⟨_, rfl⟩
  obtain ⟨n9, h9⟩ : ∃ n, rkeys.length = n := ⟨_, rfl⟩
  obtain ⟨n11, h11⟩ : ∃ n, group.length = n := ⟨_, rfl⟩
  obtain ⟨n12, h12⟩ : ∃ n, aggs.length = n := ⟨_, rfl⟩
  simp only [h6, h7, h8, h9, h11, h12] at KV KR KC KO ⊢
  clear h6 h7 h8 h9 h11 h12
  go_enter Tryz.func3, Tryz.ntmps3
  go_wp2_with fail
  generalize hV : (World.alloc w _) = V
  have hb0 : Below w.heap.size w V := by rw [← hV]; exact (Below.refl _ _).alloc (Nat.le_refl _) _
  have v0 : V.cell? ⟨w.heap.size, 0, none⟩ = some (.int .i64 kind) := by subst hV; go_simp
  have v1 : V.cell? ⟨w.heap.size, 1, none⟩ = some (.int .i64 mode) := by subst hV; go_simp
  have v2 : V.cell? ⟨w.heap.size, 2, none⟩ = some (.int .i64 low) := by subst hV; go_simp
  have v3 : V.cell? ⟨w.heap.size, 3, none⟩ = some (.int .i64 high) := by subst hV; go_simp
  have v4 : V.cell? ⟨w.heap.size, 4, none⟩ = some (.int .i64 size) := by subst hV; go_simp
  have v5 : V.cell? ⟨w.heap.size, 5, none⟩ = some (.int .i64 limit) := by subst hV; go_simp
  have v6 : V.cell? ⟨w.heap.size, 6, none⟩ = some (.slice la n6 lc) := by subst hV; go_simp
  have v7 : V.cell? ⟨w.heap.size, 7, none⟩ = some (.slice rr n7 rc) := by subst hV; go_simp
  have v8 : V.cell? ⟨w.heap.size, 8, none⟩ = some (.slice lk n8 lkc) := by subst hV; go_simp
  have v9 : V.cell? ⟨w.heap.size, 9, none⟩ = some (.slice rk n9 rkc) := by subst hV; go_simp
  have v10 : V.cell? ⟨w.heap.size, 10, none⟩ = some (.bool grouped) := by subst hV; go_simp
  have v11 : V.cell? ⟨w.heap.size, 11, none⟩ = some (.slice ga n11 gc) := by subst hV; go_simp
  have v12 : V.cell? ⟨w.heap.size, 12, none⟩ = some (.slice ag n12 ac) := by subst hV; go_simp
  clear hV
  refine (KV.out _ hb0).mono ?_
  rintro e w1 ⟨hres, hb1⟩
  have hbw : Below w.heap.size w w1 := hb0.trans (hb1.mono hb0.size)
  replace v0 := cell_later hb1 v0
  replace v1 := cell_later hb1 v1
  replace v2 := cell_later hb1 v2
  replace v3 := cell_later hb1 v3
  replace v4 := cell_later hb1 v4
  replace v5 := cell_later hb1 v5
  replace v6 := cell_later hb1 v6
  replace v7 := cell_later hb1 v7
  replace v8 := cell_later hb1 v8
  replace v9 := cell_later hb1 v9
  replace v10 := cell_later hb1 v10
  replace v11 := cell_later hb1 v11
  replace v12 := cell_later hb1 v12
  clear hb1 hb0 KV
  rcases hres with ⟨hne, rfl⟩ | ⟨rfl, ad, c, rfl, hva⟩
  · have hne' : (E != 0) = true := by simpa using hne
    have hee : (E == E) = true := by simp
    go_wp2_with (first
      | (go_at_call 7; refine (KR.out _ hbw).mono ?_; rintro e w2 ⟨rfl, hb2⟩; have hbw2 : Below w.heap.size w w2 := hbw.trans (hb2.mono hbw.size); replace v0 := cell_later hb2 v0; replace v1 := cell_later hb2 v1; replace v2 := cell_later hb2 v2; replace v3 := cell_later hb2 v3; replace v4 := cell_later hb2 v4; replace v5 := cell_later hb2 v5; replace v6 := cell_later hb2 v6; replace v7 := cell_later hb2 v7; replace v8 := cell_later hb2 v8; replace v9 := cell_later hb2 v9; replace v10 := cell_later hb2 v10; replace v11 := cell_later hb2 v11; replace v12 := cell_later hb2 v12)
      | (go_at_call 8; refine (begun_any _).mono ?_; rintro e w3 ⟨rfl, hb3⟩; have hbw3 : Below w.heap.size w w3 := hbw2.trans (hb3.mono hbw2.size); replace v0 := cell_later hb3 v0; replace v1 := cell_later hb3 v1; replace v2 := cell_later hb3 v2; replace v3 := cell_later hb3 v3; replace v4 := cell_later hb3 v4; replace v5 := cell_later hb3 v5; replace v6 := cell_later hb3 v6; replace v7 := cell_later hb3 v7; replace v8 := cell_later hb3 v8; replace v9 := cell_later hb3 v9; replace v10 := cell_later hb3 v10; replace v11 := cell_later hb3 v11; replace v12 := cell_later hb3 v12)
      | (go_at_call 9; refine (KC.out _ hbw3).mono ?_; rintro e w4 ⟨rfl, hb4⟩; have hbw4 : Below w.heap.size w w4 := hbw3.trans (hb4.mono hbw3.size)))
    go_ret
    exact ⟨rfl, hbw4⟩
  · have HV : Hid (ch.viewAt w1 ad VW) := hva
    have KO2 : Hid (∀ w1, Below w.heap.size w w1 → _) := fun w1 hb => KO.out w1 rfl hb
    have KS2 : Hid (∀ a1 a2 c1 c2 w1, _ → _ → _) := fun a1 a2 c1 c2 w1 => KS.out a1 a2 c1 c2 w1 rfl
    clear hva KO KS
    go_wp2_with (first
      | (go_at_call 7; refine (KR.out _ hbw).mono ?_; rintro e w2 ⟨rfl, hb2⟩; have hbw2 : Below w.heap.size w w2 := hbw.trans (hb2.mono hbw.size); replace v0 := cell_later hb2 v0; replace v1 := cell_later hb2 v1; replace v2 := cell_later hb2 v2; replace v3 := cell_later hb2 v3; replace v4 := cell_later hb2 v4; replace v5 := cell_later hb2 v5; replace v6 := cell_later hb2 v6; replace v7 := cell_later hb2 v7; replace v8 := cell_later hb2 v8; replace v9 := cell_later hb2 v9; replace v10 := cell_later hb2 v10; replace v11 := cell_later hb2 v11; replace v12 := cell_later hb2 v12)
      | (go_at_call 8; refine (begun_any _).mono ?_; rintro e w3 ⟨rfl, hb3⟩; have hbw3 : Below w.heap.size w w3 := hbw2.trans (hb3.mono hbw2.size); replace v0 := cell_later hb3 v0; replace v1 := cell_later hb3 v1; replace v2 := cell_later hb3 v2; replace v3 := cell_later hb3 v3; replace v4 := cell_later hb3 v4; replace v5 := cell_later hb3 v5; replace v6 := cell_later hb3 v6; replace v7 := cell_later hb3 v7; replace v8 := cell_later hb3 v8; replace v9 := cell_later hb3 v9; replace v10 := cell_later hb3 v10; replace v11 := cell_later hb3 v11; replace v12 := cell_later hb3 v12)
      | (go_at_call 9; refine (KC.out _ hbw3).mono ?_; rintro e w4 ⟨rfl, hb4⟩; have hbw4 : Below w.heap.size w w4 := hbw3.trans (hb4.mono hbw3.size); replace v0 := cell_later hb4 v0; replace v1 := cell_later hb4 v1; replace v2 := cell_later hb4 v2; replace v3 := cell_later hb4 v3; replace v4 := cell_later hb4 v4; replace v5 := cell_later hb4 v5; replace v6 := cell_later hb4 v6; replace v7 := cell_later hb4 v7; replace v8 := cell_later hb4 v8; replace v9 := cell_later hb4 v9; replace v10 := cell_later hb4 v10; replace v11 := cell_later hb4 v11; replace v12 := cell_later hb4 v12)
      | (go_at_call 11; refine (KO2.out _ hbw4).mono ?_; rintro e w5 ⟨⟨ad5, c5, rfl, hv5⟩, hb5⟩; have hbw5 : Below w.heap.size w w5 := hbw4.trans (hb5.mono hbw4.size); have b15 : Below w1.heap.size w1 w5 := ((hb2.trans (hb3.mono hb2.size)).trans (hb4.mono (Nat.le_trans hb2.size hb3.size))).trans (hb5.mono (Nat.le_trans hb2.size (Nat.le_trans hb3.size hb4.size))))
      | (go_at_call 10; refine (KS2.out ad ad5 c c5 w5 (ch.viewAt_below HV.out b15) hv5).mono ?_; rintro e w6 ⟨rfl, hb6⟩))
    go_ret
    exact ⟨rfl, hbw5.trans (hb6.mono hbw5.size)⟩
end Go.Proofs.YtbfbgdinhiglaaaGreat.gr
