/- The document's CheckGroups: the errors ahead of the groups themselves. -/
import Derived.Test.YtbfbgdinhiglaaaGreatGrpForm2
import Derived.Test.YtbfbgdinhiglaaaGreatMgPlnF
namespace Go.Proofs.YtbfbgdinhiglaaaGreat.gr
open Go.ChangeShapes Go.WideShapes Go.ChangeAt Go.RowKit
open vl pl bt
set_option linter.unusedVariables false
set_option linter.unusedSimpArgs false
attribute [local go_sem] Oper.semAt_some
set_option maxRecDepth 100000 in
set_option maxHeartbeats 4000000 in
theorem checkGroups_bad (p : Pln) (x : PA) (a : Option Addr) (cap : Nat) (gs : List Grp) (w : World) (hw : wfPlan p) (hp : planAt w p x) (hgl : gs.length ≤ 9223372036854775807) (hbad : planErr p ≠ 0 ∨ p.grouped = false ∨ 4096 < gs.length) :
    Calls Tryz.prog 7 #[planV p x, .slice a gs.length cap] w fun e w' => e = .returned (.int .i64 (grpsErr p gs)) ∧ Below w.heap.size w w' := by
  have KP : Hid (∀ w1, Below w.heap.size w w1 → Calls Tryz.prog 21 #[planV p x] w1 fun e w' => e = .returned (.int .i64 (planErr p)) ∧ Below w1.heap.size w1 w') := fun w1 hb => checkPlan_any p x w1 hw (planAt_below hp hb)
  obtain ⟨R, hR⟩ : ∃ z, grpsErr p gs = z := ⟨_, rfl⟩
  have HR : Hid (grpsErr p gs = R) := hR
  unfold grpsErr at HR
  rw [hR]
  clear hR hw hp
  obtain ⟨AB, hAB⟩ : ∃ z, allB gs.length (grpB p gs) = z := ⟨_, rfl⟩
  rw [hAB] at HR
  obtain ⟨E, hE⟩ : ∃ z, planErr p = z := ⟨_, rfl⟩
  rw [hE] at KP HR hbad
  obtain ⟨gn, hgn⟩ : ∃ z, gs.length = z := ⟨_, rfl⟩
  rw [hgn] at HR hgl hbad ⊢
  clear hAB hE hgn
  obtain ⟨kind, mode, low, high, size, limit, left, right, lkeys, rkeys, grouped, group, aggs⟩ := p
  obtain ⟨la, lc, rr, rc, lk, lkc, rk, rkc, ga, gc, ag, ac⟩ := x
  unfold planV at KP ⊢
  dsimp only at KP HR hbad ⊢
  have HB : Hid (E ≠ 0 ∨ grouped = false ∨ 4096 < gn) := hbad
  clear hbad
  obtain ⟨n6, h6⟩ : ∃ n, left.length = n := ⟨_, rfl⟩
  obtain ⟨n7, h7⟩ : ∃ n, right.length = n := ⟨_, rfl⟩
  obtain ⟨n8, h8⟩ : ∃ n, lkeys.length = n := ⟨_, rfl⟩
  obtain ⟨n9, h9⟩ : ∃ n, rkeys.length = n := ⟨_, rfl⟩
  obtain ⟨n11, h11⟩ : ∃ n, group.length = n := ⟨_, rfl⟩
  obtain ⟨n12, h12⟩ : ∃ n, aggs.length = n := ⟨_, rfl⟩
  simp only [h6, h7, h8, h9, h11, h12] at KP ⊢
  clear h6 h7 h8 h9 h11 h12
  go_enter Tryz.func7, Tryz.ntmps7
  go_wp2_with fail
  generalize hV : (World.alloc w _) = V
  have hb0 : Below w.heap.size w V := by rw [← hV]; exact (Below.refl _ _).alloc (Nat.le_refl _) _
  have v0 : V.cell? ⟨w.heap.size, 0, none⟩ = some (.int .i64 kind) := by subst hV; go_simp
  have v1 : V.cell? ⟨w.heap.size, 1, none⟩ = some (.int .i64 mode) := by subst hV; go_simp
  have v2 : V.cell? ⟨w.heap.size, 2, none⟩ = some (.int .i64 low) := by subst hV; go_simp
  have v3 : V.cell? ⟨w.heap.size, 3, none⟩ = some (.int .i64 high) := by subst hV; go_simp
  have v4 : V.cell? ⟨w.heap.size, 4, none⟩ = some (.int .i64 size) := by subst hV; go_simp
  have v5 : V.cell? ⟨w.heap.size, 5, none⟩ = some (.int .i64 limit) := by subst hV; go_simp
  have v6 : V.cell? ⟨w.heap.size, 6, none⟩ = some (.slice la n6 lc) := by subst hV; go_simp
  have v7 : V.cell? ⟨w.heap.size, 7, none⟩ = some (.slice rr n7 rc) := by subst hV; go_simp
  have v8 : V.cell? ⟨w.heap.size, 8, none⟩ = some (.slice lk n8 lkc) := by subst hV; go_simp
  have v9 : V.cell? ⟨w.heap.size, 9, none⟩ = some (.slice rk n9 rkc) := by subst hV; go_simp
  have v10 : V.cell? ⟨w.heap.size, 10, none⟩ = some (.bool grouped) := by subst hV; go_simp
  have v11 : V.cell? ⟨w.heap.size, 11, none⟩ = some (.slice ga n11 gc) := by subst hV; go_simp
  have v12 : V.cell? ⟨w.heap.size, 12, none⟩ = some (.slice ag n12 ac) := by subst hV; go_simp
  clear hV
  refine (KP.out _ hb0).mono ?_
  rintro e w1 ⟨rfl, hb1⟩
  have hbw : Below w.heap.size w w1 := hb0.trans (hb1.mono hb0.size)
  replace v0 := cell_later hb1 v0
  replace v1 := cell_later hb1 v1
  replace v2 := cell_later hb1 v2
  replace v3 := cell_later hb1 v3
  replace v4 := cell_later hb1 v4
  replace v5 := cell_later hb1 v5
  replace v6 := cell_later hb1 v6
  replace v7 := cell_later hb1 v7
  replace v8 := cell_later hb1 v8
  replace v9 := cell_later hb1 v9
  replace v10 := cell_later hb1 v10
  replace v11 := cell_later hb1 v11
  replace v12 := cell_later hb1 v12
  clear hb1 hb0 KP
  by_cases h0 : E = 0
  · subst h0
    cases grouped with
    | false =>
      have HE : Hid (1 = R) := by show _ = _; rw [← HR.out]; simp
      go_wp2
      go_ret
      exact ⟨ret_int HE.out, hbw⟩
    | true =>
      have h1 : gn > 4096 := by have := HB.out; simpa using this
      have HE : Hid (2 = R) := by show _ = _; rw [← HR.out]; simp; omega
      have h1' : (gn : Int) > 4096 := by omega
      go_wp2
      go_ret
      exact ⟨ret_int HE.out, hbw⟩
  · have h0' : (E != 0) = true := by simpa using h0
    have HE : Hid (E = R) := by show _ = _; rw [← HR.out, if_pos h0]
    go_wp2
    go_ret
    exact ⟨ret_int HE.out, hbw⟩
end Go.Proofs.YtbfbgdinhiglaaaGreat.gr
