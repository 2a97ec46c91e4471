/- The groups' view: View. -/
import Derived.Test.YtbfbgdinhiglaaaGreatGrpRows
namespace Go.Proofs.YtbfbgdinhiglaaaGreat.gr
open Go.ChangeShapes Go.WideShapes Go.ChangeAt Go.RowKit
open vl pl bt
set_option linter.unusedVariables false
set_option linter.unusedSimpArgs false
attribute [local go_sem] Oper.semAt_some
/-- what View answers: the error, or the rows -/
def viewRes (E : Int) (n : Nat) (V : List ch.Cnt) (e : Ending) (w' : World) : Prop := (E ≠ 0 ∧ e = .returned (.tuple #[.slice none 0 0, .int .i64 E])) ∨ (E = 0 ∧ ∃ ad c, e = .returned (.tuple #[.slice ad n c, .int .i64 0]) ∧ ch.viewAt w' ad V)
set_option maxRecDepth 100000 in
set_option maxHeartbeats 4000000 in
theorem view_any (p : Pln) (x : PA) (a : Option Addr) (cap : Nat) (xs : List GX) (gs : List Grp) (w : World) (hw : wfPlan p) (hp : planAt w p x) (hgs : gsAt w a xs gs) (hwf : ∀ g ∈ gs, wfG g) (hgl : gs.length ≤ 9223372036854775807) :
    Calls Tryz.prog 6 #[planV p x, .slice a gs.length cap] w fun e w' => viewRes (grpsErr p gs) gs.length (gs.map (rowC p)) e w' ∧ Below w.heap.size w w' := by
  have KC : Hid (∀ w1, Below w.heap.size w w1 → Calls Tryz.prog 9 #[planV p x, .slice a gs.length cap] w1 fun e w' => e = .returned (.int .i64 (grpsErr p gs)) ∧ Below w1.heap.size w1 w') := fun w1 hb => check_any p x a cap xs gs w1 hw (planAt_below hp hb) (hgs.below hb) hwf hgl
  have KV : Hid (∀ w1, grpsErr p gs = 0 → Below w.heap.size w w1 → Calls Tryz.prog 20 #[planV p x, .slice a gs.length cap] w1 fun e w' => (∃ ad c, e = .returned (.slice ad gs.length c) ∧ ch.viewAt w' ad (gs.map (rowC p))) ∧ Below w1.heap.size w1 w') := fun w1 h hb => view_ok p x a cap xs gs w1 (planAt_below hp hb) (hgs.below hb) h
  obtain ⟨E, hE⟩ : ∃ z, grpsErr p gs = z := ⟨_, rfl⟩
  rw [hE] at KC KV ⊢
  obtain ⟨V, hV⟩ : ∃ z, gs.map (rowC p) = z := ⟨_, rfl⟩
  rw [hV] at KV ⊢
  obtain ⟨gn, hgn⟩ : ∃ z, gs.length = z := ⟨_, rfl⟩
  rw [hgn] at KC KV ⊢
  clear hE hV hgn hw hp hgs hwf hgl
  obtain ⟨kind, mode, low, high, size, limit, left, right, lkeys, rkeys, grouped, group, aggs⟩ := p
  obtain ⟨la, lc, rr, rc, lk, lkc, rk, rkc, ga, gc, ag, ac⟩ := x
  unfold planV at KC KV ⊢
  dsimp only at KC KV ⊢
  obtain ⟨n6, h6⟩ : ∃ n, left.length = n := ⟨_, rfl⟩
  obtain ⟨n7, h7⟩ : ∃ n, right.length = n := ⟨_, rfl⟩
  obtain ⟨n8, h8⟩ : ∃ n, lkeys.length = n := ⟨_, rfl⟩
  obtain ⟨n9, h9⟩ : ∃ n, rkeys.length = n := ⟨_, rfl⟩
  obtain ⟨n11, h11⟩ : ∃ n, group.length = n := ⟨_, rfl⟩
  obtain ⟨n12, h12⟩ : ∃ n, aggs.length = n := ⟨_, rfl⟩
  simp only [h6, h7, h8, h9, h11, h12] at KC KV ⊢
  clear h6 h7 h8 h9 h11 h12
  go_enter Tryz.func6, Tryz.ntmps6
  go_wp2_with fail
  generalize hV : (World.alloc w _) = U
  have hb0 : Below w.heap.size w U := by rw [← hV]; exact (Below.refl _ _).alloc (Nat.le_refl _) _
  have v0 : U.cell? ⟨w.heap.size, 0, none⟩ = some (.int .i64 kind) := by subst hV; go_simp
  have v1 : U.cell? ⟨w.heap.size, 1, none⟩ = some (.int .i64 mode) := by subst hV; go_simp
  have v2 : U.cell? ⟨w.heap.size, 2, none⟩ = some (.int .i64 low) := by subst hV; go_simp
  have v3 : U.cell? ⟨w.heap.size, 3, none⟩ = some (.int .i64 high) := by subst hV; go_simp
  have v4 : U.cell? ⟨w.heap.size, 4, none⟩ = some (.int .i64 size) := by subst hV; go_simp
  have v5 : U.cell? ⟨w.heap.size, 5, none⟩ = some (.int .i64 limit) := by subst hV; go_simp
  have v6 : U.cell? ⟨w.heap.size, 6, none⟩ = some (.slice la n6 lc) := by subst hV; go_simp
  have v7 : U.cell? ⟨w.heap.size, 7, none⟩ = some (.slice rr n7 rc) := by subst hV; go_simp
  have v8 : U.cell? ⟨w.heap.size, 8, none⟩ = some (.slice lk n8 lkc) := by subst hV; go_simp
  have v9 : U.cell? ⟨w.heap.size, 9, none⟩ = some (.slice rk n9 rkc) := by subst hV; go_simp
  have v10 : U.cell? ⟨w.heap.size, 10, none⟩ = some (.bool grouped) := by subst hV; go_simp
  have v11 : U.cell? ⟨w.heap.size, 11, none⟩ = some (.slice ga n11 gc) := by subst hV; go_simp
  have v12 : U.cell? ⟨w.heap.size, 12, none⟩ = some (.slice ag n12 ac) := by subst hV; go_simp
  clear hV
  refine (KC.out _ hb0).mono ?_
  rintro e w1 ⟨rfl, hb1⟩
  have hbw : Below w.heap.size w w1 := hb0.trans (hb1.mono hb0.size)
  replace v0 := cell_later hb1 v0
  replace v1 := cell_later hb1 v1
  replace v2 := cell_later hb1 v2
  replace v3 := cell_later hb1 v3
  replace v4 := cell_later hb1 v4
  replace v5 := cell_later hb1 v5
  replace v6 := cell_later hb1 v6
  replace v7 := cell_later hb1 v7
  replace v8 := cell_later hb1 v8
  replace v9 := cell_later hb1 v9
  replace v10 := cell_later hb1 v10
  replace v11 := cell_later hb1 v11
  replace v12 := cell_later hb1 v12
  clear hb1 hb0 KC
  by_cases h0 : E = 0
  · subst h0
    have KV2 : Hid (∀ w1, Below w.heap.size w w1 → _) := fun w1 hb => KV.out w1 rfl hb
    clear KV
    go_wp2_with (go_at_call 20; refine (KV2.out _ hbw).mono ?_; rintro e w2 ⟨⟨ad, c, rfl, hva⟩, hb2⟩)
    go_ret2
    exact ⟨.inr ⟨rfl, ad, c, rfl, hva⟩, hbw.trans (hb2.mono hbw.size)⟩
  · have h0' : (E != 0) = true := by simpa using h0
    go_wp2
    go_ret2
    exact ⟨.inl ⟨h0, rfl⟩, hbw⟩
end Go.Proofs.YtbfbgdinhiglaaaGreat.gr
