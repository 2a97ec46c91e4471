/- The first row comes to no groups: do. -/
import Derived.Test.YtbfbgdinhiglaaaGreatGrpDo1
namespace Go.Proofs.YtbfbgdinhiglaaaGreat.gr
open Go.ChangeShapes Go.WideShapes Go.ChangeAt Go.RowKit
open vl pl bt
set_option linter.unusedVariables false
set_option linter.unusedSimpArgs false
attribute [local go_sem] Oper.semAt_some
set_option maxRecDepth 100000 in
set_option maxHeartbeats 8000000 in
theorem do_new (p : Pln) (x : PA) (W0 w : World) (hbW : Below W0.heap.size W0 w) (hp : planAt W0 p x) (hpa : p.aggs = [(1, 0), (2, 1)]) (hpg : p.group = [0]) (ad : Option Addr) (cap : Nat) (hown : w.ownsRow W0.heap.size 53 3 (.slice ad 0 cap) 0 []) (ra : Option Addr) (rc : Nat) (r : List Cel) (hr : vl.rowAt W0 ra r) (hrl : r.length = 4) :
    Calls Tryz.prog 39 #[planV p x, .slice ad 0 cap, .agg #[.int .i64 1, .slice ra 4 rc]] w fun e w' => (∃ gb gc oa oc bb ta tc, e = .returned (.tuple #[.slice (some ⟨gb, 0, none⟩) 1 gc, .int .i64 0]) ∧ One w' W0.heap.size gb gc oa oc [r.getD 0 default] 1 bb ta tc [(r.getD 1 default, 1)]) ∧ Below W0.heap.size W0 w' := by
  have HOW : Hid (w.ownsRow W0.heap.size 53 3 (.slice ad 0 cap) 0 []) := hown
  have KP : Hid (∀ w1, Below W0.heap.size W0 w1 → Calls Tryz.prog 52 #[.slice ra 4 rc, .slice x.g 1 x.gc] w1 fun e w' => (∃ ad' c', e = .returned (.slice ad' 1 c') ∧ ownV w' w1.heap.size (.slice ad' 1 c') [r.getD 0 default]) ∧ Below w1.heap.size w1 w') := fun w1 hb => by
    have hg := intsAt_below (show intsAt W0 x.g p.group from hp.g) hb
    have := pick_any ra x.g rc x.gc r p.group w1 (by omega) (by rw [hpg]; decide) (vl.rowAt_below hr hb) hg (by rw [hpg]; intro z hz; simp at hz; subst hz; omega)
    rw [hpg, hrl] at this
    exact this
  have KI : Hid (∀ w1 oa oc, Below W0.heap.size W0 w1 → Below w.heap.size w w1 → ownV w1 W0.heap.size (.slice oa 1 oc) [r.getD 0 default] → _) := fun w1 oa oc hb hbw hrow => ins_first W0 w1 hb ad cap (ch.own_same HOW.out (fun g hg => hbw.block g (ch.own_lt HOW.out hg).2)) oa oc [r.getD 0 default] hrow
  have KC : Hid (∀ w1 gb gc oa oc bb, Below W0.heap.size W0 w1 → One w1 W0.heap.size gb gc oa oc [r.getD 0 default] 0 bb none 0 [] → _) := fun w1 gb gc oa oc bb hb ho => comes_end p x W0 w1 hb hp hpa ho ra rc r hr hrl (by decide) (fun t ht => absurd ht (List.not_mem_nil)) (by decide)
  have HAB : Hid (∀ B, w.heap.size ≤ B → (Value.slice ad 0 cap).ownBlock ≠ some B) := fun B hB e => by have := (ch.own_lt HOW.out e).2; omega
  obtain ⟨ib, io, ei, _⟩ := hp.g 0 (by rw [hpg]; decide)
  obtain ⟨c0, hc0⟩ : ∃ c, r.getD 0 default = c := ⟨_, rfl⟩
  obtain ⟨c1, hc1⟩ : ∃ c, r.getD 1 default = c := ⟨_, rfl⟩
  rw [hc0] at KP KI KC ⊢
  rw [hc1] at KC ⊢
  clear hown hp hr hrl hc0 hc1
  obtain ⟨kind, mode, low, high, size, limit, left, right, lkeys, rkeys, grouped, group, aggs⟩ := p
  obtain ⟨la, lc, rr, rc2, lk, lkc, rk, rkc, pga, pgc, ag, ac⟩ := x
  dsimp only at hpa hpg ei KP
  subst hpa hpg ei
  unfold planV at KC ⊢
  dsimp only [List.length_cons, List.length_nil] at KC ⊢
  obtain ⟨n6, h6⟩ : ∃ n, left.length = n := ⟨_, rfl⟩
  obtain ⟨n7, h7⟩ : ∃ n, right.length = n := ⟨_, rfl⟩
  obtain ⟨n8, h8⟩ : ∃ n, lkeys.length = n := ⟨_, rfl⟩
  obtain ⟨n9, h9⟩ : ∃ n, rkeys.length = n := ⟨_, rfl⟩
  simp only [h6, h7, h8, h9, Nat.zero_add] at KC ⊢
  clear h6 h7 h8 h9
  go_enter Tryz.func39, Tryz.ntmps39
  go_wp2_with fail
  generalize hV : (World.alloc (World.alloc w _) _) = V
  have hb0 : Below w.heap.size w V := by rw [← hV]; exact ((Below.refl _ _).alloc (Nat.le_refl _) _).alloc (by simp) _
  have hb1 : Below W0.heap.size W0 V := hbW.trans (hb0.mono hbW.size)
  have v0 : V.cell? ⟨w.heap.size, 0, none⟩ = some (.int .i64 kind) := by subst hV; go_simp
  have v1 : V.cell? ⟨w.heap.size, 1, none⟩ = some (.int .i64 mode) := by subst hV; go_simp
  have v2 : V.cell? ⟨w.heap.size, 2, none⟩ = some (.int .i64 low) := by subst hV; go_simp
  have v3 : V.cell? ⟨w.heap.size, 3, none⟩ = some (.int .i64 high) := by subst hV; go_simp
  have v4 : V.cell? ⟨w.heap.size, 4, none⟩ = some (.int .i64 size) := by subst hV; go_simp
  have v5 : V.cell? ⟨w.heap.size, 5, none⟩ = some (.int .i64 limit) := by subst hV; go_simp
  have v6 : V.cell? ⟨w.heap.size, 6, none⟩ = some (.slice la n6 lc) := by subst hV; go_simp
  have v7 : V.cell? ⟨w.heap.size, 7, none⟩ = some (.slice rr n7 rc2) := by subst hV; go_simp
  have v8 : V.cell? ⟨w.heap.size, 8, none⟩ = some (.slice lk n8 lkc) := by subst hV; go_simp
  have v9 : V.cell? ⟨w.heap.size, 9, none⟩ = some (.slice rk n9 rkc) := by subst hV; go_simp
  have v10 : V.cell? ⟨w.heap.size, 10, none⟩ = some (.bool grouped) := by subst hV; go_simp
  have v11 : V.cell? ⟨w.heap.size, 11, none⟩ = some (.slice (some ⟨ib, io, none⟩) 1 pgc) := by subst hV; go_simp
  have v12 : V.cell? ⟨w.heap.size, 12, none⟩ = some (.slice ag 2 ac) := by subst hV; go_simp
  have v13 : V.cell? ⟨w.heap.size + 1, 0, none⟩ = some (.int .i64 1) := by subst hV; go_simp
  have v14 : V.cell? ⟨w.heap.size + 1, 1, none⟩ = some (.slice ra 4 rc) := by subst hV; go_simp
  clear hV
  refine (KP.out _ hb1).mono ?_
  rintro e w1 ⟨⟨oa, oc, rfl, hov⟩, hb2⟩
  have hbw1 : Below W0.heap.size W0 w1 := hb1.trans (hb2.mono hb1.size)
  have hbe1 : Below w.heap.size w w1 := hb0.trans (hb2.mono hb0.size)
  have HOV : Hid (ownV w1 W0.heap.size (.slice oa 1 oc) [c0]) := World.ownsRow.mono hov hb1.size
  replace v0 := cell_later hb2 v0
  replace v1 := cell_later hb2 v1
  replace v2 := cell_later hb2 v2
  replace v3 := cell_later hb2 v3
  replace v4 := cell_later hb2 v4
  replace v5 := cell_later hb2 v5
  replace v6 := cell_later hb2 v6
  replace v7 := cell_later hb2 v7
  replace v8 := cell_later hb2 v8
  replace v9 := cell_later hb2 v9
  replace v10 := cell_later hb2 v10
  replace v11 := cell_later hb2 v11
  replace v12 := cell_later hb2 v12
  replace v13 := cell_later hb2 v13
  replace v14 := cell_later hb2 v14
  clear hov hb2 hb1 hb0
  have hmk : ∀ w, (Instr.makeSlice 51 (.int .i64 2) (.int .i64 2)).run Tryz.prog w = .ok (.slice (some ⟨w.heap.size, 0, none⟩) 2 2) (w.alloc (.cells #[.slice none 0 0, .slice none 0 0] 61)) := fun w => by kernel_rfl
  have lv0 : w.heap.size + 1 < w1.heap.size := World.block_lt_of_cell? _ _ v13
  go_wp2_with (first
    | (go_at_call 81; refine (search_none ad cap oa 1 oc _).mono ?_; rintro e w2 ⟨rfl, hb3⟩; have hbw2 : Below W0.heap.size W0 w2 := hbw1.trans (hb3.mono hbw1.size); have hbe2 : Below w.heap.size w w2 := hbe1.trans (hb3.mono hbe1.size); have HOV2 : Hid (ownV w2 W0.heap.size (.slice oa 1 oc) [c0]) := ch.own_same HOV.out (fun g hg => hb3.block g (ch.own_lt HOV.out hg).2); have lv2 : w.heap.size + 1 < w2.heap.size := Nat.lt_of_lt_of_le lv0 hb3.size; replace v0 := cell_later hb3 v0; replace v1 := cell_later hb3 v1; replace v2 := cell_later hb3 v2; replace v3 := cell_later hb3 v3; replace v4 := cell_later hb3 v4; replace v5 := cell_later hb3 v5; replace v6 := cell_later hb3 v6; replace v7 := cell_later hb3 v7; replace v8 := cell_later hb3 v8; replace v9 := cell_later hb3 v9; replace v10 := cell_later hb3 v10; replace v11 := cell_later hb3 v11; replace v12 := cell_later hb3 v12; replace v13 := cell_later hb3 v13; replace v14 := cell_later hb3 v14)
    | (go_at_call 85; refine (KI.out w2 oa oc hbw2 hbe2 HOV2.out).mono ?_; rintro e w3 ⟨gb, gc, rfl, ho3, hb3w, hfr, hsz3, hne3⟩))
  clear KI KP HOV HOV2 hbe1 hbw1
  have g3a : ∀ {of : Nat} {v : Value}, w2.cell? ⟨w.heap.size, of, none⟩ = some v → w3.cell? ⟨w.heap.size, of, none⟩ = some v := fun hc => (World.cell?_of_block (hfr w.heap.size (by omega) (HAB.out _ (Nat.le_refl _)))).trans hc
  have g3b : ∀ {of : Nat} {v : Value}, w2.cell? ⟨w.heap.size + 1, of, none⟩ = some v → w3.cell? ⟨w.heap.size + 1, of, none⟩ = some v := fun hc => (World.cell?_of_block (hfr (w.heap.size + 1) (by omega) (HAB.out _ (Nat.le_succ _)))).trans hc
  replace v0 := g3a v0
  replace v1 := g3a v1
  replace v2 := g3a v2
  replace v3 := g3a v3
  replace v4 := g3a v4
  replace v5 := g3a v5
  replace v6 := g3a v6
  replace v7 := g3a v7
  replace v8 := g3a v8
  replace v9 := g3a v9
  replace v10 := g3a v10
  replace v11 := g3a v11
  replace v12 := g3a v12
  replace v13 := g3b v13
  replace v14 := g3b v14
  have hgz := (ch.own_lt ho3.own (g := gb) rfl)
  have n1 : w.heap.size ≠ gb := hne3 _ (by omega) (HAB.out _ (Nat.le_refl _))
  have n2 : w.heap.size + 1 ≠ gb := hne3 _ (by omega) (HAB.out _ (Nat.le_succ _))
  have HO3 : Hid (One w3 W0.heap.size gb gc oa oc [c0] 0 w2.heap.size none 0 []) := ho3
  have HN : Hid (w.heap.size ≠ gb ∧ w.heap.size + 1 ≠ gb ∧ w.heap.size + 1 < w2.heap.size ∧ w2.heap.size ≤ w3.heap.size) := ⟨n1, n2, lv2, hsz3⟩
  clear g3a g3b hfr hne3 ho3 n1 n2
  go_region_held3 (fun w' => w'.cell? ⟨w.heap.size, 0, none⟩ = some (.int .i64 kind) ∧ w'.cell? ⟨w.heap.size, 1, none⟩ = some (.int .i64 mode) ∧ w'.cell? ⟨w.heap.size, 2, none⟩ = some (.int .i64 low) ∧ w'.cell? ⟨w.heap.size, 3, none⟩ = some (.int .i64 high) ∧ w'.cell? ⟨w.heap.size, 4, none⟩ = some (.int .i64 size) ∧ w'.cell? ⟨w.heap.size, 5, none⟩ = some (.int .i64 limit) ∧ w'.cell? ⟨w.heap.size, 6, none⟩ = some (.slice la n6 lc) ∧ w'.cell? ⟨w.heap.size, 7, none⟩ = some (.slice rr n7 rc2) ∧ w'.cell? ⟨w.heap.size, 8, none⟩ = some (.slice lk n8 lkc) ∧ w'.cell? ⟨w.heap.size, 9, none⟩ = some (.slice rk n9 rkc) ∧ w'.cell? ⟨w.heap.size, 10, none⟩ = some (.bool grouped) ∧ w'.cell? ⟨w.heap.size, 11, none⟩ = some (.slice (some ⟨ib, io, none⟩) 1 pgc) ∧ w'.cell? ⟨w.heap.size, 12, none⟩ = some (.slice ag 2 ac) ∧ w'.cell? ⟨w.heap.size + 1, 0, none⟩ = some (.int .i64 1) ∧ w'.cell? ⟨w.heap.size + 1, 1, none⟩ = some (.slice ra 4 rc)) (first | exact ⟨g4a v0, g4a v1, g4a v2, g4a v3, g4a v4, g4a v5, g4a v6, g4a v7, g4a v8, g4a v9, g4a v10, g4a v11, g4a v12, g4b v13, g4b v14⟩ | go_keep)
    (first | (go_at_call 86; refine (KC.out w3.drew gb gc oa oc w2.heap.size hb3w.drew (HO3.out.below (Below.refl _ _).drew)).mono ?_; rintro e w4 ⟨rfl, ⟨ta4, tc4, ho4⟩, hb4, hf4, hs4⟩; have g4a : ∀ {of : Nat} {v : Value}, w3.cell? ⟨w.heap.size, of, none⟩ = some v → w4.cell? ⟨w.heap.size, of, none⟩ = some v := fun hc => (World.cell?_of_block (hf4 w.heap.size (show w.heap.size < w3.heap.size by have := HN.out; omega) HN.out.1 (by have := HN.out; omega) (by intro h; cases h))).trans hc; have g4b : ∀ {of : Nat} {v : Value}, w3.cell? ⟨w.heap.size + 1, of, none⟩ = some v → w4.cell? ⟨w.heap.size + 1, of, none⟩ = some v := fun hc => (World.cell?_of_block (hf4 (w.heap.size + 1) (show w.heap.size + 1 < w3.heap.size by have := HN.out; omega) HN.out.2.1 (by have := HN.out; omega) (by intro h; cases h))).trans hc))
  all_goals
    simp only [Int.zero_add, List.nil_append] at ho4
    have q1 := own_cell ho4.own 1 _ rfl
    have HO4 : Hid (One w4 W0.heap.size gb gc oa oc [c0] 1 w2.heap.size ta4 tc4 [(c1, 1)]) := ho4
    clear ho4 hf4 g4a g4b
    go_wp2
    go_ret2
    exact ⟨⟨gb, gc, oa, oc, w2.heap.size, ta4, tc4, rfl, HO4.out⟩, hb4⟩
end Go.Proofs.YtbfbgdinhiglaaaGreat.gr
