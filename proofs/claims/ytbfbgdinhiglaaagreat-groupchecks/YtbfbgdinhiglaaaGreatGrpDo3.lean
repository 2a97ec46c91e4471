/- A row comes to one group, which is its own: do. -/
import Derived.Test.YtbfbgdinhiglaaaGreatGrpDo1
namespace Go.Proofs.YtbfbgdinhiglaaaGreat.gr
open Go.ChangeShapes Go.WideShapes Go.ChangeAt Go.RowKit
open vl pl bt
set_option linter.unusedVariables false
set_option linter.unusedSimpArgs false
attribute [local go_sem] Oper.semAt_some
def oneX (oa : Option Addr) (oc bb : Nat) (ta : Option Addr) (tc : Nat) (L : List Tal) : GX := ⟨oa, oc, some ⟨bb, 0, none⟩, 2, [(none, 0, 0), (ta, L.length, tc)]⟩
def oneG (r : List Cel) (N : Int) (L : List Tal) : Grp := ⟨r, N, [[], L]⟩
/-- one group of one's own is groups in memory -/
theorem One.at {w : World} {base gb gc : Nat} {oa : Option Addr} {oc : Nat} {r : List Cel} {N : Int} {bb : Nat} {ta : Option Addr} {tc : Nat} {L : List Tal} (h : One w base gb gc oa oc r N bb ta tc L) : gsAt w (some ⟨gb, 0, none⟩) [oneX oa oc bb ta tc L] [oneG r N L] := by
  refine ⟨rfl, fun i hi => ?_, fun i hi => ?_⟩
  · have : i = 0 := by simpa using hi
    subst this
    exact ⟨gb, 0, rfl, own_cell h.own 0 _ rfl, own_cell h.own 1 _ rfl, own_cell h.own 2 _ rfl⟩
  · have : i = 0 := by simpa using hi
    subst this
    refine ⟨vl.ownV_row h.row, fun j hj => ?_, rfl, fun j hj => ?_, fun j hj => ?_⟩
    · have hj2 : j = 0 ∨ j = 1 := by have : j < 2 := hj; omega
      rcases hj2 with rfl | rfl
      · exact ⟨bb, 0, rfl, own_cell h.bags 0 _ rfl⟩
      · exact ⟨bb, 0, rfl, own_cell h.bags 1 _ rfl⟩
    · have hj2 : j = 0 ∨ j = 1 := by have : j < 2 := hj; omega
      rcases hj2 with rfl | rfl <;> rfl
    · have hj2 : j = 0 ∨ j = 1 := by have : j < 2 := hj; omega
      rcases hj2 with rfl | rfl
      · exact fun i hi => absurd hi (Nat.not_lt_zero i)
      · exact (ownT_at h.tal).1
theorem search_one (w : World) {base gb gc : Nat} {oa : Option Addr} {oc : Nat} {r : List Cel} {N : Int} {bb : Nat} {ta : Option Addr} {tc : Nat} {L : List Tal} (h : One w base gb gc oa oc r N bb ta tc L) (ka : Option Addr) (kc : Nat) (k : List Cel) (hk : vl.rowAt w ka k) (hl : k.length ≤ 1000 ∧ r.length ≤ 1000) (h0 : cmpRows r k = 0) :
    Calls Tryz.prog 81 #[.slice (some ⟨gb, 0, none⟩) 1 gc, .slice ka k.length kc, .func (.func 82) #[] #[]] w fun e w' => e = .returned (.tuple #[.int .i64 0, .bool true]) ∧ Below w.heap.size w w' := by
  refine (searchG_any 82 (enters_of Tryz.func82 (by kernel_rfl) rfl) (fun _ => 0) (some ⟨gb, 0, none⟩) gc [oneX oa oc bb ta tc L] [oneG r N L] ka k.length kc w (by simp) h.at (fun i w1 hi hb => ?_) (fun a b _ hb h => absurd h (by decide))).mono ?_
  · have : i = 0 := by simpa using hi
    subst this
    have := doCmp_any (oneX oa oc bb ta tc L) (oneG r N L) ka kc k w1 (vl.rowAt_below (vl.ownV_row h.row) hb) (vl.rowAt_below hk hb) (by show r.length ≤ _; omega) (by omega)
    rw [show cmpRows (oneG r N L).row k = 0 from h0] at this
    exact this
  · rintro e w' ⟨⟨i, hi, rfl, h1, h2⟩, hb⟩
    have : i = 0 := by
      rcases Nat.eq_zero_or_pos i with h | h
      · exact h
      · exact absurd (h1 0 h) (by decide)
    subst this
    exact ⟨by simp, hb⟩
set_option maxRecDepth 100000 in
set_option maxHeartbeats 8000000 in
theorem do_again (p : Pln) (x : PA) (W0 w : World) (hbW : Below W0.heap.size W0 w) (hp : planAt W0 p x) (hpa : p.aggs = [(1, 0), (2, 1)]) (hpg : p.group = [0]) {gb gc : Nat} {oa : Option Addr} {oc : Nat} {c0 : Cel} {N : Int} {bb : Nat} {ta : Option Addr} {tc : Nat} {L : List Tal} (h1 : One w W0.heap.size gb gc oa oc [c0] N bb ta tc L)
    (ra : Option Addr) (rc : Nat) (r : List Cel) (hr : vl.rowAt W0 ra r) (hrl : r.length = 4) (hc0 : cmpRows [c0] [r.getD 0 default] = 0) (hL : L.length ≤ 1000) (hlt : ∀ t ∈ L, cmpC t.1 (r.getD 1 default) < 0) (hN : 0 ≤ N ∧ N ≤ 1000) :
    Calls Tryz.prog 39 #[planV p x, .slice (some ⟨gb, 0, none⟩) 1 gc, .agg #[.int .i64 1, .slice ra 4 rc]] w fun e w' => e = .returned (.tuple #[.slice (some ⟨gb, 0, none⟩) 1 gc, .int .i64 0]) ∧ (∃ ta' tc', One w' W0.heap.size gb gc oa oc [c0] (N + 1) bb ta' tc' (L ++ [(r.getD 1 default, 1)])) ∧ Below W0.heap.size W0 w' := by
  have HO : Hid (One w W0.heap.size gb gc oa oc [c0] N bb ta tc L) := h1
  have KP : Hid (∀ w1, Below W0.heap.size W0 w1 → Calls Tryz.prog 52 #[.slice ra 4 rc, .slice x.g 1 x.gc] w1 fun e w' => (∃ ad' c', e = .returned (.slice ad' 1 c') ∧ ownV w' w1.heap.size (.slice ad' 1 c') [r.getD 0 default]) ∧ Below w1.heap.size w1 w') := fun w1 hb => by
    have hg := intsAt_below (show intsAt W0 x.g p.group from hp.g) hb
    have := pick_any ra x.g rc x.gc r p.group w1 (by omega) (by rw [hpg]; decide) (vl.rowAt_below hr hb) hg (by rw [hpg]; intro z hz; simp at hz; subst hz; omega)
    rw [hpg, hrl] at this
    exact this
  have KS : Hid (∀ w1 ka kc, Below w.heap.size w w1 → ownV w1 W0.heap.size (.slice ka 1 kc) [r.getD 0 default] → _) := fun w1 ka kc hb hk => search_one w1 (HO.out.below hb) ka kc [r.getD 0 default] (vl.ownV_row hk) (by simp) hc0
  have KC : Hid (∀ w1, Below W0.heap.size W0 w1 → Below w.heap.size w w1 → _) := fun w1 hb hbw => comes_end p x W0 w1 hb hp hpa (HO.out.below hbw) ra rc r hr hrl hL hlt hN
  have HN : Hid (gb < w.heap.size ∧ bb < w.heap.size ∧ (∀ B, w.heap.size ≤ B → (Value.slice ta L.length tc).ownBlock ≠ some B)) := ⟨(ch.own_lt h1.own (g := gb) rfl).2, (ch.own_lt h1.bags (g := bb) rfl).2, fun B hB e => by have := (ch.own_lt h1.tal e).2; omega⟩
  have HNN : Hid (0 ≤ N ∧ N ≤ 1000) := hN
  obtain ⟨ib, io, ei, _⟩ := hp.g 0 (by rw [hpg]; decide)
  obtain ⟨k0, hk0⟩ : ∃ c, r.getD 0 default = c := ⟨_, rfl⟩
  obtain ⟨c1, hc1⟩ : ∃ c, r.getD 1 default = c := ⟨_, rfl⟩
  rw [hk0] at KP KS
  rw [hc1] at KC ⊢
  clear hp hr hrl hk0 hc1 hc0 hlt hN h1
  obtain ⟨kind, mode, low, high, size, limit, left, right, lkeys, rkeys, grouped, group, aggs⟩ := p
  obtain ⟨la, lc, rr, rc2, lk, lkc, rk, rkc, pga, pgc, ag, ac⟩ := x
  dsimp only at hpa hpg ei KP
  subst hpa hpg ei
  unfold planV at KC ⊢
  dsimp only [List.length_cons, List.length_nil] at KC ⊢
  obtain ⟨n6, h6⟩ : ∃ n, left.length = n := ⟨_, rfl⟩
  obtain ⟨n7, h7⟩ : ∃ n, right.length = n := ⟨_, rfl⟩
  obtain ⟨n8, h8⟩ : ∃ n, lkeys.length = n := ⟨_, rfl⟩
  obtain ⟨n9, h9⟩ : ∃ n, rkeys.length = n := ⟨_, rfl⟩
  simp only [h6, h7, h8, h9, Nat.zero_add] at KC ⊢
  clear h6 h7 h8 h9
  go_enter Tryz.func39, Tryz.ntmps39
  go_wp2_with fail
  generalize hV : (World.alloc (World.alloc w _) _) = V
  have hb0 : Below w.heap.size w V := by rw [← hV]; exact ((Below.refl _ _).alloc (Nat.le_refl _) _).alloc (by simp) _
  have hb1 : Below W0.heap.size W0 V := hbW.trans (hb0.mono hbW.size)
  have v0 : V.cell? ⟨w.heap.size, 0, none⟩ = some (.int .i64 kind) := by subst hV; go_simp
  have v1 : V.cell? ⟨w.heap.size, 1, none⟩ = some (.int .i64 mode) := by subst hV; go_simp
  have v2 : V.cell? ⟨w.heap.size, 2, none⟩ = some (.int .i64 low) := by subst hV; go_simp
  have v3 : V.cell? ⟨w.heap.size, 3, none⟩ = some (.int .i64 high) := by subst hV; go_simp
  have v4 : V.cell? ⟨w.heap.size, 4, none⟩ = some (.int .i64 size) := by subst hV; go_simp
  have v5 : V.cell? ⟨w.heap.size, 5, none⟩ = some (.int .i64 limit) := by subst hV; go_simp
  have v6 : V.cell? ⟨w.heap.size, 6, none⟩ = some (.slice la n6 lc) := by subst hV; go_simp
  have v7 : V.cell? ⟨w.heap.size, 7, none⟩ = some (.slice rr n7 rc2) := by subst hV; go_simp
  have v8 : V.cell? ⟨w.heap.size, 8, none⟩ = some (.slice lk n8 lkc) := by subst hV; go_simp
  have v9 : V.cell? ⟨w.heap.size, 9, none⟩ = some (.slice rk n9 rkc) := by subst hV; go_simp
  have v10 : V.cell? ⟨w.heap.size, 10, none⟩ = some (.bool grouped) := by subst hV; go_simp
  have v11 : V.cell? ⟨w.heap.size, 11, none⟩ = some (.slice (some ⟨ib, io, none⟩) 1 pgc) := by subst hV; go_simp
  have v12 : V.cell? ⟨w.heap.size, 12, none⟩ = some (.slice ag 2 ac) := by subst hV; go_simp
  have v13 : V.cell? ⟨w.heap.size + 1, 0, none⟩ = some (.int .i64 1) := by subst hV; go_simp
  have v14 : V.cell? ⟨w.heap.size + 1, 1, none⟩ = some (.slice ra 4 rc) := by subst hV; go_simp
  clear hV
  refine (KP.out _ hb1).mono ?_
  rintro e w1 ⟨⟨ka, kc, rfl, hov⟩, hb2⟩
  have hbw1 : Below W0.heap.size W0 w1 := hb1.trans (hb2.mono hb1.size)
  have hbe1 : Below w.heap.size w w1 := hb0.trans (hb2.mono hb0.size)
  have HOV : Hid (ownV w1 W0.heap.size (.slice ka 1 kc) [k0]) := World.ownsRow.mono hov hb1.size
  replace v0 := cell_later hb2 v0
  replace v1 := cell_later hb2 v1
  replace v2 := cell_later hb2 v2
  replace v3 := cell_later hb2 v3
  replace v4 := cell_later hb2 v4
  replace v5 := cell_later hb2 v5
  replace v6 := cell_later hb2 v6
  replace v7 := cell_later hb2 v7
  replace v8 := cell_later hb2 v8
  replace v9 := cell_later hb2 v9
  replace v10 := cell_later hb2 v10
  replace v11 := cell_later hb2 v11
  replace v12 := cell_later hb2 v12
  replace v13 := cell_later hb2 v13
  replace v14 := cell_later hb2 v14
  clear hov hb2 hb1 hb0
  have lv0 : w.heap.size + 1 < w1.heap.size := World.block_lt_of_cell? _ _ v13
  go_wp2_with (go_at_call 81; refine (KS.out _ ka kc hbe1 HOV.out).mono ?_; rintro e w2 ⟨rfl, hb3⟩; have hbw2 : Below W0.heap.size W0 w2 := hbw1.trans (hb3.mono hbw1.size); have hbe2 : Below w.heap.size w w2 := hbe1.trans (hb3.mono hbe1.size); have lv2 : w.heap.size + 1 < w2.heap.size := Nat.lt_of_lt_of_le lv0 hb3.size; replace v0 := cell_later hb3 v0; replace v1 := cell_later hb3 v1; replace v2 := cell_later hb3 v2; replace v3 := cell_later hb3 v3; replace v4 := cell_later hb3 v4; replace v5 := cell_later hb3 v5; replace v6 := cell_later hb3 v6; replace v7 := cell_later hb3 v7; replace v8 := cell_later hb3 v8; replace v9 := cell_later hb3 v9; replace v10 := cell_later hb3 v10; replace v11 := cell_later hb3 v11; replace v12 := cell_later hb3 v12; replace v13 := cell_later hb3 v13; replace v14 := cell_later hb3 v14)
  have HL : Hid (w.heap.size + 1 < w2.heap.size) := lv2
  go_region_held3 (fun w' => w'.cell? ⟨w.heap.size, 0, none⟩ = some (.int .i64 kind) ∧ w'.cell? ⟨w.heap.size, 1, none⟩ = some (.int .i64 mode) ∧ w'.cell? ⟨w.heap.size, 2, none⟩ = some (.int .i64 low) ∧ w'.cell? ⟨w.heap.size, 3, none⟩ = some (.int .i64 high) ∧ w'.cell? ⟨w.heap.size, 4, none⟩ = some (.int .i64 size) ∧ w'.cell? ⟨w.heap.size, 5, none⟩ = some (.int .i64 limit) ∧ w'.cell? ⟨w.heap.size, 6, none⟩ = some (.slice la n6 lc) ∧ w'.cell? ⟨w.heap.size, 7, none⟩ = some (.slice rr n7 rc2) ∧ w'.cell? ⟨w.heap.size, 8, none⟩ = some (.slice lk n8 lkc) ∧ w'.cell? ⟨w.heap.size, 9, none⟩ = some (.slice rk n9 rkc) ∧ w'.cell? ⟨w.heap.size, 10, none⟩ = some (.bool grouped) ∧ w'.cell? ⟨w.heap.size, 11, none⟩ = some (.slice (some ⟨ib, io, none⟩) 1 pgc) ∧ w'.cell? ⟨w.heap.size, 12, none⟩ = some (.slice ag 2 ac) ∧ w'.cell? ⟨w.heap.size + 1, 0, none⟩ = some (.int .i64 1) ∧ w'.cell? ⟨w.heap.size + 1, 1, none⟩ = some (.slice ra 4 rc)) (first | exact ⟨g4a v0, g4a v1, g4a v2, g4a v3, g4a v4, g4a v5, g4a v6, g4a v7, g4a v8, g4a v9, g4a v10, g4a v11, g4a v12, g4b v13, g4b v14⟩ | go_keep)
    (first | (go_at_call 86; refine (KC.out w2.drew hbw2.drew hbe2.drew).mono ?_; rintro e w4 ⟨rfl, ⟨ta4, tc4, ho4⟩, hb4, hf4, hs4⟩; have g4a : ∀ {of : Nat} {v : Value}, w2.cell? ⟨w.heap.size, of, none⟩ = some v → w4.cell? ⟨w.heap.size, of, none⟩ = some v := fun hc => (World.cell?_of_block (hf4 w.heap.size (show w.heap.size < w2.heap.size by have := HL.out; omega) (by have := HN.out.1; omega) (by have := HN.out.2.1; omega) (HN.out.2.2 _ (Nat.le_refl _)))).trans hc; have g4b : ∀ {of : Nat} {v : Value}, w2.cell? ⟨w.heap.size + 1, of, none⟩ = some v → w4.cell? ⟨w.heap.size + 1, of, none⟩ = some v := fun hc => (World.cell?_of_block (hf4 (w.heap.size + 1) HL.out (by have := HN.out.1; omega) (by have := HN.out.2.1; omega) (HN.out.2.2 _ (Nat.le_succ _)))).trans hc))
  all_goals
    have q1 := own_cell ho4.own 1 _ rfl
    have q2 : ¬ (N + 1 > 1073741824) := by have := HNN.out; omega
    have HO4 : Hid (One w4 W0.heap.size gb gc oa oc [c0] (N + 1) bb ta4 tc4 (L ++ [(c1, 1)])) := ho4
    clear ho4 hf4 g4a g4b
    go_wp2
    go_ret2
    exact ⟨rfl, ⟨ta4, tc4, HO4.out⟩, hb4⟩
end Go.Proofs.YtbfbgdinhiglaaaGreat.gr
