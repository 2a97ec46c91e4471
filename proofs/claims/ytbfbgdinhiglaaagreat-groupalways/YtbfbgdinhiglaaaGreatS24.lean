import Derived.Test.YtbfbgdinhiglaaaGreatGrpComesAny
import Derived.Test.YtbfbgdinhiglaaaGreatS17
import Derived.Test.YtbfbgdinhiglaaaGreatS13
/- A row comes, and its group is there: do. -/
namespace Go.Proofs.YtbfbgdinhiglaaaGreat.gr
open Go.ChangeShapes Go.WideShapes Go.ChangeAt Go.RowKit
open vl pl bt
set_option linter.unusedVariables false
set_option linter.unusedSimpArgs false
attribute [local go_sem] Oper.semAt_some
/-- what a group's bags and a row must be, ahead of comes and goes -/
structure fitG (p : Pln) (r : List Cel) (y : GO) : Prop where
  bl : y.bs.length = p.aggs.length
  al : p.aggs.length ≤ 1000
  rl : r.length ≤ 1000
  col : ∀ j, j < p.aggs.length → (p.aggs.getD j (0, 0)).1 ≠ 1 → 0 ≤ (p.aggs.getD j (0, 0)).2 ∧ (p.aggs.getD j (0, 0)).2.toNat < r.length
  n : 0 ≤ y.n ∧ y.n ≤ 1099511627776
  t : ∀ j, j < y.bs.length → (y.bs.getD j (.slice none 0 0, [])).2.length ≤ 1073741824 ∧ (∀ t ∈ (y.bs.getD j (.slice none 0 0, [])).2, 0 ≤ t.2 ∧ t.2 ≤ 1099511627776) ∧ ∀ a b, a ≤ b → b < (y.bs.getD j (.slice none 0 0, [])).2.length → cmpC ((y.bs.getD j (.slice none 0 0, [])).2.getD b default).1 (r.getD (p.aggs.getD j (0, 0)).2.toNat default) < 0 → cmpC ((y.bs.getD j (.slice none 0 0, [])).2.getD a default).1 (r.getD (p.aggs.getD j (0, 0)).2.toNat default) < 0
/-- what do answers where a row comes -/
def comeRes (c : Prop) (v : Value) (st : World → Prop) (e : Ending) (w' : World) : Prop := (c ∧ e = .returned (.tuple #[.slice none 0 0, .int .i64 2])) ∨ (¬ c ∧ e = .returned (.tuple #[v, .int .i64 0]) ∧ st w')
theorem owned_lt {w : World} {base : Nat} {E : List Own1} (h : Est w base E) {K : Nat} (hK : Owned E K) : K < w.heap.size := by
  obtain ⟨o, ho, e⟩ := hK
  exact (ch.own_lt (h.own o ho) e).2
set_option maxRecDepth 100000 in
set_option maxHeartbeats 8000000 in
theorem do_come_has (p : Pln) (x : PA) (W0 w : World) (hbW : Below W0.heap.size W0 w) (hp : planAt W0 p x) {g cap : Nat} {A B : List GO} {y : GO} (h1 : OG w W0.heap.size (.slice (some ⟨g, 0, none⟩) (A ++ y :: B).length cap) (A ++ y :: B)) (hLN : (A ++ y :: B).length ≤ 1073741824)
    (ra : Option Addr) (rc : Nat) (r : List Cel) (hr : vl.rowAt W0 ra r) (hfit : fitG p r y) (hgl : p.group.length ≤ 1000) (hpl : ∀ z ∈ p.group, 0 ≤ z ∧ z < (r.length : Int)) (hrl : ∀ x ∈ A ++ y :: B, x.row.length ≤ 1000)
    (hm : ∀ i j, i ≤ j → j < (A ++ y :: B).length → cmpRows (((A ++ y :: B).map GO.grp).getD j default).row (pickR r p.group) < 0 → cmpRows (((A ++ y :: B).map GO.grp).getD i default).row (pickR r p.group) < 0)
    (hix : idxG ((A ++ y :: B).map GO.grp) (pickR r p.group) = A.length) (hhas : hasG ((A ++ y :: B).map GO.grp) (pickR r p.group) = true) (kd : Int) (hk2 : kd ≠ 2) (hk3 : kd ≠ 3) :
    Calls Tryz.prog 39 #[planV p x, .slice (some ⟨g, 0, none⟩) (A ++ y :: B).length cap, .agg #[.int .i64 kd, .slice ra r.length rc]] w fun e w' => comeRes (y.n + 1 > 1073741824 ∨ 4096 < (A ++ y :: B).length) (.slice (some ⟨g, 0, none⟩) (A ++ y :: B).length cap) (fun w' => ∃ bs, bsAt p.aggs r p.aggs.length y.bs bs ∧ OG w' W0.heap.size (.slice (some ⟨g, 0, none⟩) (A ++ y :: B).length cap) (A ++ (⟨y.rv, y.row, y.n + 1, y.bv, bs⟩ : GO) :: B)) e w' ∧ Below W0.heap.size W0 w' := by
  have hkl : (pickR r p.group).length = p.group.length := by unfold pickR; rw [List.length_map]
  have HO : Hid (OG w W0.heap.size (.slice (some ⟨g, 0, none⟩) (A ++ y :: B).length cap) (A ++ y :: B)) := h1
  have KP : Hid (∀ w1, Below W0.heap.size W0 w1 → Calls Tryz.prog 52 #[.slice ra r.length rc, .slice x.g p.group.length x.gc] w1 fun e w' => (∃ ad' c', e = .returned (.slice ad' p.group.length c') ∧ vl.rowAt w' ad' (pickR r p.group)) ∧ Below w1.heap.size w1 w') := fun w1 hb => by
    have hg := intsAt_below (show intsAt W0 x.g p.group from hp.g) hb
    refine (pick_any ra x.g rc x.gc r p.group w1 (by have := hfit.rl; omega) hgl (vl.rowAt_below hr hb) hg hpl).mono ?_
    rintro e w' ⟨⟨ad', c', rfl, ho⟩, hb2⟩
    exact ⟨⟨ad', c', by rw [hkl], vl.ownV_row ho⟩, hb2⟩
  have KS : Hid (∀ w1 ka kc, Below w.heap.size w w1 → vl.rowAt w1 ka (pickR r p.group) → Calls Tryz.prog 81 #[.slice (some ⟨g, 0, none⟩) (A ++ y :: B).length cap, .slice ka p.group.length kc, .func (.func 82) #[] #[]] w1 fun e w' => e = .returned (.tuple #[.int .i64 A.length, .bool true]) ∧ Below w1.heap.size w1 w') := fun w1 ka kc hb hk => by
    have h := seek_is (some ⟨g, 0, none⟩) cap (A ++ y :: B) W0.heap.size ka kc (pickR r p.group) w1 (HO.out.below hb) (by omega) hk (by rw [hkl]; exact hgl) hrl hm
    rw [hix, hhas, hkl] at h
    exact h
  have KC : Hid (∀ w1, Below W0.heap.size W0 w1 → Below w.heap.size w w1 → _) := fun w1 hb hbw => comes_any p x W0 w1 hb hp (HO.out.below hbw) hfit.bl hfit.al hLN ra rc r hr hfit.rl hfit.col hfit.n hfit.t
  have HNO : Hid (∀ K, w.heap.size ≤ K → ¬ Owned (headO (.slice (some ⟨g, 0, none⟩) (A ++ y :: B).length cap) (A ++ y :: B) :: (A ++ y :: B).flatMap GO.all) K) := fun K hK h => by have := owned_lt HO.out h; omega
  have hAl : A.length < (A ++ y :: B).length := by simp
  have HRR : Hid (∀ w' bs, OG w' W0.heap.size (.slice (some ⟨g, 0, none⟩) (A ++ y :: B).length cap) (A ++ (⟨y.rv, y.row, y.n + 1, y.bv, bs⟩ : GO) :: B) → w'.cell? ⟨g, A.length * 3 + 1, none⟩ = some (.int .i64 (y.n + 1))) := fun w' bs h => by
    have hh := h.head
    have eln : (A ++ y :: B).length = (A ++ (⟨y.rv, y.row, y.n + 1, y.bv, bs⟩ : GO) :: B).length := by simp
    rw [← eln] at hh
    have zc := (gcells_at (A ++ (⟨y.rv, y.row, y.n + 1, y.bv, bs⟩ : GO) :: B) A.length (by simp)).2.1
    have eAy : (A ++ (⟨y.rv, y.row, y.n + 1, y.bv, bs⟩ : GO) :: B).getD A.length default = (⟨y.rv, y.row, y.n + 1, y.bv, bs⟩ : GO) := by simp [List.getD_eq_getElem?_getD]
    rw [eAy] at zc
    exact own_cell2 hh _ _ zc
  obtain ⟨E0, hE0⟩ : ∃ E, (headO (.slice (some ⟨g, 0, none⟩) (A ++ y :: B).length cap) (A ++ y :: B) :: (A ++ y :: B).flatMap GO.all) = E := ⟨_, rfl⟩
  rw [hE0] at KC HNO
  obtain ⟨LN, hL⟩ : ∃ z, (A ++ y :: B).length = z := ⟨_, rfl⟩
  rw [hL] at KS KC hLN hAl HRR ⊢
  obtain ⟨rl, hrle⟩ : ∃ z, r.length = z := ⟨_, rfl⟩
  rw [hrle] at KP KC ⊢
  obtain ⟨CC, hCC⟩ : ∃ z : Prop, (y.n + 1 > 1073741824 ∨ 4096 < LN) = z := ⟨_, rfl⟩
  have HCC : Hid ((y.n + 1 > 1073741824 ∨ 4096 < LN) = CC) := hCC
  rw [hCC]
  clear h1 hp hr hfit hgl hpl hrl hm hix hhas hkl hE0 hL hrle HO hCC
  obtain ⟨kind, mode, low, high, size, limit, left, right, lkeys, rkeys, grouped, group, aggs⟩ := p
  obtain ⟨la, lc, rr, rc2, lk, lkc, rk, rkc, pga, pgc, ag, ac⟩ := x
  dsimp only at KP KS KC
  unfold planV at KC ⊢
  dsimp only at KC ⊢
  obtain ⟨PK, hPK⟩ : ∃ z, pickR r group = z := ⟨_, rfl⟩
  rw [hPK] at KP KS
  obtain ⟨n6, h6⟩ : ∃ n, left.length = n := ⟨_, rfl⟩
  obtain ⟨n7, h7⟩ : ∃ n, right.length = n := ⟨_, rfl⟩
  obtain ⟨n8, h8⟩ : ∃ n, lkeys.length = n := ⟨_, rfl⟩
  obtain ⟨n9, h9⟩ : ∃ n, rkeys.length = n := ⟨_, rfl⟩
  obtain ⟨n11, h11⟩ : ∃ n, group.length = n := ⟨_, rfl⟩
  obtain ⟨na, h12⟩ : ∃ n, aggs.length = n := ⟨_, rfl⟩
  simp only [h6, h7, h8, h9, h11, h12] at KP KS KC ⊢
  clear h6 h7 h8 h9 h11 h12 hPK
  have d1 : (kd == 2) = false := by simpa using hk2
  have d2 : (kd == 3) = false := by simpa using hk3
  have i1 : (0 : Int) ≤ (A.length : Int) := by omega
  have i2 : (A.length : Int) < (LN : Int) := by omega
  obtain ⟨al, hal⟩ : ∃ z, A.length = z := ⟨_, rfl⟩
  rw [hal] at KS KC HRR i1 i2
  clear hal hAl
  go_enter Tryz.func39, Tryz.ntmps39
  go_wp2_with fail
  generalize hV : (World.alloc (World.alloc w _) _) = V
  have hb0 : Below w.heap.size w V := by rw [← hV]; exact ((Below.refl _ _).alloc (Nat.le_refl _) _).alloc (by simp) _
  have hb1 : Below W0.heap.size W0 V := hbW.trans (hb0.mono hbW.size)
  have v0 : V.cell? ⟨w.heap.size, 0, none⟩ = some (.int .i64 kind) := by subst hV; go_simp
  have v1 : V.cell? ⟨w.heap.size, 1, none⟩ = some (.int .i64 mode) := by subst hV; go_simp
  have v2 : V.cell? ⟨w.heap.size, 2, none⟩ = some (.int .i64 low) := by subst hV; go_simp
  have v3 : V.cell? ⟨w.heap.size, 3, none⟩ = some (.int .i64 high) := by subst hV; go_simp
  have v4 : V.cell? ⟨w.heap.size, 4, none⟩ = some (.int .i64 size) := by subst hV; go_simp
  have v5 : V.cell? ⟨w.heap.size, 5, none⟩ = some (.int .i64 limit) := by subst hV; go_simp
  have v6 : V.cell? ⟨w.heap.size, 6, none⟩ = some (.slice la n6 lc) := by subst hV; go_simp
  have v7 : V.cell? ⟨w.heap.size, 7, none⟩ = some (.slice rr n7 rc2) := by subst hV; go_simp
  have v8 : V.cell? ⟨w.heap.size, 8, none⟩ = some (.slice lk n8 lkc) := by subst hV; go_simp
  have v9 : V.cell? ⟨w.heap.size, 9, none⟩ = some (.slice rk n9 rkc) := by subst hV; go_simp
  have v10 : V.cell? ⟨w.heap.size, 10, none⟩ = some (.bool grouped) := by subst hV; go_simp
  have v11 : V.cell? ⟨w.heap.size, 11, none⟩ = some (.slice pga n11 pgc) := by subst hV; go_simp
  have v12 : V.cell? ⟨w.heap.size, 12, none⟩ = some (.slice ag na ac) := by subst hV; go_simp
  have v13 : V.cell? ⟨w.heap.size + 1, 0, none⟩ = some (.int .i64 kd) := by subst hV; go_simp
  have v14 : V.cell? ⟨w.heap.size + 1, 1, none⟩ = some (.slice ra rl rc) := by subst hV; go_simp
  clear hV
  refine (KP.out _ hb1).mono ?_
  rintro e w1 ⟨⟨ka, kc, rfl, hov⟩, hb2⟩
  have hbw1 : Below W0.heap.size W0 w1 := hb1.trans (hb2.mono hb1.size)
  have hbe1 : Below w.heap.size w w1 := hb0.trans (hb2.mono hb0.size)
  have HOV : Hid (vl.rowAt w1 ka PK) := hov
  replace v0 := cell_later hb2 v0
  replace v1 := cell_later hb2 v1
  replace v2 := cell_later hb2 v2
  replace v3 := cell_later hb2 v3
  replace v4 := cell_later hb2 v4
  replace v5 := cell_later hb2 v5
  replace v6 := cell_later hb2 v6
  replace v7 := cell_later hb2 v7
  replace v8 := cell_later hb2 v8
  replace v9 := cell_later hb2 v9
  replace v10 := cell_later hb2 v10
  replace v11 := cell_later hb2 v11
  replace v12 := cell_later hb2 v12
  replace v13 := cell_later hb2 v13
  replace v14 := cell_later hb2 v14
  clear hov hb2 hb1 hb0
  have lv0 : w.heap.size + 1 < w1.heap.size := World.block_lt_of_cell? _ _ v13
  go_wp2_with (go_at_call 81; refine (KS.out _ ka kc hbe1 HOV.out).mono ?_; rintro e w2 ⟨rfl, hb3⟩; have hbw2 : Below W0.heap.size W0 w2 := hbw1.trans (hb3.mono hbw1.size); have hbe2 : Below w.heap.size w w2 := hbe1.trans (hb3.mono hbe1.size); have lv2 : w.heap.size + 1 < w2.heap.size := Nat.lt_of_lt_of_le lv0 hb3.size; replace v0 := cell_later hb3 v0; replace v1 := cell_later hb3 v1; replace v2 := cell_later hb3 v2; replace v3 := cell_later hb3 v3; replace v4 := cell_later hb3 v4; replace v5 := cell_later hb3 v5; replace v6 := cell_later hb3 v6; replace v7 := cell_later hb3 v7; replace v8 := cell_later hb3 v8; replace v9 := cell_later hb3 v9; replace v10 := cell_later hb3 v10; replace v11 := cell_later hb3 v11; replace v12 := cell_later hb3 v12; replace v13 := cell_later hb3 v13; replace v14 := cell_later hb3 v14)
  have HL : Hid (w.heap.size + 1 < w2.heap.size) := lv2
  go_region_held3 (fun w' => w'.cell? ⟨w.heap.size, 0, none⟩ = some (.int .i64 kind) ∧ w'.cell? ⟨w.heap.size, 1, none⟩ = some (.int .i64 mode) ∧ w'.cell? ⟨w.heap.size, 2, none⟩ = some (.int .i64 low) ∧ w'.cell? ⟨w.heap.size, 3, none⟩ = some (.int .i64 high) ∧ w'.cell? ⟨w.heap.size, 4, none⟩ = some (.int .i64 size) ∧ w'.cell? ⟨w.heap.size, 5, none⟩ = some (.int .i64 limit) ∧ w'.cell? ⟨w.heap.size, 6, none⟩ = some (.slice la n6 lc) ∧ w'.cell? ⟨w.heap.size, 7, none⟩ = some (.slice rr n7 rc2) ∧ w'.cell? ⟨w.heap.size, 8, none⟩ = some (.slice lk n8 lkc) ∧ w'.cell? ⟨w.heap.size, 9, none⟩ = some (.slice rk n9 rkc) ∧ w'.cell? ⟨w.heap.size, 10, none⟩ = some (.bool grouped) ∧ w'.cell? ⟨w.heap.size, 11, none⟩ = some (.slice pga n11 pgc) ∧ w'.cell? ⟨w.heap.size, 12, none⟩ = some (.slice ag na ac) ∧ w'.cell? ⟨w.heap.size + 1, 0, none⟩ = some (.int .i64 kd) ∧ w'.cell? ⟨w.heap.size + 1, 1, none⟩ = some (.slice ra rl rc)) (first | exact ⟨g4a v0, g4a v1, g4a v2, g4a v3, g4a v4, g4a v5, g4a v6, g4a v7, g4a v8, g4a v9, g4a v10, g4a v11, g4a v12, g4b v13, g4b v14⟩ | go_keep)
    (first | (go_at_call 86; refine (KC.out w2.drew hbw2.drew hbe2.drew).mono ?_; rintro e w4 ⟨rfl, ⟨bs, hbs, ho4⟩, hb4, hf4, hs4⟩; have g4a : ∀ {of : Nat} {v : Value}, w2.cell? ⟨w.heap.size, of, none⟩ = some v → w4.cell? ⟨w.heap.size, of, none⟩ = some v := fun hc => (World.cell?_of_block (hf4 w.heap.size (show w.heap.size < w2.heap.size by have := HL.out; omega) (HNO.out _ (Nat.le_refl _)))).trans hc; have g4b : ∀ {of : Nat} {v : Value}, w2.cell? ⟨w.heap.size + 1, of, none⟩ = some v → w4.cell? ⟨w.heap.size + 1, of, none⟩ = some v := fun hc => (World.cell?_of_block (hf4 (w.heap.size + 1) HL.out (HNO.out _ (Nat.le_succ _)))).trans hc))
  all_goals
    have q1 := HRR.out w4 bs ho4
    have HO4 : Hid (bsAt aggs r na y.bs bs ∧ OG w4 W0.heap.size (.slice (some ⟨g, 0, none⟩) LN cap) (A ++ (⟨y.rv, y.row, y.n + 1, y.bv, bs⟩ : GO) :: B)) := ⟨hbs, ho4⟩
    clear ho4 hf4 g4a g4b hbs HRR
    by_cases c1 : y.n + 1 > 1073741824
    · go_wp2
      go_ret2
      exact ⟨.inl ⟨by rw [← HCC.out]; exact .inl c1, rfl⟩, hb4⟩
    · by_cases c2 : 4096 < LN
      · have c2' : (LN : Int) > 4096 := by omega
        go_wp2
        go_ret2
        exact ⟨.inl ⟨by rw [← HCC.out]; exact .inr c2, rfl⟩, hb4⟩
      · have c2' : ¬ ((LN : Int) > 4096) := by omega
        go_wp2
        go_ret2
        exact ⟨.inr ⟨by rw [← HCC.out]; exact fun h => h.elim (fun h => by omega) (fun h => by omega), rfl, bs, HO4.out⟩, hb4⟩
end Go.Proofs.YtbfbgdinhiglaaaGreat.gr
/- A new group is put among groups of one's own. -/
namespace Go.Proofs.YtbfbgdinhiglaaaGreat.gr
open Go.ChangeShapes Go.WideShapes Go.ChangeAt Go.RowKit
open vl pl bt
set_option linter.unusedVariables false
set_option linter.unusedSimpArgs false
theorem mk_bags : ∀ (k : Nat), k ≤ 4 → ∀ w, (Instr.makeSlice 51 (.int .i64 (k : Int)) (.int .i64 (k : Int))).run Tryz.prog w = .ok (.slice (some ⟨w.heap.size, 0, none⟩) k k) (w.alloc (.cells (Array.replicate k (.slice none 0 0)) 61))
  | 0, _, w => by kernel_rfl
  | 1, _, w => by kernel_rfl
  | 2, _, w => by kernel_rfl
  | 3, _, w => by kernel_rfl
  | 4, _, w => by kernel_rfl
  | k + 5, h, w => absurd h (by omega)
theorem own_bags {w : World} {base : Nat} (hb : base ≤ w.heap.size) (T : TypeId) (k : Nat) (hk : k ≤ 4) : (w.alloc (.cells (Array.replicate k (.slice none 0 0)) T)).ownsRow base T 1 (.slice (some ⟨w.heap.size, 0, none⟩) k k) k (List.replicate k (.slice none 0 0)) :=
  ⟨by simp, .inr ⟨w.heap.size, k, Array.replicate k (.slice none 0 0), rfl, hb, (by show (w.heap.push _)[w.heap.size]? = _; simp), Nat.le_refl _, by unfold maxLen; omega, by simp, by simp⟩⟩
theorem new_map (k : Nat) : (List.replicate k ((.slice none 0 0 : Value), ([] : List Tal))).map (·.1) = List.replicate k (.slice none 0 0) := by rw [List.map_replicate]
theorem ins_new (W0 V w : World) (hbW : Below W0.heap.size W0 V) (hVw : Below V.heap.size V w) (ad : Option Addr) (cap : Nat) (A B : List GO) (h : OG V W0.heap.size (.slice ad (A ++ B).length cap) (A ++ B)) (hln : (A ++ B).length ≤ 1073741824) (oa : Option Addr) (oc : Nat) (key : List Cel) (hrow : ownV w V.heap.size (.slice oa key.length oc) key) (k : Nat) (hk : k ≤ 4) :
    Calls Tryz.prog 85 #[.slice ad (A ++ B).length cap, .int .i64 A.length, .slice (some ⟨w.heap.size + 1, 0, none⟩) 1 1] ((w.alloc (.cells (Array.replicate k (.slice none 0 0)) 61)).alloc (.cells #[.slice oa key.length oc, .int .i64 0, .slice (some ⟨w.heap.size, 0, none⟩) k k] 53)) fun e w' =>
      ∃ g cap2, e = .returned (.slice (some ⟨g, 0, none⟩) ((A ++ B).length + 1) cap2) ∧ OG w' W0.heap.size (.slice (some ⟨g, 0, none⟩) ((A ++ B).length + 1) cap2) (A ++ newGO (.slice oa key.length oc) key (.slice (some ⟨w.heap.size, 0, none⟩) k k) k :: B) ∧ Below W0.heap.size W0 w' ∧ (∀ b, b < w.heap.size → (Value.slice ad (A ++ B).length cap).ownBlock ≠ some b → w'.heap[b]? = w.heap[b]?) ∧ w.heap.size ≤ w'.heap.size ∧ ((Value.slice ad (A ++ B).length cap).ownBlock = some g ∨ w.heap.size ≤ g) := by
  have hlow : W0.heap.size ≤ w.heap.size := Nat.le_trans hbW.size hVw.size
  have b1 : Below w.heap.size w (w.alloc (.cells (Array.replicate k (.slice none 0 0)) 61)) := (Below.refl _ _).alloc (Nat.le_refl _) _
  have hE1 : Est w W0.heap.size ((newGO (.slice oa key.length oc) key (.slice (some ⟨w.heap.size, 0, none⟩) k k) k).rowO :: headO (.slice ad (A ++ B).length cap) (A ++ B) :: (A ++ B).flatMap GO.all) :=
    Est_new (x := (newGO (.slice oa key.length oc) key (.slice (some ⟨w.heap.size, 0, none⟩) k k) k).rowO) h hVw (World.ownsRow.mono hrow hbW.size) (fun g hg => (ch.own_lt hrow hg).1)
  have hE2 : Est (w.alloc (.cells (Array.replicate k (.slice none 0 0)) 61)) W0.heap.size ((newGO (.slice oa key.length oc) key (.slice (some ⟨w.heap.size, 0, none⟩) k k) k).bagsO :: (newGO (.slice oa key.length oc) key (.slice (some ⟨w.heap.size, 0, none⟩) k k) k).rowO :: headO (.slice ad (A ++ B).length cap) (A ++ B) :: (A ++ B).flatMap GO.all) :=
    Est_new (x := (newGO (.slice oa key.length oc) key (.slice (some ⟨w.heap.size, 0, none⟩) k k) k).bagsO) hE1 b1 (by
      have h9 := own_bags hlow 61 k hk
      show (w.alloc _).ownsRow _ _ _ _ (List.replicate k ((.slice none 0 0 : Value), ([] : List Tal))).length ((List.replicate k ((.slice none 0 0 : Value), ([] : List Tal))).map (·.1))
      rw [new_map, List.length_replicate]
      exact h9) (fun g hg => by cases hg; exact Nat.le_refl _)
  generalize hX : w.alloc (.cells (Array.replicate k (.slice none 0 0)) 61) = X at b1 hE2 ⊢
  have hXs : X.heap.size = w.heap.size + 1 := by rw [← hX]; simp
  have b2 : Below X.heap.size X (X.alloc (.cells #[.slice oa key.length oc, .int .i64 0, .slice (some ⟨w.heap.size, 0, none⟩) k k] 53)) := (Below.refl _ _).alloc (Nat.le_refl _) _
  have hE3 := Est_below hE2 b2
  have hcell : (X.alloc (.cells #[.slice oa key.length oc, .int .i64 0, .slice (some ⟨w.heap.size, 0, none⟩) k k] 53)).heap[w.heap.size + 1]? = some (.cells #[.slice oa key.length oc, .int .i64 0, .slice (some ⟨w.heap.size, 0, none⟩) k k] 53 (0, 0)) := by
    rw [← hXs]; show (X.heap.push _)[X.heap.size]? = _; simp
  have hYs : (X.alloc (.cells #[.slice oa key.length oc, .int .i64 0, .slice (some ⟨w.heap.size, 0, none⟩) k k] 53)).heap.size = w.heap.size + 1 + 1 := by simp [hXs]
  generalize (X.alloc (.cells #[.slice oa key.length oc, .int .i64 0, .slice (some ⟨w.heap.size, 0, none⟩) k k] 53)) = Y at b2 hE3 hcell hYs ⊢
  have hE4 : Est Y W0.heap.size (headO (.slice ad (A ++ B).length cap) (A ++ B) :: (newGO (.slice oa key.length oc) key (.slice (some ⟨w.heap.size, 0, none⟩) k k) k).rowO :: (newGO (.slice oa key.length oc) key (.slice (some ⟨w.heap.size, 0, none⟩) k k) k).bagsO :: (A ++ B).flatMap GO.all) :=
    Est_perm hE3 (perm_of (fun a => by simp only [List.count_cons]; omega))
  have hH : Y.ownsRow W0.heap.size 53 3 (.slice ad (A ++ B).length cap) (A ++ B).length (gcells A ++ gcells B) := by
    have := hE4.own _ (List.mem_cons_self ..)
    rw [← gcells_app]
    exact this
  have hHV : V.ownsRow W0.heap.size 53 3 (.slice ad (A ++ B).length cap) (A ++ B).length (gcells (A ++ B)) := h.head
  have bY : Below w.heap.size w Y := b1.trans (b2.mono (by omega))
  refine (insG_any ad (A ++ B).length cap A.length (gcells A) (gcells B) W0.heap.size (w.heap.size + 1) oa key.length oc 0 (some ⟨w.heap.size, 0, none⟩) k k Y hH (gcells_len A) (by simp) hln (by omega) hcell (fun e => by
    have h1 := (ch.own_lt hHV e.symm).2
    have h2 := hVw.size
    omega) (gcells_one B (fun x hx => h.one x (List.mem_append.2 (.inr hx))))).mono ?_
  rintro e w' ⟨g, cap2, rfl, k1, k2, k3, k4, k5⟩
  refine ⟨g, cap2, rfl, ?_, (hbW.trans ((hVw.trans (bY.mono hVw.size)).mono hbW.size)).trans k5, fun b hb hnb => ?_, by omega, ?_⟩
  · refine OG.ins hE4 k2 k3 ?_ (fun g' hg' => by cases hg'; exact k4)
    have e1 : (A ++ newGO (.slice oa key.length oc) key (.slice (some ⟨w.heap.size, 0, none⟩) k k) k :: B).length = (A ++ B).length + 1 := by simp; omega
    have e2 : gcells (A ++ newGO (.slice oa key.length oc) key (.slice (some ⟨w.heap.size, 0, none⟩) k k) k :: B) = gcells A ++ [.slice oa key.length oc, .int .i64 0, .slice (some ⟨w.heap.size, 0, none⟩) k k] ++ gcells B := by
      rw [gcells_app, List.append_assoc]; rfl
    rw [e1, e2]
    exact k1
  · exact (k3 b (by omega) hnb).trans (bY.block b hb)
  · rcases k4 with k4 | k4
    · exact .inl k4
    · exact .inr (by omega)
end Go.Proofs.YtbfbgdinhiglaaaGreat.gr
/- A row comes, and its group is new: do. -/
namespace Go.Proofs.YtbfbgdinhiglaaaGreat.gr
open Go.ChangeShapes Go.WideShapes Go.ChangeAt Go.RowKit
open vl pl bt
set_option linter.unusedVariables false
set_option linter.unusedSimpArgs false
attribute [local go_sem] Oper.semAt_some
theorem fit_new (p : Pln) (r : List Cel) (rv : Value) (key : List Cel) (bv : Value) (hal : p.aggs.length ≤ 1000) (hrl : r.length ≤ 1000) (hcol : ∀ j, j < p.aggs.length → (p.aggs.getD j (0, 0)).1 ≠ 1 → 0 ≤ (p.aggs.getD j (0, 0)).2 ∧ (p.aggs.getD j (0, 0)).2.toNat < r.length) : fitG p r (newGO rv key bv p.aggs.length) := by
  refine ⟨by show (List.replicate _ _).length = _; rw [List.length_replicate], hal, hrl, hcol, by show (0 : Int) ≤ 0 ∧ (0 : Int) ≤ _; decide, fun j hj => ?_⟩
  have hj2 : j < p.aggs.length := by
    have : j < (List.replicate p.aggs.length ((.slice none 0 0 : Value), ([] : List Tal))).length := hj
    rw [List.length_replicate] at this
    exact this
  have e : ((newGO rv key bv p.aggs.length).bs.getD j (.slice none 0 0, [])).2 = [] := by
    show ((List.replicate p.aggs.length ((.slice none 0 0 : Value), ([] : List Tal))).getD j (.slice none 0 0, [])).2 = []
    simp [List.getD_eq_getElem?_getD, hj2]
  rw [e]
  exact ⟨by simp, fun t ht => absurd ht (List.not_mem_nil), fun a b _ hb => absurd hb (by simp)⟩
set_option maxRecDepth 100000 in
set_option maxHeartbeats 8000000 in
theorem do_come_new (p : Pln) (x : PA) (W0 w : World) (hbW : Below W0.heap.size W0 w) (hp : planAt W0 p x) {ad : Option Addr} {cap : Nat} {A B : List GO} (h1 : OG w W0.heap.size (.slice ad (A ++ B).length cap) (A ++ B)) (hLN : (A ++ B).length ≤ 1000000)
    (ra : Option Addr) (rc : Nat) (r : List Cel) (hr : vl.rowAt W0 ra r) (hal : p.aggs.length ≤ 4) (hrl0 : r.length ≤ 1000) (hcol : ∀ j, j < p.aggs.length → (p.aggs.getD j (0, 0)).1 ≠ 1 → 0 ≤ (p.aggs.getD j (0, 0)).2 ∧ (p.aggs.getD j (0, 0)).2.toNat < r.length) (hgl : p.group.length ≤ 1000) (hpl : ∀ z ∈ p.group, 0 ≤ z ∧ z < (r.length : Int)) (hrl : ∀ x ∈ A ++ B, x.row.length ≤ 1000)
    (hm : ∀ i j, i ≤ j → j < (A ++ B).length → cmpRows (((A ++ B).map GO.grp).getD j default).row (pickR r p.group) < 0 → cmpRows (((A ++ B).map GO.grp).getD i default).row (pickR r p.group) < 0)
    (hix : idxG ((A ++ B).map GO.grp) (pickR r p.group) = A.length) (hhas : hasG ((A ++ B).map GO.grp) (pickR r p.group) = false) (kd : Int) (hk2 : kd ≠ 2) (hk3 : kd ≠ 3) :
    Calls Tryz.prog 39 #[planV p x, (.slice ad (A ++ B).length cap), .agg #[.int .i64 kd, .slice ra r.length rc]] w fun e w' => (((4096 < (A ++ B).length + 1) ∧ e = .returned (.tuple #[.slice none 0 0, .int .i64 2])) ∨ (¬ (4096 < (A ++ B).length + 1) ∧ ∃ v y, e = .returned (.tuple #[v, .int .i64 0]) ∧ y.row = pickR r p.group ∧ y.n = 1 ∧ bsAt p.aggs r p.aggs.length (List.replicate p.aggs.length (.slice none 0 0, [])) y.bs ∧ OG w' W0.heap.size v (A ++ y :: B))) ∧ Below W0.heap.size W0 w' := by
  have hkl : (pickR r p.group).length = p.group.length := by unfold pickR; rw [List.length_map]
  have HO : Hid (OG w W0.heap.size (.slice ad (A ++ B).length cap) (A ++ B)) := h1
  have KP : Hid (∀ w1, Below W0.heap.size W0 w1 → Calls Tryz.prog 52 #[.slice ra r.length rc, .slice x.g p.group.length x.gc] w1 fun e w' => (∃ ad' c', e = .returned (.slice ad' p.group.length c') ∧ ownV w' w1.heap.size (.slice ad' p.group.length c') (pickR r p.group)) ∧ Below w1.heap.size w1 w') := fun w1 hb => by
    have hg := intsAt_below (show intsAt W0 x.g p.group from hp.g) hb
    refine (pick_any ra x.g rc x.gc r p.group w1 (by omega) hgl (vl.rowAt_below hr hb) hg hpl).mono ?_
    rintro e w' ⟨⟨ad', c', rfl, ho⟩, hb2⟩
    rw [hkl] at ho
    exact ⟨⟨ad', c', by rw [hkl], ho⟩, hb2⟩
  have KS : Hid (∀ w1 ka kc, Below w.heap.size w w1 → vl.rowAt w1 ka (pickR r p.group) → Calls Tryz.prog 81 #[(.slice ad (A ++ B).length cap), .slice ka p.group.length kc, .func (.func 82) #[] #[]] w1 fun e w' => e = .returned (.tuple #[.int .i64 A.length, .bool false]) ∧ Below w1.heap.size w1 w') := fun w1 ka kc hb hk => by
    have h := seek_is ad cap (A ++ B) W0.heap.size ka kc (pickR r p.group) w1 (HO.out.below hb) (by omega) hk (by rw [hkl]; exact hgl) hrl hm
    rw [hix, hhas, hkl] at h
    exact h
  have KI : Hid (∀ V w2 oa oc, Below W0.heap.size W0 V → Below w.heap.size w V → Below V.heap.size V w2 → ownV w2 V.heap.size (.slice oa p.group.length oc) (pickR r p.group) → Calls Tryz.prog 85 #[(.slice ad (A ++ B).length cap), .int .i64 A.length, .slice (some ⟨w2.heap.size + 1, 0, none⟩) 1 1] ((w2.alloc (.cells (Array.replicate p.aggs.length (.slice none 0 0)) 61)).alloc (.cells #[.slice oa p.group.length oc, .int .i64 0, .slice (some ⟨w2.heap.size, 0, none⟩) p.aggs.length p.aggs.length] 53)) fun e w' => ∃ g cap2, e = .returned (.slice (some ⟨g, 0, none⟩) ((A ++ B).length + 1) cap2) ∧ OG w' W0.heap.size (.slice (some ⟨g, 0, none⟩) ((A ++ B).length + 1) cap2) (A ++ newGO (.slice oa p.group.length oc) (pickR r p.group) (.slice (some ⟨w2.heap.size, 0, none⟩) p.aggs.length p.aggs.length) p.aggs.length :: B) ∧ Below W0.heap.size W0 w' ∧ (∀ b, b < w2.heap.size → (Value.slice ad (A ++ B).length cap).ownBlock ≠ some b → w'.heap[b]? = w2.heap[b]?) ∧ w2.heap.size ≤ w'.heap.size ∧ ((Value.slice ad (A ++ B).length cap).ownBlock = some g ∨ w2.heap.size ≤ g)) := fun V w2 oa oc hb0 hbw hV ho => by
    have h := ins_new W0 V w2 hb0 hV ad cap A B (HO.out.below hbw) (by omega) oa oc (pickR r p.group) (by rw [hkl]; exact ho) p.aggs.length hal
    rw [hkl] at h
    exact h
  have KC : Hid (∀ w1 g cap2 oa oc bb, Below W0.heap.size W0 w1 → OG w1 W0.heap.size (.slice (some ⟨g, 0, none⟩) ((A ++ B).length + 1) cap2) (A ++ newGO (.slice oa p.group.length oc) (pickR r p.group) (.slice (some ⟨bb, 0, none⟩) p.aggs.length p.aggs.length) p.aggs.length :: B) → Calls Tryz.prog 86 #[planV p x, .pointer (some ⟨g, A.length * 3, none⟩), .slice ra r.length rc] w1 fun e w' => e = .returned (.tuple #[]) ∧ (∃ y, y.row = pickR r p.group ∧ y.n = 1 ∧ bsAt p.aggs r p.aggs.length (List.replicate p.aggs.length (.slice none 0 0, [])) y.bs ∧ OG w' W0.heap.size (.slice (some ⟨g, 0, none⟩) ((A ++ B).length + 1) cap2) (A ++ y :: B) ∧ w'.cell? ⟨g, A.length * 3 + 1, none⟩ = some (.int .i64 1)) ∧ Below W0.heap.size W0 w' ∧ (∀ K, K < w1.heap.size → ¬ Owned (headO (.slice (some ⟨g, 0, none⟩) ((A ++ B).length + 1) cap2) (A ++ newGO (.slice oa p.group.length oc) (pickR r p.group) (.slice (some ⟨bb, 0, none⟩) p.aggs.length p.aggs.length) p.aggs.length :: B) :: (A ++ newGO (.slice oa p.group.length oc) (pickR r p.group) (.slice (some ⟨bb, 0, none⟩) p.aggs.length p.aggs.length) p.aggs.length :: B).flatMap GO.all) K → w'.heap[K]? = w1.heap[K]?) ∧ w1.heap.size ≤ w'.heap.size) := fun w1 g cap2 oa oc bb hb ho => by
    have e1 : (A ++ newGO (.slice oa p.group.length oc) (pickR r p.group) (.slice (some ⟨bb, 0, none⟩) p.aggs.length p.aggs.length) p.aggs.length :: B).length = (A ++ B).length + 1 := by simp; omega
    have hf := fit_new p r (.slice oa p.group.length oc) (pickR r p.group) (.slice (some ⟨bb, 0, none⟩) p.aggs.length p.aggs.length) (by omega) hrl0 hcol
    have h := comes_any p x W0 w1 hb hp (by rw [e1]; exact ho) hf.bl hf.al (by rw [e1]; omega) ra rc r hr hrl0 hcol hf.n hf.t
    rw [e1] at h
    refine h.mono ?_
    rintro e w' ⟨rfl, ⟨bs, hbs, ho4⟩, hb4, hf4, hs4⟩
    refine ⟨rfl, ⟨⟨.slice oa p.group.length oc, pickR r p.group, 1, .slice (some ⟨bb, 0, none⟩) p.aggs.length p.aggs.length, bs⟩, rfl, rfl, hbs, ho4, ?_⟩, hb4, hf4, hs4⟩
    have hh := ho4.head
    have zc := (gcells_at (A ++ (⟨.slice oa p.group.length oc, pickR r p.group, 0 + 1, .slice (some ⟨bb, 0, none⟩) p.aggs.length p.aggs.length, bs⟩ : GO) :: B) A.length (by simp)).2.1
    have eAy : (A ++ (⟨.slice oa p.group.length oc, pickR r p.group, 0 + 1, .slice (some ⟨bb, 0, none⟩) p.aggs.length p.aggs.length, bs⟩ : GO) :: B).getD A.length default = (⟨.slice oa p.group.length oc, pickR r p.group, 0 + 1, .slice (some ⟨bb, 0, none⟩) p.aggs.length p.aggs.length, bs⟩ : GO) := by simp [List.getD_eq_getElem?_getD]
    rw [eAy] at zc
    have e2 : (A ++ (⟨.slice oa p.group.length oc, pickR r p.group, 0 + 1, .slice (some ⟨bb, 0, none⟩) p.aggs.length p.aggs.length, bs⟩ : GO) :: B).length = (A ++ B).length + 1 := by simp; omega
    have hh2 : w'.ownsRow W0.heap.size 53 3 (.slice (some ⟨g, 0, none⟩) ((A ++ B).length + 1) cap2) ((A ++ B).length + 1) (gcells (A ++ (⟨.slice oa p.group.length oc, pickR r p.group, 0 + 1, .slice (some ⟨bb, 0, none⟩) p.aggs.length p.aggs.length, bs⟩ : GO) :: B)) := by rw [← e2]; rw [← e2] at hh; exact hh
    exact own_cell2 hh2 _ _ zc
  have HNO : Hid (∀ (w2 : World) g cap2 oa oc K, w.heap.size ≤ K → K < w.heap.size + 2 → w.heap.size + 2 ≤ w2.heap.size → (∀ b, (Value.slice oa p.group.length oc).ownBlock = some b → w.heap.size + 2 ≤ b) → ((Value.slice ad (A ++ B).length cap).ownBlock = some g ∨ w2.heap.size ≤ g) → ¬ Owned (headO (.slice (some ⟨g, 0, none⟩) ((A ++ B).length + 1) cap2) (A ++ newGO (.slice oa p.group.length oc) (pickR r p.group) (.slice (some ⟨w2.heap.size, 0, none⟩) p.aggs.length p.aggs.length) p.aggs.length :: B) :: (A ++ newGO (.slice oa p.group.length oc) (pickR r p.group) (.slice (some ⟨w2.heap.size, 0, none⟩) p.aggs.length p.aggs.length) p.aggs.length :: B).flatMap GO.all) K) := fun w2 g cap2 oa oc K hK1 hK2 h2 hrow hg => by
    rintro ⟨o, ho, e⟩
    have old : ∀ x ∈ A ++ B, ∀ o ∈ x.all, o.v.ownBlock = some K → False := fun x hx o ho e => by
      have := owned_lt HO.out ⟨o, List.mem_cons_of_mem _ (List.mem_flatMap.2 ⟨x, hx, ho⟩), e⟩
      omega
    rcases List.mem_cons.1 ho with rfl | ho
    · have e1 : g = K := by have : some g = some K := e; injection this
      rcases hg with hg | hg
      · have := (ch.own_lt HO.out.head hg).2
        omega
      · omega
    · obtain ⟨x, hx, hox⟩ := List.mem_flatMap.1 ho
      rcases List.mem_append.1 hx with hx | hx
      · exact old x (List.mem_append.2 (.inl hx)) o hox e
      · rcases List.mem_cons.1 hx with rfl | hx
        · rcases List.mem_cons.1 hox with rfl | hox
          · have := hrow K e; omega
          · rcases List.mem_cons.1 hox with rfl | hox
            · have e1 : w2.heap.size = K := by have : some w2.heap.size = some K := e; injection this
              omega
            · obtain ⟨b, hb, rfl⟩ := List.mem_map.1 hox
              have hb2 : b = (.slice none 0 0, []) := (List.mem_replicate.1 hb).2
              rw [hb2] at e
              cases e
        · exact old x (List.mem_append.2 (.inr hx)) o hox e
  have HAB : Hid (∀ K, w.heap.size ≤ K → (Value.slice ad (A ++ B).length cap).ownBlock ≠ some K) := fun K hK e => by have := (ch.own_lt HO.out.head e).2; omega
  have hAl : A.length ≤ (A ++ B).length := by simp
  have hmk : ∀ w, (Instr.makeSlice 51 (.int .i64 (p.aggs.length : Int)) (.int .i64 (p.aggs.length : Int))).run Tryz.prog w = .ok (.slice (some ⟨w.heap.size, 0, none⟩) p.aggs.length p.aggs.length) (w.alloc (.cells (Array.replicate p.aggs.length (.slice none 0 0)) 61)) := mk_bags p.aggs.length hal
  obtain ⟨LN, hL⟩ : ∃ z, (A ++ B).length = z := ⟨_, rfl⟩
  rw [hL] at KS KI KC HNO HAB hLN hAl ⊢
  obtain ⟨rl, hrle⟩ : ∃ z, r.length = z := ⟨_, rfl⟩
  rw [hrle] at KP KC ⊢
  obtain ⟨CC, hCC⟩ : ∃ z : Prop, (4096 < LN + 1) = z := ⟨_, rfl⟩
  have HCC : Hid ((4096 < LN + 1) = CC) := hCC
  rw [hCC]
  clear h1 hp hr hgl hpl hrl hm hix hhas hkl hL hrle HO hCC hcol hrl0 hal
  obtain ⟨kind, mode, low, high, size, limit, left, right, lkeys, rkeys, grouped, group, aggs⟩ := p
  obtain ⟨la, lc, rr, rc2, lk, lkc, rk, rkc, pga, pgc, ag, ac⟩ := x
  dsimp only at KP KS KI KC HNO hmk ⊢
  unfold planV at KC ⊢
  dsimp only at KC ⊢
  obtain ⟨PK, hPK⟩ : ∃ z, pickR r group = z := ⟨_, rfl⟩
  rw [hPK] at KP KS KI KC HNO ⊢
  obtain ⟨n6, h6⟩ : ∃ n, left.length = n := ⟨_, rfl⟩
  obtain ⟨n7, h7⟩ : ∃ n, right.length = n := ⟨_, rfl⟩
  obtain ⟨n8, h8⟩ : ∃ n, lkeys.length = n := ⟨_, rfl⟩
  obtain ⟨n9, h9⟩ : ∃ n, rkeys.length = n := ⟨_, rfl⟩
  obtain ⟨n11, h11⟩ : ∃ n, group.length = n := ⟨_, rfl⟩
  obtain ⟨na, h12⟩ : ∃ n, aggs.length = n := ⟨_, rfl⟩
  simp only [h6, h7, h8, h9, h11, h12] at KP KS KI KC HNO hmk ⊢
  clear h6 h7 h8 h9 h11 h12
  have HPK : Hid (pickR r group = PK) := hPK
  clear hPK
  have d1 : (kd == 2) = false := by simpa using hk2
  have d2 : (kd == 3) = false := by simpa using hk3
  have i1 : (0 : Int) ≤ (A.length : Int) := by omega
  have i2 : (A.length : Int) < (LN : Int) + 1 := by omega
  have i3 : (A.length : Int) < ((LN + 1 : Nat) : Int) := by omega
  obtain ⟨al, hal⟩ : ∃ z, A.length = z := ⟨_, rfl⟩
  rw [hal] at KS KI KC i1 i2 i3 hAl
  clear hal
  go_enter Tryz.func39, Tryz.ntmps39
  go_wp2_with fail
  generalize hV : (World.alloc (World.alloc w _) _) = V
  have hb0 : Below w.heap.size w V := by rw [← hV]; exact ((Below.refl _ _).alloc (Nat.le_refl _) _).alloc (by simp) _
  have hb1 : Below W0.heap.size W0 V := hbW.trans (hb0.mono hbW.size)
  have hVs : V.heap.size = w.heap.size + 1 + 1 := by rw [← hV]; simp
  have v0 : V.cell? ⟨w.heap.size, 0, none⟩ = some (.int .i64 kind) := by subst hV; go_simp
  have v1 : V.cell? ⟨w.heap.size, 1, none⟩ = some (.int .i64 mode) := by subst hV; go_simp
  have v2 : V.cell? ⟨w.heap.size, 2, none⟩ = some (.int .i64 low) := by subst hV; go_simp
  have v3 : V.cell? ⟨w.heap.size, 3, none⟩ = some (.int .i64 high) := by subst hV; go_simp
  have v4 : V.cell? ⟨w.heap.size, 4, none⟩ = some (.int .i64 size) := by subst hV; go_simp
  have v5 : V.cell? ⟨w.heap.size, 5, none⟩ = some (.int .i64 limit) := by subst hV; go_simp
  have v6 : V.cell? ⟨w.heap.size, 6, none⟩ = some (.slice la n6 lc) := by subst hV; go_simp
  have v7 : V.cell? ⟨w.heap.size, 7, none⟩ = some (.slice rr n7 rc2) := by subst hV; go_simp
  have v8 : V.cell? ⟨w.heap.size, 8, none⟩ = some (.slice lk n8 lkc) := by subst hV; go_simp
  have v9 : V.cell? ⟨w.heap.size, 9, none⟩ = some (.slice rk n9 rkc) := by subst hV; go_simp
  have v10 : V.cell? ⟨w.heap.size, 10, none⟩ = some (.bool grouped) := by subst hV; go_simp
  have v11 : V.cell? ⟨w.heap.size, 11, none⟩ = some (.slice pga n11 pgc) := by subst hV; go_simp
  have v12 : V.cell? ⟨w.heap.size, 12, none⟩ = some (.slice ag na ac) := by subst hV; go_simp
  have v13 : V.cell? ⟨w.heap.size + 1, 0, none⟩ = some (.int .i64 kd) := by subst hV; go_simp
  have v14 : V.cell? ⟨w.heap.size + 1, 1, none⟩ = some (.slice ra rl rc) := by subst hV; go_simp
  clear hV
  refine (KP.out _ hb1).mono ?_
  rintro e w1 ⟨⟨oa, oc, rfl, hov⟩, hb2⟩
  have hbw1 : Below W0.heap.size W0 w1 := hb1.trans (hb2.mono hb1.size)
  have hbe1 : Below w.heap.size w w1 := hb0.trans (hb2.mono hb0.size)
  have HOV : Hid (ownV w1 V.heap.size (.slice oa n11 oc) PK ∧ PK.length = n11) := by
    refine ⟨hov, ?_⟩
    have e := own_is hov
    injection e with _ e2 _
    exact e2.symm
  replace v0 := cell_later hb2 v0
  replace v1 := cell_later hb2 v1
  replace v2 := cell_later hb2 v2
  replace v3 := cell_later hb2 v3
  replace v4 := cell_later hb2 v4
  replace v5 := cell_later hb2 v5
  replace v6 := cell_later hb2 v6
  replace v7 := cell_later hb2 v7
  replace v8 := cell_later hb2 v8
  replace v9 := cell_later hb2 v9
  replace v10 := cell_later hb2 v10
  replace v11 := cell_later hb2 v11
  replace v12 := cell_later hb2 v12
  replace v13 := cell_later hb2 v13
  replace v14 := cell_later hb2 v14
  have HVB : Hid (Below W0.heap.size W0 V ∧ Below w.heap.size w V ∧ Below V.heap.size V w1) := ⟨hb1, hb0, hb2⟩
  clear hov hb2 hb1 hb0
  have lv0 : w.heap.size + 1 < w1.heap.size := World.block_lt_of_cell? _ _ v13
  go_wp2_with (first
    | (go_at_call 81; refine (KS.out _ oa oc hbe1 (by have h := HOV.out.1; rw [← HOV.out.2] at h; exact vl.ownV_row h)).mono ?_; rintro e w2 ⟨rfl, hb3⟩; have hbw2 : Below W0.heap.size W0 w2 := hbw1.trans (hb3.mono hbw1.size); have hbe2 : Below w.heap.size w w2 := hbe1.trans (hb3.mono hbe1.size); have HVB2 : Hid (Below V.heap.size V w2) := HVB.out.2.2.trans (hb3.mono HVB.out.2.2.size); have HOV2 : Hid (ownV w2 V.heap.size (.slice oa n11 oc) PK) := ch.own_below HOV.out.1 hb3; have lv2 : w.heap.size + 1 < w2.heap.size := Nat.lt_of_lt_of_le lv0 hb3.size; replace v0 := cell_later hb3 v0; replace v1 := cell_later hb3 v1; replace v2 := cell_later hb3 v2; replace v3 := cell_later hb3 v3; replace v4 := cell_later hb3 v4; replace v5 := cell_later hb3 v5; replace v6 := cell_later hb3 v6; replace v7 := cell_later hb3 v7; replace v8 := cell_later hb3 v8; replace v9 := cell_later hb3 v9; replace v10 := cell_later hb3 v10; replace v11 := cell_later hb3 v11; replace v12 := cell_later hb3 v12; replace v13 := cell_later hb3 v13; replace v14 := cell_later hb3 v14)
    | (go_at_call 85; refine (KI.out V w2 oa oc HVB.out.1 HVB.out.2.1 HVB2.out HOV2.out).mono ?_; rintro e w3 ⟨g, gc, rfl, ho3, hb3w, hfr, hsz3, hat3⟩))
  have g3a : ∀ {of : Nat} {v : Value}, w2.cell? ⟨w.heap.size, of, none⟩ = some v → w3.cell? ⟨w.heap.size, of, none⟩ = some v := fun hc => (World.cell?_of_block (hfr w.heap.size (by omega) (HAB.out _ (Nat.le_refl _)))).trans hc
  have g3b : ∀ {of : Nat} {v : Value}, w2.cell? ⟨w.heap.size + 1, of, none⟩ = some v → w3.cell? ⟨w.heap.size + 1, of, none⟩ = some v := fun hc => (World.cell?_of_block (hfr (w.heap.size + 1) (by omega) (HAB.out _ (Nat.le_succ _)))).trans hc
  replace v0 := g3a v0
  replace v1 := g3a v1
  replace v2 := g3a v2
  replace v3 := g3a v3
  replace v4 := g3a v4
  replace v5 := g3a v5
  replace v6 := g3a v6
  replace v7 := g3a v7
  replace v8 := g3a v8
  replace v9 := g3a v9
  replace v10 := g3a v10
  replace v11 := g3a v11
  replace v12 := g3a v12
  replace v13 := g3b v13
  replace v14 := g3b v14
  have HRO : Hid (∀ b, (Value.slice oa n11 oc).ownBlock = some b → w.heap.size + 2 ≤ b) := fun b hb => by have := (ch.own_lt HOV2.out hb).1; omega
  have HO3 : Hid (OG w3 W0.heap.size (.slice (some ⟨g, 0, none⟩) (LN + 1) gc) (A ++ newGO (.slice oa n11 oc) PK (.slice (some ⟨w2.heap.size, 0, none⟩) na na) na :: B)) := ho3
  have HAT : Hid ((Value.slice ad LN cap).ownBlock = some g ∨ w2.heap.size ≤ g) := hat3
  have HL : Hid (w.heap.size + 1 < w2.heap.size ∧ w2.heap.size ≤ w3.heap.size) := ⟨lv2, hsz3⟩
  clear g3a g3b hfr ho3 hat3 KI KP KS hmk
  go_region_held3 (fun w' => w'.cell? ⟨w.heap.size, 0, none⟩ = some (.int .i64 kind) ∧ w'.cell? ⟨w.heap.size, 1, none⟩ = some (.int .i64 mode) ∧ w'.cell? ⟨w.heap.size, 2, none⟩ = some (.int .i64 low) ∧ w'.cell? ⟨w.heap.size, 3, none⟩ = some (.int .i64 high) ∧ w'.cell? ⟨w.heap.size, 4, none⟩ = some (.int .i64 size) ∧ w'.cell? ⟨w.heap.size, 5, none⟩ = some (.int .i64 limit) ∧ w'.cell? ⟨w.heap.size, 6, none⟩ = some (.slice la n6 lc) ∧ w'.cell? ⟨w.heap.size, 7, none⟩ = some (.slice rr n7 rc2) ∧ w'.cell? ⟨w.heap.size, 8, none⟩ = some (.slice lk n8 lkc) ∧ w'.cell? ⟨w.heap.size, 9, none⟩ = some (.slice rk n9 rkc) ∧ w'.cell? ⟨w.heap.size, 10, none⟩ = some (.bool grouped) ∧ w'.cell? ⟨w.heap.size, 11, none⟩ = some (.slice pga n11 pgc) ∧ w'.cell? ⟨w.heap.size, 12, none⟩ = some (.slice ag na ac) ∧ w'.cell? ⟨w.heap.size + 1, 0, none⟩ = some (.int .i64 kd) ∧ w'.cell? ⟨w.heap.size + 1, 1, none⟩ = some (.slice ra rl rc)) (first | exact ⟨g4a v0, g4a v1, g4a v2, g4a v3, g4a v4, g4a v5, g4a v6, g4a v7, g4a v8, g4a v9, g4a v10, g4a v11, g4a v12, g4b v13, g4b v14⟩ | go_keep)
    (first | (go_at_call 86; refine (KC.out w3.drew g gc oa oc w2.heap.size hb3w.drew (HO3.out.below (Below.refl _ _).drew)).mono ?_; rintro e w4 ⟨rfl, ⟨yy, hy1, hy2, hy3, ho4, q1⟩, hb4, hf4, hs4⟩; have g4a : ∀ {of : Nat} {v : Value}, w3.cell? ⟨w.heap.size, of, none⟩ = some v → w4.cell? ⟨w.heap.size, of, none⟩ = some v := fun hc => (World.cell?_of_block (hf4 w.heap.size (show w.heap.size < w3.heap.size by have := HL.out; omega) (HNO.out w2 g gc oa oc _ (Nat.le_refl _) (by omega) (by have := HL.out; omega) HRO.out HAT.out))).trans hc; have g4b : ∀ {of : Nat} {v : Value}, w3.cell? ⟨w.heap.size + 1, of, none⟩ = some v → w4.cell? ⟨w.heap.size + 1, of, none⟩ = some v := fun hc => (World.cell?_of_block (hf4 (w.heap.size + 1) (show w.heap.size + 1 < w3.heap.size by have := HL.out; omega) (HNO.out w2 g gc oa oc _ (by omega) (by omega) (by have := HL.out; omega) HRO.out HAT.out))).trans hc))
  all_goals
    have HO4 : Hid (yy.row = PK ∧ yy.n = 1 ∧ bsAt aggs r na (List.replicate na (.slice none 0 0, [])) yy.bs ∧ OG w4 W0.heap.size (.slice (some ⟨g, 0, none⟩) (LN + 1) gc) (A ++ yy :: B)) := ⟨hy1, hy2, hy3, ho4⟩
    clear ho4 hf4 g4a g4b hy1 hy2 hy3
    by_cases c2 : 4096 < LN + 1
    · have c2' : (LN : Int) + 1 > 4096 := by omega
      go_wp2
      go_ret2
      exact ⟨.inl ⟨by rw [← HCC.out]; exact c2, rfl⟩, hb4⟩
    · have c2' : ¬ ((LN : Int) + 1 > 4096) := by omega
      go_wp2
      go_ret2
      exact ⟨.inr ⟨by rw [← HCC.out]; exact c2, _, rfl, yy, HO4.out⟩, hb4⟩
end Go.Proofs.YtbfbgdinhiglaaaGreat.gr
