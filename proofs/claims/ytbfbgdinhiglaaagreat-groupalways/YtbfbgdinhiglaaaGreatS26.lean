import Derived.Test.YtbfbgdinhiglaaaGreatS24
import Derived.Test.YtbfbgdinhiglaaaGreatGrpGoesAny
/- A row goes, and its group is there: do. -/
namespace Go.Proofs.YtbfbgdinhiglaaaGreat.gr
open Go.ChangeShapes Go.WideShapes Go.ChangeAt Go.RowKit
open vl pl bt
set_option linter.unusedVariables false
set_option linter.unusedSimpArgs false
attribute [local go_sem] Oper.semAt_some
/-- groups in which one is left out, in memory -/
theorem OG.cut {w w2 : World} {base g cap : Nat} {A B : List GO} {x : GO} (h : OG w base (.slice (some ⟨g, 0, none⟩) (A ++ x :: B).length cap) (A ++ x :: B)) (hown : w2.ownsRow base 53 3 (.slice (some ⟨g, 0, none⟩) (A ++ B).length cap) (A ++ B).length (gcells A ++ gcells B)) (hblk : ∀ b, b ≠ g → w2.heap[b]? = w.heap[b]?) (hs : w2.heap.size = w.heap.size) : OG w2 base (.slice (some ⟨g, 0, none⟩) (A ++ B).length cap) (A ++ B) :=
  OG.del h (by omega) (fun b _ hb => hblk b (fun e => hb (by rw [e]; rfl))) (by rw [gcells_app]; exact hown) (fun g' hg' => .inl hg')
/-- what do answers where a row goes -/
def goRes (gb : Bool) (z : Prop) (v : Value) (st : World → Prop) (dl : Value → World → Prop) (e : Ending) (w' : World) : Prop := (gb = false ∧ e = .returned (.tuple #[.slice none 0 0, .int .i64 9])) ∨ (gb = true ∧ ¬ z ∧ e = .returned (.tuple #[v, .int .i64 0]) ∧ st w') ∨ (gb = true ∧ z ∧ ∃ v', e = .returned (.tuple #[v', .int .i64 0]) ∧ dl v' w')
set_option maxRecDepth 100000 in
set_option maxHeartbeats 8000000 in
theorem do_go_has (p : Pln) (x : PA) (W0 w : World) (hbW : Below W0.heap.size W0 w) (hp : planAt W0 p x) {g cap : Nat} {A B : List GO} {y : GO} (h1 : OG w W0.heap.size (.slice (some ⟨g, 0, none⟩) (A ++ y :: B).length cap) (A ++ y :: B)) (hLN : (A ++ y :: B).length ≤ 1073741824)
    (ra : Option Addr) (rc : Nat) (r : List Cel) (hr : vl.rowAt W0 ra r) (hfit : fitG p r y) (hgl : p.group.length ≤ 1000) (hpl : ∀ z ∈ p.group, 0 ≤ z ∧ z < (r.length : Int)) (hrl : ∀ x ∈ A ++ y :: B, x.row.length ≤ 1000)
    (hm : ∀ i j, i ≤ j → j < (A ++ y :: B).length → cmpRows (((A ++ y :: B).map GO.grp).getD j default).row (pickR r p.group) < 0 → cmpRows (((A ++ y :: B).map GO.grp).getD i default).row (pickR r p.group) < 0)
    (hix : idxG ((A ++ y :: B).map GO.grp) (pickR r p.group) = A.length) (hhas : hasG ((A ++ y :: B).map GO.grp) (pickR r p.group) = true) (kd : Int) (hkd : kd = 2 ∨ kd = 3) :
    Calls Tryz.prog 39 #[planV p x, .slice (some ⟨g, 0, none⟩) (A ++ y :: B).length cap, .agg #[.int .i64 kd, .slice ra r.length rc]] w fun e w' => goRes (goesB p.aggs r y.bs) (y.n - 1 = 0) (.slice (some ⟨g, 0, none⟩) (A ++ y :: B).length cap) (fun w' => ∃ bs, bsGo p.aggs r p.aggs.length y.bs bs ∧ OG w' W0.heap.size (.slice (some ⟨g, 0, none⟩) (A ++ y :: B).length cap) (A ++ (⟨y.rv, y.row, y.n - 1, y.bv, bs⟩ : GO) :: B)) (fun v' w' => OG w' W0.heap.size v' (A ++ B)) e w' ∧ Below W0.heap.size W0 w' := by
  have hkl : (pickR r p.group).length = p.group.length := by unfold pickR; rw [List.length_map]
  have HO : Hid (OG w W0.heap.size (.slice (some ⟨g, 0, none⟩) (A ++ y :: B).length cap) (A ++ y :: B)) := h1
  have KP : Hid (∀ w1, Below W0.heap.size W0 w1 → Calls Tryz.prog 52 #[.slice ra r.length rc, .slice x.g p.group.length x.gc] w1 fun e w' => (∃ ad' c', e = .returned (.slice ad' p.group.length c') ∧ vl.rowAt w' ad' (pickR r p.group)) ∧ Below w1.heap.size w1 w') := fun w1 hb => by
    have hg := intsAt_below (show intsAt W0 x.g p.group from hp.g) hb
    refine (pick_any ra x.g rc x.gc r p.group w1 (by have := hfit.rl; omega) hgl (vl.rowAt_below hr hb) hg hpl).mono ?_
    rintro e w' ⟨⟨ad', c', rfl, ho⟩, hb2⟩
    exact ⟨⟨ad', c', by rw [hkl], vl.ownV_row ho⟩, hb2⟩
  have KS : Hid (∀ w1 ka kc, Below w.heap.size w w1 → vl.rowAt w1 ka (pickR r p.group) → Calls Tryz.prog 81 #[.slice (some ⟨g, 0, none⟩) (A ++ y :: B).length cap, .slice ka p.group.length kc, .func (.func 82) #[] #[]] w1 fun e w' => e = .returned (.tuple #[.int .i64 A.length, .bool true]) ∧ Below w1.heap.size w1 w') := fun w1 ka kc hb hk => by
    have h := seek_is (some ⟨g, 0, none⟩) cap (A ++ y :: B) W0.heap.size ka kc (pickR r p.group) w1 (HO.out.below hb) (by omega) hk (by rw [hkl]; exact hgl) hrl hm
    rw [hix, hhas, hkl] at h
    exact h
  have KC : Hid (∀ w1, Below W0.heap.size W0 w1 → Below w.heap.size w w1 → _) := fun w1 hb hbw => goes_any p x W0 w1 hb hp (HO.out.below hbw) hfit.bl hfit.al hLN ra rc r hr hfit.rl hfit.col hfit.n hfit.t
  have HNO : Hid (∀ K, w.heap.size ≤ K → ¬ Owned (headO (.slice (some ⟨g, 0, none⟩) (A ++ y :: B).length cap) (A ++ y :: B) :: (A ++ y :: B).flatMap GO.all) K) := fun K hK h => by have := owned_lt HO.out h; omega
  have hAl : A.length < (A ++ y :: B).length := by simp
  have HRR : Hid (∀ w' bs, OG w' W0.heap.size (.slice (some ⟨g, 0, none⟩) (A ++ y :: B).length cap) (A ++ (⟨y.rv, y.row, y.n - 1, y.bv, bs⟩ : GO) :: B) → w'.cell? ⟨g, A.length * 3 + 1, none⟩ = some (.int .i64 (y.n - 1))) := fun w' bs h => by
    have hh := h.head
    have eln : (A ++ y :: B).length = (A ++ (⟨y.rv, y.row, y.n - 1, y.bv, bs⟩ : GO) :: B).length := by simp
    rw [← eln] at hh
    have zc := (gcells_at (A ++ (⟨y.rv, y.row, y.n - 1, y.bv, bs⟩ : GO) :: B) A.length (by simp)).2.1
    have eAy : (A ++ (⟨y.rv, y.row, y.n - 1, y.bv, bs⟩ : GO) :: B).getD A.length default = (⟨y.rv, y.row, y.n - 1, y.bv, bs⟩ : GO) := by simp [List.getD_eq_getElem?_getD]
    rw [eAy] at zc
    exact own_cell2 hh _ _ zc
  have KDL : Hid (∀ w' bs w1, OG w' W0.heap.size (.slice (some ⟨g, 0, none⟩) (A ++ y :: B).length cap) (A ++ (⟨y.rv, y.row, y.n - 1, y.bv, bs⟩ : GO) :: B) → Below w'.heap.size w' w1 → Calls Tryz.prog 84 #[.slice (some ⟨g, 0, none⟩) (A ++ y :: B).length cap, .int .i64 A.length, .int .i64 ((A.length : Int) + 1)] w1 fun e w5 => ∃ v', e = .returned v' ∧ OG w5 W0.heap.size v' (A ++ B) ∧ Below W0.heap.size w1 w5) := fun w' bs w1 h hb => by
    have eln : (A ++ y :: B).length = (A ++ (⟨y.rv, y.row, y.n - 1, y.bv, bs⟩ : GO) :: B).length := by simp
    have h2 := h.below hb
    rw [eln] at h2
    have hh := h2.head
    have hgl := ch.own_lt hh (g := g) rfl
    have e3 : (A ++ (⟨y.rv, y.row, y.n - 1, y.bv, bs⟩ : GO) :: B).length = A.length + 1 + B.length := by simp; omega
    have e4 : gcells (A ++ (⟨y.rv, y.row, y.n - 1, y.bv, bs⟩ : GO) :: B) = gcells A ++ [y.rv, .int .i64 (y.n - 1), y.bv] ++ gcells B := by rw [gcells_app, List.append_assoc]; rfl
    rw [e3, e4] at hh
    have hd := delG_any g B.length cap A.length (gcells A) [y.rv, .int .i64 (y.n - 1), y.bv] (gcells B) W0.heap.size w1 hh (gcells_len A) rfl (by rw [← e3, ← eln]; exact hLN) (gcells_one B (fun z hz => h2.one z (List.mem_append.2 (.inr (List.mem_cons_of_mem _ hz)))))
    rw [← e3, ← eln] at hd
    refine hd.mono ?_
    rintro e w5 ⟨rfl, k1, k2, k3, k4⟩
    refine ⟨_, rfl, ?_, k4.mono hgl.1⟩
    have e5 : A.length + B.length = (A ++ B).length := by simp
    rw [e5] at k1 ⊢
    exact h2.cut k1 k2 k3
  obtain ⟨E0, hE0⟩ : ∃ E, (headO (.slice (some ⟨g, 0, none⟩) (A ++ y :: B).length cap) (A ++ y :: B) :: (A ++ y :: B).flatMap GO.all) = E := ⟨_, rfl⟩
  rw [hE0] at KC HNO
  obtain ⟨LN, hL⟩ : ∃ z, (A ++ y :: B).length = z := ⟨_, rfl⟩
  rw [hL] at KS KC hLN hAl HRR KDL ⊢
  obtain ⟨rl, hrle⟩ : ∃ z, r.length = z := ⟨_, rfl⟩
  rw [hrle] at KP KC ⊢
  obtain ⟨GB, hGB⟩ : ∃ z, goesB p.aggs r y.bs = z := ⟨_, rfl⟩
  rw [hGB] at KC ⊢
  obtain ⟨ZZ, hZZ⟩ : ∃ z : Prop, (y.n - 1 = 0) = z := ⟨_, rfl⟩
  have HZZ : Hid ((y.n - 1 = 0) = ZZ) := hZZ
  rw [hZZ]
  clear h1 hp hr hfit hgl hpl hrl hm hix hhas hkl hE0 hL hrle HO hGB hZZ
  obtain ⟨kind, mode, low, high, size, limit, left, right, lkeys, rkeys, grouped, group, aggs⟩ := p
  obtain ⟨la, lc, rr, rc2, lk, lkc, rk, rkc, pga, pgc, ag, ac⟩ := x
  dsimp only at KP KS KC
  unfold planV at KC ⊢
  dsimp only at KC ⊢
  obtain ⟨PK, hPK⟩ : ∃ z, pickR r group = z := ⟨_, rfl⟩
  rw [hPK] at KP KS
  obtain ⟨n6, h6⟩ : ∃ n, left.length = n := ⟨_, rfl⟩
  obtain ⟨n7, h7⟩ : ∃ n, right.length = n := ⟨_, rfl⟩
  obtain ⟨n8, h8⟩ : ∃ n, lkeys.length = n := ⟨_, rfl⟩
  obtain ⟨n9, h9⟩ : ∃ n, rkeys.length = n := ⟨_, rfl⟩
  obtain ⟨n11, h11⟩ : ∃ n, group.length = n := ⟨_, rfl⟩
  obtain ⟨na, h12⟩ : ∃ n, aggs.length = n := ⟨_, rfl⟩
  simp only [h6, h7, h8, h9, h11, h12] at KP KS KC ⊢
  clear h6 h7 h8 h9 h11 h12 hPK
  have i1 : (0 : Int) ≤ (A.length : Int) := by omega
  have i2 : (A.length : Int) < (LN : Int) := by omega
  obtain ⟨al, hal⟩ : ∃ z, A.length = z := ⟨_, rfl⟩
  rw [hal] at KS KC HRR KDL i1 i2
  clear hal hAl
  have wi : IntKind.i64.wrap ((al : Int) + 1) = (al : Int) + 1 := by rw [IntKind.wrap_i64]; omega
  go_enter Tryz.func39, Tryz.ntmps39
  go_wp2_with fail
  generalize hV : (World.alloc (World.alloc w _) _) = V
  have hb0 : Below w.heap.size w V := by rw [← hV]; exact ((Below.refl _ _).alloc (Nat.le_refl _) _).alloc (by simp) _
  have hb1 : Below W0.heap.size W0 V := hbW.trans (hb0.mono hbW.size)
  have v0 : V.cell? ⟨w.heap.size, 0, none⟩ = some (.int .i64 kind) := by subst hV; go_simp
  have v1 : V.cell? ⟨w.heap.size, 1, none⟩ = some (.int .i64 mode) := by subst hV; go_simp
  have v2 : V.cell? ⟨w.heap.size, 2, none⟩ = some (.int .i64 low) := by subst hV; go_simp
  have v3 : V.cell? ⟨w.heap.size, 3, none⟩ = some (.int .i64 high) := by subst hV; go_simp
  have v4 : V.cell? ⟨w.heap.size, 4, none⟩ = some (.int .i64 size) := by subst hV; go_simp
  have v5 : V.cell? ⟨w.heap.size, 5, none⟩ = some (.int .i64 limit) := by subst hV; go_simp
  have v6 : V.cell? ⟨w.heap.size, 6, none⟩ = some (.slice la n6 lc) := by subst hV; go_simp
  have v7 : V.cell? ⟨w.heap.size, 7, none⟩ = some (.slice rr n7 rc2) := by subst hV; go_simp
  have v8 : V.cell? ⟨w.heap.size, 8, none⟩ = some (.slice lk n8 lkc) := by subst hV; go_simp
  have v9 : V.cell? ⟨w.heap.size, 9, none⟩ = some (.slice rk n9 rkc) := by subst hV; go_simp
  have v10 : V.cell? ⟨w.heap.size, 10, none⟩ = some (.bool grouped) := by subst hV; go_simp
  have v11 : V.cell? ⟨w.heap.size, 11, none⟩ = some (.slice pga n11 pgc) := by subst hV; go_simp
  have v12 : V.cell? ⟨w.heap.size, 12, none⟩ = some (.slice ag na ac) := by subst hV; go_simp
  have v13 : V.cell? ⟨w.heap.size + 1, 0, none⟩ = some (.int .i64 kd) := by subst hV; go_simp
  have v14 : V.cell? ⟨w.heap.size + 1, 1, none⟩ = some (.slice ra rl rc) := by subst hV; go_simp
  clear hV
  refine (KP.out _ hb1).mono ?_
  rintro e w1 ⟨⟨ka, kc, rfl, hov⟩, hb2⟩
  have hbw1 : Below W0.heap.size W0 w1 := hb1.trans (hb2.mono hb1.size)
  have hbe1 : Below w.heap.size w w1 := hb0.trans (hb2.mono hb0.size)
  have HOV : Hid (vl.rowAt w1 ka PK) := hov
  replace v0 := cell_later hb2 v0
  replace v1 := cell_later hb2 v1
  replace v2 := cell_later hb2 v2
  replace v3 := cell_later hb2 v3
  replace v4 := cell_later hb2 v4
  replace v5 := cell_later hb2 v5
  replace v6 := cell_later hb2 v6
  replace v7 := cell_later hb2 v7
  replace v8 := cell_later hb2 v8
  replace v9 := cell_later hb2 v9
  replace v10 := cell_later hb2 v10
  replace v11 := cell_later hb2 v11
  replace v12 := cell_later hb2 v12
  replace v13 := cell_later hb2 v13
  replace v14 := cell_later hb2 v14
  clear hov hb2 hb1 hb0
  have lv0 : w.heap.size + 1 < w1.heap.size := World.block_lt_of_cell? _ _ v13
  rcases hkd with rfl | rfl
  · go_wp2_with (go_at_call 81; refine (KS.out _ ka kc hbe1 HOV.out).mono ?_; rintro e w2 ⟨rfl, hb3⟩; have hbw2 : Below W0.heap.size W0 w2 := hbw1.trans (hb3.mono hbw1.size); have hbe2 : Below w.heap.size w w2 := hbe1.trans (hb3.mono hbe1.size); have lv2 : w.heap.size + 1 < w2.heap.size := Nat.lt_of_lt_of_le lv0 hb3.size; replace v0 := cell_later hb3 v0; replace v1 := cell_later hb3 v1; replace v2 := cell_later hb3 v2; replace v3 := cell_later hb3 v3; replace v4 := cell_later hb3 v4; replace v5 := cell_later hb3 v5; replace v6 := cell_later hb3 v6; replace v7 := cell_later hb3 v7; replace v8 := cell_later hb3 v8; replace v9 := cell_later hb3 v9; replace v10 := cell_later hb3 v10; replace v11 := cell_later hb3 v11; replace v12 := cell_later hb3 v12; replace v13 := cell_later hb3 v13; replace v14 := cell_later hb3 v14)
    have HL : Hid (w.heap.size + 1 < w2.heap.size) := lv2
    go_region_held3 (fun w' => w'.cell? ⟨w.heap.size, 0, none⟩ = some (.int .i64 kind) ∧ w'.cell? ⟨w.heap.size, 1, none⟩ = some (.int .i64 mode) ∧ w'.cell? ⟨w.heap.size, 2, none⟩ = some (.int .i64 low) ∧ w'.cell? ⟨w.heap.size, 3, none⟩ = some (.int .i64 high) ∧ w'.cell? ⟨w.heap.size, 4, none⟩ = some (.int .i64 size) ∧ w'.cell? ⟨w.heap.size, 5, none⟩ = some (.int .i64 limit) ∧ w'.cell? ⟨w.heap.size, 6, none⟩ = some (.slice la n6 lc) ∧ w'.cell? ⟨w.heap.size, 7, none⟩ = some (.slice rr n7 rc2) ∧ w'.cell? ⟨w.heap.size, 8, none⟩ = some (.slice lk n8 lkc) ∧ w'.cell? ⟨w.heap.size, 9, none⟩ = some (.slice rk n9 rkc) ∧ w'.cell? ⟨w.heap.size, 10, none⟩ = some (.bool grouped) ∧ w'.cell? ⟨w.heap.size, 11, none⟩ = some (.slice pga n11 pgc) ∧ w'.cell? ⟨w.heap.size, 12, none⟩ = some (.slice ag na ac) ∧ w'.cell? ⟨w.heap.size + 1, 0, none⟩ = some (.int .i64 2) ∧ w'.cell? ⟨w.heap.size + 1, 1, none⟩ = some (.slice ra rl rc)) (first | exact ⟨g4a v0, g4a v1, g4a v2, g4a v3, g4a v4, g4a v5, g4a v6, g4a v7, g4a v8, g4a v9, g4a v10, g4a v11, g4a v12, g4b v13, g4b v14⟩ | go_keep)
      (first | (go_at_call 83; refine (KC.out w2.drew hbw2.drew hbe2.drew).mono ?_; rintro e w4 ⟨rfl, hst4, hb4, hf4, hs4⟩; have g4a : ∀ {of : Nat} {v : Value}, w2.cell? ⟨w.heap.size, of, none⟩ = some v → w4.cell? ⟨w.heap.size, of, none⟩ = some v := fun hc => (World.cell?_of_block (hf4 w.heap.size (show w.heap.size < w2.heap.size by have := HL.out; omega) (HNO.out _ (Nat.le_refl _)))).trans hc; have g4b : ∀ {of : Nat} {v : Value}, w2.cell? ⟨w.heap.size + 1, of, none⟩ = some v → w4.cell? ⟨w.heap.size + 1, of, none⟩ = some v := fun hc => (World.cell?_of_block (hf4 (w.heap.size + 1) HL.out (HNO.out _ (Nat.le_succ _)))).trans hc))
    all_goals
      cases GB with
      | false =>
        clear hst4 hf4 g4a g4b
        go_wp2
        go_ret2
        exact ⟨.inl ⟨rfl, rfl⟩, hb4⟩
      | true =>
        obtain ⟨bs, hbs, ho4⟩ := hst4 rfl
        have q1 := HRR.out w4 bs ho4
        have HO4 : Hid (bsGo aggs r na y.bs bs ∧ OG w4 W0.heap.size (.slice (some ⟨g, 0, none⟩) LN cap) (A ++ (⟨y.rv, y.row, y.n - 1, y.bv, bs⟩ : GO) :: B)) := ⟨hbs, ho4⟩
        have KDL2 : Hid (∀ w1, Below w4.heap.size w4 w1 → _) := fun w1 hb => KDL.out w4 bs w1 ho4 hb
        clear ho4 hf4 g4a g4b hbs HRR hst4 KDL
        by_cases hz : y.n - 1 = 0
        · have hz2 : (y.n - 1 == 0) = true := by simpa using hz
          go_wp2_with (go_at_call 84; refine (KDL2.out _ (Below.refl _ _)).mono ?_; rintro e w5 ⟨v5, rfl, ho5, hb5⟩)
          go_ret2
          exact ⟨.inr (.inr ⟨rfl, by rw [← HZZ.out]; exact hz, v5, rfl, ho5⟩), hb4.trans hb5⟩
        · have hz2 : (y.n - 1 == 0) = false := by simpa using hz
          go_wp2
          go_ret2
          exact ⟨.inr (.inl ⟨rfl, by rw [← HZZ.out]; exact hz, rfl, bs, HO4.out⟩), hb4⟩
  · go_wp2_with (go_at_call 81; refine (KS.out _ ka kc hbe1 HOV.out).mono ?_; rintro e w2 ⟨rfl, hb3⟩; have hbw2 : Below W0.heap.size W0 w2 := hbw1.trans (hb3.mono hbw1.size); have hbe2 : Below w.heap.size w w2 := hbe1.trans (hb3.mono hbe1.size); have lv2 : w.heap.size + 1 < w2.heap.size := Nat.lt_of_lt_of_le lv0 hb3.size; replace v0 := cell_later hb3 v0; replace v1 := cell_later hb3 v1; replace v2 := cell_later hb3 v2; replace v3 := cell_later hb3 v3; replace v4 := cell_later hb3 v4; replace v5 := cell_later hb3 v5; replace v6 := cell_later hb3 v6; replace v7 := cell_later hb3 v7; replace v8 := cell_later hb3 v8; replace v9 := cell_later hb3 v9; replace v10 := cell_later hb3 v10; replace v11 := cell_later hb3 v11; replace v12 := cell_later hb3 v12; replace v13 := cell_later hb3 v13; replace v14 := cell_later hb3 v14)
    have HL : Hid (w.heap.size + 1 < w2.heap.size) := lv2
    go_region_held3 (fun w' => w'.cell? ⟨w.heap.size, 0, none⟩ = some (.int .i64 kind) ∧ w'.cell? ⟨w.heap.size, 1, none⟩ = some (.int .i64 mode) ∧ w'.cell? ⟨w.heap.size, 2, none⟩ = some (.int .i64 low) ∧ w'.cell? ⟨w.heap.size, 3, none⟩ = some (.int .i64 high) ∧ w'.cell? ⟨w.heap.size, 4, none⟩ = some (.int .i64 size) ∧ w'.cell? ⟨w.heap.size, 5, none⟩ = some (.int .i64 limit) ∧ w'.cell? ⟨w.heap.size, 6, none⟩ = some (.slice la n6 lc) ∧ w'.cell? ⟨w.heap.size, 7, none⟩ = some (.slice rr n7 rc2) ∧ w'.cell? ⟨w.heap.size, 8, none⟩ = some (.slice lk n8 lkc) ∧ w'.cell? ⟨w.heap.size, 9, none⟩ = some (.slice rk n9 rkc) ∧ w'.cell? ⟨w.heap.size, 10, none⟩ = some (.bool grouped) ∧ w'.cell? ⟨w.heap.size, 11, none⟩ = some (.slice pga n11 pgc) ∧ w'.cell? ⟨w.heap.size, 12, none⟩ = some (.slice ag na ac) ∧ w'.cell? ⟨w.heap.size + 1, 0, none⟩ = some (.int .i64 3) ∧ w'.cell? ⟨w.heap.size + 1, 1, none⟩ = some (.slice ra rl rc)) (first | exact ⟨g4a v0, g4a v1, g4a v2, g4a v3, g4a v4, g4a v5, g4a v6, g4a v7, g4a v8, g4a v9, g4a v10, g4a v11, g4a v12, g4b v13, g4b v14⟩ | go_keep)
      (first | (go_at_call 83; refine (KC.out w2.drew hbw2.drew hbe2.drew).mono ?_; rintro e w4 ⟨rfl, hst4, hb4, hf4, hs4⟩; have g4a : ∀ {of : Nat} {v : Value}, w2.cell? ⟨w.heap.size, of, none⟩ = some v → w4.cell? ⟨w.heap.size, of, none⟩ = some v := fun hc => (World.cell?_of_block (hf4 w.heap.size (show w.heap.size < w2.heap.size by have := HL.out; omega) (HNO.out _ (Nat.le_refl _)))).trans hc; have g4b : ∀ {of : Nat} {v : Value}, w2.cell? ⟨w.heap.size + 1, of, none⟩ = some v → w4.cell? ⟨w.heap.size + 1, of, none⟩ = some v := fun hc => (World.cell?_of_block (hf4 (w.heap.size + 1) HL.out (HNO.out _ (Nat.le_succ _)))).trans hc))
    all_goals
      cases GB with
      | false =>
        clear hst4 hf4 g4a g4b
        go_wp2
        go_ret2
        exact ⟨.inl ⟨rfl, rfl⟩, hb4⟩
      | true =>
        obtain ⟨bs, hbs, ho4⟩ := hst4 rfl
        have q1 := HRR.out w4 bs ho4
        have HO4 : Hid (bsGo aggs r na y.bs bs ∧ OG w4 W0.heap.size (.slice (some ⟨g, 0, none⟩) LN cap) (A ++ (⟨y.rv, y.row, y.n - 1, y.bv, bs⟩ : GO) :: B)) := ⟨hbs, ho4⟩
        have KDL2 : Hid (∀ w1, Below w4.heap.size w4 w1 → _) := fun w1 hb => KDL.out w4 bs w1 ho4 hb
        clear ho4 hf4 g4a g4b hbs HRR hst4 KDL
        by_cases hz : y.n - 1 = 0
        · have hz2 : (y.n - 1 == 0) = true := by simpa using hz
          go_wp2_with (go_at_call 84; refine (KDL2.out _ (Below.refl _ _)).mono ?_; rintro e w5 ⟨v5, rfl, ho5, hb5⟩)
          go_ret2
          exact ⟨.inr (.inr ⟨rfl, by rw [← HZZ.out]; exact hz, v5, rfl, ho5⟩), hb4.trans hb5⟩
        · have hz2 : (y.n - 1 == 0) = false := by simpa using hz
          go_wp2
          go_ret2
          exact ⟨.inr (.inl ⟨rfl, by rw [← HZZ.out]; exact hz, rfl, bs, HO4.out⟩), hb4⟩
end Go.Proofs.YtbfbgdinhiglaaaGreat.gr
/- A row goes, and its group is not there: do. -/
namespace Go.Proofs.YtbfbgdinhiglaaaGreat.gr
open Go.ChangeShapes Go.WideShapes Go.ChangeAt Go.RowKit
open vl pl bt
set_option linter.unusedVariables false
set_option linter.unusedSimpArgs false
attribute [local go_sem] Oper.semAt_some
set_option maxRecDepth 100000 in
set_option maxHeartbeats 8000000 in
theorem do_go_none (p : Pln) (x : PA) (W0 w : World) (hbW : Below W0.heap.size W0 w) (hp : planAt W0 p x) {ad : Option Addr} {cap : Nat} {L : List GO} (h1 : OG w W0.heap.size (.slice ad L.length cap) L) (hLN : L.length ≤ 1073741824)
    (ra : Option Addr) (rc : Nat) (r : List Cel) (hr : vl.rowAt W0 ra r) (hrl0 : r.length ≤ 1000) (hgl : p.group.length ≤ 1000) (hpl : ∀ z ∈ p.group, 0 ≤ z ∧ z < (r.length : Int)) (hrl : ∀ x ∈ L, x.row.length ≤ 1000)
    (hm : ∀ i j, i ≤ j → j < L.length → cmpRows ((L.map GO.grp).getD j default).row (pickR r p.group) < 0 → cmpRows ((L.map GO.grp).getD i default).row (pickR r p.group) < 0)
    (hhas : hasG (L.map GO.grp) (pickR r p.group) = false) (kd : Int) (hkd : kd = 2 ∨ kd = 3) :
    Calls Tryz.prog 39 #[planV p x, .slice ad L.length cap, .agg #[.int .i64 kd, .slice ra r.length rc]] w fun e w' => e = .returned (.tuple #[.slice none 0 0, .int .i64 9]) ∧ Below W0.heap.size W0 w' := by
  have hkl : (pickR r p.group).length = p.group.length := by unfold pickR; rw [List.length_map]
  have HO : Hid (OG w W0.heap.size (.slice ad L.length cap) L) := h1
  have KP : Hid (∀ w1, Below W0.heap.size W0 w1 → Calls Tryz.prog 52 #[.slice ra r.length rc, .slice x.g p.group.length x.gc] w1 fun e w' => (∃ ad' c', e = .returned (.slice ad' p.group.length c') ∧ vl.rowAt w' ad' (pickR r p.group)) ∧ Below w1.heap.size w1 w') := fun w1 hb => by
    have hg := intsAt_below (show intsAt W0 x.g p.group from hp.g) hb
    refine (pick_any ra x.g rc x.gc r p.group w1 (by omega) hgl (vl.rowAt_below hr hb) hg hpl).mono ?_
    rintro e w' ⟨⟨ad', c', rfl, ho⟩, hb2⟩
    exact ⟨⟨ad', c', by rw [hkl], vl.ownV_row ho⟩, hb2⟩
  have KS : Hid (∀ w1 ka kc, Below w.heap.size w w1 → vl.rowAt w1 ka (pickR r p.group) → Calls Tryz.prog 81 #[.slice ad L.length cap, .slice ka p.group.length kc, .func (.func 82) #[] #[]] w1 fun e w' => e = .returned (.tuple #[.int .i64 (idxG (L.map GO.grp) (pickR r p.group)), .bool false]) ∧ Below w1.heap.size w1 w') := fun w1 ka kc hb hk => by
    have h := seek_is ad cap L W0.heap.size ka kc (pickR r p.group) w1 (HO.out.below hb) (by omega) hk (by rw [hkl]; exact hgl) hrl hm
    rw [hhas, hkl] at h
    exact h
  obtain ⟨ix, hix⟩ : ∃ z, idxG (L.map GO.grp) (pickR r p.group) = z := ⟨_, rfl⟩
  rw [hix] at KS
  obtain ⟨LN, hL⟩ : ∃ z, L.length = z := ⟨_, rfl⟩
  rw [hL] at KS hLN ⊢
  obtain ⟨rl, hrle⟩ : ∃ z, r.length = z := ⟨_, rfl⟩
  rw [hrle] at KP ⊢
  clear h1 hp hr hgl hpl hrl hm hhas hkl hL hrle HO hrl0 hix
  obtain ⟨kind, mode, low, high, size, limit, left, right, lkeys, rkeys, grouped, group, aggs⟩ := p
  obtain ⟨la, lc, rr, rc2, lk, lkc, rk, rkc, pga, pgc, ag, ac⟩ := x
  dsimp only at KP KS
  unfold planV
  dsimp only
  obtain ⟨PK, hPK⟩ : ∃ z, pickR r group = z := ⟨_, rfl⟩
  rw [hPK] at KP KS
  obtain ⟨n6, h6⟩ : ∃ n, left.length = n := ⟨_, rfl⟩
  obtain ⟨n7, h7⟩ : ∃ n, right.length = n := ⟨_, rfl⟩
  obtain ⟨n8, h8⟩ : ∃ n, lkeys.length = n := ⟨_, rfl⟩
  obtain ⟨n9, h9⟩ : ∃ n, rkeys.length = n := ⟨_, rfl⟩
  obtain ⟨n11, h11⟩ : ∃ n, group.length = n := ⟨_, rfl⟩
  obtain ⟨na, h12⟩ : ∃ n, aggs.length = n := ⟨_, rfl⟩
  simp only [h6, h7, h8, h9, h11, h12] at KP KS ⊢
  clear h6 h7 h8 h9 h11 h12 hPK
  go_enter Tryz.func39, Tryz.ntmps39
  go_wp2_with fail
  generalize hV : (World.alloc (World.alloc w _) _) = V
  have hb0 : Below w.heap.size w V := by rw [← hV]; exact ((Below.refl _ _).alloc (Nat.le_refl _) _).alloc (by simp) _
  have hb1 : Below W0.heap.size W0 V := hbW.trans (hb0.mono hbW.size)
  have v0 : V.cell? ⟨w.heap.size, 0, none⟩ = some (.int .i64 kind) := by subst hV; go_simp
  have v1 : V.cell? ⟨w.heap.size, 1, none⟩ = some (.int .i64 mode) := by subst hV; go_simp
  have v2 : V.cell? ⟨w.heap.size, 2, none⟩ = some (.int .i64 low) := by subst hV; go_simp
  have v3 : V.cell? ⟨w.heap.size, 3, none⟩ = some (.int .i64 high) := by subst hV; go_simp
  have v4 : V.cell? ⟨w.heap.size, 4, none⟩ = some (.int .i64 size) := by subst hV; go_simp
  have v5 : V.cell? ⟨w.heap.size, 5, none⟩ = some (.int .i64 limit) := by subst hV; go_simp
  have v6 : V.cell? ⟨w.heap.size, 6, none⟩ = some (.slice la n6 lc) := by subst hV; go_simp
  have v7 : V.cell? ⟨w.heap.size, 7, none⟩ = some (.slice rr n7 rc2) := by subst hV; go_simp
  have v8 : V.cell? ⟨w.heap.size, 8, none⟩ = some (.slice lk n8 lkc) := by subst hV; go_simp
  have v9 : V.cell? ⟨w.heap.size, 9, none⟩ = some (.slice rk n9 rkc) := by subst hV; go_simp
  have v10 : V.cell? ⟨w.heap.size, 10, none⟩ = some (.bool grouped) := by subst hV; go_simp
  have v11 : V.cell? ⟨w.heap.size, 11, none⟩ = some (.slice pga n11 pgc) := by subst hV; go_simp
  have v12 : V.cell? ⟨w.heap.size, 12, none⟩ = some (.slice ag na ac) := by subst hV; go_simp
  have v13 : V.cell? ⟨w.heap.size + 1, 0, none⟩ = some (.int .i64 kd) := by subst hV; go_simp
  have v14 : V.cell? ⟨w.heap.size + 1, 1, none⟩ = some (.slice ra rl rc) := by subst hV; go_simp
  clear hV
  refine (KP.out _ hb1).mono ?_
  rintro e w1 ⟨⟨ka, kc, rfl, hov⟩, hb2⟩
  have hbw1 : Below W0.heap.size W0 w1 := hb1.trans (hb2.mono hb1.size)
  have hbe1 : Below w.heap.size w w1 := hb0.trans (hb2.mono hb0.size)
  have HOV : Hid (vl.rowAt w1 ka PK) := hov
  replace v0 := cell_later hb2 v0
  replace v1 := cell_later hb2 v1
  replace v2 := cell_later hb2 v2
  replace v3 := cell_later hb2 v3
  replace v4 := cell_later hb2 v4
  replace v5 := cell_later hb2 v5
  replace v6 := cell_later hb2 v6
  replace v7 := cell_later hb2 v7
  replace v8 := cell_later hb2 v8
  replace v9 := cell_later hb2 v9
  replace v10 := cell_later hb2 v10
  replace v11 := cell_later hb2 v11
  replace v12 := cell_later hb2 v12
  replace v13 := cell_later hb2 v13
  replace v14 := cell_later hb2 v14
  clear hov hb2 hb1 hb0
  rcases hkd with rfl | rfl
  · go_wp2_with (go_at_call 81; refine (KS.out _ ka kc hbe1 HOV.out).mono ?_; rintro e w2 ⟨rfl, hb3⟩; have hbw2 : Below W0.heap.size W0 w2 := hbw1.trans (hb3.mono hbw1.size); replace v0 := cell_later hb3 v0; replace v1 := cell_later hb3 v1; replace v2 := cell_later hb3 v2; replace v3 := cell_later hb3 v3; replace v4 := cell_later hb3 v4; replace v5 := cell_later hb3 v5; replace v6 := cell_later hb3 v6; replace v7 := cell_later hb3 v7; replace v8 := cell_later hb3 v8; replace v9 := cell_later hb3 v9; replace v10 := cell_later hb3 v10; replace v11 := cell_later hb3 v11; replace v12 := cell_later hb3 v12; replace v13 := cell_later hb3 v13; replace v14 := cell_later hb3 v14)
    go_quiet (fail)
    go_wp2
    go_ret2
    exact ⟨rfl, below_drewN hbw2 _⟩
  · go_wp2_with (go_at_call 81; refine (KS.out _ ka kc hbe1 HOV.out).mono ?_; rintro e w2 ⟨rfl, hb3⟩; have hbw2 : Below W0.heap.size W0 w2 := hbw1.trans (hb3.mono hbw1.size); replace v0 := cell_later hb3 v0; replace v1 := cell_later hb3 v1; replace v2 := cell_later hb3 v2; replace v3 := cell_later hb3 v3; replace v4 := cell_later hb3 v4; replace v5 := cell_later hb3 v5; replace v6 := cell_later hb3 v6; replace v7 := cell_later hb3 v7; replace v8 := cell_later hb3 v8; replace v9 := cell_later hb3 v9; replace v10 := cell_later hb3 v10; replace v11 := cell_later hb3 v11; replace v12 := cell_later hb3 v12; replace v13 := cell_later hb3 v13; replace v14 := cell_later hb3 v14)
    go_quiet (fail)
    go_wp2
    go_ret2
    exact ⟨rfl, below_drewN hbw2 _⟩
end Go.Proofs.YtbfbgdinhiglaaaGreat.gr
/- One change done to groups of one's own: do, in all its ways. -/
namespace Go.Proofs.YtbfbgdinhiglaaaGreat.gr
open Go.ChangeShapes Go.WideShapes Go.ChangeAt Go.RowKit
open vl pl bt
set_option linter.unusedVariables false
set_option linter.unusedSimpArgs false
def comeG (p : Pln) (r : List Cel) (g : Grp) : Grp := ⟨g.row, g.n + 1, (List.range g.bags.length).map fun j => comeB p.aggs r j (g.bags.getD j [])⟩
def goG (p : Pln) (r : List Cel) (g : Grp) : Grp := ⟨g.row, g.n - 1, (List.range g.bags.length).map fun j => goB p.aggs r j (g.bags.getD j [])⟩
def mayG (p : Pln) (r : List Cel) (g : Grp) : Bool := allB g.bags.length fun j => decide ((p.aggs.getD j (0, 0)).1 = 1) || hasT (g.bags.getD j []) (r.getD (p.aggs.getD j (0, 0)).2.toNat default)
def newG (p : Pln) (key : List Cel) : Grp := ⟨key, 0, List.replicate p.aggs.length []⟩
/-- what one change makes of groups: an error, or groups -/
def doG (p : Pln) (k : Int) (r : List Cel) (gs : List Grp) : Int × List Grp :=
  if k = 2 ∨ k = 3 then
    if hasG gs (pickR r p.group) = false then (9, [])
    else if mayG p r (gs.getD (idxG gs (pickR r p.group)) default) = false then (9, [])
    else if (gs.getD (idxG gs (pickR r p.group)) default).n - 1 = 0 then (0, gs.take (idxG gs (pickR r p.group)) ++ gs.drop (idxG gs (pickR r p.group) + 1))
    else (0, gs.take (idxG gs (pickR r p.group)) ++ goG p r (gs.getD (idxG gs (pickR r p.group)) default) :: gs.drop (idxG gs (pickR r p.group) + 1))
  else if hasG gs (pickR r p.group) = true then
    if (gs.getD (idxG gs (pickR r p.group)) default).n + 1 > 1073741824 ∨ 4096 < gs.length then (2, [])
    else (0, gs.take (idxG gs (pickR r p.group)) ++ comeG p r (gs.getD (idxG gs (pickR r p.group)) default) :: gs.drop (idxG gs (pickR r p.group) + 1))
  else if 4096 < gs.length + 1 then (2, [])
  else (0, gs.take (idxG gs (pickR r p.group)) ++ comeG p r (newG p (pickR r p.group)) :: gs.drop (idxG gs (pickR r p.group)))
theorem bags_of {f : Nat → List Tal → List Tal} {bs0 bs : List (Value × List Tal)} (h1 : bs.length = bs0.length) (h2 : ∀ j, j < bs0.length → (bs.getD j (.slice none 0 0, [])).2 = f j (bs0.getD j (.slice none 0 0, [])).2) : bs.map (·.2) = (List.range (bs0.map (·.2)).length).map fun j => f j ((bs0.map (·.2)).getD j []) := by
  refine List.ext_getElem (by simp [h1]) (fun j hj1 hj2 => ?_)
  have hj : j < bs0.length := by simpa [h1] using hj1
  have hjb : j < bs.length := by rw [h1]; exact hj
  have := h2 j hj
  simp [List.getD_eq_getElem?_getD, hj, hjb] at this ⊢
  exact this
theorem bsAt_bags {aggs : List (Int × Int)} {r : List Cel} {bs0 bs : List (Value × List Tal)} (h : bsAt aggs r aggs.length bs0 bs) (hl : bs0.length = aggs.length) : bs.map (·.2) = (List.range (bs0.map (·.2)).length).map fun j => comeB aggs r j ((bs0.map (·.2)).getD j []) :=
  bags_of h.1 (fun j hj => by rw [h.2 j hj, if_pos (by omega)])
theorem bsGo_bags {aggs : List (Int × Int)} {r : List Cel} {bs0 bs : List (Value × List Tal)} (h : bsGo aggs r aggs.length bs0 bs) (hl : bs0.length = aggs.length) : bs.map (·.2) = (List.range (bs0.map (·.2)).length).map fun j => goB aggs r j ((bs0.map (·.2)).getD j []) :=
  bags_of h.1 (fun j hj => by rw [h.2 j hj, if_pos (by omega)])
theorem all_same {n : Nat} {P Q : Nat → Bool} (h : ∀ i, i < n → P i = Q i) : allB n P = allB n Q := by
  rw [Bool.eq_iff_iff, allB_iff, allB_iff]
  exact ⟨fun k i hi => by rw [← h i hi]; exact k i hi, fun k i hi => by rw [h i hi]; exact k i hi⟩
theorem may_is (p : Pln) (r : List Cel) (y : GO) : mayG p r y.grp = goesB p.aggs r y.bs := by
  unfold mayG goesB mayB
  have e : y.grp.bags.length = y.bs.length := by simp [GO.grp]
  rw [e]
  refine all_same (fun j hj => ?_)
  simp [GO.grp, List.getD_eq_getElem?_getD, hj]
theorem grp_split (L : List GO) (i : Nat) (h : i < L.length) : L = L.take i ++ L.getD i default :: L.drop (i + 1) := split_at L i default h
theorem ad_some {w : World} {base : Nat} {ad : Option Addr} {n cap : Nat} {L : List GO} (h : OG w base (.slice ad n cap) L) (hl : 0 < L.length) : ∃ g, ad = some ⟨g, 0, none⟩ := by
  rcases h.head.2 with ⟨hv, h0⟩ | ⟨g, cap', cur, hv, _⟩
  · omega
  · injection hv with e1 _ _; exact ⟨g, e1⟩
/-- what do answers -/
def doRes (R : Int × List Grp) (base : Nat) (e : Ending) (w' : World) : Prop := (R.1 ≠ 0 ∧ e = .returned (.tuple #[.slice none 0 0, .int .i64 R.1])) ∨ (R.1 = 0 ∧ ∃ ad cap L, e = .returned (.tuple #[.slice ad L.length cap, .int .i64 0]) ∧ OG w' base (.slice ad L.length cap) L ∧ L.map GO.grp = R.2)
theorem res_ok {base : Nat} {v : Value} {L : List GO} {R : Int × List Grp} {e : Ending} {w' : World} (h0 : R.1 = 0) (he : e = .returned (.tuple #[v, .int .i64 0])) (ho : OG w' base v L) (hg : L.map GO.grp = R.2) : doRes R base e w' := by
  have ev := own_is ho.head
  rw [ev] at he ho
  exact .inr ⟨h0, _, _, L, he, ho, hg⟩
theorem do_any (p : Pln) (x : PA) (W0 w : World) (hbW : Below W0.heap.size W0 w) (hp : planAt W0 p x) {ad : Option Addr} {cap : Nat} {L : List GO} (h1 : OG w W0.heap.size (.slice ad L.length cap) L) (hLN : L.length ≤ 1000000)
    (ra : Option Addr) (rc : Nat) (r : List Cel) (hr : vl.rowAt W0 ra r) (hfit : ∀ y ∈ L, fitG p r y) (hal : p.aggs.length ≤ 4) (hrl0 : r.length ≤ 1000) (hcol : ∀ j, j < p.aggs.length → (p.aggs.getD j (0, 0)).1 ≠ 1 → 0 ≤ (p.aggs.getD j (0, 0)).2 ∧ (p.aggs.getD j (0, 0)).2.toNat < r.length) (hgl : p.group.length ≤ 1000) (hpl : ∀ z ∈ p.group, 0 ≤ z ∧ z < (r.length : Int)) (hrl : ∀ x ∈ L, x.row.length ≤ 1000)
    (hm : ∀ i j, i ≤ j → j < L.length → cmpRows ((L.map GO.grp).getD j default).row (pickR r p.group) < 0 → cmpRows ((L.map GO.grp).getD i default).row (pickR r p.group) < 0) (kd : Int) :
    Calls Tryz.prog 39 #[planV p x, .slice ad L.length cap, .agg #[.int .i64 kd, .slice ra r.length rc]] w fun e w' => doRes (doG p kd r (L.map GO.grp)) W0.heap.size e w' ∧ Below W0.heap.size W0 w' := by
  have hlm : (L.map GO.grp).length = L.length := List.length_map ..
  obtain ⟨i, hi⟩ : ∃ i, idxG (L.map GO.grp) (pickR r p.group) = i := ⟨_, rfl⟩
  have hile : i ≤ L.length := by rw [← hi, ← hlm]; exact idxG_le _ _
  by_cases hkd : kd = 2 ∨ kd = 3
  · cases hh : hasG (L.map GO.grp) (pickR r p.group) with
    | false =>
      refine (do_go_none p x W0 w hbW hp h1 (by omega) ra rc r hr hrl0 hgl hpl hrl hm hh kd hkd).mono ?_
      rintro e w' ⟨rfl, hb⟩
      have e1 : doG p kd r (L.map GO.grp) = (9, []) := by unfold doG; rw [if_pos hkd, if_pos hh]
      rw [e1]
      exact ⟨.inl ⟨by decide, rfl⟩, hb⟩
    | true =>
      have hil : i < L.length := by
        unfold hasG at hh
        rw [hi, hlm] at hh
        simp at hh
        exact hh.1
      obtain ⟨g, rfl⟩ := ad_some h1 (by omega)
      have hy : L.getD i default ∈ L := by rw [List.getD_eq_getElem?_getD, List.getElem?_eq_getElem hil]; exact List.getElem_mem hil
      have hsp := grp_split L i hil
      have htl : (L.take i).length = i := by rw [List.length_take]; omega
      have hgi := (getD_mapG L i hil).2
      have hf := hfit _ hy
      have h := do_go_has p x W0 w hbW hp (g := g) (cap := cap) (A := L.take i) (B := L.drop (i + 1)) (y := L.getD i default) (by rw [← hsp]; exact h1) (by rw [← hsp]; omega) ra rc r hr hf hgl hpl (by rw [← hsp]; exact hrl) (by rw [← hsp]; exact hm) (by rw [← hsp, htl]; exact hi) (by rw [← hsp]; exact hh) kd hkd
      rw [← hsp] at h
      refine h.mono ?_
      rintro e w' ⟨hres, hb⟩
      refine ⟨?_, hb⟩
      have e0 : doG p kd r (L.map GO.grp) = if mayG p r (L.getD i default).grp = false then (9, []) else if (L.getD i default).n - 1 = 0 then (0, (L.map GO.grp).take i ++ (L.map GO.grp).drop (i + 1)) else (0, (L.map GO.grp).take i ++ goG p r (L.getD i default).grp :: (L.map GO.grp).drop (i + 1)) := by
        unfold doG
        rw [if_pos hkd, if_neg (by rw [hh]; decide), hi, hgi]
        rfl
      rw [e0, may_is]
      rcases hres with ⟨k1, k2⟩ | ⟨k1, k2, k3, bs, k4, k5⟩ | ⟨k1, k2, v', k3, k4⟩
      · rw [if_pos k1]
        exact .inl ⟨by decide, k2⟩
      · rw [if_neg (by rw [k1]; decide), if_neg k2]
        refine res_ok rfl k3 k5 ?_
        rw [List.map_append, List.map_cons, List.map_take, List.map_drop]
        have e2 := bsGo_bags k4 hf.bl
        congr 2
        unfold goG GO.grp
        dsimp only
        rw [e2]
      · rw [if_neg (by rw [k1]; decide), if_pos k2]
        refine res_ok rfl k3 k4 ?_
        rw [List.map_append, List.map_take, List.map_drop]
  · have hk2 : kd ≠ 2 := fun e => hkd (.inl e)
    have hk3 : kd ≠ 3 := fun e => hkd (.inr e)
    cases hh : hasG (L.map GO.grp) (pickR r p.group) with
    | false =>
      have hsp : L = L.take i ++ L.drop i := (List.take_append_drop i L).symm
      have htl : (L.take i).length = i := by rw [List.length_take]; omega
      have h := do_come_new p x W0 w hbW hp (ad := ad) (cap := cap) (A := L.take i) (B := L.drop i) (by rw [← hsp]; exact h1) (by rw [← hsp]; omega) ra rc r hr hal hrl0 hcol hgl hpl (by rw [← hsp]; exact hrl) (by rw [← hsp]; exact hm) (by rw [← hsp, htl]; exact hi) (by rw [← hsp]; exact hh) kd hk2 hk3
      rw [← hsp] at h
      refine h.mono ?_
      rintro e w' ⟨hres, hb⟩
      refine ⟨?_, hb⟩
      have e0 : doG p kd r (L.map GO.grp) = if 4096 < L.length + 1 then (2, []) else (0, (L.map GO.grp).take i ++ comeG p r (newG p (pickR r p.group)) :: (L.map GO.grp).drop i) := by
        unfold doG
        rw [if_neg hkd, if_neg (by rw [hh]; decide), hi, hlm]
      rw [e0]
      rcases hres with ⟨k1, k2⟩ | ⟨k1, v, y, k2, k3, k4, k5, k6⟩
      · rw [if_pos k1]
        exact .inl ⟨by decide, k2⟩
      · rw [if_neg k1]
        refine res_ok rfl k2 k6 ?_
        rw [List.map_append, List.map_cons, List.map_take, List.map_drop]
        have e2 := bsAt_bags k5 (by rw [List.length_replicate])
        congr 2
        unfold comeG newG GO.grp
        dsimp only
        rw [k3, k4, e2, List.map_replicate]
        rfl
    | true =>
      have hil : i < L.length := by
        unfold hasG at hh
        rw [hi, hlm] at hh
        simp at hh
        exact hh.1
      obtain ⟨g, rfl⟩ := ad_some h1 (by omega)
      have hy : L.getD i default ∈ L := by rw [List.getD_eq_getElem?_getD, List.getElem?_eq_getElem hil]; exact List.getElem_mem hil
      have hsp := grp_split L i hil
      have htl : (L.take i).length = i := by rw [List.length_take]; omega
      have hgi := (getD_mapG L i hil).2
      have hf := hfit _ hy
      have h := do_come_has p x W0 w hbW hp (g := g) (cap := cap) (A := L.take i) (B := L.drop (i + 1)) (y := L.getD i default) (by rw [← hsp]; exact h1) (by rw [← hsp]; omega) ra rc r hr hf hgl hpl (by rw [← hsp]; exact hrl) (by rw [← hsp]; exact hm) (by rw [← hsp, htl]; exact hi) (by rw [← hsp]; exact hh) kd hk2 hk3
      rw [← hsp] at h
      refine h.mono ?_
      rintro e w' ⟨hres, hb⟩
      refine ⟨?_, hb⟩
      have e0 : doG p kd r (L.map GO.grp) = if (L.getD i default).n + 1 > 1073741824 ∨ 4096 < L.length then (2, []) else (0, (L.map GO.grp).take i ++ comeG p r (L.getD i default).grp :: (L.map GO.grp).drop (i + 1)) := by
        unfold doG
        rw [if_neg hkd, if_pos hh, hi, hgi, hlm]
        rfl
      rw [e0]
      rcases hres with ⟨k1, k2⟩ | ⟨k1, k2, bs, k4, k5⟩
      · rw [if_pos k1]
        exact .inl ⟨by decide, k2⟩
      · rw [if_neg k1]
        refine res_ok rfl k2 k5 ?_
        rw [List.map_append, List.map_cons, List.map_take, List.map_drop]
        have e2 := bsAt_bags k4 hf.bl
        congr 2
        unfold comeG GO.grp
        dsimp only
        rw [e2]
end Go.Proofs.YtbfbgdinhiglaaaGreat.gr
