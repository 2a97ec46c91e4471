import Derived.Test.YtbfbgdinhiglaaaGreatS32
import Derived.Test.YtbfbgdinhiglaaaGreatS21
import Derived.Test.YtbfbgdinhiglaaaGreatS15
import Derived.Test.YtbfbgdinhiglaaaGreatS29
/- Step's answer as one. -/
namespace Go.Proofs.YtbfbgdinhiglaaaGreat.gr
open Go.ChangeShapes Go.WideShapes Go.ChangeAt Go.RowKit
open vl pl bt
set_option linter.unusedVariables false
set_option linter.unusedSimpArgs false
theorem told_of (size : Nat) : ∀ (m : Nat) (A B : List (List Cel)), A.length + B.length ≤ m → (∀ c ∈ toldR size A B, (c.r ∈ A ∨ c.r ∈ B) ∧ 1 ≤ c.k ∧ c.k ≤ 4) ∧ (toldR size A B).length ≤ A.length + B.length
  | m, [], [], _ => by rw [toldR]; exact ⟨fun c hc => absurd hc List.not_mem_nil, Nat.zero_le _⟩
  | 0, a :: A, B, h => absurd h (by simp)
  | 0, [], b :: B, h => absurd h (by simp)
  | m + 1, a :: A, [], h => by
    obtain ⟨h1, h2⟩ := told_of size m A [] (by simp at h ⊢; omega)
    rw [toldR]
    refine ⟨fun c hc => ?_, by simp at h2 ⊢; omega⟩
    rcases List.mem_cons.1 hc with rfl | hc
    · exact ⟨.inl (List.mem_cons_self ..), by show (1 : Int) ≤ _; simp, by simp⟩
    · obtain ⟨k1, k2⟩ := h1 c hc
      exact ⟨k1.imp (List.mem_cons_of_mem _) id, k2⟩
  | m + 1, [], b :: B, h => by
    obtain ⟨h1, h2⟩ := told_of size m [] B (by simp at h ⊢; omega)
    rw [toldR]
    refine ⟨fun c hc => ?_, by simp at h2 ⊢; omega⟩
    rcases List.mem_cons.1 hc with rfl | hc
    · exact ⟨.inr (List.mem_cons_self ..), by show (1 : Int) ≤ _; simp, by simp⟩
    · obtain ⟨k1, k2⟩ := h1 c hc
      exact ⟨k1.imp id (List.mem_cons_of_mem _), k2⟩
  | m + 1, a :: A, b :: B, h => by
    rw [toldR]
    split
    · obtain ⟨h1, h2⟩ := told_of size m A (b :: B) (by simp at h ⊢; omega)
      refine ⟨fun c hc => ?_, by simp at h2 ⊢; omega⟩
      rcases List.mem_cons.1 hc with rfl | hc
      · exact ⟨.inl (List.mem_cons_self ..), by show (1 : Int) ≤ _; simp, by simp⟩
      · obtain ⟨k1, k2⟩ := h1 c hc
        exact ⟨k1.imp (List.mem_cons_of_mem _) id, k2⟩
    · split
      · obtain ⟨h1, h2⟩ := told_of size m (a :: A) B (by simp at h ⊢; omega)
        refine ⟨fun c hc => ?_, by simp at h2 ⊢; omega⟩
        rcases List.mem_cons.1 hc with rfl | hc
        · exact ⟨.inr (List.mem_cons_self ..), by show (1 : Int) ≤ _; simp, by simp⟩
        · obtain ⟨k1, k2⟩ := h1 c hc
          exact ⟨k1.imp id (List.mem_cons_of_mem _), k2⟩
      · obtain ⟨h1, h2⟩ := told_of size m A B (by simp at h ⊢; omega)
        refine ⟨fun c hc => ?_, ?_⟩
        · rcases List.mem_append.1 hc with hc | hc
          · split at hc
            · exact absurd hc List.not_mem_nil
            · simp only [List.mem_cons, List.not_mem_nil, or_false] at hc
              rcases hc with rfl | rfl
              · exact ⟨.inl (List.mem_cons_self ..), by show (1 : Int) ≤ _; simp, by simp⟩
              · exact ⟨.inr (List.mem_cons_self ..), by show (1 : Int) ≤ _; simp, by simp⟩
          · obtain ⟨k1, k2⟩ := h1 c hc
            exact ⟨k1.imp (List.mem_cons_of_mem _) (List.mem_cons_of_mem _), k2⟩
        · rw [List.length_append]
          split
          · simp at h2 ⊢; omega
          · simp at h2 ⊢; omega
theorem rowr_wf {p : Pln} {gs : List Grp} (h : grpsErr p gs = 0) (hwf : ∀ g ∈ gs, wfG g) : ∀ r ∈ gs.map (fun g => (rowC p g).r), wfRow r ∧ r.length ≤ 9223372036854775807 := fun r hr => by
  obtain ⟨g, hm, rfl⟩ := List.mem_map.1 hr
  obtain ⟨i, hi, rfl⟩ := List.getElem_of_mem hm
  have e : gs.getD i default = gs[i] := by rw [List.getD_eq_getElem?_getD, List.getElem?_eq_getElem hi]; rfl
  have hk := rowC_ok (okG_of h).1 (okG_of h).2.1 (right_at h hwf i hi).1
  rw [e] at hk
  exact ⟨fun c hc => (hk.2 c hc).2, by have := hk.1; show (_ ++ figsG p _).length ≤ _; omega⟩
/-- Step's answer as one: nothing beside an error -/
structure stepW (R : Int × List Grp × List ch.Chg) : Prop where
  wf : ch.wfChgs R.2.2
  tl : R.2.2.length ≤ 9223372036854775807
  gl : R.2.1.length ≤ 1000000
  bd : ∀ g ∈ R.2.1, g.row.length ≤ 1000 ∧ g.bags.length ≤ 1000 ∧ ∀ l ∈ g.bags, l.length ≤ 1073741824
  none : R.1 ≠ 0 → R.2.1 = [] ∧ R.2.2 = []
theorem none_w (E : Int) : stepW (E, [], []) := ⟨fun c hc => absurd hc List.not_mem_nil, Nat.zero_le _, Nat.zero_le _, fun g hg => absurd hg List.not_mem_nil, fun _ => ⟨rfl, rfl⟩⟩
theorem doAll_right {p : Pln} (h0 : planErr p = 0) (hg : p.grouped = true) : ∀ {l : List ch.Chg} {gs : List Grp}, (∀ c ∈ l, rowF p c.r) → gsR p gs → (doAll p gs l).1 = 0 → gsR p (doAll p gs l).2
  | [], gs, _, hR, _ => hR
  | c :: l, gs, hr, hR, h => by
    by_cases hd : (doG p c.k c.r gs).1 = 0
    · rw [doAll_ok hd] at h ⊢
      exact doAll_right h0 hg (fun c' hc => hr c' (List.mem_cons_of_mem _ hc)) (do_right h0 hg (hr c (List.mem_cons_self ..)) hR hd) h
    · rw [doAll_bad hd] at h
      exact absurd h hd
theorem step_w {p : Pln} {gs : List Grp} {l : List ch.Chg} (hwf : ∀ g ∈ gs, wfG g) (hwl : ch.wfChgs l) : stepW (stepG p gs l) := by
  unfold stepG
  split
  · exact none_w _
  · rename_i h1
    have h1 : grpsErr p gs = 0 := Classical.byContradiction h1
    split
    · exact none_w _
    · rename_i h2
      have h2 : chgsErr p l = 0 := Classical.byContradiction h2
      split
      · exact none_w _
      · rename_i h3
        have h3 : (doAll p gs l).1 = 0 := Classical.byContradiction h3
        obtain ⟨h0, hg, hl, _⟩ := okG_of h1
        have hf := group_few h0 hg
        have hrows : ∀ c ∈ l, rowF p c.r := fun c hc => by
          obtain ⟨i, hi, rfl⟩ := List.getElem_of_mem hc
          have e : l.getD i default = l[i] := by rw [List.getD_eq_getElem?_getD, List.getElem?_eq_getElem hi]; rfl
          rw [← e]
          exact ((chgs_rows h2 hwl).2 i hi).1
        have hR := doAll_right h0 hg hrows (gs_right h1 hwf) h3
        have he := gs_err h0 hg hR
        have hw2 := gs_wf h0 hg hR
        obtain ⟨t1, t2⟩ := told_of p.group.length _ (gs.map fun g => (rowC p g).r) ((doAll p gs l).2.map fun g => (rowC p g).r) (Nat.le_refl _)
        rw [List.length_map, List.length_map] at t2
        have hm := hR.many
        refine ⟨fun c hc => ?_, by dsimp only; omega, by dsimp only; omega, fun g hm => ?_, fun h => absurd rfl h⟩
        · obtain ⟨k1, k2, k3⟩ := t1 c hc
          have hr : wfRow c.r ∧ c.r.length ≤ 9223372036854775807 := by
            rcases k1 with k | k
            · exact rowr_wf h1 hwf _ k
            · exact rowr_wf he hw2 _ k
          exact ⟨hr.1, hr.2, by omega, by omega⟩
        · obtain ⟨hr, n1, n2⟩ := hR.each g hm
          refine ⟨by rw [row_len hr]; omega, by rw [hr.bl]; omega, fun t ht => ?_⟩
          obtain ⟨j, hj, rfl⟩ := List.getElem_of_mem ht
          have hb := bag_len (hr.bag j (by rw [← hr.bl]; exact hj)) ⟨by omega, n2⟩
          have e : g.bags.getD j [] = g.bags[j] := by rw [List.getD_eq_getElem?_getD, List.getElem?_eq_getElem hj]; rfl
          rw [e] at hb
          exact hb.1
theorem step_one {R : Int × List Grp × List ch.Chg} (hw : stepW R) {e : Ending} {w' : World} (h : stepRes R e w') : ∃ ga gc xs ta tc, e = .returned (.tuple #[.slice ga R.2.1.length gc, .slice ta R.2.2.length tc, .int .i64 R.1]) ∧ gsAt w' ga xs R.2.1 ∧ ch.chgsAt w' ta R.2.2 := by
  rcases h with ⟨h0, rfl⟩ | ⟨h0, ga, gc, xs, ta, tc, rfl, h1, h2⟩
  · obtain ⟨e1, e2⟩ := hw.none h0
    rw [e1, e2]
    exact ⟨none, 0, [], none, 0, rfl, ⟨rfl, fun i hi => absurd hi (Nat.not_lt_zero i), fun i hi => absurd hi (Nat.not_lt_zero i)⟩, fun i hi => absurd hi (Nat.not_lt_zero i)⟩
  · exact ⟨ga, gc, xs, ta, tc, by rw [h0], h1, h2⟩
end Go.Proofs.YtbfbgdinhiglaaaGreat.gr
/- The plan counted(), laid in memory. -/
namespace Go.Proofs.YtbfbgdinhiglaaaGreat.pl
open Go.ChangeShapes Go.WideShapes Go.ChangeAt Go.RowKit
open vl
set_option linter.unusedVariables false
set_option linter.unusedSimpArgs false
def simpleP : Pln := ⟨1, 4, -5, 5, 0, 2, [2, 2], [2, 2], [0], [0], false, [], []⟩
def countedP : Pln := ⟨1, 4, -5, 5, 0, 2, [2, 2], [2, 2], [0], [0], true, [0], [(1, 0), (2, 1)]⟩
theorem wf_counted : wfPlan countedP := ⟨by unfold i64; decide, by unfold i64; decide, by decide, by decide, by decide, by decide, by decide, by decide⟩
theorem ints1 {w : World} {b : Nat} {x : Int} (h0 : w.cell? ⟨b, 0, none⟩ = some (.int .i64 x)) : intsAt w (some ⟨b, 0, none⟩) [x] := by
  intro i hi
  match i, hi with
  | 0, _ => exact ⟨b, 0, rfl, h0⟩
theorem ints2 {w : World} {b : Nat} {x y : Int} (h0 : w.cell? ⟨b, 0, none⟩ = some (.int .i64 x)) (h1 : w.cell? ⟨b, 1, none⟩ = some (.int .i64 y)) : intsAt w (some ⟨b, 0, none⟩) [x, y] := by
  intro i hi
  match i, hi with
  | 0, _ => exact ⟨b, 0, rfl, h0⟩
  | 1, _ => exact ⟨b, 0, rfl, h1⟩
theorem ints0 {w : World} {a : Option Addr} : intsAt w a [] := fun i hi => absurd hi (Nat.not_lt_zero i)
theorem aggs0 {w : World} {a : Option Addr} : aggsAt w a [] := fun i hi => absurd hi (Nat.not_lt_zero i)
theorem aggs2 {w : World} {b : Nat} {x y z u : Int} (h0 : w.cell? ⟨b, 0, none⟩ = some (.int .i64 x)) (h1 : w.cell? ⟨b, 1, none⟩ = some (.int .i64 y)) (h2 : w.cell? ⟨b, 2, none⟩ = some (.int .i64 z)) (h3 : w.cell? ⟨b, 3, none⟩ = some (.int .i64 u)) : aggsAt w (some ⟨b, 0, none⟩) [(x, y), (z, u)] := by
  intro i hi
  match i, hi with
  | 0, _ => exact ⟨b, 0, rfl, h0, h1⟩
  | 1, _ => exact ⟨b, 0, rfl, h2, h3⟩
theorem planAt_of {w : World} {p : Pln} {x : PA} (h1 : intsAt w x.l p.left) (h2 : intsAt w x.r p.right) (h3 : intsAt w x.lk p.lkeys) (h4 : intsAt w x.rk p.rkeys) (h5 : intsAt w x.g p.group) (h6 : aggsAt w x.a p.aggs) : planAt w p x := ⟨h1, h2, h3, h4, h5, h6⟩
/-- it lies beyond n -/
def above (n : Nat) (a : Option Addr) : Prop := ∀ y, a = some y → n ≤ y.block
theorem above_mk {n b o : Nat} (h : n ≤ b) : above n (some ⟨b, o, none⟩) := fun y hy => by cases hy; exact h
theorem intsAt_keep {w w' : World} {a : Option Addr} {l : List Int} {n : Nat} (h : intsAt w a l) (ha : above n a) (hk : ∀ b o, n ≤ b → b < w.heap.size → w'.cell? ⟨b, o, none⟩ = w.cell? ⟨b, o, none⟩) : intsAt w' a l := by
  intro i hi
  obtain ⟨b, o, e, x⟩ := h i hi
  exact ⟨b, o, e, by rw [hk b _ (ha _ e) (World.block_lt_of_cell? _ _ x)]; exact x⟩
/-- so many cells stored, one behind the other -/
def st (W : World) (B : Nat) : Nat → List Value → World
  | _, [] => W
  | o, v :: vs => st (W.setCell ⟨B, o, none⟩ v) B (o + 1) vs
theorem st_other (W : World) (B o : Nat) (vs : List Value) {b q : Nat} (h : b ≠ B) : (st W B o vs).cell? ⟨b, q, none⟩ = W.cell? ⟨b, q, none⟩ := by
  induction vs generalizing W o with
  | nil => rfl
  | cons v vs ih =>
    rw [st, ih]
    exact World.cell?_setCell_other _ _ _ _ (fun e => by injection e with e1; exact h e1.symm)
theorem st_below {n : Nat} {a W : World} (B o : Nat) (vs : List Value) (h : Below n a W) (hB : n ≤ B) : Below n a (st W B o vs) := by
  induction vs generalizing W o with
  | nil => exact h
  | cons v vs ih => exact ih _ (h.setCell (p := ⟨B, o, none⟩) hB v)
theorem st_size (W : World) (B o : Nat) (vs : List Value) : (st W B o vs).heap.size = W.heap.size := by
  induction vs generalizing W o with
  | nil => rfl
  | cons v vs ih => rw [st, ih]; simp
theorem st_low (W : World) (B o : Nat) (vs : List Value) {q : Nat} (h : q < o) : (st W B o vs).cell? ⟨B, q, none⟩ = W.cell? ⟨B, q, none⟩ := by
  induction vs generalizing W o with
  | nil => rfl
  | cons v vs ih =>
    rw [st, ih _ _ (by omega)]
    exact World.cell?_setCell_other _ _ _ _ (fun e => by injection e; omega)
theorem st_at (W : World) (B o : Nat) (vs : List Value) (j : Nat) (hj : j < vs.length) (h : ∀ i, i < vs.length → ∃ u, W.cell? ⟨B, o + i, none⟩ = some u) : (st W B o vs).cell? ⟨B, o + j, none⟩ = vs[j]? := by
  induction vs generalizing W o j with
  | nil => exact absurd hj (Nat.not_lt_zero j)
  | cons v vs ih =>
    rw [st]
    obtain ⟨u, hu⟩ := h 0 (by simp)
    cases j with
    | zero =>
      rw [st_low _ _ _ _ (by omega)]
      simpa using World.cell?_setCell_same (u := u) W ⟨B, o, none⟩ v (by simpa using hu)
    | succ j =>
      have := ih (W.setCell ⟨B, o, none⟩ v) (o + 1) j (by simpa using hj) (fun i hi => by
        obtain ⟨u', hu'⟩ := h (i + 1) (by simpa using hi)
        refine ⟨u', ?_⟩
        rw [World.cell?_setCell_other _ _ _ _ (fun e => by injection e; omega)]
        rw [show o + 1 + i = o + (i + 1) by omega]; exact hu')
      rw [show o + (j + 1) = o + 1 + j by omega, this]
      simp
theorem al1 (S : World) (o1 o3 : Obj) (a : Value) (t : TypeId) {n : Nat} (h : S.heap.size = n) : (((S.alloc o1).alloc (.cells #[a] t)).alloc o3).cell? ⟨n + 1, 0, none⟩ = some a := by
  subst h
  have h1 : ((S.alloc o1).alloc (.cells #[a] t)).cell? ⟨S.heap.size + 1, 0, none⟩ = some a := by
    simp
  exact cell_later ((Below.refl _ _).alloc (Nat.le_refl _) _) h1
theorem al2 (S : World) (o1 o2 : Obj) (a b c d : Value) (t : TypeId) {n : Nat} (h : S.heap.size = n) : (((S.alloc o1).alloc o2).alloc (.cells #[a, b, c, d] t)).cell? ⟨n + 1 + 1, 0, none⟩ = some a ∧ (((S.alloc o1).alloc o2).alloc (.cells #[a, b, c, d] t)).cell? ⟨n + 1 + 1, 1, none⟩ = some b ∧ (((S.alloc o1).alloc o2).alloc (.cells #[a, b, c, d] t)).cell? ⟨n + 1 + 1, 2, none⟩ = some c ∧ (((S.alloc o1).alloc o2).alloc (.cells #[a, b, c, d] t)).cell? ⟨n + 1 + 1, 3, none⟩ = some d := by
  subst h
  refine ⟨?_, ?_, ?_, ?_⟩ <;> go_simp
set_option maxRecDepth 10000 in
set_option maxHeartbeats 4000000 in
theorem simple_any (w : World) : Calls Tryz.prog 66 #[] w fun e w' => (∃ x, e = .returned (planV simpleP x) ∧ planAt w' simpleP x ∧ above w.heap.size x.l ∧ above w.heap.size x.r ∧ above w.heap.size x.lk ∧ above w.heap.size x.rk) ∧ Below w.heap.size w w' := by
  go_enter Tryz.func66, Tryz.ntmps66
  go_wp2
  exact bodyPost_ret (v := .agg #[.int .i64 1, .int .i64 4, .int .i64 (-5), .int .i64 5, .int .i64 0, .int .i64 2, .slice (some ⟨w.heap.size + 1, 0, none⟩) 2 2, .slice (some ⟨w.heap.size + 1, 0, none⟩) 2 2, .slice (some ⟨w.heap.size + 1 + 1, 0, none⟩) 1 1, .slice (some ⟨w.heap.size + 1 + 1 + 1, 0, none⟩) 1 1, .bool false, .slice none 0 0, .slice none 0 0]) (by simp [results, Tryz.results66, go_sem]) rfl
    ⟨⟨⟨some ⟨w.heap.size + 1, 0, none⟩, 2, some ⟨w.heap.size + 1, 0, none⟩, 2, some ⟨w.heap.size + 1 + 1, 0, none⟩, 1, some ⟨w.heap.size + 1 + 1 + 1, 0, none⟩, 1, none, 0, none, 0⟩, rfl,
      planAt_of (ints2 (by go_simp) (by go_simp)) (ints2 (by go_simp) (by go_simp)) (ints1 (by go_simp)) (ints1 (by go_simp)) ints0 aggs0, above_mk (n := w.heap.size) (b := w.heap.size + 1) (by omega), above_mk (n := w.heap.size) (b := w.heap.size + 1) (by omega), above_mk (n := w.heap.size) (b := w.heap.size + 1 + 1) (by omega), above_mk (n := w.heap.size) (b := w.heap.size + 1 + 1 + 1) (by omega)⟩, by
      repeat (first | exact Below.refl _ _ | apply Below.drew | (refine Below.setCell ?_ (by simp) _) | (refine Below.alloc ?_ (by simp <;> omega) _))
      ⟩
set_option maxRecDepth 10000 in
set_option maxHeartbeats 4000000 in
theorem counted_any (w : World) : Calls Tryz.prog 30 #[] w fun e w' => (∃ x, e = .returned (planV countedP x) ∧ planAt w' countedP x) ∧ Below w.heap.size w w' := by
  go_enter Tryz.func30, Tryz.ntmps30
  go_wp2_with fail
  refine (simple_any _).mono ?_
  rintro e w1 ⟨⟨⟨l, lc, r, rc, lk, lkc, rk, rkc, g, gc, a, ac⟩, rfl, hp, u1, u2, u3, u4⟩, hb1⟩
  dsimp only at u1 u2 u3 u4
  have HP : Hid (planAt w1 simpleP ⟨l, lc, r, rc, lk, lkc, rk, rkc, g, gc, a, ac⟩) := hp
  have hba := ((Below.refl _ _).alloc (Nat.le_refl _) _).trans (hb1.mono (by simp))
  have hz1 : w.heap.size < w1.heap.size := (by have := hb1.size; simp at this; omega)
  obtain ⟨hc1, hf1⟩ := bcell hb1
  have z0 : w1.cell? ⟨w.heap.size, 0, none⟩ = some (.int .i64 0) := by rw [hc1 _ _ (by simp)]; go_simp
  have z1 : w1.cell? ⟨w.heap.size, 1, none⟩ = some (.int .i64 0) := by rw [hc1 _ _ (by simp)]; go_simp
  have z2 : w1.cell? ⟨w.heap.size, 2, none⟩ = some (.int .i64 0) := by rw [hc1 _ _ (by simp)]; go_simp
  have z3 : w1.cell? ⟨w.heap.size, 3, none⟩ = some (.int .i64 0) := by rw [hc1 _ _ (by simp)]; go_simp
  have z4 : w1.cell? ⟨w.heap.size, 4, none⟩ = some (.int .i64 0) := by rw [hc1 _ _ (by simp)]; go_simp
  have z5 : w1.cell? ⟨w.heap.size, 5, none⟩ = some (.int .i64 0) := by rw [hc1 _ _ (by simp)]; go_simp
  have z6 : w1.cell? ⟨w.heap.size, 6, none⟩ = some (.slice none 0 0) := by rw [hc1 _ _ (by simp)]; go_simp
  have z7 : w1.cell? ⟨w.heap.size, 7, none⟩ = some (.slice none 0 0) := by rw [hc1 _ _ (by simp)]; go_simp
  have z8 : w1.cell? ⟨w.heap.size, 8, none⟩ = some (.slice none 0 0) := by rw [hc1 _ _ (by simp)]; go_simp
  have z9 : w1.cell? ⟨w.heap.size, 9, none⟩ = some (.slice none 0 0) := by rw [hc1 _ _ (by simp)]; go_simp
  have z10 : w1.cell? ⟨w.heap.size, 10, none⟩ = some (.bool false) := by rw [hc1 _ _ (by simp)]; go_simp
  have z11 : w1.cell? ⟨w.heap.size, 11, none⟩ = some (.slice none 0 0) := by rw [hc1 _ _ (by simp)]; go_simp
  have z12 : w1.cell? ⟨w.heap.size, 12, none⟩ = some (.slice none 0 0) := by rw [hc1 _ _ (by simp)]; go_simp
  have hfz : ∀ o, w1.frozen? ⟨w.heap.size, o, none⟩ = false := fun o => by rw [hf1 _ _ (by simp)]; go_simp
  have hz2 : w.heap.size < w1.heap.size + 1 := by omega
  have hz3 : w.heap.size < w1.heap.size + 1 + 1 := by omega
  have hz4 : w.heap.size < w1.heap.size + 1 + 1 + 1 := by omega
  clear hp hc1 hf1
  unfold planV simpleP
  dsimp only [List.length_cons, List.length_nil]
  have U : Hid (above (w.heap.size + 1) l ∧ above (w.heap.size + 1) r ∧ above (w.heap.size + 1) lk ∧ above (w.heap.size + 1) rk) := ⟨by simpa using u1, by simpa using u2, by simpa using u3, by simpa using u4⟩
  clear u1 u2 u3 u4
  go_wp2
  generalize hW : (World.alloc (World.alloc (World.alloc _ _) _) _) = W'
  have hW2 : (((st w1 w.heap.size 0 [.int .i64 1, .int .i64 4, .int .i64 (-5), .int .i64 5, .int .i64 0, .int .i64 2, .slice l 2 lc, .slice r 2 rc, .slice lk 1 lkc, .slice rk 1 rkc, .bool true, .slice (some ⟨w1.heap.size + 1, 0, none⟩) 1 1, .slice (some ⟨w1.heap.size + 1 + 1, 0, none⟩) 2 2]).alloc (.cells #[.int .i64 1, .int .i64 4, .int .i64 (-5), .int .i64 5, .int .i64 0, .int .i64 2, .slice l 2 lc, .slice r 2 rc, .slice lk 1 lkc, .slice rk 1 rkc, .bool true, .slice (some ⟨w1.heap.size + 1, 0, none⟩) 1 1, .slice (some ⟨w1.heap.size + 1 + 1, 0, none⟩) 2 2] 25)).alloc (.cells #[.int .i64 0] 3)).alloc (.cells #[.int .i64 1, .int .i64 0, .int .i64 2, .int .i64 1] 60) = W' := hW
  clear hW
  have hsS := st_size w1 w.heap.size 0 [.int .i64 1, .int .i64 4, .int .i64 (-5), .int .i64 5, .int .i64 0, .int .i64 2, .slice l 2 lc, .slice r 2 rc, .slice lk 1 lkc, .slice rk 1 rkc, .bool true, .slice (some ⟨w1.heap.size + 1, 0, none⟩) 1 1, .slice (some ⟨w1.heap.size + 1 + 1, 0, none⟩) 2 2]
  have hot : ∀ b q, b ≠ w.heap.size → (st w1 w.heap.size 0 [.int .i64 1, .int .i64 4, .int .i64 (-5), .int .i64 5, .int .i64 0, .int .i64 2, .slice l 2 lc, .slice r 2 rc, .slice lk 1 lkc, .slice rk 1 rkc, .bool true, .slice (some ⟨w1.heap.size + 1, 0, none⟩) 1 1, .slice (some ⟨w1.heap.size + 1 + 1, 0, none⟩) 2 2]).cell? ⟨b, q, none⟩ = w1.cell? ⟨b, q, none⟩ := fun b q h => st_other _ _ _ _ h
  have hat := fun j hj => st_at w1 w.heap.size 0 [.int .i64 1, .int .i64 4, .int .i64 (-5), .int .i64 5, .int .i64 0, .int .i64 2, .slice l 2 lc, .slice r 2 rc, .slice lk 1 lkc, .slice rk 1 rkc, .bool true, .slice (some ⟨w1.heap.size + 1, 0, none⟩) 1 1, .slice (some ⟨w1.heap.size + 1 + 1, 0, none⟩) 2 2] j hj (fun i hi => by
    match i, hi with
    | 0, _ => exact ⟨_, z0⟩
    | 1, _ => exact ⟨_, z1⟩
    | 2, _ => exact ⟨_, z2⟩
    | 3, _ => exact ⟨_, z3⟩
    | 4, _ => exact ⟨_, z4⟩
    | 5, _ => exact ⟨_, z5⟩
    | 6, _ => exact ⟨_, z6⟩
    | 7, _ => exact ⟨_, z7⟩
    | 8, _ => exact ⟨_, z8⟩
    | 9, _ => exact ⟨_, z9⟩
    | 10, _ => exact ⟨_, z10⟩
    | 11, _ => exact ⟨_, z11⟩
    | 12, _ => exact ⟨_, z12⟩
    )
  have hbS := st_below w.heap.size 0 [.int .i64 1, .int .i64 4, .int .i64 (-5), .int .i64 5, .int .i64 0, .int .i64 2, .slice l 2 lc, .slice r 2 rc, .slice lk 1 lkc, .slice rk 1 rkc, .bool true, .slice (some ⟨w1.heap.size + 1, 0, none⟩) 1 1, .slice (some ⟨w1.heap.size + 1 + 1, 0, none⟩) 2 2] hba (Nat.le_refl _)
  obtain ⟨S, hS⟩ : ∃ z, st w1 w.heap.size 0 [.int .i64 1, .int .i64 4, .int .i64 (-5), .int .i64 5, .int .i64 0, .int .i64 2, .slice l 2 lc, .slice r 2 rc, .slice lk 1 lkc, .slice rk 1 rkc, .bool true, .slice (some ⟨w1.heap.size + 1, 0, none⟩) 1 1, .slice (some ⟨w1.heap.size + 1 + 1, 0, none⟩) 2 2] = z := ⟨_, rfl⟩
  rw [hS] at hW2 hsS hot hat hbS
  clear hS
  have y0 : S.cell? ⟨w.heap.size, 0, none⟩ = some (.int .i64 1) := by have := hat 0 (by simp); simpa using this
  have y1 : S.cell? ⟨w.heap.size, 1, none⟩ = some (.int .i64 4) := by have := hat 1 (by simp); simpa using this
  have y2 : S.cell? ⟨w.heap.size, 2, none⟩ = some (.int .i64 (-5)) := by have := hat 2 (by simp); simpa using this
  have y3 : S.cell? ⟨w.heap.size, 3, none⟩ = some (.int .i64 5) := by have := hat 3 (by simp); simpa using this
  have y4 : S.cell? ⟨w.heap.size, 4, none⟩ = some (.int .i64 0) := by have := hat 4 (by simp); simpa using this
  have y5 : S.cell? ⟨w.heap.size, 5, none⟩ = some (.int .i64 2) := by have := hat 5 (by simp); simpa using this
  have y6 : S.cell? ⟨w.heap.size, 6, none⟩ = some (.slice l 2 lc) := by have := hat 6 (by simp); simpa using this
  have y7 : S.cell? ⟨w.heap.size, 7, none⟩ = some (.slice r 2 rc) := by have := hat 7 (by simp); simpa using this
  have y8 : S.cell? ⟨w.heap.size, 8, none⟩ = some (.slice lk 1 lkc) := by have := hat 8 (by simp); simpa using this
  have y9 : S.cell? ⟨w.heap.size, 9, none⟩ = some (.slice rk 1 rkc) := by have := hat 9 (by simp); simpa using this
  have y10 : S.cell? ⟨w.heap.size, 10, none⟩ = some (.bool true) := by have := hat 10 (by simp); simpa using this
  have y11 : S.cell? ⟨w.heap.size, 11, none⟩ = some (.slice (some ⟨w1.heap.size + 1, 0, none⟩) 1 1) := by have := hat 11 (by simp); simpa using this
  have y12 : S.cell? ⟨w.heap.size, 12, none⟩ = some (.slice (some ⟨w1.heap.size + 1 + 1, 0, none⟩) 2 2) := by have := hat 12 (by simp); simpa using this
  have hSs : S.heap.size = w1.heap.size := hsS
  have hbW : Below w.heap.size w W' := by
    rw [← hW2]
    exact ((hbS.alloc (by omega) _).alloc (by simp; omega) _).alloc (by simp; omega) _
  have hSW : Below S.heap.size S W' := by
    rw [← hW2]
    exact (((Below.refl _ _).alloc (Nat.le_refl _) _).alloc (by simp) _).alloc (by simp; omega) _
  have x0 : W'.cell? ⟨w.heap.size, 0, none⟩ = some (.int .i64 1) := cell_later hSW y0
  have x1 : W'.cell? ⟨w.heap.size, 1, none⟩ = some (.int .i64 4) := cell_later hSW y1
  have x2 : W'.cell? ⟨w.heap.size, 2, none⟩ = some (.int .i64 (-5)) := cell_later hSW y2
  have x3 : W'.cell? ⟨w.heap.size, 3, none⟩ = some (.int .i64 5) := cell_later hSW y3
  have x4 : W'.cell? ⟨w.heap.size, 4, none⟩ = some (.int .i64 0) := cell_later hSW y4
  have x5 : W'.cell? ⟨w.heap.size, 5, none⟩ = some (.int .i64 2) := cell_later hSW y5
  have x6 : W'.cell? ⟨w.heap.size, 6, none⟩ = some (.slice l 2 lc) := cell_later hSW y6
  have x7 : W'.cell? ⟨w.heap.size, 7, none⟩ = some (.slice r 2 rc) := cell_later hSW y7
  have x8 : W'.cell? ⟨w.heap.size, 8, none⟩ = some (.slice lk 1 lkc) := cell_later hSW y8
  have x9 : W'.cell? ⟨w.heap.size, 9, none⟩ = some (.slice rk 1 rkc) := cell_later hSW y9
  have x10 : W'.cell? ⟨w.heap.size, 10, none⟩ = some (.bool true) := cell_later hSW y10
  have x11 : W'.cell? ⟨w.heap.size, 11, none⟩ = some (.slice (some ⟨w1.heap.size + 1, 0, none⟩) 1 1) := cell_later hSW y11
  have x12 : W'.cell? ⟨w.heap.size, 12, none⟩ = some (.slice (some ⟨w1.heap.size + 1 + 1, 0, none⟩) 2 2) := cell_later hSW y12
  have hg0 : W'.cell? ⟨w1.heap.size + 1, 0, none⟩ = some (.int .i64 0) := by rw [← hW2]; exact al1 S _ _ _ _ hSs
  have ha0 : W'.cell? ⟨w1.heap.size + 1 + 1, 0, none⟩ = some (.int .i64 1) := by rw [← hW2]; exact (al2 S _ _ _ _ _ _ _ hSs).1
  have ha1 : W'.cell? ⟨w1.heap.size + 1 + 1, 1, none⟩ = some (.int .i64 0) := by rw [← hW2]; exact (al2 S _ _ _ _ _ _ _ hSs).2.1
  have ha2 : W'.cell? ⟨w1.heap.size + 1 + 1, 2, none⟩ = some (.int .i64 2) := by rw [← hW2]; exact (al2 S _ _ _ _ _ _ _ hSs).2.2.1
  have ha3 : W'.cell? ⟨w1.heap.size + 1 + 1, 3, none⟩ = some (.int .i64 1) := by rw [← hW2]; exact (al2 S _ _ _ _ _ _ _ hSs).2.2.2
  have hk : ∀ b o, w.heap.size + 1 ≤ b → b < w1.heap.size → W'.cell? ⟨b, o, none⟩ = w1.cell? ⟨b, o, none⟩ := fun b o h1 h2 => by
    rw [(bcell hSW).1 b o (by omega), hot b o (by omega)]
  clear hW2 hot hat hsS hSs hbS hSW y0 z0 y1 z1 y2 z2 y3 z3 y4 z4 y5 z5 y6 z6 y7 z7 y8 z8 y9 z9 y10 z10 y11 z11 y12 z12 hfz hb1
  exact bodyPost_ret (v := .agg #[.int .i64 1, .int .i64 4, .int .i64 (-5), .int .i64 5, .int .i64 0, .int .i64 2, .slice l 2 lc, .slice r 2 rc, .slice lk 1 lkc, .slice rk 1 rkc, .bool true, .slice (some ⟨w1.heap.size + 1, 0, none⟩) 1 1, .slice (some ⟨w1.heap.size + 1 + 1, 0, none⟩) 2 2]) (by simp [results, Tryz.results30, go_sem, x0, x1, x2, x3, x4, x5, x6, x7, x8, x9, x10, x11, x12]) rfl
    ⟨⟨⟨l, lc, r, rc, lk, lkc, rk, rkc, some ⟨w1.heap.size + 1, 0, none⟩, 1, some ⟨w1.heap.size + 1 + 1, 0, none⟩, 2⟩, rfl, planAt_of (intsAt_keep HP.out.l U.out.1 hk) (intsAt_keep HP.out.r U.out.2.1 hk) (intsAt_keep HP.out.lk U.out.2.2.1 hk) (intsAt_keep HP.out.rk U.out.2.2.2 hk) (ints1 hg0) (aggs2 ha0 ha1 ha2 ha3)⟩, hbW⟩
end Go.Proofs.YtbfbgdinhiglaaaGreat.pl
/- What groupBegun does: Step with two rows that come to one group. -/
namespace Go.Proofs.YtbfbgdinhiglaaaGreat.gr
open Go.ChangeShapes Go.WideShapes Go.ChangeAt Go.RowKit
open vl pl bt
set_option linter.unusedVariables false
set_option linter.unusedSimpArgs false
def cI (n : Int) : Cel := ⟨2, n, ⟨#[]⟩⟩
def rowB1 : List Cel := [cI 7, cI 1, cI 7, cI 2]
def rowB2 : List Cel := [cI 7, cI 5, cI 7, cI 2]
def chgsB : List ch.Chg := [⟨1, rowB1⟩, ⟨1, rowB2⟩]
def grpB2 : Grp := ⟨[cI 7], 2, [[], [(cI 1, 1), (cI 5, 1)]]⟩
theorem errB_none : grpsErr countedP [] = 0 := by kernel_rfl
theorem errB_one : grpsErr countedP [grpB2] = 0 := by kernel_rfl
theorem errB_chgs : chgsErr countedP chgsB = 0 := by kernel_rfl
theorem viewB : [grpB2].map (rowC countedP) = [⟨[cI 7, cI 2, cI 6], 1⟩] := by kernel_rfl
theorem wf_chgsB : ch.wfChgs chgsB := by
  have hr : ∀ a b c d : Int, i64 a → i64 b → i64 c → i64 d → wfRow [cI a, cI b, cI c, cI d] := fun a b c d ha hb hc hd z hz => by
    simp only [List.mem_cons, List.not_mem_nil, or_false] at hz
    rcases hz with rfl | rfl | rfl | rfl
    · exact ⟨ha, Nat.zero_le _⟩
    · exact ⟨hb, Nat.zero_le _⟩
    · exact ⟨hc, Nat.zero_le _⟩
    · exact ⟨hd, Nat.zero_le _⟩
  intro c hc
  simp only [chgsB, List.mem_cons, List.not_mem_nil, or_false] at hc
  rcases hc with rfl | rfl
  · exact ⟨hr 7 1 7 2 (by unfold i64; decide) (by unfold i64; decide) (by unfold i64; decide) (by unfold i64; decide), by decide, by decide⟩
  · exact ⟨hr 7 5 7 2 (by unfold i64; decide) (by unfold i64; decide) (by unfold i64; decide) (by unfold i64; decide), by decide, by decide⟩
theorem doB : doAll countedP [] chgsB = (0, [grpB2]) := by kernel_rfl
theorem stepB : ∃ r, stepG countedP [] chgsB = (0, [grpB2], [⟨1, r⟩]) := by
  refine ⟨(rowC countedP grpB2).r, ?_⟩
  unfold stepG
  rw [if_neg (by simp [errB_none]), if_neg (by simp [errB_chgs]), doB, if_neg (by simp)]
  simp [toldR]
theorem step_begun (x : PA) (lb lo lcp : Nat) (ra1 ra2 : Option Addr) (rc1 rc2 : Nat) (w : World) (hp : planAt w countedP x) (c0 : w.cell? ⟨lb, lo, none⟩ = some (.int .i64 1)) (c1 : w.cell? ⟨lb, lo + 1, none⟩ = some (.slice ra1 4 rc1)) (c2 : w.cell? ⟨lb, lo + 2, none⟩ = some (.int .i64 1)) (c3 : w.cell? ⟨lb, lo + 3, none⟩ = some (.slice ra2 4 rc2)) (r1 : vl.rowAt w ra1 rowB1) (r2 : vl.rowAt w ra2 rowB2) :
    Calls Tryz.prog 12 #[planV countedP x, .slice none 0 0, .slice (some ⟨lb, lo, none⟩) 2 lcp] w fun e w' => (∃ gb go gc tb tO tcap y, e = .returned (.tuple #[.slice (some ⟨gb, go, none⟩) 1 gc, .slice (some ⟨tb, tO, none⟩) 1 tcap, .int .i64 0]) ∧ gsAt w' (some ⟨gb, go, none⟩) [y] [grpB2] ∧ w'.cell? ⟨tb, tO, none⟩ = some (.int .i64 1)) ∧ Below w.heap.size w w' := by
  have hv : ch.chgsAt w (some ⟨lb, lo, none⟩) chgsB := fun i hi => by
    have hi2 : i = 0 ∨ i = 1 := by have : i < 2 := hi; omega
    rcases hi2 with rfl | rfl
    · exact ⟨lb, lo, ra1, rc1, rfl, c0, c1, r1⟩
    · exact ⟨lb, lo, ra2, rc2, rfl, c2, c3, r2⟩
  obtain ⟨r, hR⟩ := stepB
  refine (step_any countedP x none 0 [] [] (some ⟨lb, lo, none⟩) lcp chgsB w wf_counted hp ⟨rfl, fun i hi => absurd hi (Nat.not_lt_zero i), fun i hi => absurd hi (Nat.not_lt_zero i)⟩ (fun g hg => absurd hg (List.not_mem_nil)) (by decide) hv wf_chgsB (by decide)).mono ?_
  rintro e w' ⟨hres, hb⟩
  refine ⟨?_, hb⟩
  rw [hR] at hres
  rcases hres with ⟨h, _⟩ | ⟨_, ga, gc, xs, ta, tc, he, hg, ht⟩
  · exact absurd rfl h
  · dsimp only at he hg ht
    obtain ⟨gb, go, e1, _⟩ := hg.cells 0 (by decide)
    obtain ⟨tb, tO, _, _, e2, t1, _⟩ := ht 0 (by simp)
    subst e1 e2
    have hx : ∃ y, xs = [y] := by
      have hl := hg.len
      match xs, hl with
      | [y], _ => exact ⟨y, rfl⟩
    obtain ⟨y, rfl⟩ := hx
    exact ⟨gb, go, gc, tb, tO, tc, y, he, hg, t1⟩
end Go.Proofs.YtbfbgdinhiglaaaGreat.gr
/- The groups' view: View. -/
namespace Go.Proofs.YtbfbgdinhiglaaaGreat.gr
open Go.ChangeShapes Go.WideShapes Go.ChangeAt Go.RowKit
open vl pl bt
set_option linter.unusedVariables false
set_option linter.unusedSimpArgs false
attribute [local go_sem] Oper.semAt_some
/-- what View answers: the error, or the rows -/
def viewRes (E : Int) (n : Nat) (V : List ch.Cnt) (e : Ending) (w' : World) : Prop := (E ≠ 0 ∧ e = .returned (.tuple #[.slice none 0 0, .int .i64 E])) ∨ (E = 0 ∧ ∃ ad c, e = .returned (.tuple #[.slice ad n c, .int .i64 0]) ∧ ch.viewAt w' ad V)
set_option maxRecDepth 100000 in
set_option maxHeartbeats 4000000 in
theorem view_any (p : Pln) (x : PA) (a : Option Addr) (cap : Nat) (xs : List GX) (gs : List Grp) (w : World) (hw : wfPlan p) (hp : planAt w p x) (hgs : gsAt w a xs gs) (hwf : ∀ g ∈ gs, wfG g) (hgl : gs.length ≤ 9223372036854775807) :
    Calls Tryz.prog 6 #[planV p x, .slice a gs.length cap] w fun e w' => viewRes (grpsErr p gs) gs.length (gs.map (rowC p)) e w' ∧ Below w.heap.size w w' := by
  have KC : Hid (∀ w1, Below w.heap.size w w1 → Calls Tryz.prog 9 #[planV p x, .slice a gs.length cap] w1 fun e w' => e = .returned (.int .i64 (grpsErr p gs)) ∧ Below w1.heap.size w1 w') := fun w1 hb => check_any p x a cap xs gs w1 hw (planAt_below hp hb) (hgs.below hb) hwf hgl
  have KV : Hid (∀ w1, grpsErr p gs = 0 → Below w.heap.size w w1 → Calls Tryz.prog 20 #[planV p x, .slice a gs.length cap] w1 fun e w' => (∃ ad c, e = .returned (.slice ad gs.length c) ∧ ch.viewAt w' ad (gs.map (rowC p))) ∧ Below w1.heap.size w1 w') := fun w1 h hb => view_ok p x a cap xs gs w1 (planAt_below hp hb) (hgs.below hb) h
  obtain ⟨E, hE⟩ : ∃ z, grpsErr p gs = z := ⟨_, rfl⟩
  rw [hE] at KC KV ⊢
  obtain ⟨V, hV⟩ : ∃ z, gs.map (rowC p) = z := ⟨_, rfl⟩
  rw [hV] at KV ⊢
  obtain ⟨gn, hgn⟩ : ∃ z, gs.length = z := ⟨_, rfl⟩
  rw [hgn] at KC KV ⊢
  clear hE hV hgn hw hp hgs hwf hgl
  obtain ⟨kind, mode, low, high, size, limit, left, right, lkeys, rkeys, grouped, group, aggs⟩ := p
  obtain ⟨la, lc, rr, rc, lk, lkc, rk, rkc, ga, gc, ag, ac⟩ := x
  unfold planV at KC KV ⊢
  dsimp only at KC KV ⊢
  obtain ⟨n6, h6⟩ : ∃ n, left.length = n := ⟨_, rfl⟩
  obtain ⟨n7, h7⟩ : ∃ n, right.length = n := ⟨_, rfl⟩
  obtain ⟨n8, h8⟩ : ∃ n, lkeys.length = n := ⟨_, rfl⟩
  obtain ⟨n9, h9⟩ : ∃ n, rkeys.length = n := ⟨_, rfl⟩
  obtain ⟨n11, h11⟩ : ∃ n, group.length = n := ⟨_, rfl⟩
  obtain ⟨n12, h12⟩ : ∃ n, aggs.length = n := ⟨_, rfl⟩
  simp only [h6, h7, h8, h9, h11, h12] at KC KV ⊢
  clear h6 h7 h8 h9 h11 h12
  go_enter Tryz.func6, Tryz.ntmps6
  go_wp2_with fail
  generalize hV : (World.alloc w _) = U
  have hb0 : Below w.heap.size w U := by rw [← hV]; exact (Below.refl _ _).alloc (Nat.le_refl _) _
  have v0 : U.cell? ⟨w.heap.size, 0, none⟩ = some (.int .i64 kind) := by subst hV; go_simp
  have v1 : U.cell? ⟨w.heap.size, 1, none⟩ = some (.int .i64 mode) := by subst hV; go_simp
  have v2 : U.cell? ⟨w.heap.size, 2, none⟩ = some (.int .i64 low) := by subst hV; go_simp
  have v3 : U.cell? ⟨w.heap.size, 3, none⟩ = some (.int .i64 high) := by subst hV; go_simp
  have v4 : U.cell? ⟨w.heap.size, 4, none⟩ = some (.int .i64 size) := by subst hV; go_simp
  have v5 : U.cell? ⟨w.heap.size, 5, none⟩ = some (.int .i64 limit) := by subst hV; go_simp
  have v6 : U.cell? ⟨w.heap.size, 6, none⟩ = some (.slice la n6 lc) := by subst hV; go_simp
  have v7 : U.cell? ⟨w.heap.size, 7, none⟩ = some (.slice rr n7 rc) := by subst hV; go_simp
  have v8 : U.cell? ⟨w.heap.size, 8, none⟩ = some (.slice lk n8 lkc) := by subst hV; go_simp
  have v9 : U.cell? ⟨w.heap.size, 9, none⟩ = some (.slice rk n9 rkc) := by subst hV; go_simp
  have v10 : U.cell? ⟨w.heap.size, 10, none⟩ = some (.bool grouped) := by subst hV; go_simp
  have v11 : U.cell? ⟨w.heap.size, 11, none⟩ = some (.slice ga n11 gc) := by subst hV; go_simp
  have v12 : U.cell? ⟨w.heap.size, 12, none⟩ = some (.slice ag n12 ac) := by subst hV; go_simp
  clear hV
  refine (KC.out _ hb0).mono ?_
  rintro e w1 ⟨rfl, hb1⟩
  have hbw : Below w.heap.size w w1 := hb0.trans (hb1.mono hb0.size)
  replace v0 := cell_later hb1 v0
  replace v1 := cell_later hb1 v1
  replace v2 := cell_later hb1 v2
  replace v3 := cell_later hb1 v3
  replace v4 := cell_later hb1 v4
  replace v5 := cell_later hb1 v5
  replace v6 := cell_later hb1 v6
  replace v7 := cell_later hb1 v7
  replace v8 := cell_later hb1 v8
  replace v9 := cell_later hb1 v9
  replace v10 := cell_later hb1 v10
  replace v11 := cell_later hb1 v11
  replace v12 := cell_later hb1 v12
  clear hb1 hb0 KC
  by_cases h0 : E = 0
  · subst h0
    have KV2 : Hid (∀ w1, Below w.heap.size w w1 → _) := fun w1 hb => KV.out w1 rfl hb
    clear KV
    go_wp2_with (go_at_call 20; refine (KV2.out _ hbw).mono ?_; rintro e w2 ⟨⟨ad, c, rfl, hva⟩, hb2⟩)
    go_ret2
    exact ⟨.inr ⟨rfl, ad, c, rfl, hva⟩, hbw.trans (hb2.mono hbw.size)⟩
  · have h0' : (E != 0) = true := by simpa using h0
    go_wp2
    go_ret2
    exact ⟨.inl ⟨h0, rfl⟩, hbw⟩
end Go.Proofs.YtbfbgdinhiglaaaGreat.gr
