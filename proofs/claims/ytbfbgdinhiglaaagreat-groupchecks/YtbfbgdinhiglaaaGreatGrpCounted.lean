/- The plan counted(), laid in memory. -/
import Derived.Test.YtbfbgdinhiglaaaGreatGrpPure
namespace Go.Proofs.YtbfbgdinhiglaaaGreat.pl
open Go.ChangeShapes Go.WideShapes Go.ChangeAt Go.RowKit
open vl
set_option linter.unusedVariables false
set_option linter.unusedSimpArgs false
def simpleP : Pln := ⟨1, 4, -5, 5, 0, 2, [2, 2], [2, 2], [0], [0], false, [], []⟩
def countedP : Pln := ⟨1, 4, -5, 5, 0, 2, [2, 2], [2, 2], [0], [0], true, [0], [(1, 0), (2, 1)]⟩
theorem wf_simple : wfPlan simpleP := ⟨by unfold i64; decide, by unfold i64; decide, by decide, by decide, by decide, by decide, by decide, by decide⟩
theorem wf_counted : wfPlan countedP := ⟨by unfold i64; decide, by unfold i64; decide, by decide, by decide, by decide, by decide, by decide, by decide⟩
theorem err_simple : planErr simpleP = 0 := by kernel_rfl
theorem err_counted : planErr countedP = 0 := by kernel_rfl
theorem ints1 {w : World} {b : Nat} {x : Int} (h0 : w.cell? ⟨b, 0, none⟩ = some (.int .i64 x)) : intsAt w (some ⟨b, 0, none⟩) [x] := by
  intro i hi
  match i, hi with
  | 0, _ => exact ⟨b, 0, rfl, h0⟩
theorem ints2 {w : World} {b : Nat} {x y : Int} (h0 : w.cell? ⟨b, 0, none⟩ = some (.int .i64 x)) (h1 : w.cell? ⟨b, 1, none⟩ = some (.int .i64 y)) : intsAt w (some ⟨b, 0, none⟩) [x, y] := by
  intro i hi
  match i, hi with
  | 0, _ => exact ⟨b, 0, rfl, h0⟩
  | 1, _ => exact ⟨b, 0, rfl, h1⟩
theorem ints0 {w : World} {a : Option Addr} : intsAt w a [] := fun i hi => absurd hi (Nat.not_lt_zero i)
theorem aggs0 {w : World} {a : Option Addr} : aggsAt w a [] := fun i hi => absurd hi (Nat.not_lt_zero i)
theorem aggs2 {w : World} {b : Nat} {x y z u : Int} (h0 : w.cell? ⟨b, 0, none⟩ = some (.int .i64 x)) (h1 : w.cell? ⟨b, 1, none⟩ = some (.int .i64 y)) (h2 : w.cell? ⟨b, 2, none⟩ = some (.int .i64 z)) (h3 : w.cell? ⟨b, 3, none⟩ = some (.int .i64 u)) : aggsAt w (some ⟨b, 0, none⟩) [(x, y), (z, u)] := by
  intro i hi
  match i, hi with
  | 0, _ => exact ⟨b, 0, rfl, h0, h1⟩
  | 1, _ => exact ⟨b, 0, rfl, h2, h3⟩
theorem planAt_of {w : World} {p : Pln} {x : PA} (h1 : intsAt w x.l p.left) (h2 : intsAt w x.r p.right) (h3 : intsAt w x.lk p.lkeys) (h4 : intsAt w x.rk p.rkeys) (h5 : intsAt w x.g p.group) (h6 : aggsAt w x.a p.aggs) : planAt w p x := ⟨h1, h2, h3, h4, h5, h6⟩
/-- it lies beyond n -/
def above (n : Nat) (a : Option Addr) : Prop := ∀ y, a = some y → n ≤ y.block
theorem above_mk {n b o : Nat} (h : n ≤ b) : above n (some ⟨b, o, none⟩) := fun y hy => by cases hy; exact h
theorem intsAt_keep {w w' : World} {a : Option Addr} {l : List Int} {n : Nat} (h : intsAt w a l) (ha : above n a) (hk : ∀ b o, n ≤ b → b < w.heap.size → w'.cell? ⟨b, o, none⟩ = w.cell? ⟨b, o, none⟩) : intsAt w' a l := by
  intro i hi
  obtain ⟨b, o, e, x⟩ := h i hi
  exact ⟨b, o, e, by rw [hk b _ (ha _ e) (World.block_lt_of_cell? _ _ x)]; exact x⟩
/-- so many cells stored, one behind the other -/
def st (W : World) (B : Nat) : Nat → List Value → World
  | _, [] => W
  | o, v :: vs => st (W.setCell ⟨B, o, none⟩ v) B (o + 1) vs
theorem st_other (W : World) (B o : Nat) (vs : List Value) {b q : Nat} (h : b ≠ B) : (st W B o vs).cell? ⟨b, q, none⟩ = W.cell? ⟨b, q, none⟩ := by
  induction vs generalizing W o with
  | nil => rfl
  | cons v vs ih =>
    rw [st, ih]
    exact World.cell?_setCell_other _ _ _ _ (fun e => by injection e with e1; exact h e1.symm)
theorem st_below {n : Nat} {a W : World} (B o : Nat) (vs : List Value) (h : Below n a W) (hB : n ≤ B) : Below n a (st W B o vs) := by
  induction vs generalizing W o with
  | nil => exact h
  | cons v vs ih => exact ih _ (h.setCell (p := ⟨B, o, none⟩) hB v)
theorem st_size (W : World) (B o : Nat) (vs : List Value) : (st W B o vs).heap.size = W.heap.size := by
  induction vs generalizing W o with
  | nil => rfl
  | cons v vs ih => rw [st, ih]; simp
theorem st_low (W : World) (B o : Nat) (vs : List Value) {q : Nat} (h : q < o) : (st W B o vs).cell? ⟨B, q, none⟩ = W.cell? ⟨B, q, none⟩ := by
  induction vs generalizing W o with
  | nil => rfl
  | cons v vs ih =>
    rw [st, ih _ _ (by omega)]
    exact World.cell?_setCell_other _ _ _ _ (fun e => by injection e; omega)
theorem st_at (W : World) (B o : Nat) (vs : List Value) (j : Nat) (hj : j < vs.length) (h : ∀ i, i < vs.length → ∃ u, W.cell? ⟨B, o + i, none⟩ = some u) : (st W B o vs).cell? ⟨B, o + j, none⟩ = vs[j]? := by
  induction vs generalizing W o j with
  | nil => exact absurd hj (Nat.not_lt_zero j)
  | cons v vs ih =>
    rw [st]
    obtain ⟨u, hu⟩ := h 0 (by simp)
    cases j with
    | zero =>
      rw [st_low _ _ _ _ (by omega)]
      simpa using World.cell?_setCell_same (u := u) W ⟨B, o, none⟩ v (by simpa using hu)
    | succ j =>
      have := ih (W.setCell ⟨B, o, none⟩ v) (o + 1) j (by simpa using hj) (fun i hi => by
        obtain ⟨u', hu'⟩ := h (i + 1) (by simpa using hi)
        refine ⟨u', ?_⟩
        rw [World.cell?_setCell_other _ _ _ _ (fun e => by injection e; omega)]
        rw [show o + 1 + i = o + (i + 1) by omega]; exact hu')
      rw [show o + (j + 1) = o + 1 + j by omega, this]
      simp
theorem al1 (S : World) (o1 o3 : Obj) (a : Value) (t : TypeId) {n : Nat} (h : S.heap.size = n) : (((S.alloc o1).alloc (.cells #[a] t)).alloc o3).cell? ⟨n + 1, 0, none⟩ = some a := by
  subst h
  have h1 : ((S.alloc o1).alloc (.cells #[a] t)).cell? ⟨S.heap.size + 1, 0, none⟩ = some a := by
    simp
  exact cell_later ((Below.refl _ _).alloc (Nat.le_refl _) _) h1
theorem al2 (S : World) (o1 o2 : Obj) (a b c d : Value) (t : TypeId) {n : Nat} (h : S.heap.size = n) : (((S.alloc o1).alloc o2).alloc (.cells #[a, b, c, d] t)).cell? ⟨n + 1 + 1, 0, none⟩ = some a ∧ (((S.alloc o1).alloc o2).alloc (.cells #[a, b, c, d] t)).cell? ⟨n + 1 + 1, 1, none⟩ = some b ∧ (((S.alloc o1).alloc o2).alloc (.cells #[a, b, c, d] t)).cell? ⟨n + 1 + 1, 2, none⟩ = some c ∧ (((S.alloc o1).alloc o2).alloc (.cells #[a, b, c, d] t)).cell? ⟨n + 1 + 1, 3, none⟩ = some d := by
  subst h
  refine ⟨?_, ?_, ?_, ?_⟩ <;> go_simp
set_option maxRecDepth 10000 in
set_option maxHeartbeats 4000000 in
theorem simple_any (w : World) : Calls Tryz.prog 66 #[] w fun e w' => (∃ x, e = .returned (planV simpleP x) ∧ planAt w' simpleP x ∧ above w.heap.size x.l ∧ above w.heap.size x.r ∧ above w.heap.size x.lk ∧ above w.heap.size x.rk) ∧ Below w.heap.size w w' := by
  go_enter Tryz.func66, Tryz.ntmps66
  go_wp2
  exact bodyPost_ret (v := .agg #[.int .i64 1, .int .i64 4, .int .i64 (-5), .int .i64 5, .int .i64 0, .int .i64 2, .slice (some ⟨w.heap.size + 1, 0, none⟩) 2 2, .slice (some ⟨w.heap.size + 1, 0, none⟩) 2 2, .slice (some ⟨w.heap.size + 1 + 1, 0, none⟩) 1 1, .slice (some ⟨w.heap.size + 1 + 1 + 1, 0, none⟩) 1 1, .bool false, .slice none 0 0, .slice none 0 0]) (by simp [results, Tryz.results66, go_sem]) rfl
    ⟨⟨⟨some ⟨w.heap.size + 1, 0, none⟩, 2, some ⟨w.heap.size + 1, 0, none⟩, 2, some ⟨w.heap.size + 1 + 1, 0, none⟩, 1, some ⟨w.heap.size + 1 + 1 + 1, 0, none⟩, 1, none, 0, none, 0⟩, rfl,
      planAt_of (ints2 (by go_simp) (by go_simp)) (ints2 (by go_simp) (by go_simp)) (ints1 (by go_simp)) (ints1 (by go_simp)) ints0 aggs0, above_mk (n := w.heap.size) (b := w.heap.size + 1) (by omega), above_mk (n := w.heap.size) (b := w.heap.size + 1) (by omega), above_mk (n := w.heap.size) (b := w.heap.size + 1 + 1) (by omega), above_mk (n := w.heap.size) (b := w.heap.size + 1 + 1 + 1) (by omega)⟩, by
      repeat (first | exact Below.refl _ _ | apply Below.drew | (refine Below.setCell ?_ (by simp) _) | (refine Below.alloc ?_ (by simp <;> omega) _))
      ⟩
set_option maxRecDepth 10000 in
set_option maxHeartbeats 4000000 in
theorem counted_any (w : World) : Calls Tryz.prog 30 #[] w fun e w' => (∃ x, e = .returned (planV countedP x) ∧ planAt w' countedP x) ∧ Below w.heap.size w w' := by
  go_enter Tryz.func30, Tryz.ntmps30
  go_wp2_with fail
  refine (simple_any _).mono ?_
  rintro e w1 ⟨⟨⟨l, lc, r, rc, lk, lkc, rk, rkc, g, gc, a, ac⟩, rfl, hp, u1, u2, u3, u4⟩, hb1⟩
  dsimp only at u1 u2 u3 u4
  have HP : Hid (planAt w1 simpleP ⟨l, lc, r, rc, lk, lkc, rk, rkc, g, gc, a, ac⟩) := hp
  have hba := ((Below.refl _ _).alloc (Nat.le_refl _) _).trans (hb1.mono (by simp))
  have hz1 : w.heap.size < w1.heap.size := (by have := hb1.size; simp at this; omega)
  obtain ⟨hc1, hf1⟩ := bcell hb1
  have z0 : w1.cell? ⟨w.heap.size, 0, none⟩ = some (.int .i64 0) := by rw [hc1 _ _ (by simp)]; go_simp
  have z1 : w1.cell? ⟨w.heap.size, 1, none⟩ = some (.int .i64 0) := by rw [hc1 _ _ (by simp)]; go_simp
  have z2 : w1.cell? ⟨w.heap.size, 2, none⟩ = some (.int .i64 0) := by rw [hc1 _ _ (by simp)]; go_simp
  have z3 : w1.cell? ⟨w.heap.size, 3, none⟩ = some (.int .i64 0) := by rw [hc1 _ _ (by simp)]; go_simp
  have z4 : w1.cell? ⟨w.heap.size, 4, none⟩ = some (.int .i64 0) := by rw [hc1 _ _ (by simp)]; go_simp
  have z5 : w1.cell? ⟨w.heap.size, 5, none⟩ = some (.int .i64 0) := by rw [hc1 _ _ (by simp)]; go_simp
  have z6 : w1.cell? ⟨w.heap.size, 6, none⟩ = some (.slice none 0 0) := by rw [hc1 _ _ (by simp)]; go_simp
  have z7 : w1.cell? ⟨w.heap.size, 7, none⟩ = some (.slice none 0 0) := by rw [hc1 _ _ (by simp)]; go_simp
  have z8 : w1.cell? ⟨w.heap.size, 8, none⟩ = some (.slice none 0 0) := by rw [hc1 _ _ (by simp)]; go_simp
  have z9 : w1.cell? ⟨w.heap.size, 9, none⟩ = some (.slice none 0 0) := by rw [hc1 _ _ (by simp)]; go_simp
  have z10 : w1.cell? ⟨w.heap.size, 10, none⟩ = some (.bool false) := by rw [hc1 _ _ (by simp)]; go_simp
  have z11 : w1.cell? ⟨w.heap.size, 11, none⟩ = some (.slice none 0 0) := by rw [hc1 _ _ (by simp)]; go_simp
  have z12 : w1.cell? ⟨w.heap.size, 12, none⟩ = some (.slice none 0 0) := by rw [hc1 _ _ (by simp)]; go_simp
  have hfz : ∀ o, w1.frozen? ⟨w.heap.size, o, none⟩ = false := fun o => by rw [hf1 _ _ (by simp)]; go_simp
  have hz2 : w.heap.size < w1.heap.size + 1 := by omega
  have hz3 : w.heap.size < w1.heap.size + 1 + 1 := by omega
  have hz4 : w.heap.size < w1.heap.size + 1 + 1 + 1 := by omega
  clear hp hc1 hf1
  unfold planV simpleP
  dsimp only [List.length_cons, List.length_nil]
  have U : Hid (above (w.heap.size + 1) l ∧ above (w.heap.size + 1) r ∧ above (w.heap.size + 1) lk ∧ above (w.heap.size + 1) rk) := ⟨by simpa using u1, by simpa using u2, by simpa using u3, by simpa using u4⟩
  clear u1 u2 u3 u4
  go_wp2
  generalize hW : (World.alloc (World.alloc (World.alloc _ _) _) _) = W'
  have hW2 : (((st w1 w.heap.size 0 [.int .i64 1, .int .i64 4, .int .i64 (-5), .int .i64 5, .int .i64 0, .int .i64 2, .slice l 2 lc, .slice r 2 rc, .slice lk 1 lkc, .slice rk 1 rkc, .bool true, .slice (some ⟨w1.heap.size + 1, 0, none⟩) 1 1, .slice (some ⟨w1.heap.size + 1 + 1, 0, none⟩) 2 2]).alloc (.cells #[.int .i64 1, .int .i64 4, .int .i64 (-5), .int .i64 5, .int .i64 0, .int .i64 2, .slice l 2 lc, .slice r 2 rc, .slice lk 1 lkc, .slice rk 1 rkc, .bool true, .slice (some ⟨w1.heap.size + 1, 0, none⟩) 1 1, .slice (some ⟨w1.heap.size + 1 + 1, 0, none⟩) 2 2] 25)).alloc (.cells #[.int .i64 0] 3)).alloc (.cells #[.int .i64 1, .int .i64 0, .int .i64 2, .int .i64 1] 60) = W' := hW
  clear hW
  have hsS := st_size w1 w.heap.size 0 [.int .i64 1, .int .i64 4, .int .i64 (-5), .int .i64 5, .int .i64 0, .int .i64 2, .slice l 2 lc, .slice r 2 rc, .slice lk 1 lkc, .slice rk 1 rkc, .bool true, .slice (some ⟨w1.heap.size + 1, 0, none⟩) 1 1, .slice (some ⟨w1.heap.size + 1 + 1, 0, none⟩) 2 2]
  have hot : ∀ b q, b ≠ w.heap.size → (st w1 w.heap.size 0 [.int .i64 1, .int .i64 4, .int .i64 (-5), .int .i64 5, .int .i64 0, .int .i64 2, .slice l 2 lc, .slice r 2 rc, .slice lk 1 lkc, .slice rk 1 rkc, .bool true, .slice (some ⟨w1.heap.size + 1, 0, none⟩) 1 1, .slice (some ⟨w1.heap.size + 1 + 1, 0, none⟩) 2 2]).cell? ⟨b, q, none⟩ = w1.cell? ⟨b, q, none⟩ := fun b q h => st_other _ _ _ _ h
  have hat := fun j hj => st_at w1 w.heap.size 0 [.int .i64 1, .int .i64 4, .int .i64 (-5), .int .i64 5, .int .i64 0, .int .i64 2, .slice l 2 lc, .slice r 2 rc, .slice lk 1 lkc, .slice rk 1 rkc, .bool true, .slice (some ⟨w1.heap.size + 1, 0, none⟩) 1 1, .slice (some ⟨w1.heap.size + 1 + 1, 0, none⟩) 2 2] j hj (fun i hi => by
    match i, hi with
    | 0, _ => exact ⟨_, z0⟩
    | 1, _ => exact ⟨_, z1⟩
    | 2, _ => exact ⟨_, z2⟩
    | 3, _ => exact ⟨_, z3⟩
    | 4, _ => exact ⟨_, z4⟩
    | 5, _ => exact ⟨_, z5⟩
    | 6, _ => exact ⟨_, z6⟩
    | 7, _ => exact ⟨_, z7⟩
    | 8, _ => exact ⟨_, z8⟩
    | 9, _ => exact ⟨_, z9⟩
    | 10, _ => exact ⟨_, z10⟩
    | 11, _ => exact ⟨_, z11⟩
    | 12, _ => exact ⟨_, z12⟩
    )
  have hbS := st_below w.heap.size 0 [.int .i64 1, .int .i64 4, .int .i64 (-5), .int .i64 5, .int .i64 0, .int .i64 2, .slice l 2 lc, .slice r 2 rc, .slice lk 1 lkc, .slice rk 1 rkc, .bool true, .slice (some ⟨w1.heap.size + 1, 0, none⟩) 1 1, .slice (some ⟨w1.heap.size + 1 + 1, 0, none⟩) 2 2] hba (Nat.le_refl _)
  obtain ⟨S, hS⟩ : ∃ z, st w1 w.heap.size 0 [.int .i64 1, .int .i64 4, .int .i64 (-5), .int .i64 5, .int .i64 0, .int .i64 2, .slice l 2 lc, .slice r 2 rc, .slice lk 1 lkc, .slice rk 1 rkc, .bool true, .slice (some ⟨w1.heap.size + 1, 0, none⟩) 1 1, .slice (some ⟨w1.heap.size + 1 + 1, 0, none⟩) 2 2] = z := ⟨_, rfl⟩
  rw [hS] at hW2 hsS hot hat hbS
  clear hS
  have y0 : S.cell? ⟨w.heap.size, 0, none⟩ = some (.int .i64 1) := by have := hat 0 (by simp); simpa using this
  have y1 : S.cell? ⟨w.heap.size, 1, none⟩ = some (.int .i64 4) := by have := hat 1 (by simp); simpa using this
  have y2 : S.cell? ⟨w.heap.size, 2, none⟩ = some (.int .i64 (-5)) := by have := hat 2 (by simp); simpa using this
  have y3 : S.cell? ⟨w.heap.size, 3, none⟩ = some (.int .i64 5) := by have := hat 3 (by simp); simpa using this
  have y4 : S.cell? ⟨w.heap.size, 4, none⟩ = some (.int .i64 0) := by have := hat 4 (by simp); simpa using this
  have y5 : S.cell? ⟨w.heap.size, 5, none⟩ = some (.int .i64 2) := by have := hat 5 (by simp); simpa using this
  have y6 : S.cell? ⟨w.heap.size, 6, none⟩ = some (.slice l 2 lc) := by have := hat 6 (by simp); simpa using this
  have y7 : S.cell? ⟨w.heap.size, 7, none⟩ = some (.slice r 2 rc) := by have := hat 7 (by simp); simpa using this
  have y8 : S.cell? ⟨w.heap.size, 8, none⟩ = some (.slice lk 1 lkc) := by have := hat 8 (by simp); simpa using this
  have y9 : S.cell? ⟨w.heap.size, 9, none⟩ = some (.slice rk 1 rkc) := by have := hat 9 (by simp); simpa using this
  have y10 : S.cell? ⟨w.heap.size, 10, none⟩ = some (.bool true) := by have := hat 10 (by simp); simpa using this
  have y11 : S.cell? ⟨w.heap.size, 11, none⟩ = some (.slice (some ⟨w1.heap.size + 1, 0, none⟩) 1 1) := by have := hat 11 (by simp); simpa using this
  have y12 : S.cell? ⟨w.heap.size, 12, none⟩ = some (.slice (some ⟨w1.heap.size + 1 + 1, 0, none⟩) 2 2) := by have := hat 12 (by simp); simpa using this
  have hSs : S.heap.size = w1.heap.size := hsS
  have hbW : Below w.heap.size w W' := by
    rw [← hW2]
    exact ((hbS.alloc (by omega) _).alloc (by simp; omega) _).alloc (by simp; omega) _
  have hSW : Below S.heap.size S W' := by
    rw [← hW2]
    exact (((Below.refl _ _).alloc (Nat.le_refl _) _).alloc (by simp) _).alloc (by simp; omega) _
  have x0 : W'.cell? ⟨w.heap.size, 0, none⟩ = some (.int .i64 1) := cell_later hSW y0
  have x1 : W'.cell? ⟨w.heap.size, 1, none⟩ = some (.int .i64 4) := cell_later hSW y1
  have x2 : W'.cell? ⟨w.heap.size, 2, none⟩ = some (.int .i64 (-5)) := cell_later hSW y2
  have x3 : W'.cell? ⟨w.heap.size, 3, none⟩ = some (.int .i64 5) := cell_later hSW y3
  have x4 : W'.cell? ⟨w.heap.size, 4, none⟩ = some (.int .i64 0) := cell_later hSW y4
  have x5 : W'.cell? ⟨w.heap.size, 5, none⟩ = some (.int .i64 2) := cell_later hSW y5
  have x6 : W'.cell? ⟨w.heap.size, 6, none⟩ = some (.slice l 2 lc) := cell_later hSW y6
  have x7 : W'.cell? ⟨w.heap.size, 7, none⟩ = some (.slice r 2 rc) := cell_later hSW y7
  have x8 : W'.cell? ⟨w.heap.size, 8, none⟩ = some (.slice lk 1 lkc) := cell_later hSW y8
  have x9 : W'.cell? ⟨w.heap.size, 9, none⟩ = some (.slice rk 1 rkc) := cell_later hSW y9
  have x10 : W'.cell? ⟨w.heap.size, 10, none⟩ = some (.bool true) := cell_later hSW y10
  have x11 : W'.cell? ⟨w.heap.size, 11, none⟩ = some (.slice (some ⟨w1.heap.size + 1, 0, none⟩) 1 1) := cell_later hSW y11
  have x12 : W'.cell? ⟨w.heap.size, 12, none⟩ = some (.slice (some ⟨w1.heap.size + 1 + 1, 0, none⟩) 2 2) := cell_later hSW y12
  have hg0 : W'.cell? ⟨w1.heap.size + 1, 0, none⟩ = some (.int .i64 0) := by rw [← hW2]; exact al1 S _ _ _ _ hSs
  have ha0 : W'.cell? ⟨w1.heap.size + 1 + 1, 0, none⟩ = some (.int .i64 1) := by rw [← hW2]; exact (al2 S _ _ _ _ _ _ _ hSs).1
  have ha1 : W'.cell? ⟨w1.heap.size + 1 + 1, 1, none⟩ = some (.int .i64 0) := by rw [← hW2]; exact (al2 S _ _ _ _ _ _ _ hSs).2.1
  have ha2 : W'.cell? ⟨w1.heap.size + 1 + 1, 2, none⟩ = some (.int .i64 2) := by rw [← hW2]; exact (al2 S _ _ _ _ _ _ _ hSs).2.2.1
  have ha3 : W'.cell? ⟨w1.heap.size + 1 + 1, 3, none⟩ = some (.int .i64 1) := by rw [← hW2]; exact (al2 S _ _ _ _ _ _ _ hSs).2.2.2
  have hk : ∀ b o, w.heap.size + 1 ≤ b → b < w1.heap.size → W'.cell? ⟨b, o, none⟩ = w1.cell? ⟨b, o, none⟩ := fun b o h1 h2 => by
    rw [(bcell hSW).1 b o (by omega), hot b o (by omega)]
  clear hW2 hot hat hsS hSs hbS hSW y0 z0 y1 z1 y2 z2 y3 z3 y4 z4 y5 z5 y6 z6 y7 z7 y8 z8 y9 z9 y10 z10 y11 z11 y12 z12 hfz hb1
  exact bodyPost_ret (v := .agg #[.int .i64 1, .int .i64 4, .int .i64 (-5), .int .i64 5, .int .i64 0, .int .i64 2, .slice l 2 lc, .slice r 2 rc, .slice lk 1 lkc, .slice rk 1 rkc, .bool true, .slice (some ⟨w1.heap.size + 1, 0, none⟩) 1 1, .slice (some ⟨w1.heap.size + 1 + 1, 0, none⟩) 2 2]) (by simp [results, Tryz.results30, go_sem, x0, x1, x2, x3, x4, x5, x6, x7, x8, x9, x10, x11, x12]) rfl
    ⟨⟨⟨l, lc, r, rc, lk, lkc, rk, rkc, some ⟨w1.heap.size + 1, 0, none⟩, 1, some ⟨w1.heap.size + 1 + 1, 0, none⟩, 2⟩, rfl, planAt_of (intsAt_keep HP.out.l U.out.1 hk) (intsAt_keep HP.out.r U.out.2.1 hk) (intsAt_keep HP.out.lk U.out.2.2.1 hk) (intsAt_keep HP.out.rk U.out.2.2.2 hk) (ints1 hg0) (aggs2 ha0 ha1 ha2 ha3)⟩, hbW⟩
end Go.Proofs.YtbfbgdinhiglaaaGreat.pl
