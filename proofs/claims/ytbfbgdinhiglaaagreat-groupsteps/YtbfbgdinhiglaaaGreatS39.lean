import Derived.Test.YtbfbgdinhiglaaaGreatS13
import Derived.Test.YtbfbgdinhiglaaaGreatS29
import Derived.Test.YtbfbgdinhiglaaaGreatGrpRowsC
import Derived.Test.YtbfbgdinhiglaaaGreatMgChgD
namespace Go.Proofs.YtbfbgdinhiglaaaGreat.pl
open Go.ChangeShapes Go.WideShapes Go.ChangeAt Go.RowKit
open vl
set_option linter.unusedVariables false
set_option linter.unusedSimpArgs false
def simpleP : Pln := ⟨1, 4, -5, 5, 0, 2, [2, 2], [2, 2], [0], [0], false, [], []⟩
def countedP : Pln := ⟨1, 4, -5, 5, 0, 2, [2, 2], [2, 2], [0], [0], true, [0], [(1, 0), (2, 1)]⟩
theorem wf_counted : wfPlan countedP := ⟨by unfold i64; decide, by unfold i64; decide, by decide, by decide, by decide, by decide, by decide, by decide⟩
theorem ints1 {w : World} {b : Nat} {x : Int} (h0 : w.cell? ⟨b, 0, none⟩ = some (.int .i64 x)) : intsAt w (some ⟨b, 0, none⟩) [x] := by
 intro i hi
 match i, hi with
 | 0, _ => exact ⟨b, 0, rfl, h0⟩
theorem ints2 {w : World} {b : Nat} {x y : Int} (h0 : w.cell? ⟨b, 0, none⟩ = some (.int .i64 x)) (h1 : w.cell? ⟨b, 1, none⟩ = some (.int .i64 y)) : intsAt w (some ⟨b, 0, none⟩) [x, y] := by
 intro i hi
 match i, hi with
 | 0, _ => exact ⟨b, 0, rfl, h0⟩
 | 1, _ => exact ⟨b, 0, rfl, h1⟩
theorem ints0 {w : World} {a : Option Addr} : intsAt w a [] := fun i hi => absurd hi (Nat.not_lt_zero i)
theorem aggs0 {w : World} {a : Option Addr} : aggsAt w a [] := fun i hi => absurd hi (Nat.not_lt_zero i)
theorem aggs2 {w : World} {b : Nat} {x y z u : Int} (h0 : w.cell? ⟨b, 0, none⟩ = some (.int .i64 x)) (h1 : w.cell? ⟨b, 1, none⟩ = some (.int .i64 y)) (h2 : w.cell? ⟨b, 2, none⟩ = some (.int .i64 z)) (h3 : w.cell? ⟨b, 3, none⟩ = some (.int .i64 u)) : aggsAt w (some ⟨b, 0, none⟩) [(x, y), (z, u)] := by
 intro i hi
 match i, hi with
 | 0, _ => exact ⟨b, 0, rfl, h0, h1⟩
 | 1, _ => exact ⟨b, 0, rfl, h2, h3⟩
theorem planAt_of {w : World} {p : Pln} {x : PA} (h1 : intsAt w x.l p.left) (h2 : intsAt w x.r p.right) (h3 : intsAt w x.lk p.lkeys) (h4 : intsAt w x.rk p.rkeys) (h5 : intsAt w x.g p.group) (h6 : aggsAt w x.a p.aggs) : planAt w p x := ⟨h1, h2, h3, h4, h5, h6⟩
def above (n : Nat) (a : Option Addr) : Prop := ∀ y, a = some y → n ≤ y.block
theorem above_mk {n b o : Nat} (h : n ≤ b) : above n (some ⟨b, o, none⟩) := fun y hy => by cases hy; exact h
theorem intsAt_keep {w w' : World} {a : Option Addr} {l : List Int} {n : Nat} (h : intsAt w a l) (ha : above n a) (hk : ∀ b o, n ≤ b → b < w.heap.size → w'.cell? ⟨b, o, none⟩ = w.cell? ⟨b, o, none⟩) : intsAt w' a l := by
 intro i hi
 obtain ⟨b, o, e, x⟩ := h i hi
 exact ⟨b, o, e, by rw [hk b _ (ha _ e) (World.block_lt_of_cell? _ _ x)]; exact x⟩
def st (W : World) (B : Nat) : Nat → List Value → World
 | _, [] => W
 | o, v :: vs => st (W.setCell ⟨B, o, none⟩ v) B (o + 1) vs
theorem st_other (W : World) (B o : Nat) (vs : List Value) {b q : Nat} (h : b ≠ B) : (st W B o vs).cell? ⟨b, q, none⟩ = W.cell? ⟨b, q, none⟩ := by
 induction vs generalizing W o with
 | nil => rfl
 | cons v vs ih =>
  rw [st, ih]
  exact World.cell?_setCell_other _ _ _ _ (fun e => by injection e with e1; exact h e1.symm)
theorem st_below {n : Nat} {a W : World} (B o : Nat) (vs : List Value) (h : Below n a W) (hB : n ≤ B) : Below n a (st W B o vs) := by
 induction vs generalizing W o with
 | nil => exact h
 | cons v vs ih => exact ih _ (h.setCell (p := ⟨B, o, none⟩) hB v)
theorem st_size (W : World) (B o : Nat) (vs : List Value) : (st W B o vs).heap.size = W.heap.size := by
 induction vs generalizing W o with
 | nil => rfl
 | cons v vs ih => rw [st, ih]; simp
theorem st_low (W : World) (B o : Nat) (vs : List Value) {q : Nat} (h : q < o) : (st W B o vs).cell? ⟨B, q, none⟩ = W.cell? ⟨B, q, none⟩ := by
 induction vs generalizing W o with
 | nil => rfl
 | cons v vs ih =>
  rw [st, ih _ _ (by omega)]
  exact World.cell?_setCell_other _ _ _ _ (fun e => by injection e; omega)
theorem st_at (W : World) (B o : Nat) (vs : List Value) (j : Nat) (hj : j < vs.length) (h : ∀ i, i < vs.length → ∃ u, W.cell? ⟨B, o + i, none⟩ = some u) : (st W B o vs).cell? ⟨B, o + j, none⟩ = vs[j]? := by
 induction vs generalizing W o j with
 | nil => exact absurd hj (Nat.not_lt_zero j)
 | cons v vs ih =>
  rw [st]
  obtain ⟨u, hu⟩ := h 0 (by simp)
  cases j with
  | zero =>
   rw [st_low _ _ _ _ (by omega)]
   simpa using World.cell?_setCell_same (u := u) W ⟨B, o, none⟩ v (by simpa using hu)
  | succ j =>
   have := ih (W.setCell ⟨B, o, none⟩ v) (o + 1) j (by simpa using hj) (fun i hi => by
    obtain ⟨u', hu'⟩ := h (i + 1) (by simpa using hi)
    refine ⟨u', ?_⟩
    rw [World.cell?_setCell_other _ _ _ _ (fun e => by injection e; omega)]
    rw [show o + 1 + i = o + (i + 1) by omega]; exact hu')
   rw [show o + (j + 1) = o + 1 + j by omega, this]
   simp
theorem al1 (S : World) (o1 o3 : Obj) (a : Value) (t : TypeId) {n : Nat} (h : S.heap.size = n) : (((S.alloc o1).alloc (.cells #[a] t)).alloc o3).cell? ⟨n + 1, 0, none⟩ = some a := by
 subst h
 have h1 : ((S.alloc o1).alloc (.cells #[a] t)).cell? ⟨S.heap.size + 1, 0, none⟩ = some a := by
  simp
 exact cL (bR.alloc nR _) h1
theorem al2 (S : World) (o1 o2 : Obj) (a b c d : Value) (t : TypeId) {n : Nat} (h : S.heap.size = n) : (((S.alloc o1).alloc o2).alloc (.cells #[a, b, c, d] t)).cell? ⟨n + 1 + 1, 0, none⟩ = some a ∧ (((S.alloc o1).alloc o2).alloc (.cells #[a, b, c, d] t)).cell? ⟨n + 1 + 1, 1, none⟩ = some b ∧ (((S.alloc o1).alloc o2).alloc (.cells #[a, b, c, d] t)).cell? ⟨n + 1 + 1, 2, none⟩ = some c ∧ (((S.alloc o1).alloc o2).alloc (.cells #[a, b, c, d] t)).cell? ⟨n + 1 + 1, 3, none⟩ = some d := by
 subst h
 refine ⟨?_, ?_, ?_, ?_⟩ <;> go_simp
set_option maxRecDepth 10000 in
set_option maxHeartbeats 4000000 in
theorem simple_any (w : World) : Calls Tryz.prog 66 #[] w fun e w' => (∃ x, e = .returned (planV simpleP x) ∧ planAt w' simpleP x ∧ above w.heap.size x.l ∧ above w.heap.size x.r ∧ above w.heap.size x.lk ∧ above w.heap.size x.rk) ∧ Below w.heap.size w w' := by
 go_enter Tryz.func66, Tryz.ntmps66
 go_wp2
 exact bodyPost_ret (v := .agg #[.int .i64 1, .int .i64 4, .int .i64 (-5), .int .i64 5, .int .i64 0, .int .i64 2, .slice (some ⟨w.heap.size + 1, 0, none⟩) 2 2, .slice (some ⟨w.heap.size + 1, 0, none⟩) 2 2, .slice (some ⟨w.heap.size + 1 + 1, 0, none⟩) 1 1, .slice (some ⟨w.heap.size + 1 + 1 + 1, 0, none⟩) 1 1, .bool false, .slice none 0 0, .slice none 0 0]) (by simp [results, Tryz.results66, go_sem]) rfl
  ⟨⟨⟨some ⟨w.heap.size + 1, 0, none⟩, 2, some ⟨w.heap.size + 1, 0, none⟩, 2, some ⟨w.heap.size + 1 + 1, 0, none⟩, 1, some ⟨w.heap.size + 1 + 1 + 1, 0, none⟩, 1, none, 0, none, 0⟩, rfl,
   planAt_of (ints2 (by go_simp) (by go_simp)) (ints2 (by go_simp) (by go_simp)) (ints1 (by go_simp)) (ints1 (by go_simp)) ints0 aggs0, above_mk (n := w.heap.size) (b := w.heap.size + 1) (by omega), above_mk (n := w.heap.size) (b := w.heap.size + 1) (by omega), above_mk (n := w.heap.size) (b := w.heap.size + 1 + 1) (by omega), above_mk (n := w.heap.size) (b := w.heap.size + 1 + 1 + 1) (by omega)⟩, by
   repeat (first | exact bR | apply Below.drew | (refine Below.setCell ?_ (by simp) _) | (refine Below.alloc ?_ (by simp <;> omega) _))
   ⟩
set_option maxRecDepth 10000 in
set_option maxHeartbeats 4000000 in
theorem counted_any (w : World) : Calls Tryz.prog 30 #[] w fun e w' => (∃ x, e = .returned (planV countedP x) ∧ planAt w' countedP x) ∧ Below w.heap.size w w' := by
 go_enter Tryz.func30, Tryz.ntmps30
 go_wp2_with fail
 refine (simple_any _).mono ?_
 rintro e w1 ⟨⟨⟨l, lc, r, rc, lk, lkc, rk, rkc, g, gc, a, ac⟩, rfl, hp, u1, u2, u3, u4⟩, hb1⟩
 dsimp only at u1 u2 u3 u4
 have HP : Hid (planAt w1 simpleP ⟨l, lc, r, rc, lk, lkc, rk, rkc, g, gc, a, ac⟩) := hp
 have hba := (bR.alloc nR _).trans (hb1.mono (by simp))
 have hz1 : w.heap.size < w1.heap.size := (by have := hb1.size; simp at this; omega)
 obtain ⟨hc1, hf1⟩ := bcell hb1
 have z0 : w1.cell? ⟨w.heap.size, 0, none⟩ = some (.int .i64 0) := by rw [hc1 _ _ (by simp)]; go_simp
 have z1 : w1.cell? ⟨w.heap.size, 1, none⟩ = some (.int .i64 0) := by rw [hc1 _ _ (by simp)]; go_simp
 have z2 : w1.cell? ⟨w.heap.size, 2, none⟩ = some (.int .i64 0) := by rw [hc1 _ _ (by simp)]; go_simp
 have z3 : w1.cell? ⟨w.heap.size, 3, none⟩ = some (.int .i64 0) := by rw [hc1 _ _ (by simp)]; go_simp
 have z4 : w1.cell? ⟨w.heap.size, 4, none⟩ = some (.int .i64 0) := by rw [hc1 _ _ (by simp)]; go_simp
 have z5 : w1.cell? ⟨w.heap.size, 5, none⟩ = some (.int .i64 0) := by rw [hc1 _ _ (by simp)]; go_simp
 have z6 : w1.cell? ⟨w.heap.size, 6, none⟩ = some (.slice none 0 0) := by rw [hc1 _ _ (by simp)]; go_simp
 have z7 : w1.cell? ⟨w.heap.size, 7, none⟩ = some (.slice none 0 0) := by rw [hc1 _ _ (by simp)]; go_simp
 have z8 : w1.cell? ⟨w.heap.size, 8, none⟩ = some (.slice none 0 0) := by rw [hc1 _ _ (by simp)]; go_simp
 have z9 : w1.cell? ⟨w.heap.size, 9, none⟩ = some (.slice none 0 0) := by rw [hc1 _ _ (by simp)]; go_simp
 have z10 : w1.cell? ⟨w.heap.size, 10, none⟩ = some (.bool false) := by rw [hc1 _ _ (by simp)]; go_simp
 have z11 : w1.cell? ⟨w.heap.size, 11, none⟩ = some (.slice none 0 0) := by rw [hc1 _ _ (by simp)]; go_simp
 have z12 : w1.cell? ⟨w.heap.size, 12, none⟩ = some (.slice none 0 0) := by rw [hc1 _ _ (by simp)]; go_simp
 have hfz : ∀ o, w1.frozen? ⟨w.heap.size, o, none⟩ = false := fun o => by rw [hf1 _ _ (by simp)]; go_simp
 have hz2 : w.heap.size < w1.heap.size + 1 := by omega
 have hz3 : w.heap.size < w1.heap.size + 1 + 1 := by omega
 have hz4 : w.heap.size < w1.heap.size + 1 + 1 + 1 := by omega
 clear hp hc1 hf1
 unfold planV simpleP
 dsimp only [List.length_cons, List.length_nil]
 have U : Hid (above (w.heap.size + 1) l ∧ above (w.heap.size + 1) r ∧ above (w.heap.size + 1) lk ∧ above (w.heap.size + 1) rk) := ⟨by simpa using u1, by simpa using u2, by simpa using u3, by simpa using u4⟩
 clear u1 u2 u3 u4
 go_wp2
 generalize hW : (World.alloc (World.alloc (World.alloc _ _) _) _) = W'
 have hW2 : (((st w1 w.heap.size 0 [.int .i64 1, .int .i64 4, .int .i64 (-5), .int .i64 5, .int .i64 0, .int .i64 2, .slice l 2 lc, .slice r 2 rc, .slice lk 1 lkc, .slice rk 1 rkc, .bool true, .slice (some ⟨w1.heap.size + 1, 0, none⟩) 1 1, .slice (some ⟨w1.heap.size + 1 + 1, 0, none⟩) 2 2]).alloc (.cells #[.int .i64 1, .int .i64 4, .int .i64 (-5), .int .i64 5, .int .i64 0, .int .i64 2, .slice l 2 lc, .slice r 2 rc, .slice lk 1 lkc, .slice rk 1 rkc, .bool true, .slice (some ⟨w1.heap.size + 1, 0, none⟩) 1 1, .slice (some ⟨w1.heap.size + 1 + 1, 0, none⟩) 2 2] 25)).alloc (.cells #[.int .i64 0] 3)).alloc (.cells #[.int .i64 1, .int .i64 0, .int .i64 2, .int .i64 1] 60) = W' := hW
 clear hW
 have hsS := st_size w1 w.heap.size 0 [.int .i64 1, .int .i64 4, .int .i64 (-5), .int .i64 5, .int .i64 0, .int .i64 2, .slice l 2 lc, .slice r 2 rc, .slice lk 1 lkc, .slice rk 1 rkc, .bool true, .slice (some ⟨w1.heap.size + 1, 0, none⟩) 1 1, .slice (some ⟨w1.heap.size + 1 + 1, 0, none⟩) 2 2]
 have hot : ∀ b q, b ≠ w.heap.size → (st w1 w.heap.size 0 [.int .i64 1, .int .i64 4, .int .i64 (-5), .int .i64 5, .int .i64 0, .int .i64 2, .slice l 2 lc, .slice r 2 rc, .slice lk 1 lkc, .slice rk 1 rkc, .bool true, .slice (some ⟨w1.heap.size + 1, 0, none⟩) 1 1, .slice (some ⟨w1.heap.size + 1 + 1, 0, none⟩) 2 2]).cell? ⟨b, q, none⟩ = w1.cell? ⟨b, q, none⟩ := fun b q h => st_other _ _ _ _ h
 have hat := fun j hj => st_at w1 w.heap.size 0 [.int .i64 1, .int .i64 4, .int .i64 (-5), .int .i64 5, .int .i64 0, .int .i64 2, .slice l 2 lc, .slice r 2 rc, .slice lk 1 lkc, .slice rk 1 rkc, .bool true, .slice (some ⟨w1.heap.size + 1, 0, none⟩) 1 1, .slice (some ⟨w1.heap.size + 1 + 1, 0, none⟩) 2 2] j hj (fun i hi => by
  match i, hi with
  | 0, _ => exact ⟨_, z0⟩
  | 1, _ => exact ⟨_, z1⟩
  | 2, _ => exact ⟨_, z2⟩
  | 3, _ => exact ⟨_, z3⟩
  | 4, _ => exact ⟨_, z4⟩
  | 5, _ => exact ⟨_, z5⟩
  | 6, _ => exact ⟨_, z6⟩
  | 7, _ => exact ⟨_, z7⟩
  | 8, _ => exact ⟨_, z8⟩
  | 9, _ => exact ⟨_, z9⟩
  | 10, _ => exact ⟨_, z10⟩
  | 11, _ => exact ⟨_, z11⟩
  | 12, _ => exact ⟨_, z12⟩
  )
 have hbS := st_below w.heap.size 0 [.int .i64 1, .int .i64 4, .int .i64 (-5), .int .i64 5, .int .i64 0, .int .i64 2, .slice l 2 lc, .slice r 2 rc, .slice lk 1 lkc, .slice rk 1 rkc, .bool true, .slice (some ⟨w1.heap.size + 1, 0, none⟩) 1 1, .slice (some ⟨w1.heap.size + 1 + 1, 0, none⟩) 2 2] hba nR
 obtain ⟨S, hS⟩ : ∃ z, st w1 w.heap.size 0 [.int .i64 1, .int .i64 4, .int .i64 (-5), .int .i64 5, .int .i64 0, .int .i64 2, .slice l 2 lc, .slice r 2 rc, .slice lk 1 lkc, .slice rk 1 rkc, .bool true, .slice (some ⟨w1.heap.size + 1, 0, none⟩) 1 1, .slice (some ⟨w1.heap.size + 1 + 1, 0, none⟩) 2 2] = z := ⟨_, rfl⟩
 rw [hS] at hW2 hsS hot hat hbS
 clear hS
 have y0 : S.cell? ⟨w.heap.size, 0, none⟩ = some (.int .i64 1) := by have := hat 0 (by simp); simpa using this
 have y1 : S.cell? ⟨w.heap.size, 1, none⟩ = some (.int .i64 4) := by have := hat 1 (by simp); simpa using this
 have y2 : S.cell? ⟨w.heap.size, 2, none⟩ = some (.int .i64 (-5)) := by have := hat 2 (by simp); simpa using this
 have y3 : S.cell? ⟨w.heap.size, 3, none⟩ = some (.int .i64 5) := by have := hat 3 (by simp); simpa using this
 have y4 : S.cell? ⟨w.heap.size, 4, none⟩ = some (.int .i64 0) := by have := hat 4 (by simp); simpa using this
 have y5 : S.cell? ⟨w.heap.size, 5, none⟩ = some (.int .i64 2) := by have := hat 5 (by simp); simpa using this
 have y6 : S.cell? ⟨w.heap.size, 6, none⟩ = some (.slice l 2 lc) := by have := hat 6 (by simp); simpa using this
 have y7 : S.cell? ⟨w.heap.size, 7, none⟩ = some (.slice r 2 rc) := by have := hat 7 (by simp); simpa using this
 have y8 : S.cell? ⟨w.heap.size, 8, none⟩ = some (.slice lk 1 lkc) := by have := hat 8 (by simp); simpa using this
 have y9 : S.cell? ⟨w.heap.size, 9, none⟩ = some (.slice rk 1 rkc) := by have := hat 9 (by simp); simpa using this
 have y10 : S.cell? ⟨w.heap.size, 10, none⟩ = some (.bool true) := by have := hat 10 (by simp); simpa using this
 have y11 : S.cell? ⟨w.heap.size, 11, none⟩ = some (.slice (some ⟨w1.heap.size + 1, 0, none⟩) 1 1) := by have := hat 11 (by simp); simpa using this
 have y12 : S.cell? ⟨w.heap.size, 12, none⟩ = some (.slice (some ⟨w1.heap.size + 1 + 1, 0, none⟩) 2 2) := by have := hat 12 (by simp); simpa using this
 have hSs : S.heap.size = w1.heap.size := hsS
 have hbW : Below w.heap.size w W' := by
  rw [← hW2]
  exact ((hbS.alloc (by omega) _).alloc (by simp; omega) _).alloc (by simp; omega) _
 have hSW : Below S.heap.size S W' := by
  rw [← hW2]
  exact ((bR.alloc nR _).alloc (by simp) _).alloc (by simp; omega) _
 have x0 : W'.cell? ⟨w.heap.size, 0, none⟩ = some (.int .i64 1) := cL hSW y0
 have x1 : W'.cell? ⟨w.heap.size, 1, none⟩ = some (.int .i64 4) := cL hSW y1
 have x2 : W'.cell? ⟨w.heap.size, 2, none⟩ = some (.int .i64 (-5)) := cL hSW y2
 have x3 : W'.cell? ⟨w.heap.size, 3, none⟩ = some (.int .i64 5) := cL hSW y3
 have x4 : W'.cell? ⟨w.heap.size, 4, none⟩ = some (.int .i64 0) := cL hSW y4
 have x5 : W'.cell? ⟨w.heap.size, 5, none⟩ = some (.int .i64 2) := cL hSW y5
 have x6 : W'.cell? ⟨w.heap.size, 6, none⟩ = some (.slice l 2 lc) := cL hSW y6
 have x7 : W'.cell? ⟨w.heap.size, 7, none⟩ = some (.slice r 2 rc) := cL hSW y7
 have x8 : W'.cell? ⟨w.heap.size, 8, none⟩ = some (.slice lk 1 lkc) := cL hSW y8
 have x9 : W'.cell? ⟨w.heap.size, 9, none⟩ = some (.slice rk 1 rkc) := cL hSW y9
 have x10 : W'.cell? ⟨w.heap.size, 10, none⟩ = some (.bool true) := cL hSW y10
 have x11 : W'.cell? ⟨w.heap.size, 11, none⟩ = some (.slice (some ⟨w1.heap.size + 1, 0, none⟩) 1 1) := cL hSW y11
 have x12 : W'.cell? ⟨w.heap.size, 12, none⟩ = some (.slice (some ⟨w1.heap.size + 1 + 1, 0, none⟩) 2 2) := cL hSW y12
 have hg0 : W'.cell? ⟨w1.heap.size + 1, 0, none⟩ = some (.int .i64 0) := by rw [← hW2]; exact al1 S _ _ _ _ hSs
 have ha0 : W'.cell? ⟨w1.heap.size + 1 + 1, 0, none⟩ = some (.int .i64 1) := by rw [← hW2]; exact (al2 S _ _ _ _ _ _ _ hSs).1
 have ha1 : W'.cell? ⟨w1.heap.size + 1 + 1, 1, none⟩ = some (.int .i64 0) := by rw [← hW2]; exact (al2 S _ _ _ _ _ _ _ hSs).2.1
 have ha2 : W'.cell? ⟨w1.heap.size + 1 + 1, 2, none⟩ = some (.int .i64 2) := by rw [← hW2]; exact (al2 S _ _ _ _ _ _ _ hSs).2.2.1
 have ha3 : W'.cell? ⟨w1.heap.size + 1 + 1, 3, none⟩ = some (.int .i64 1) := by rw [← hW2]; exact (al2 S _ _ _ _ _ _ _ hSs).2.2.2
 have hk : ∀ b o, w.heap.size + 1 ≤ b → b < w1.heap.size → W'.cell? ⟨b, o, none⟩ = w1.cell? ⟨b, o, none⟩ := fun b o h1 h2 => by
  rw [(bcell hSW).1 b o (by omega), hot b o (by omega)]
 clear hW2 hot hat hsS hSs hbS hSW y0 z0 y1 z1 y2 z2 y3 z3 y4 z4 y5 z5 y6 z6 y7 z7 y8 z8 y9 z9 y10 z10 y11 z11 y12 z12 hfz hb1
 exact bodyPost_ret (v := .agg #[.int .i64 1, .int .i64 4, .int .i64 (-5), .int .i64 5, .int .i64 0, .int .i64 2, .slice l 2 lc, .slice r 2 rc, .slice lk 1 lkc, .slice rk 1 rkc, .bool true, .slice (some ⟨w1.heap.size + 1, 0, none⟩) 1 1, .slice (some ⟨w1.heap.size + 1 + 1, 0, none⟩) 2 2]) (by simp [results, Tryz.results30, go_sem, x0, x1, x2, x3, x4, x5, x6, x7, x8, x9, x10, x11, x12]) rfl
  ⟨⟨⟨l, lc, r, rc, lk, lkc, rk, rkc, some ⟨w1.heap.size + 1, 0, none⟩, 1, some ⟨w1.heap.size + 1 + 1, 0, none⟩, 2⟩, rfl, planAt_of (intsAt_keep HP.out.l U.out.1 hk) (intsAt_keep HP.out.r U.out.2.1 hk) (intsAt_keep HP.out.lk U.out.2.2.1 hk) (intsAt_keep HP.out.rk U.out.2.2.2 hk) (ints1 hg0) (aggs2 ha0 ha1 ha2 ha3)⟩, hbW⟩
end Go.Proofs.YtbfbgdinhiglaaaGreat.pl
namespace Go.Proofs.YtbfbgdinhiglaaaGreat.gr
open Go.ChangeShapes Go.WideShapes Go.ChangeAt Go.RowKit
open vl pl bt
set_option linter.unusedVariables false
set_option linter.unusedSimpArgs false
def cI (n : Int) : Cel := ⟨2, n, ⟨#[]⟩⟩
def rowB1 : List Cel := [cI 7, cI 1, cI 7, cI 2]
def rowB2 : List Cel := [cI 7, cI 5, cI 7, cI 2]
def chgsB : List ch.Chg := [⟨1, rowB1⟩, ⟨1, rowB2⟩]
def grpB2 : Grp := ⟨[cI 7], 2, [[], [(cI 1, 1), (cI 5, 1)]]⟩
theorem errB_none : grpsErr countedP [] = 0 := by kernel_rfl
theorem errB_one : grpsErr countedP [grpB2] = 0 := by kernel_rfl
theorem errB_chgs : chgsErr countedP chgsB = 0 := by kernel_rfl
theorem viewB : [grpB2].map (rowC countedP) = [⟨[cI 7, cI 2, cI 6], 1⟩] := by kernel_rfl
theorem wf_chgsB : ch.wfChgs chgsB := by
 have hr : ∀ a b c d : Int, i64 a → i64 b → i64 c → i64 d → wfRow [cI a, cI b, cI c, cI d] := fun a b c d ha hb hc hd z hz => by
  simp only [List.mem_cons, List.not_mem_nil, or_false] at hz
  rcases hz with rfl | rfl | rfl | rfl
  ·exact ⟨ha, Nat.zero_le _⟩
  ·exact ⟨hb, Nat.zero_le _⟩
  ·exact ⟨hc, Nat.zero_le _⟩
  ·exact ⟨hd, Nat.zero_le _⟩
 intro c hc
 simp only [chgsB, List.mem_cons, List.not_mem_nil, or_false] at hc
 rcases hc with rfl | rfl
 ·exact ⟨hr 7 1 7 2 (by unfold i64; decide) (by unfold i64; decide) (by unfold i64; decide) (by unfold i64; decide), by decide, by decide⟩
 ·exact ⟨hr 7 5 7 2 (by unfold i64; decide) (by unfold i64; decide) (by unfold i64; decide) (by unfold i64; decide), by decide, by decide⟩
theorem doB : doAll countedP [] chgsB = (0, [grpB2]) := by kernel_rfl
theorem stepB : ∃ r, stepG countedP [] chgsB = (0, [grpB2], [⟨1, r⟩]) := by
 refine ⟨(rowC countedP grpB2).r, ?_⟩
 unfold stepG
 rw [if_neg (by simp [errB_none]), if_neg (by simp [errB_chgs]), doB, if_neg (by simp)]
 simp [toldR]
theorem step_begun (x : PA) (lb lo lcp : Nat) (ra1 ra2 : Option Addr) (rc1 rc2 : Nat) (w : World) (hp : planAt w countedP x) (c0 : w.cell? ⟨lb, lo, none⟩ = some (.int .i64 1)) (c1 : w.cell? ⟨lb, lo + 1, none⟩ = some (.slice ra1 4 rc1)) (c2 : w.cell? ⟨lb, lo + 2, none⟩ = some (.int .i64 1)) (c3 : w.cell? ⟨lb, lo + 3, none⟩ = some (.slice ra2 4 rc2)) (r1 : vl.rowAt w ra1 rowB1) (r2 : vl.rowAt w ra2 rowB2) :
 Calls Tryz.prog 12 #[planV countedP x, .slice none 0 0, .slice (some ⟨lb, lo, none⟩) 2 lcp] w fun e w' => (∃ gb go gc tb tO tcap y, e = .returned (.tuple #[.slice (some ⟨gb, go, none⟩) 1 gc, .slice (some ⟨tb, tO, none⟩) 1 tcap, .int .i64 0]) ∧ gsAt w' (some ⟨gb, go, none⟩) [y] [grpB2] ∧ w'.cell? ⟨tb, tO, none⟩ = some (.int .i64 1)) ∧ Below w.heap.size w w' := by
 have hv : ch.chgsAt w (some ⟨lb, lo, none⟩) chgsB := fun i hi => by
  have hi2 : i = 0 ∨ i = 1 := by have : i < 2 := hi; omega
  rcases hi2 with rfl | rfl
  ·exact ⟨lb, lo, ra1, rc1, rfl, c0, c1, r1⟩
  ·exact ⟨lb, lo, ra2, rc2, rfl, c2, c3, r2⟩
 obtain ⟨r, hR⟩ := stepB
 refine (step_any countedP x none 0 [] [] (some ⟨lb, lo, none⟩) lcp chgsB w wf_counted hp ⟨rfl, fun i hi => absurd hi (Nat.not_lt_zero i), fun i hi => absurd hi (Nat.not_lt_zero i)⟩ (fun g hg => absurd hg (List.not_mem_nil)) (by decide) hv wf_chgsB (by decide)).mono ?_
 rintro e w' ⟨hres, hb⟩
 refine ⟨?_, hb⟩
 rw [hR] at hres
 rcases hres with ⟨h, _⟩ | ⟨_, ga, gc, xs, ta, tc, he, hg, ht⟩
 ·exact absurd rfl h
 ·dsimp only at he hg ht
  obtain ⟨gb, go, e1, _⟩ := hg.cells 0 (by decide)
  obtain ⟨tb, tO, _, _, e2, t1, _⟩ := ht 0 (by simp)
  subst e1 e2
  have hx : ∃ y, xs = [y] := by
   have hl := hg.len
   match xs, hl with
   | [y], _ => exact ⟨y, rfl⟩
  obtain ⟨y, rfl⟩ := hx
  exact ⟨gb, go, gc, tb, tO, tc, y, he, hg, t1⟩
end Go.Proofs.YtbfbgdinhiglaaaGreat.gr
namespace Go.Proofs.YtbfbgdinhiglaaaGreat.gr
open Go.ChangeShapes Go.WideShapes Go.ChangeAt Go.RowKit
open vl pl bt
set_option linter.unusedVariables false
set_option linter.unusedSimpArgs false
attribute [local go_sem] Oper.semAt_some
def viewRes (E : Int) (n : Nat) (V : List ch.Cnt) (e : Ending) (w' : World) : Prop := (E ≠ 0 ∧ e = .returned (.tuple #[.slice none 0 0, .int .i64 E])) ∨ (E = 0 ∧ ∃ ad c, e = .returned (.tuple #[.slice ad n c, .int .i64 0]) ∧ ch.viewAt w' ad V)
set_option maxRecDepth 100000 in
set_option maxHeartbeats 4000000 in
theorem view_any (p : Pln) (x : PA) (a : Option Addr) (cap : Nat) (xs : List GX) (gs : List Grp) (w : World) (hw : wfPlan p) (hp : planAt w p x) (hgs : gsAt w a xs gs) (hwf : ∀ g ∈ gs, wfG g) (hgl : gs.length ≤ 9223372036854775807) :
 Calls Tryz.prog 6 #[planV p x, .slice a gs.length cap] w fun e w' => viewRes (grpsErr p gs) gs.length (gs.map (rowC p)) e w' ∧ Below w.heap.size w w' := by
 have KC : Hid (∀ w1, Below w.heap.size w w1 → Calls Tryz.prog 9 #[planV p x, .slice a gs.length cap] w1 fun e w' => e = .returned (.int .i64 (grpsErr p gs)) ∧ Below w1.heap.size w1 w') := fun w1 hb => check_any p x a cap xs gs w1 hw (planAt_below hp hb) (hgs.below hb) hwf hgl
 have KV : Hid (∀ w1, grpsErr p gs = 0 → Below w.heap.size w w1 → Calls Tryz.prog 20 #[planV p x, .slice a gs.length cap] w1 fun e w' => (∃ ad c, e = .returned (.slice ad gs.length c) ∧ ch.viewAt w' ad (gs.map (rowC p))) ∧ Below w1.heap.size w1 w') := fun w1 h hb => view_ok p x a cap xs gs w1 (planAt_below hp hb) (hgs.below hb) h
 obtain ⟨E, hE⟩ : ∃ z, grpsErr p gs = z := ⟨_, rfl⟩
 rw [hE] at KC KV ⊢
 obtain ⟨V, hV⟩ : ∃ z, gs.map (rowC p) = z := ⟨_, rfl⟩
 rw [hV] at KV ⊢
 obtain ⟨gn, hgn⟩ : ∃ z, gs.length = z := ⟨_, rfl⟩
 rw [hgn] at KC KV ⊢
 clear hE hV hgn hw hp hgs hwf hgl
 obtain ⟨kind, mode, low, high, size, limit, left, right, lkeys, rkeys, grouped, group, aggs⟩ := p
 obtain ⟨la, lc, rr, rc, lk, lkc, rk, rkc, ga, gc, ag, ac⟩ := x
 unfold planV at KC KV ⊢
 dsimp only at KC KV ⊢
 obtain ⟨n6, h6⟩ : ∃ n, left.length = n := ⟨_, rfl⟩
 obtain ⟨n7, h7⟩ : ∃ n, right.length = n := ⟨_, rfl⟩
 obtain ⟨n8, h8⟩ : ∃ n, lkeys.length = n := ⟨_, rfl⟩
 obtain ⟨n9, h9⟩ : ∃ n, rkeys.length = n := ⟨_, rfl⟩
 obtain ⟨n11, h11⟩ : ∃ n, group.length = n := ⟨_, rfl⟩
 obtain ⟨n12, h12⟩ : ∃ n, aggs.length = n := ⟨_, rfl⟩
 simp only [h6, h7, h8, h9, h11, h12] at KC KV ⊢
 clear h6 h7 h8 h9 h11 h12
 go_enter Tryz.func6, Tryz.ntmps6
 go_wp2_with fail
 generalize hV : (World.alloc w _) = U
 have hb0 : Below w.heap.size w U := by rw [← hV]; exact bR.alloc nR _
 have v0 : U.cell? ⟨w.heap.size, 0, none⟩ = some (.int .i64 kind) := by subst hV; go_simp
 have v1 : U.cell? ⟨w.heap.size, 1, none⟩ = some (.int .i64 mode) := by subst hV; go_simp
 have v2 : U.cell? ⟨w.heap.size, 2, none⟩ = some (.int .i64 low) := by subst hV; go_simp
 have v3 : U.cell? ⟨w.heap.size, 3, none⟩ = some (.int .i64 high) := by subst hV; go_simp
 have v4 : U.cell? ⟨w.heap.size, 4, none⟩ = some (.int .i64 size) := by subst hV; go_simp
 have v5 : U.cell? ⟨w.heap.size, 5, none⟩ = some (.int .i64 limit) := by subst hV; go_simp
 have v6 : U.cell? ⟨w.heap.size, 6, none⟩ = some (.slice la n6 lc) := by subst hV; go_simp
 have v7 : U.cell? ⟨w.heap.size, 7, none⟩ = some (.slice rr n7 rc) := by subst hV; go_simp
 have v8 : U.cell? ⟨w.heap.size, 8, none⟩ = some (.slice lk n8 lkc) := by subst hV; go_simp
 have v9 : U.cell? ⟨w.heap.size, 9, none⟩ = some (.slice rk n9 rkc) := by subst hV; go_simp
 have v10 : U.cell? ⟨w.heap.size, 10, none⟩ = some (.bool grouped) := by subst hV; go_simp
 have v11 : U.cell? ⟨w.heap.size, 11, none⟩ = some (.slice ga n11 gc) := by subst hV; go_simp
 have v12 : U.cell? ⟨w.heap.size, 12, none⟩ = some (.slice ag n12 ac) := by subst hV; go_simp
 clear hV
 refine (KC.out _ hb0).mono ?_
 rintro e w1 ⟨rfl, hb1⟩
 have hbw : Below w.heap.size w w1 := hb0.trans (hb1.mono hb0.size)
 replace v0 := cL hb1 v0
 replace v1 := cL hb1 v1
 replace v2 := cL hb1 v2
 replace v3 := cL hb1 v3
 replace v4 := cL hb1 v4
 replace v5 := cL hb1 v5
 replace v6 := cL hb1 v6
 replace v7 := cL hb1 v7
 replace v8 := cL hb1 v8
 replace v9 := cL hb1 v9
 replace v10 := cL hb1 v10
 replace v11 := cL hb1 v11
 replace v12 := cL hb1 v12
 clear hb1 hb0 KC
 by_cases h0 : E = 0
 ·subst h0
  have KV2 : Hid (∀ w1, Below w.heap.size w w1 → _) := fun w1 hb => KV.out w1 rfl hb
  clear KV
  go_wp2_with (go_at_call 20; refine (KV2.out _ hbw).mono ?_; rintro e w2 ⟨⟨ad, c, rfl, hva⟩, hb2⟩)
  go_ret2
  exact ⟨.inr ⟨rfl, ad, c, rfl, hva⟩, hbw.trans (hb2.mono hbw.size)⟩
 ·have h0' : (E != 0) = true := by simpa using h0
  go_wp2
  go_ret2
  exact ⟨.inl ⟨h0, rfl⟩, hbw⟩
end Go.Proofs.YtbfbgdinhiglaaaGreat.gr
namespace Go.Proofs.YtbfbgdinhiglaaaGreat.gr
open Go.ChangeShapes Go.WideShapes Go.ChangeAt Go.RowKit
open vl pl bt
set_option linter.unusedVariables false
set_option linter.unusedSimpArgs false
theorem num_any (n : Int) (w : World) : Calls Tryz.prog 31 #[.int .i64 n] w fun e w' => e = .returned (.agg #[.int .i64 2, .int .i64 n, .string ⟨#[]⟩]) ∧ Below w.heap.size w w' := by
 go_enter Tryz.func31, Tryz.ntmps31
 go_wp2
 exact bodyPost_ret (v := .agg #[.int .i64 2, .int .i64 n, .string ⟨#[]⟩]) (by simp [results, Tryz.results31, go_sem]) rfl ⟨rfl, by repeat (first | exact bR | apply Below.drew | (refine Below.setCell ?_ (by simp) _) | (refine Below.alloc ?_ (by simp <;> omega) _))⟩
theorem rowTwo {w : World} {b : Nat} {x y : Int} (h0 : w.cell? ⟨b, 0, none⟩ = some (.int .i64 2)) (h1 : w.cell? ⟨b, 1, none⟩ = some (.int .i64 x)) (h2 : w.cell? ⟨b, 2, none⟩ = some (.string ⟨#[]⟩)) (h3 : w.cell? ⟨b, 3, none⟩ = some (.int .i64 2)) (h4 : w.cell? ⟨b, 4, none⟩ = some (.int .i64 y)) (h5 : w.cell? ⟨b, 5, none⟩ = some (.string ⟨#[]⟩)) :
 vl.rowAt w (some ⟨b, 0, none⟩) [⟨2, x, ⟨#[]⟩⟩, ⟨2, y, ⟨#[]⟩⟩] := by
 intro i hi
 match i, hi with
 | 0, _ => exact ⟨b, 0, rfl, h0, h1, h2⟩
 | 1, _ => exact ⟨b, 0, rfl, h3, h4, h5⟩
theorem lawRow_any (x y : Int) (w : World) : Calls Tryz.prog 29 #[.int .i64 x, .int .i64 y] w fun e w' => (∃ ad, e = .returned (.slice ad 2 2) ∧ vl.rowAt w' ad [⟨2, x, ⟨#[]⟩⟩, ⟨2, y, ⟨#[]⟩⟩]) ∧ Below w.heap.size w w' := by
 go_enter Tryz.func29, Tryz.ntmps29
 go_wp2_with fail
 refine (num_any _ _).mono ?_
 rintro e w1 ⟨rfl, hb1⟩
 go_wp2_with fail
 refine (num_any _ _).mono ?_
 rintro e w2 ⟨rfl, hb2⟩
 have hbb := hb1.trans (hb2.mono hb1.size)
 go_wp2
 go_ret
 exact ⟨⟨_, rfl, rowTwo (by go_simp) (by go_simp) (by go_simp) (by go_simp) (by go_simp) (by go_simp)⟩, hbb.alloc hbb.size _⟩
theorem celCells_app (a b : List Cel) : celCells (a ++ b) = celCells a ++ celCells b := by unfold celCells; rw [List.flatMap_append]
set_option maxRecDepth 10000 in
set_option maxHeartbeats 1000000 in
theorem both_any (a1 a2 : Option Addr) (c1 c2 : Nat) (l1 l2 : List Cel) (w : World) (n2 : 0 < l2.length) (m1 : l1.length ≤ 400) (m2 : l2.length ≤ 400) (h1 : vl.rowAt w a1 l1) (h2 : vl.rowAt w a2 l2) :
 Calls Tryz.prog 28 #[.slice a1 l1.length c1, .slice a2 l2.length c2] w fun e w' => (∃ ad cap, e = .returned (.slice ad (l1 ++ l2).length cap) ∧ ownV w' w.heap.size (.slice ad (l1 ++ l2).length cap) (l1 ++ l2)) ∧ Below w.heap.size w w' := by
 obtain ⟨i0, hi, hz0, hz1, hz2⟩ := info_parts Tryz.infoV
 have HI : Hid (Tryz.prog.info? 68 = some i0 ∧ i0.zero = some (.agg #[.int .i64 0, .int .i64 0, .string ⟨#[]⟩]) ∧ i0.size = 3 ∧ i0.bytes = 32) := ⟨hi, hz0, hz1, hz2⟩
 clear hi hz0 hz1 hz2
 obtain ⟨b2, o2, rfl, _⟩ := h2 0 n2
 have HC2 : Hid (∀ w', Below w.heap.size w w' → ∀ j u, (celCells l2)[j]? = some u → w'.cell? ((⟨b2, o2, none⟩ : Addr).add j) = some u) := fun w' hb => ch.rowAt_cells (rowAt_below h2 hb)
 have hp2 : Hid ((celCells l2).length = l2.length * 3) := celCells_len l2
 have KC : Hid (Calls Tryz.prog 65 #[.slice a1 l1.length c1] w fun e w' => (∃ ad c, e = .returned (.slice ad l1.length c) ∧ ownV w' w.heap.size (.slice ad l1.length c) l1) ∧ Below w.heap.size w w') := ch.copy_any a1 c1 l1 w h1 (by omega)
 have HAP : Hid (∀ w' v, w'.ownsRow w.heap.size 68 3 v (l1.length + l2.length) (celCells l1 ++ celCells l2) → ownV w' w.heap.size v (l1 ++ l2)) := fun w' v h => by
  unfold ownV
  rw [List.length_append, celCells_app]; exact h
 clear h1 h2
 obtain ⟨k1, hk1⟩ : ∃ n, l1.length = n := ⟨_, rfl⟩
 obtain ⟨k2, hk2⟩ : ∃ n, l2.length = n := ⟨_, rfl⟩
 have HK1 : Hid (l1.length = k1) := hk1
 have HK2 : Hid (l2.length = k2) := hk2
 rw [hk1] at KC m1 HAP
 rw [hk2] at n2 m2 hp2 HAP
 rw [List.length_append, hk1, hk2]
 clear hk1 hk2
 go_enter Tryz.func28, Tryz.ntmps28
 go_wp2_with fail
 refine KC.out.mono ?_
 rintro e w1 ⟨⟨ad, c, rfl, ho⟩, hb1⟩
 have hsz := hb1.size
 have HO : Hid (w1.ownsRow w.heap.size 68 3 (.slice ad k1 c) k1 (celCells l1)) := by have h := ho; unfold ownV at h; rw [HK1.out] at h; exact h
 clear ho
 go_wp2_with (at_builtin; refine wpList_append_own _ rfl (.tmp 6) (.tmp 7) 50 rfl w.heap.size 68 i0 (.agg #[.int .i64 0, .int .i64 0, .string ⟨#[]⟩]) 3 32 Tryz.underlying50 HI.out.1 HI.out.2.1 HI.out.2.2.1 HI.out.2.2.2 rfl (by decide) _ _ _ rfl HO.out ⟨b2, o2, none⟩ k2 c2 (celCells l2) rfl (by rw [hp2.out]) (HC2.out _ hb1) (ch.celCells_one l2) (by unfold maxLen; omega) (by omega) hsz ?_; intro v2 w3 hown3 hgrow3 hnil3)
 obtain ⟨ad3, cp3, hv, _⟩ := own_form hown3
 subst hv
 have HF := HAP.out _ _ hown3
 have hbn := hb1.grown hgrow3 hsz (fun b hb => (World.ownsRow.lt HO.out b hb).1)
 go_ret
 exact ⟨⟨ad3, cp3, rfl, HF⟩, hbn⟩
theorem both4 (a1 a2 : Option Addr) (a b c d : Int) (w : World) (h1 : vl.rowAt w a1 [cI a, cI b]) (h2 : vl.rowAt w a2 [cI c, cI d]) :
 Calls Tryz.prog 28 #[.slice a1 2 2, .slice a2 2 2] w fun e w' => (∃ ad cap, e = .returned (.slice ad 4 cap) ∧ vl.rowAt w' ad [cI a, cI b, cI c, cI d]) ∧ Below w.heap.size w w' := by
 refine (both_any a1 a2 2 2 [cI a, cI b] [cI c, cI d] w (by simp) (by simp) (by simp) h1 h2).mono ?_
 rintro e w' ⟨⟨ad, cap, rfl, ho⟩, hb⟩
 exact ⟨⟨ad, cap, rfl, vl.ownV_row ho⟩, hb⟩
theorem wf_viewB : ch.wfView [⟨[cI 7, cI 2, cI 6], 1⟩] := by
 intro c hc
 simp only [List.mem_cons, List.not_mem_nil, or_false] at hc
 subst hc
 refine ⟨fun z hz => ?_, by decide, by decide⟩
 simp only [List.mem_cons, List.not_mem_nil, or_false] at hz
 rcases hz with rfl | rfl | rfl
 ·exact ⟨by decide, Nat.zero_le _⟩
 ·exact ⟨by decide, Nat.zero_le _⟩
 ·exact ⟨by decide, Nat.zero_le _⟩
theorem wf_grpB2 : wfG grpB2 := by
 refine ⟨fun z hz => ?_, by decide, by unfold i64; decide, by decide, fun l hl => ?_⟩
 ·have : z = cI 7 := by simpa [grpB2] using hz
  subst this
  exact ⟨by decide, Nat.zero_le _⟩
 ·have : l = [] ∨ l = [(cI 1, 1), (cI 5, 1)] := by simpa [grpB2] using hl
  rcases this with rfl | rfl
  ·exact ⟨by decide, fun t ht => absurd ht (List.not_mem_nil)⟩
  ·refine ⟨by decide, fun t ht => ?_⟩
   simp only [List.mem_cons, List.not_mem_nil, or_false] at ht
   rcases ht with rfl | rfl
   ·exact ⟨Nat.zero_le _, by unfold i64; decide, by unfold i64; decide⟩
   ·exact ⟨Nat.zero_le _, by unfold i64; decide, by unfold i64; decide⟩
theorem view_begun (x : PA) (gb go gc : Nat) (y : GX) (w : World) (hp : planAt w countedP x) (hg : gsAt w (some ⟨gb, go, none⟩) [y] [grpB2]) :
 Calls Tryz.prog 6 #[planV countedP x, .slice (some ⟨gb, go, none⟩) 1 gc] w fun e w' => (∃ ad c, e = .returned (.tuple #[.slice ad 1 c, .int .i64 0]) ∧ ch.viewAt w' ad [⟨[cI 7, cI 2, cI 6], 1⟩]) ∧ Below w.heap.size w w' := by
 refine (view_any countedP x (some ⟨gb, go, none⟩) gc [y] [grpB2] w wf_counted hp hg (fun g h => by rw [List.mem_singleton] at h; rw [h]; exact wf_grpB2) (by decide)).mono ?_
 rintro e w' ⟨hr, hb⟩
 refine ⟨?_, hb⟩
 rcases hr with ⟨h, _⟩ | ⟨_, ad, c, h1, h2⟩
 ·exact absurd errB_one h
 ·rw [viewB] at h2
  exact ⟨ad, c, h1, h2⟩
theorem same_begun (a1 a2 : Option Addr) (c1 c2 : Nat) (w : World) (h1 : ch.viewAt w a1 [⟨[cI 7, cI 2, cI 6], 1⟩]) (h2 : ch.viewAt w a2 [⟨[cI 7, cI 2, cI 6], 1⟩]) : Calls Tryz.prog 10 #[.slice a1 1 c1, .slice a2 1 c2] w fun e w' => e = .returned (.bool true) ∧ Below w.heap.size w w' := by
 refine (ch.sameViews_any a1 a2 c1 c2 [⟨[cI 7, cI 2, cI 6], 1⟩] [⟨[cI 7, cI 2, cI 6], 1⟩] w h1 h2 wf_viewB wf_viewB (by decide) (by decide)).mono ?_
 rintro e w' ⟨he, hb⟩
 exact ⟨by rw [he]; simp, hb⟩
attribute [local go_sem] Oper.semAt_some
set_option maxRecDepth 100000 in
set_option maxHeartbeats 8000000 in
theorem begun_any (w : World) : Calls Tryz.prog 8 #[] w fun e w' => e = .returned (.bool true) ∧ Below w.heap.size w w' := by
 go_enter Tryz.func8, Tryz.ntmps8
 go_wp2_with fail
 refine (lawRow_any _ _ _).mono ?_
 rintro e w1 ⟨⟨r1, rfl, hr1⟩, hb1⟩
 have HR1 : Hid (vl.rowAt w1 r1 [cI 7, cI 1]) := hr1
 clear hr1
 go_wp2_with fail
 refine (lawRow_any _ _ _).mono ?_
 rintro e w2 ⟨⟨r2, rfl, hr2⟩, hb2⟩
 have HR2 : Hid (vl.rowAt w2 r2 [cI 7, cI 2]) := hr2
 clear hr2
 go_wp2_with fail
 refine (both4 r1 r2 7 1 7 2 w2 (vl.rowAt_below HR1.out hb2) HR2.out).mono ?_
 rintro e w3 ⟨⟨j1, k1, rfl, hj1⟩, hb3⟩
 have HJ1 : Hid (vl.rowAt w3 j1 rowB1) := hj1
 have b3 : Below w.heap.size w w3 := (hb1.trans (hb2.mono hb1.size)).trans (hb3.mono (Nat.le_trans hb1.size hb2.size))
 clear hj1 HR1 HR2 hb1 hb2 hb3
 go_wp2_with fail
 refine (lawRow_any _ _ _).mono ?_
 rintro e w4 ⟨⟨r1', rfl, hr1⟩, hb4⟩
 have HR1 : Hid (vl.rowAt w4 r1' [cI 7, cI 5]) := hr1
 clear hr1
 go_wp2_with fail
 refine (lawRow_any _ _ _).mono ?_
 rintro e w5 ⟨⟨r2', rfl, hr2⟩, hb5⟩
 have HR2 : Hid (vl.rowAt w5 r2' [cI 7, cI 2]) := hr2
 clear hr2
 go_wp2_with fail
 refine (both4 r1' r2' 7 5 7 2 w5 (vl.rowAt_below HR1.out hb5) HR2.out).mono ?_
 rintro e w6 ⟨⟨j2, k2, rfl, hj2⟩, hb6⟩
 have HJ2 : Hid (vl.rowAt w6 j2 rowB2) := hj2
 have b36 : Below w3.heap.size w3 w6 := (hb4.trans (hb5.mono hb4.size)).trans (hb6.mono (Nat.le_trans hb4.size hb5.size))
 have b6 : Below w.heap.size w w6 := b3.trans (b36.mono b3.size)
 clear hj2 HR1 HR2 hb4 hb5 hb6
 go_wp2_with fail
 generalize hV : (World.alloc w6 _) = w7
 have hb7 : Below w6.heap.size w6 w7 := by rw [← hV]; exact bR.alloc nR _
 have c0 : w7.cell? ⟨w6.heap.size, 0, none⟩ = some (.int .i64 1) := by subst hV; go_simp
 have c1 : w7.cell? ⟨w6.heap.size, 1, none⟩ = some (.slice j1 4 k1) := by subst hV; go_simp
 have c2 : w7.cell? ⟨w6.heap.size, 2, none⟩ = some (.int .i64 1) := by subst hV; go_simp
 have c3 : w7.cell? ⟨w6.heap.size, 3, none⟩ = some (.slice j2 4 k2) := by subst hV; go_simp
 have b7 : Below w.heap.size w w7 := b6.trans (hb7.mono b6.size)
 have HJ1' : Hid (vl.rowAt w7 j1 rowB1) := vl.rowAt_below HJ1.out (b36.trans (hb7.mono b36.size))
 have HJ2' : Hid (vl.rowAt w7 j2 rowB2) := vl.rowAt_below HJ2.out hb7
 clear hV HJ1 HJ2 b36 b6 hb7 b3
 refine (counted_any _).mono ?_
 rintro e w8 ⟨⟨x, rfl, hp8⟩, hb8⟩
 have HS : Hid (Calls Tryz.prog 12 #[planV countedP x, .slice none 0 0, .slice (some ⟨w6.heap.size, 0, none⟩) 2 2] w8 fun e w' => (∃ gb go gc tb tO tcap y, e = .returned (.tuple #[.slice (some ⟨gb, go, none⟩) 1 gc, .slice (some ⟨tb, tO, none⟩) 1 tcap, .int .i64 0]) ∧ gsAt w' (some ⟨gb, go, none⟩) [y] [grpB2] ∧ w'.cell? ⟨tb, tO, none⟩ = some (.int .i64 1)) ∧ Below w8.heap.size w8 w') := step_begun x w6.heap.size 0 2 j1 j2 k1 k2 w8 hp8 (cL hb8 c0) (cL hb8 c1) (cL hb8 c2) (cL hb8 c3) (vl.rowAt_below HJ1'.out hb8) (vl.rowAt_below HJ2'.out hb8)
 have b8 : Below w.heap.size w w8 := b7.trans (hb8.mono b7.size)
 clear hp8 hb8 b7 c0 c1 c2 c3 HJ1' HJ2'
 obtain ⟨pv, hpv⟩ : ∃ z, planV countedP x = z := ⟨_, rfl⟩
 rw [hpv] at HS ⊢
 clear hpv
 go_wp2_with fail
 refine HS.out.mono ?_
 rintro e w9 ⟨⟨gb, go, gc, tb, tO, tcap, y, rfl, hg9, ht9⟩, hb9⟩
 have HG9 : Hid (gsAt w9 (some ⟨gb, go, none⟩) [y] [grpB2]) := hg9
 have b9 : Below w.heap.size w w9 := b8.trans (hb9.mono b8.size)
 clear hg9 hb9 b8 HS
 go_wp2_with fail
 refine (counted_any _).mono ?_
 rintro e w10 ⟨⟨x2, rfl, hp10⟩, hb10⟩
 have HW : Hid (Calls Tryz.prog 6 #[planV countedP x2, .slice (some ⟨gb, go, none⟩) 1 gc] w10 fun e w' => (∃ ad c, e = .returned (.tuple #[.slice ad 1 c, .int .i64 0]) ∧ ch.viewAt w' ad [⟨[cI 7, cI 2, cI 6], 1⟩]) ∧ Below w10.heap.size w10 w') := view_begun x2 gb go gc y w10 hp10 (HG9.out.below hb10)
 have b10 : Below w.heap.size w w10 := b9.trans (hb10.mono b9.size)
 have ht10 := cL hb10 ht9
 clear hp10 hb10 HG9 b9 ht9
 obtain ⟨pv2, hpv2⟩ : ∃ z, planV countedP x2 = z := ⟨_, rfl⟩
 rw [hpv2] at HW ⊢
 clear hpv2
 go_wp2_with fail
 refine HW.out.mono ?_
 rintro e w11 ⟨⟨va, vc, rfl, hv11⟩, hb11⟩
 have HV : Hid (ch.viewAt w11 va [⟨[cI 7, cI 2, cI 6], 1⟩]) := hv11
 have b11 : Below w.heap.size w w11 := b10.trans (hb11.mono b10.size)
 have ht11 := cL hb11 ht10
 clear hv11 hb11 ht10 b10 HW
 go_wp2_with fail
 refine (num_any _ _).mono ?_
 rintro e w12 ⟨rfl, hb12⟩
 go_wp2_with fail
 refine (num_any _ _).mono ?_
 rintro e w13 ⟨rfl, hb13⟩
 go_wp2_with fail
 refine (num_any _ _).mono ?_
 rintro e w14 ⟨rfl, hb14⟩
 have b1114 : Below w11.heap.size w11 w14 := (hb12.trans (hb13.mono hb12.size)).trans (hb14.mono (Nat.le_trans hb12.size hb13.size))
 go_wp2_with fail
 generalize hV : (World.alloc (World.alloc w14 _) _) = W
 have hbW : Below w14.heap.size w14 W := by rw [← hV]; exact (bR.alloc nR _).alloc (by simp) _
 have hR : vl.rowAt W (some ⟨w14.heap.size, 0, none⟩) [cI 7, cI 2, cI 6] := fun i hi => by
  have hi3 : i = 0 ∨ i = 1 ∨ i = 2 := by have : i < 3 := hi; omega
  rcases hi3 with rfl | rfl | rfl
  ·exact ⟨w14.heap.size, 0, rfl, by subst hV; go_simp; rfl, by subst hV; go_simp; rfl, by subst hV; go_simp; rfl⟩
  ·exact ⟨w14.heap.size, 0, rfl, by subst hV; go_simp; rfl, by subst hV; go_simp; rfl, by subst hV; go_simp; rfl⟩
  ·exact ⟨w14.heap.size, 0, rfl, by subst hV; go_simp; rfl, by subst hV; go_simp; rfl, by subst hV; go_simp; rfl⟩
 have hVW : ch.viewAt W (some ⟨w14.heap.size + 1, 0, none⟩) [⟨[cI 7, cI 2, cI 6], 1⟩] := fun i hi => by
  have : i = 0 := by simpa using hi
  subst this
  exact ⟨w14.heap.size + 1, 0, some ⟨w14.heap.size, 0, none⟩, 3, rfl, by subst hV; go_simp, hR, by subst hV; go_simp⟩
 have bW : Below w.heap.size w W := (b11.trans (b1114.mono b11.size)).trans (hbW.mono (Nat.le_trans b11.size b1114.size))
 clear hV
 refine (same_begun va _ vc _ W (ch.viewAt_below HV.out (b1114.trans (hbW.mono b1114.size))) hVW).mono ?_
 rintro e w15 ⟨rfl, hb15⟩
 go_wp2
 go_ret
 exact ⟨rfl, bW.trans (hb15.mono bW.size)⟩
end Go.Proofs.YtbfbgdinhiglaaaGreat.gr
namespace Go.Proofs.YtbfbgdinhiglaaaGreat.ch
open Go.ChangeShapes Go.WideShapes Go.ChangeAt Go.RowKit Go.Maps Go.WideMaps
open vl
set_option linter.unusedVariables false
set_option linter.unusedSimpArgs false
set_option maxHeartbeats 4000000 in
theorem sameChanges_any (a1 a2 : Option Addr) (c1 c2 : Nat) (r1 r2 : List Chg) (w : World) (h1 : chgsAt w a1 r1) (h2 : chgsAt w a2 r2) (x1 : wfChgs r1) (x2 : wfChgs r2) (l1 : r1.length ≤ 9223372036854775807) (l2 : r2.length ≤ 9223372036854775807) :
 Calls Tryz.prog 15 #[.slice a1 r1.length c1, .slice a2 r2.length c2] w fun e w' => e = .returned (.bool (decide (r1 = r2))) ∧ Below w.heap.size w w' := by
 by_cases hl : r1.length = r2.length
 ·obtain ⟨len, hlen⟩ : ∃ len, r1.length = len := ⟨_, rfl⟩
  have hlen2 : r2.length = len := by omega
  rw [hlen] at l1
  have HR : Hid (r1.length = len) := hlen
  have HR2 : Hid (r2.length = len) := hlen2
  rw [hlen, hlen2]
  clear hl l2 hlen hlen2
  go_enter Tryz.func15, Tryz.ntmps15
  go_wp2
  go_loopw [5] (fun i wr => ∃ k : Nat, k ≤ len ∧ i = .int .i64 k ∧ Below w.heap.size w wr ∧ r1.take k = r2.take k) (fun i _ => len - (intOf i).toNat)
  case atStart => exact ⟨0, Nat.zero_le _, rfl, bR, rfl⟩
  case round =>
   obtain ⟨k, hk, rfl, hnx, hall⟩ := hrel
   have HA : Hid (r1.take k = r2.take k) := hall
   clear hall
   by_cases hlt : k < len
   ·have hk1 : k < r1.length := by rw [HR.out]; exact hlt
    have hk2 : k < r2.length := by rw [HR2.out]; exact hlt
    obtain ⟨b1, o1, ra1, rc1, e1, p1, p2, p3⟩ := h1 k hk1
    obtain ⟨b2, o2, ra2, rc2, e2, y1, y2, y3⟩ := h2 k hk2
    subst e1 e2
    have z1 := (wfc_at x1 k hk1).2.1
    have z2 := (wfc_at x2 k hk2).2.1
    have q1 := cL hnx p2
    have HQ2 : Hid (vl.rowAt wr ra1 (r1.getD k default).r) := rowAt_below p3 hnx
    have q3 := cL hnx p1
    have s1 := cL hnx y2
    have HS2 : Hid (vl.rowAt wr ra2 (r2.getD k default).r) := rowAt_below y3 hnx
    have s3 := cL hnx y1
    clear p1 p2 p3 y1 y2 y3 h1 h2
    have HNE : Hid (r1.getD k default ≠ r2.getD k default → decide (r1 = r2) = false) := ne_chg
    have HEQ : Hid (r1.getD k default = r2.getD k default → r1.take (k + 1) = r2.take (k + 1)) := take_eq_chg hk1 hk2 HA.out
    obtain ⟨⟨na, ra⟩, hca⟩ : ∃ c, r1.getD k default = c := ⟨_, rfl⟩
    obtain ⟨⟨nb, rb⟩, hcb⟩ : ∃ c, r2.getD k default = c := ⟨_, rfl⟩
    rw [hca] at q1 q3 HQ2 HNE HEQ z1
    rw [hcb] at s1 s3 HS2 HNE HEQ z2
    clear hca hcb
    dsimp only at q1 q3 s1 s3 HQ2 HS2 z1 z2
    obtain ⟨la, hla⟩ : ∃ x, ra.length = x := ⟨_, rfl⟩
    obtain ⟨lb, hlb⟩ : ∃ x, rb.length = x := ⟨_, rfl⟩
    have KS : Hid (∀ w', Below wr.heap.size wr w' → Calls Tryz.prog 34 #[.slice ra1 la rc1, .slice ra2 lb rc2] w' fun e w'' => e = .returned (.bool (decide (ra = rb))) ∧ Below w'.heap.size w' w'') := fun w' hb => by
     rw [← hla, ← hlb]; exact same_any ra1 ra2 rc1 rc2 ra rb w' (rowAt_below HQ2.out hb) (rowAt_below HS2.out hb) z1 z2
    rw [hla] at q1
    rw [hlb] at s1
    clear hla hlb z1 z2
    have i1 : (0 : Int) ≤ (k : Int) := by omega
    have i2 : (k : Int) < (len : Int) := by omega
    have dr : Below wr.heap.size wr wr.drew := bR.drew
    by_cases t1 : na = nb
    ·subst t1
     by_cases t2 : ra = rb
     ·have HE : Hid (r1.take (k + 1) = r2.take (k + 1)) := HEQ.out (by rw [t2])
      rw [decide_eq_true t2] at KS
      go_wp2
      go_region_held3 (fun w' => w'.cell? ⟨b1, o1 + k * 2 + 1, none⟩ = some (.slice ra1 la rc1) ∧ w'.cell? ⟨b2, o2 + k * 2 + 1, none⟩ = some (.slice ra2 lb rc2) ∧ w'.cell? ⟨b1, o1 + k * 2, none⟩ = some (.int .i64 na) ∧ w'.cell? ⟨b2, o2 + k * 2, none⟩ = some (.int .i64 na)) (first | go_keep | exact ⟨cL hbq q1, cL hbq s1, cL hbq q3, cL hbq s3⟩)
       (first | (go_at_call 34; refine (KS.out wr.drew dr).mono ?_; rintro e wq ⟨rfl, hbq⟩))
      all_goals
       have hlq : Below w.heap.size w wq := hnx.drew.trans (hbq.mono hnx.size)
       go_wp2
       go_roundw
       case rel => exact ⟨k + 1, by omega, by go_num, hlq, HE.out⟩
       case measure => simp [intOf]; omega
     ·have HE : Hid (decide (r1 = r2) = false) := HNE.out (fun e => t2 (by cases e; rfl))
      rw [decide_eq_false t2] at KS
      go_wp2
      go_region_held3 (fun w' => w'.cell? ⟨b1, o1 + k * 2 + 1, none⟩ = some (.slice ra1 la rc1) ∧ w'.cell? ⟨b2, o2 + k * 2 + 1, none⟩ = some (.slice ra2 lb rc2) ∧ w'.cell? ⟨b1, o1 + k * 2, none⟩ = some (.int .i64 na) ∧ w'.cell? ⟨b2, o2 + k * 2, none⟩ = some (.int .i64 na)) (first | go_keep | exact ⟨cL hbq q1, cL hbq s1, cL hbq q3, cL hbq s3⟩)
       (first | (go_at_call 34; refine (KS.out wr.drew dr).mono ?_; rintro e wq ⟨rfl, hbq⟩))
      all_goals
       have hlq : Below w.heap.size w wq := hnx.drew.trans (hbq.mono hnx.size)
       go_wp2
       go_ret
       exact ⟨ret_bool HE.out.symm, hlq⟩
    ·have t1' : (na == nb) = false := by simpa using t1
     have t1n : ∀ t, binOp .neq t (.int .i64 na) (.int .i64 nb) = pure (.bool true) := fun t => by rw [binOp_neq, show (na != nb) = true by simpa using t1]
     have HE : Hid (decide (r1 = r2) = false) := HNE.out (fun e => t1 (by cases e; rfl))
     go_wp2
     go_quiet (fail)
     have hld := below_drewN hnx nq
     go_wp2
     go_ret
     exact ⟨ret_bool HE.out.symm, hld⟩
   ·have HT : Hid (decide (r1 = r2) = true) := decide_eq_true (by
     have h := HA.out
     rw [List.take_of_length_le (by rw [HR.out]; omega), List.take_of_length_le (by rw [HR2.out]; omega)] at h
     exact h)
    go_wp2
    go_ret
    exact ⟨ret_bool HT.out.symm, hnx⟩
 ·have hl' : ((r1.length : Int) == (r2.length : Int)) = false := by rw [beq_eq_false_iff_ne]; omega
  have HE : Hid (decide (r1 = r2) = false) := decide_eq_false (fun e => hl (by rw [e]))
  obtain ⟨n1, hn1⟩ : ∃ x, r1.length = x := ⟨_, rfl⟩
  obtain ⟨n2, hn2⟩ : ∃ x, r2.length = x := ⟨_, rfl⟩
  rw [hn1, hn2] at hl'
  rw [hn1, hn2]
  rw [hn1] at l1
  rw [hn2] at l2
  go_enter Tryz.func15, Tryz.ntmps15
  go_wp2
  go_ret
  exact ⟨ret_bool HE.out.symm, bR⟩
end Go.Proofs.YtbfbgdinhiglaaaGreat.ch
