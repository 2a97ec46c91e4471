/- byPlace, told to the block: what slices.SortFunc asks of it. -/
import Derived.Test.YtnfknkihiapgiaaBufTake
import Derived.Sort.Grow
namespace Go.Proofs.Ytnfknkihiapgiaa.bf
open Go.ChangeShapes Go.WideShapes Go.ChangeAt Go.RowKit Go.Sort
open vl
set_option linter.unusedVariables false
set_option linter.unusedSimpArgs false
/-- only draws, and blocks laid -/
def Lays (w w' : World) : Prop := ∃ q os, w' = grow (w.drewN q) os
theorem Lays.refl (w : World) : Lays w w := ⟨0, #[], by simp [World.drewN]⟩
theorem Lays.drew {w w' : World} (h : Lays w w') : Lays w w'.drew := by
  obtain ⟨q, os, rfl⟩ := h
  exact ⟨q + 1, os, rfl⟩
theorem Lays.alloc {w w' : World} (h : Lays w w') (o : Obj) : Lays w (w'.alloc o) := by
  obtain ⟨q, os, rfl⟩ := h
  exact ⟨q, os.push o, by simp [grow, World.alloc]⟩
attribute [local go_sem ↓] Go.wp_at_zero Go.wp_at_succ
set_option maxRecDepth 100000 in
set_option maxHeartbeats 4000000 in
theorem byPlace_lays (e f : EM) (w : World) :
    Calls Try.prog 38 #[e.val, f.val] w fun r w' => r = .returned (.int .i64 (cmpP e.ent f.ent)) ∧ Lays w w' := by
  have HC : Hid (firstNZ [Lib.compareBytes e.key.data.toList f.key.data.toList, ordI e.time f.time, ordI e.seq f.seq] = cmpP e.ent f.ent) := cmpP_first e.ent f.ent
  obtain ⟨k1, t1, s1, ⟨a1, b1, c1⟩, m1⟩ := e
  obtain ⟨k2, t2, s2, ⟨a2, b2, c2⟩, m2⟩ := f
  rw [← HC.out]
  clear HC
  unfold EM.val hdV
  dsimp only
  go_enter Try.func38, Try.ntmps38
  go_wp2
  go_region_held3 (fun w' => w'.cell? ⟨w.heap.size, 0, none⟩ = some (.string k1) ∧ w'.cell? ⟨w.heap.size, 1, none⟩ = some (.int .i64 t1) ∧ w'.cell? ⟨w.heap.size, 2, none⟩ = some (.int .i64 s1) ∧ w'.cell? ⟨w.heap.size + 1, 0, none⟩ = some (.string k2) ∧ w'.cell? ⟨w.heap.size + 1, 1, none⟩ = some (.int .i64 t2) ∧ w'.cell? ⟨w.heap.size + 1, 2, none⟩ = some (.int .i64 s2)) (go_keep)
    (first
      | (go_at_call 67; refine (cmpInt_any _ _ _).mono ?_; rintro e w' ⟨rfl, rfl⟩)
      | (go_at_call 66; refine (strCmp_any _ _ _).mono ?_; rintro e w' ⟨rfl, rfl⟩)
      | (go_at_call 65; refine (or3 _ (Lib.compareBytes k1.data.toList k2.data.toList) (ordI t1 t2) (ordI s1 s2) _ ?_ ?_ ?_).mono ?_; (go_simp); (go_simp); (go_simp); rintro e w' ⟨rfl, rfl⟩))
  all_goals
    go_wp2
    go_ret
    refine ⟨rfl, ?_⟩
    repeat (first | exact Lays.refl _ | apply Lays.drew | (refine Lays.alloc ?_ _))
/-! ### the order that it tells -/
theorem lt_cmp (a b : EM) : (decide (cmpP a.ent b.ent < 0)) = decide (ltP a.ent b.ent) := decide_eq_decide.2 cmpP_neg
/-- of what is permuted: of a list's pictures, and of the list -/
theorem perm_lift {α β : Type} (f : α → β) : ∀ {m n : List β}, m.Perm n → ∀ l : List α, n = l.map f → ∃ l' : List α, l'.Perm l ∧ m = l'.map f := by
  intro m n h
  induction h with
  | nil => intro l hl; exact ⟨l, List.Perm.refl _, hl⟩
  | cons x _ ih =>
    intro l hl
    cases l with
    | nil => cases hl
    | cons a l =>
      rw [List.map_cons] at hl
      injection hl with h1 h2
      obtain ⟨l', hp, e⟩ := ih l h2
      exact ⟨a :: l', hp.cons a, by rw [List.map_cons, ← h1, e]⟩
  | swap x y _ =>
    intro l hl
    match l, hl with
    | a :: b :: l, hl =>
      rw [List.map_cons, List.map_cons] at hl
      injection hl with h1 h2
      injection h2 with h2 h3
      exact ⟨b :: a :: l, List.Perm.swap .., by rw [List.map_cons, List.map_cons, ← h1, ← h2, ← h3]⟩
  | trans _ _ ih1 ih2 =>
    intro l hl
    obtain ⟨l1, p1, e1⟩ := ih2 l hl
    obtain ⟨l2, p2, e2⟩ := ih1 l1 e1
    exact ⟨l2, p2.trans p1, e2⟩
end Go.Proofs.Ytnfknkihiapgiaa.bf
