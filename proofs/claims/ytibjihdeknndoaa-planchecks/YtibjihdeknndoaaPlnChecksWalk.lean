/- PlanChecks answers true. -/
import Derived.Test.YtibjihdeknndoaaPlnBegun2
namespace Go.Proofs.Ytibjihdeknndoaa.pl
open Go.ChangeShapes Go.WideShapes Go.ChangeAt Go.RowKit
open vl
set_option linter.unusedVariables false
set_option linter.unusedSimpArgs false
theorem outL_len {p : Pln} (h : planErr p = 0) : (outL p).length ≤ 1000000 := by
  have hm := many_len (planErr_ok h).2.2.1
  unfold outL
  split
  · rw [List.length_append, List.length_map, List.length_map]; omega
  · unfold cols; rw [List.length_append]; omega
set_option maxRecDepth 10000 in
set_option maxHeartbeats 8000000 in
theorem checks_walk (p : Pln) (x : PA) (w : World) (hw : wfPlan p) (hp : planAt w p x) :
    Calls Try.prog 3 #[planV p x] w fun e w' => e = .returned (.bool true) ∧ Below w.heap.size w w' := by
  have K1 : Hid (∀ w1, Below w.heap.size w w1 → Calls Try.prog 7 #[planV p x] w1 fun e w' => outRes p w1.heap.size e w' ∧ Below w1.heap.size w1 w') := fun w1 hb => out_any p x w1 hw (planAt_below hp hb)
  have K2 : Hid (∀ w1, Below w.heap.size w w1 → Calls Try.prog 8 #[planV p x] w1 fun e w' => e = .returned (.int .i64 (planErr p)) ∧ Below w1.heap.size w1 w') := fun w1 hb => checkPlan_any p x w1 hw (planAt_below hp hb)
  have K3 : Hid (∀ w1, Below w.heap.size w w1 → Calls Try.prog 10 #[planV p x] w1 fun e w' => e = .returned (.int .i64 (planErr p)) ∧ Below w1.heap.size w1 w') := fun w1 hb => planCheck_any p x w1 hw (planAt_below hp hb)
  have K4 : Hid (∀ w1, planErr p = 0 → Below w.heap.size w w1 → Calls Try.prog 12 #[planV p x] w1 fun e w' => (∃ ad cap, e = .returned (.slice ad (outL p).length cap) ∧ intsAt w' ad (outL p)) ∧ Below w1.heap.size w1 w') := fun w1 h hb => outOf_any p x w1 hw (planAt_below hp hb) h
  have HO : Hid (∀ B e w', outRes p B e w' → (planErr p ≠ 0 ∧ e = .returned (.tuple #[.slice none 0 0, .int .i64 (planErr p)])) ∨ (planErr p = 0 ∧ ∃ ad cap, e = .returned (.tuple #[.slice ad (outL p).length cap, .int .i64 0]) ∧ intsAt w' ad (outL p))) := fun B e w' h => h
  have HL : Hid (planErr p = 0 → (outL p).length ≤ 1000000) := outL_len
  obtain ⟨pe, hpe⟩ : ∃ z, planErr p = z := ⟨_, rfl⟩
  obtain ⟨ol, hol⟩ : ∃ z, outL p = z := ⟨_, rfl⟩
  obtain ⟨RES, hRES⟩ : ∃ z, outRes p = z := ⟨_, rfl⟩
  rw [hRES] at K1 HO
  rw [hpe] at K2 K3 K4 HO HL
  rw [hol] at K4 HO HL
  clear hpe hol hRES hw hp
  obtain ⟨on, hon⟩ : ∃ z, ol.length = z := ⟨_, rfl⟩
  have HON : Hid (ol.length = on) := hon
  rw [hon] at K4 HO HL
  clear hon
  obtain ⟨kind, mode, low, high, size, limit, left, right, lkeys, rkeys, grouped, group, aggs⟩ := p
  obtain ⟨l, lc, r, rc, lk, lkc, rk, rkc, g, gc, a, ac⟩ := x
  unfold planV at K1 K2 K3 K4 ⊢
  dsimp only at K1 K2 K3 K4 ⊢
  obtain ⟨n6, h6⟩ : ∃ n, left.length = n := ⟨_, rfl⟩
  obtain ⟨n7, h7⟩ : ∃ n, right.length = n := ⟨_, rfl⟩
  obtain ⟨n8, h8⟩ : ∃ n, lkeys.length = n := ⟨_, rfl⟩
  obtain ⟨n9, h9⟩ : ∃ n, rkeys.length = n := ⟨_, rfl⟩
  obtain ⟨n11, h11⟩ : ∃ n, group.length = n := ⟨_, rfl⟩
  obtain ⟨n12, h12⟩ : ∃ n, aggs.length = n := ⟨_, rfl⟩
  rw [h6, h7, h8, h9, h11, h12] at K1 K2 K3 K4
  rw [h6, h7, h8, h9, h11, h12]
  clear h6 h7 h8 h9 h11 h12
  go_enter Try.func3, Try.ntmps3
  go_wp2_with fail
  refine (K1.out _ ((Below.refl _ _).alloc (Nat.le_refl _) _)).mono ?_
  rintro e w1 ⟨hres, hb1⟩
  have h1 := ((Below.refl _ _).alloc (Nat.le_refl _) _).trans (hb1.mono (by simp))
  have hz1 : w.heap.size < w1.heap.size := (by have := hb1.size; simp at this; omega)
  obtain ⟨hc1, hf1⟩ := bcell hb1
  rcases HO.out _ _ _ hres with ⟨h0, rfl⟩ | ⟨h0, ad, cap, rfl, hi⟩
  · have h0' : (pe != 0) = true := by simpa using h0
    clear hres h0
    go_wp2_with fail
    refine (K2.out _ h1).mono ?_
    rintro e w2 ⟨rfl, hb2⟩
    have h2 := h1.trans (hb2.mono h1.size)
    have hz2 : w.heap.size < w2.heap.size := (by have := hb2.size; omega)
    obtain ⟨hc2, hf2⟩ := bcell hb2
    go_wp2_with fail
    refine (begun_any _).mono ?_
    rintro e w3 ⟨rfl, hb3⟩
    have h3 := h2.trans (hb3.mono h2.size)
    obtain ⟨hc3, hf3⟩ := bcell hb3
    go_wp2_with fail
    refine (K3.out _ h3).mono ?_
    rintro e w4 ⟨rfl, hb4⟩
    have h4 := h3.trans (hb4.mono h3.size)
    go_wp2
    go_ret
    exact ⟨rfl, h4⟩
  · subst h0
    have HI : Hid (intsAt w1 ad ol) := hi
    have hln := HL.out (by trivial)
    clear hres hi
    go_wp2_with fail
    refine (K2.out _ h1).mono ?_
    rintro e w2 ⟨rfl, hb2⟩
    have h2 := h1.trans (hb2.mono h1.size)
    have hz2 : w.heap.size < w2.heap.size := (by have := hb2.size; omega)
    obtain ⟨hc2, hf2⟩ := bcell hb2
    go_wp2_with fail
    refine (begun_any _).mono ?_
    rintro e w3 ⟨rfl, hb3⟩
    have h3 := h2.trans (hb3.mono h2.size)
    have hz3 : w.heap.size < w3.heap.size := (by have := hb3.size; omega)
    obtain ⟨hc3, hf3⟩ := bcell hb3
    go_wp2_with fail
    refine (K3.out _ h3).mono ?_
    rintro e w4 ⟨rfl, hb4⟩
    have h4 := h3.trans (hb4.mono h3.size)
    obtain ⟨hc4, hf4⟩ := bcell hb4
    go_wp2_with fail
    refine (K4.out _ (by trivial) h4).mono ?_
    rintro e w5 ⟨⟨ad2, cap2, rfl, hi2⟩, hb5⟩
    have h5 := h4.trans (hb5.mono h4.size)
    have h15 := ((hb2.trans (hb3.mono hb2.size)).trans (hb4.mono (Nat.le_trans hb2.size hb3.size))).trans (hb5.mono (Nat.le_trans hb2.size (Nat.le_trans hb3.size hb4.size)))
    have KS := sameInts_any ad ad2 cap cap2 ol w5 (intsAt_below HI.out h15) hi2 (by rw [HON.out]; exact hln)
    rw [HON.out] at KS
    clear hc1 hf1 hc2 hf2 hc3 hf3 hc4 hf4
    go_wp2_with fail
    refine KS.mono ?_
    rintro e w6 ⟨rfl, hb6⟩
    go_wp2
    go_ret
    exact ⟨rfl, h5.trans (hb6.mono h5.size)⟩
end Go.Proofs.Ytibjihdeknndoaa.pl
