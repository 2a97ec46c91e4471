/- PlanRows answers true. -/
import Derived.Test.YtibjihdeknndoaaPlnBegun2
namespace Go.Proofs.Ytibjihdeknndoaa.pl
open Go.ChangeShapes Go.WideShapes Go.ChangeAt Go.RowKit
open vl
set_option linter.unusedVariables false
set_option linter.unusedSimpArgs false
set_option maxRecDepth 10000 in
set_option maxHeartbeats 8000000 in
theorem rows_walk (p : Pln) (x : PA) (side : Int) (ar : Option Addr) (cr : Nat) (r : List Cel) (w : World) (hw : wfPlan p) (hp : planAt w p x) (hr : vl.rowAt w ar r) (hwr : wfRow r) (hlr : r.length ≤ 9223372036854775807) :
    Calls Try.prog 4 #[planV p x, .int .i64 side, .slice ar r.length cr] w fun e w' => e = .returned (.bool true) ∧ Below w.heap.size w w' := by
  have K1 : Hid (∀ w1, Below w.heap.size w w1 → Calls Try.prog 13 #[planV p x, .int .i64 side, .slice ar r.length cr] w1 fun e w' => e = .returned (.tuple #[.string (keyOfS p side r), .bool (hasB p side r), .int .i64 (rowErr p side r)]) ∧ Below w1.heap.size w1 w') := fun w1 hb => keyOf_any p x side ar cr r w1 hw (planAt_below hp hb) (rowAt_below hr hb) hwr hlr
  have K2 : Hid (∀ w1, Below w.heap.size w w1 → Calls Try.prog 8 #[planV p x] w1 fun e w' => e = .returned (.int .i64 (planErr p)) ∧ Below w1.heap.size w1 w') := fun w1 hb => checkPlan_any p x w1 hw (planAt_below hp hb)
  have K3 : Hid (∀ w1, Below w.heap.size w w1 → Calls Try.prog 15 #[planV p x, .int .i64 side, .slice ar r.length cr] w1 fun e w' => e = .returned (.int .i64 (rowErr p side r)) ∧ Below w1.heap.size w1 w') := fun w1 hb => row_any p x side ar cr r w1 hw (planAt_below hp hb) (rowAt_below hr hb) hwr hlr
  have K4 : Hid (∀ w1, planErr p = 0 → Below w.heap.size w w1 → Calls Try.prog 14 #[planV p x, .int .i64 side, .slice ar r.length cr] w1 fun e w' => e = .returned (.int .i64 (rErr p side r)) ∧ Below w1.heap.size w1 w') := fun w1 h hb => rowError_any p x side ar cr r w1 hw (planAt_below hp hb) h (rowAt_below hr hb) hwr hlr
  have K5 : Hid (∀ w1, rowErr p side r = 0 → Below w.heap.size w w1 → Calls Try.prog 16 #[planV p x, .int .i64 side, .slice ar r.length cr] w1 fun e w' => e = .returned (.tuple #[.string (keyOfS p side r), .bool (hasB p side r)]) ∧ Below w1.heap.size w1 w') := fun w1 h hb => keyFor_any p x side ar cr r w1 hw (planAt_below hp hb) h (rowAt_below hr hb) hwr hlr
  have HRE : Hid (rowErr p side r = if planErr p = 0 then rErr p side r else planErr p) := rfl
  have HNO : Hid (rowErr p side r ≠ 0 → hasB p side r = false ∧ keyOfS p side r = ⟨#[]⟩) := fun h => by
    have h1 : hasB p side r = false := by unfold hasB; rw [decide_eq_false h]; rfl
    refine ⟨h1, ?_⟩
    unfold keyOfS
    rw [h1]; rfl
  obtain ⟨pe, hpe⟩ : ∃ z, planErr p = z := ⟨_, rfl⟩
  obtain ⟨re, hre⟩ : ∃ z, rowErr p side r = z := ⟨_, rfl⟩
  obtain ⟨rr, hrr⟩ : ∃ z, rErr p side r = z := ⟨_, rfl⟩
  obtain ⟨hb, hhb⟩ : ∃ z, hasB p side r = z := ⟨_, rfl⟩
  obtain ⟨ks, hks⟩ : ∃ z, keyOfS p side r = z := ⟨_, rfl⟩
  rw [hks, hhb, hre] at K1
  rw [hpe] at K2
  rw [hre] at K3
  rw [hpe, hrr] at K4
  rw [hks, hhb, hre] at K5
  rw [hre, hpe, hrr] at HRE
  rw [hre, hhb, hks] at HNO
  clear hpe hre hrr hhb hks hw hp hr hwr
  obtain ⟨n, hn⟩ : ∃ z, r.length = z := ⟨_, rfl⟩
  rw [hn] at K1 K3 K4 K5 hlr ⊢
  clear hn
  obtain ⟨kind, mode, low, high, size, limit, left, right, lkeys, rkeys, grouped, group, aggs⟩ := p
  obtain ⟨l, lc, rx, rc, lk, lkc, rk, rkc, g, gc, a, ac⟩ := x
  unfold planV at K1 K2 K3 K4 K5 ⊢
  dsimp only at K1 K2 K3 K4 K5 ⊢
  obtain ⟨n6, h6⟩ : ∃ n, left.length = n := ⟨_, rfl⟩
  obtain ⟨n7, h7⟩ : ∃ n, right.length = n := ⟨_, rfl⟩
  obtain ⟨n8, h8⟩ : ∃ n, lkeys.length = n := ⟨_, rfl⟩
  obtain ⟨n9, h9⟩ : ∃ n, rkeys.length = n := ⟨_, rfl⟩
  obtain ⟨n11, h11⟩ : ∃ n, group.length = n := ⟨_, rfl⟩
  obtain ⟨n12, h12⟩ : ∃ n, aggs.length = n := ⟨_, rfl⟩
  rw [h6, h7, h8, h9, h11, h12] at K1 K2 K3 K4 K5
  rw [h6, h7, h8, h9, h11, h12]
  clear h6 h7 h8 h9 h11 h12
  go_enter Try.func4, Try.ntmps4
  go_wp2_with fail
  refine (K1.out _ ((Below.refl _ _).alloc (Nat.le_refl _) _)).mono ?_
  rintro e w1 ⟨rfl, hb1⟩
  have h1 := ((Below.refl _ _).alloc (Nat.le_refl _) _).trans (hb1.mono (by simp))
  have hz1 : w.heap.size < w1.heap.size := (by have := hb1.size; simp at this; omega)
  obtain ⟨hc1, hf1⟩ := bcell hb1
  go_wp2_with fail
  refine (K2.out _ h1).mono ?_
  rintro e w2 ⟨rfl, hb2⟩
  have h2 := h1.trans (hb2.mono h1.size)
  have hz2 : w.heap.size < w2.heap.size := (by have := hb2.size; omega)
  obtain ⟨hc2, hf2⟩ := bcell hb2
  by_cases h0 : pe = 0
  · subst h0
    have e1 : re = rr := HRE.out
    subst e1
    go_wp2_with fail
    refine (K4.out _ (by trivial) h2).mono ?_
    rintro e w3 ⟨rfl, hb3⟩
    have h3 := h2.trans (hb3.mono h2.size)
    have hz3 : w.heap.size < w3.heap.size := (by have := hb3.size; omega)
    obtain ⟨hc3, hf3⟩ := bcell hb3
    by_cases hr0 : re = 0
    · subst hr0
      go_wp2_with fail
      refine (K5.out _ (by trivial) h3).mono ?_
      rintro e w4 ⟨rfl, hb4⟩
      have h4 := h3.trans (hb4.mono h3.size)
      have hz4 : w.heap.size < w4.heap.size := (by have := hb4.size; omega)
      obtain ⟨hc4, hf4⟩ := bcell hb4
      go_wp2_with fail
      refine (begun_any _).mono ?_
      rintro e w5 ⟨rfl, hb5⟩
      have h5 := h4.trans (hb5.mono h4.size)
      obtain ⟨hc5, hf5⟩ := bcell hb5
      go_wp2_with fail
      refine (K3.out _ h5).mono ?_
      rintro e w6 ⟨rfl, hb6⟩
      have h6 := h5.trans (hb6.mono h5.size)
      clear HNO HRE
      go_wp2
      go_ret
      exact ⟨rfl, h6⟩
    · have hr0' : (re != 0) = true := by simpa using hr0
      obtain ⟨e2, e3⟩ := HNO.out hr0
      subst e2 e3
      clear hr0 HNO
      go_wp2_with fail
      refine (begun_any _).mono ?_
      rintro e w5 ⟨rfl, hb5⟩
      have h5 := h3.trans (hb5.mono h3.size)
      obtain ⟨hc5, hf5⟩ := bcell hb5
      go_wp2_with fail
      refine (K3.out _ h5).mono ?_
      rintro e w6 ⟨rfl, hb6⟩
      have h6 := h5.trans (hb6.mono h5.size)
      go_wp2
      go_ret
      exact ⟨rfl, h6⟩
  · have h0' : (pe == 0) = false := by simpa using h0
    have h0'' : (pe != 0) = true := by simpa using h0
    have e1 : re = pe := by rw [HRE.out, if_neg h0]
    subst e1
    obtain ⟨e2, e3⟩ := HNO.out h0
    subst e2 e3
    clear h0 HNO HRE
    go_wp2_with fail
    refine (begun_any _).mono ?_
    rintro e w5 ⟨rfl, hb5⟩
    have h5 := h2.trans (hb5.mono h2.size)
    obtain ⟨hc5, hf5⟩ := bcell hb5
    go_wp2_with fail
    refine (K3.out _ h5).mono ?_
    rintro e w6 ⟨rfl, hb6⟩
    have h6 := h5.trans (hb6.mono h5.size)
    go_wp2
    go_ret
    exact ⟨rfl, h6⟩
end Go.Proofs.Ytibjihdeknndoaa.pl
