/- The document's CheckPlan at plans whose lists are long. -/
import Derived.Test.YtibjihdeknndoaaPlnRCheck
namespace Go.Proofs.Ytibjihdeknndoaa.pl
open Go.ChangeShapes Go.WideShapes Go.ChangeAt Go.RowKit
open vl
set_option linter.unusedVariables false
set_option linter.unusedSimpArgs false
theorem long_cases {a b c d e f : Nat} (h : 4 < a ∨ 4 < b ∨ 4 < c ∨ 4 < d ∨ 4 < e ∨ 8 < f) :
    ((4 : Int) < a) ∨ (¬ (4 : Int) < a ∧ (4 : Int) < b) ∨ (¬ (4 : Int) < a ∧ ¬ (4 : Int) < b ∧ (4 : Int) < c) ∨ (¬ (4 : Int) < a ∧ ¬ (4 : Int) < b ∧ ¬ (4 : Int) < c ∧ (4 : Int) < d) ∨
    (¬ (4 : Int) < a ∧ ¬ (4 : Int) < b ∧ ¬ (4 : Int) < c ∧ ¬ (4 : Int) < d ∧ (4 : Int) < e) ∨ (¬ (4 : Int) < a ∧ ¬ (4 : Int) < b ∧ ¬ (4 : Int) < c ∧ ¬ (4 : Int) < d ∧ ¬ (4 : Int) < e ∧ (8 : Int) < f) := by omega
set_option maxRecDepth 100000 in
set_option maxHeartbeats 8000000 in
theorem checkPlan_long (p : Pln) (x : PA) (w : World) (hw : wfPlan p) (hp : planAt w p x) (hs : longP p) :
    Calls Try.prog 8 #[planV p x] w fun e w' => e = .returned (.int .i64 (planErr p)) ∧ Below w.heap.size w w' := by
  have K1 : Hid (∀ w1, Below w.heap.size w w1 → Calls Try.prog 26 #[planV p x] w1 fun e w' => e = .returned (.bool (!decide (kindsOk p))) ∧ Below w1.heap.size w1 w') := fun w1 hb => wrongKind_any p x w1 (aggsAt_below hp.a hb) hw.a
  have K2 : Hid (∀ w1, Below w.heap.size w w1 → Calls Try.prog 27 #[planV p x] w1 fun e w' => e = .returned (.bool (!decide (rangesOk p))) ∧ Below w1.heap.size w1 w') := fun w1 hb => wrongRange_any p x w1
  have K3 : Hid (∀ w1, Below w.heap.size w w1 → (p.grouped = true → ∀ i, i < p.aggs.length → betw (p.aggs.getD i (0, 0)).1 1 4 = true) → Calls Try.prog 26 #[planV (bare p) (bareA x)] w1 fun e w' => e = .returned (.bool (!decide (kindsOk p))) ∧ Below w1.heap.size w1 w') := fun w1 hb h => by
    rw [← bare_kinds h]
    exact wrongKind_any (bare p) (bareA x) w1 (fun i hi => absurd hi (Nat.not_lt_zero i)) (Nat.zero_le _)
  have HK : Hid (planErr p = if decide (kindsOk p) = false then 4 else if decide (rangesOk p) = false then 3 else 2) := err_long hs
  have HBD : Hid (∀ i, p.grouped = true → i < p.aggs.length → betw (p.aggs.getD i (0, 0)).1 1 4 = false → decide (kindsOk p) = false) := fun i hg hi h => bad_kinds hg hi h
  have HPA : Hid (aggsAt w x.a p.aggs) := hp.a
  have hw12 := hw.a
  obtain ⟨q1, hq1⟩ : ∃ z, decide (kindsOk p) = z := ⟨_, rfl⟩
  obtain ⟨q2, hq2⟩ : ∃ z, decide (rangesOk p) = z := ⟨_, rfl⟩
  rw [hq1] at K1 K3 HK HBD
  rw [hq2] at K2 HK
  obtain ⟨pe, hpe⟩ : ∃ z, planErr p = z := ⟨_, rfl⟩
  rw [hpe] at HK ⊢
  unfold longP at hs
  clear hq1 hq2 hw hp hpe
  obtain ⟨kind, mode, low, high, size, limit, left, right, lkeys, rkeys, grouped, group, aggs⟩ := p
  obtain ⟨l, lc, r, rc, lk, lkc, rk, rkc, g, gc, a, ac⟩ := x
  unfold bare bareA at K3
  unfold planV at K1 K2 K3 ⊢
  dsimp only [List.length_nil] at K1 K2 K3 HBD HPA hw12 hs ⊢
  obtain ⟨n6, h6⟩ : ∃ n, left.length = n := ⟨_, rfl⟩
  obtain ⟨n7, h7⟩ : ∃ n, right.length = n := ⟨_, rfl⟩
  obtain ⟨n8, h8⟩ : ∃ n, lkeys.length = n := ⟨_, rfl⟩
  obtain ⟨n9, h9⟩ : ∃ n, rkeys.length = n := ⟨_, rfl⟩
  obtain ⟨n11, h11⟩ : ∃ n, group.length = n := ⟨_, rfl⟩
  obtain ⟨n12, h12⟩ : ∃ n, aggs.length = n := ⟨_, rfl⟩
  have HN : Hid (aggs.length = n12) := h12
  rw [h6, h7, h8, h9, h11, h12] at K1 K2 hs
  rw [h6, h7, h8, h9, h11, h12] at K3
  rw [h12] at HBD hw12
  rw [h6, h7, h8, h9, h11, h12]
  have hs' := long_cases hs
  clear h6 h7 h8 h9 h11 h12 hs
  by_cases t12 : 4 < n12
  · have t12' : (4 : Int) < (n12 : Int) := by omega
    rcases hs' with h | h | h | h | h | h
    all_goals
      first
      | (exfalso; omega)
      | skip
    all_goals
      go_enter Try.func8, Try.ntmps8
      go_wp2
      go_loop [4] (fun i => ∃ k : Nat, k ≤ n12 ∧ i = .int .i64 k ∧ (grouped = true → ∀ i, i < k → betw (aggs.getD i (0, 0)).1 1 4 = true)) (fun i => n12 - (intOf i).toNat)
      case atStart => exact ⟨0, Nat.zero_le _, rfl, fun _ i hi => absurd hi (Nat.not_lt_zero i)⟩
      case round =>
        obtain ⟨k, hk, rfl, hall⟩ := hrel
        have HA : allOk grouped aggs k := hall
        clear hall
        by_cases hlt : k < n12
        · obtain ⟨b, o, e, x1, x2⟩ := HPA.out k (by rw [HN.out]; exact hlt)
          subst e
          have hblt := World.block_lt_of_cell? _ _ x1
          have hblt' : b < w.heap.size := hblt
          have hblt2 : b < w.heap.size + 1 := by omega
          have i1 : (0 : Int) ≤ (k : Int) := by omega
          have i2 : (k : Int) < (n12 : Int) := by omega
          obtain ⟨z, hz⟩ : ∃ z, (aggs.getD k (0, 0)).1 = z := ⟨_, rfl⟩
          have HZ : Hid ((aggs.getD k (0, 0)).1 = z) := hz
          rw [hz] at x1
          clear x2 hblt hz
          cases grouped with
          | false =>
            go_wp2
            go_round
            case rel => exact ⟨k + 1, by omega, by go_num, fun h => absurd h (by decide)⟩
            case measure => simp [intOf]; omega
          | true =>
            cases hf : betw z 1 4 with
            | true =>
              go_wp2_with
                (go_at_call 25; refine (within_any _ _ _ _).mono ?_; rintro e w' ⟨rfl, hw⟩; subst hw)
              go_round
              case rel => exact ⟨k + 1, by omega, by go_num, fun _ i hi => by
                rcases Nat.lt_succ_iff_lt_or_eq.1 hi with h | h
                · exact HA rfl i h
                · rw [h, HZ.out]; exact hf⟩
              case measure => simp [intOf]; omega
            | false =>
              have HX : Hid (pe = 4) := by
                show pe = 4
                rw [HK.out, HBD.out k rfl hlt (by rw [HZ.out]; exact hf)]; rfl
              go_wp2_with
                (go_at_call 25; refine (within_any _ _ _ _).mono ?_; rintro e w' ⟨rfl, hw⟩; subst hw)
              go_ret
              exact ⟨ret_int HX.out.symm, (by repeat (first | exact Below.refl _ _ | (refine Below.setCell ?_ (by simp) _) | (refine Below.alloc ?_ (by simp <;> omega) _)))⟩
        · have HAL : allOk grouped aggs n12 := fun hg i hi => HA hg i (by omega)
          go_wp2_with fail
          refine (K3.out _ (by repeat (first | exact Below.refl _ _ | (refine Below.setCell ?_ (by simp) _) | (refine Below.alloc ?_ (by simp <;> omega) _))) HAL).mono ?_
          rintro e w1 ⟨rfl, hb1⟩
          have hba := ((by repeat (first | exact Below.refl _ _ | (refine Below.setCell ?_ (by simp) _) | (refine Below.alloc ?_ (by simp <;> omega) _))) : Below w.heap.size w _).trans (hb1.mono (by simp; omega))
          obtain ⟨hc1, hf1⟩ := bcell hb1
          cases q1
          · go_wp2
            go_ret
            exact ⟨ret_int HK.out.symm, hba⟩
          go_wp2_with fail
          refine (K2.out _ hba).mono ?_
          rintro e w2 ⟨rfl, hb2⟩
          have hbb := hba.trans (hb2.mono hba.size)
          cases q2
          all_goals
            go_wp2
            go_ret
            exact ⟨ret_int HK.out.symm, hbb⟩
  · have t12' : ¬ (4 : Int) < (n12 : Int) := by omega
    rcases hs' with h | h | h | h | h | h
    all_goals
      first
      | (exfalso; omega)
      | skip
    all_goals
      go_enter Try.func8, Try.ntmps8
      go_wp2_with fail
      refine (K1.out _ (by repeat (first | exact Below.refl _ _ | (refine Below.setCell ?_ (by simp) _) | (refine Below.alloc ?_ (by simp <;> omega) _)))).mono ?_
      rintro e w1 ⟨rfl, hb1⟩
      have hba := ((by repeat (first | exact Below.refl _ _ | (refine Below.setCell ?_ (by simp) _) | (refine Below.alloc ?_ (by simp <;> omega) _))) : Below w.heap.size w _).trans (hb1.mono (by simp; omega))
      obtain ⟨hc1, hf1⟩ := bcell hb1
      cases q1
      · go_wp2
        go_ret
        exact ⟨ret_int HK.out.symm, hba⟩
      go_wp2_with fail
      refine (K2.out _ hba).mono ?_
      rintro e w2 ⟨rfl, hb2⟩
      have hbb := hba.trans (hb2.mono hba.size)
      cases q2
      all_goals
        go_wp2
        go_ret
        exact ⟨ret_int HK.out.symm, hbb⟩
theorem checkPlan_any (p : Pln) (x : PA) (w : World) (hw : wfPlan p) (hp : planAt w p x) :
    Calls Try.prog 8 #[planV p x] w fun e w' => e = .returned (.int .i64 (planErr p)) ∧ Below w.heap.size w w' := by
  by_cases hs : longP p
  · exact checkPlan_long p x w hw hp hs
  · exact checkPlan_short p x w hw hp hs
end Go.Proofs.Ytibjihdeknndoaa.pl
