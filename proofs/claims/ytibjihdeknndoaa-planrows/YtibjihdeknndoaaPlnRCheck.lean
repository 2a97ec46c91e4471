/- The document's CheckPlan: what is wrong with a plan. -/
import Derived.Test.YtibjihdeknndoaaPlnWForm
import Derived.Test.YtibjihdeknndoaaPlnCheck
namespace Go.Proofs.Ytibjihdeknndoaa.pl
open Go.ChangeShapes Go.WideShapes Go.ChangeAt Go.RowKit
open vl
set_option linter.unusedVariables false
set_option linter.unusedSimpArgs false
def longP (p : Pln) : Prop := 4 < p.left.length ∨ 4 < p.right.length ∨ 4 < p.lkeys.length ∨ 4 < p.rkeys.length ∨ 4 < p.aggs.length ∨ 8 < p.group.length
theorem long_many {p : Pln} (h : longP p) : ¬ manyOk p := fun hm => by
  have := many_len hm
  unfold longP at h
  omega
theorem err_long {p : Pln} (h : longP p) : planErr p = if decide (kindsOk p) = false then 4 else if decide (rangesOk p) = false then 3 else 2 := by
  rw [planErr_5]
  unfold err5
  rw [decide_eq_false (long_many h)]
  simp
/-- a plan without figures -/
def bare (p : Pln) : Pln := { p with aggs := [] }
def bareA (x : PA) : PA := { x with a := none, ac := 0 }
theorem bare_kinds {p : Pln} (h : p.grouped = true → ∀ i, i < p.aggs.length → betw (p.aggs.getD i (0, 0)).1 1 4 = true) : decide (kindsOk (bare p)) = decide (kindsOk p) := by
  rw [kinds_iff, kinds_iff]
  unfold bare
  dsimp only
  have e : figB [] = true := rfl
  rw [e]
  cases hg : p.grouped with
  | false => rfl
  | true => rw [figB_all (h hg)]
theorem bad_kinds {p : Pln} {i : Nat} (hg : p.grouped = true) (hi : i < p.aggs.length) (h : betw (p.aggs.getD i (0, 0)).1 1 4 = false) : decide (kindsOk p) = false := by
  rw [kinds_iff, hg, figB_no hi h]; simp
set_option maxRecDepth 100000 in
set_option maxHeartbeats 8000000 in
theorem checkPlan_short (p : Pln) (x : PA) (w : World) (hw : wfPlan p) (hp : planAt w p x) (hs : ¬ longP p) :
    Calls Try.prog 8 #[planV p x] w fun e w' => e = .returned (.int .i64 (planErr p)) ∧ Below w.heap.size w w' := by
  have K1 : Hid (∀ w1, Below w.heap.size w w1 → Calls Try.prog 26 #[planV p x] w1 fun e w' => e = .returned (.bool (!decide (kindsOk p))) ∧ Below w1.heap.size w1 w') := fun w1 hb => wrongKind_any p x w1 (aggsAt_below hp.a hb) hw.a
  have K2 : Hid (∀ w1, Below w.heap.size w w1 → Calls Try.prog 27 #[planV p x] w1 fun e w' => e = .returned (.bool (!decide (rangesOk p))) ∧ Below w1.heap.size w1 w') := fun w1 hb => wrongRange_any p x w1
  have K3 : Hid (∀ w1, Below w.heap.size w w1 → Calls Try.prog 28 #[planV p x] w1 fun e w' => e = .returned (.bool (!decide (manyOk p))) ∧ Below w1.heap.size w1 w') := fun w1 hb => wrongMany_any p x w1 hw
  have K4 : Hid (∀ w1, Below w.heap.size w w1 → yes (decide (manyOk p)) (Calls Try.prog 29 #[planV p x] w1 fun e w' => (∃ ad cap, e = .returned (.slice ad (cols p).length cap) ∧ ownI w' w1.heap.size (.slice ad (cols p).length cap) (cols p)) ∧ Below w1.heap.size w1 w')) := fun w1 hb hm => by
    have hm' := many_len (of_decide_eq_true hm)
    exact rtypes_any p x w1 (planAt_below hp hb) (by omega) (by omega) (by omega) (by omega)
  have K5 : Hid (∀ w1, Below w.heap.size w w1 → yes (decide (manyOk p)) (Calls Try.prog 30 #[planV p x] w1 fun e w' => e = .returned (.bool (!decide (formOk p))) ∧ Below w1.heap.size w1 w')) := fun w1 hb hm => by
    have hm' := many_len (of_decide_eq_true hm)
    exact wrongForm_any p x w1 hw (planAt_below hp hb) (by omega) (by omega) (by omega) (by omega)
  have HK : Hid (planErr p = err5 (decide (kindsOk p)) (decide (rangesOk p)) (decide (manyOk p)) (decide (typesOk p)) (decide (formOk p))) := planErr_5 p
  have HTY : Hid (∀ i, i < (cols p).length → betw ((cols p).getD i 0) 1 3 = false → decide (typesOk p) = false) := fun i hi h => by rw [types_iff]; exact allB_no hi h
  have HTN : Hid ((∀ i, i < (cols p).length → betw ((cols p).getD i 0) 1 3 = true) → decide (typesOk p) = true) := fun h => by rw [types_iff]; exact allB_iff.2 h
  have HCL : yes (decide (manyOk p)) ((cols p).length ≤ 8) := fun hm => by
    have hm' := many_len (of_decide_eq_true hm)
    unfold cols; rw [List.length_append]; omega
  obtain ⟨q1, hq1⟩ : ∃ z, decide (kindsOk p) = z := ⟨_, rfl⟩
  obtain ⟨q2, hq2⟩ : ∃ z, decide (rangesOk p) = z := ⟨_, rfl⟩
  obtain ⟨q3, hq3⟩ : ∃ z, decide (manyOk p) = z := ⟨_, rfl⟩
  obtain ⟨q4, hq4⟩ : ∃ z, decide (typesOk p) = z := ⟨_, rfl⟩
  obtain ⟨q5, hq5⟩ : ∃ z, decide (formOk p) = z := ⟨_, rfl⟩
  rw [hq1] at K1 HK
  rw [hq2] at K2 HK
  rw [hq3] at K3 K4 K5 HK HCL
  rw [hq4] at HK HTY HTN
  rw [hq5] at K5 HK
  obtain ⟨cs, hcs⟩ : ∃ z, cols p = z := ⟨_, rfl⟩
  rw [hcs] at K4 HTY HTN HCL
  obtain ⟨pe, hpe⟩ : ∃ z, planErr p = z := ⟨_, rfl⟩
  rw [hpe] at HK ⊢
  unfold longP at hs
  clear hq1 hq2 hq3 hq4 hq5 hw hp hcs hpe
  obtain ⟨kind, mode, low, high, size, limit, left, right, lkeys, rkeys, grouped, group, aggs⟩ := p
  obtain ⟨l, lc, r, rc, lk, lkc, rk, rkc, g, gc, a, ac⟩ := x
  unfold planV at K1 K2 K3 K4 K5 ⊢
  dsimp only at K1 K2 K3 K4 K5 hs ⊢
  obtain ⟨n6, h6⟩ : ∃ n, left.length = n := ⟨_, rfl⟩
  obtain ⟨n7, h7⟩ : ∃ n, right.length = n := ⟨_, rfl⟩
  obtain ⟨n8, h8⟩ : ∃ n, lkeys.length = n := ⟨_, rfl⟩
  obtain ⟨n9, h9⟩ : ∃ n, rkeys.length = n := ⟨_, rfl⟩
  obtain ⟨n11, h11⟩ : ∃ n, group.length = n := ⟨_, rfl⟩
  obtain ⟨n12, h12⟩ : ∃ n, aggs.length = n := ⟨_, rfl⟩
  obtain ⟨cn, hcn⟩ : ∃ n, cs.length = n := ⟨_, rfl⟩
  have HCN : Hid (cs.length = cn) := hcn
  rw [h6, h7, h8, h9, h11, h12] at K1 K2 K3 K4 K5 hs
  rw [hcn] at K4 HTY HTN HCL
  rw [h6, h7, h8, h9, h11, h12]
  have t6 : ¬ (4 : Int) < (n6 : Int) := by omega
  have t7 : ¬ (4 : Int) < (n7 : Int) := by omega
  have t8 : ¬ (4 : Int) < (n8 : Int) := by omega
  have t9 : ¬ (4 : Int) < (n9 : Int) := by omega
  have t11 : ¬ (8 : Int) < (n11 : Int) := by omega
  have t12 : ¬ (4 : Int) < (n12 : Int) := by omega
  clear h6 h7 h8 h9 h11 h12 hcn hs
  go_enter Try.func8, Try.ntmps8
  go_wp2_with fail
  refine (K1.out _ ((Below.refl _ _).alloc (Nat.le_refl _) _)).mono ?_
  rintro e w1 ⟨rfl, hb1⟩
  have hba := ((Below.refl _ _).alloc (Nat.le_refl _) _).trans (hb1.mono (by simp))
  obtain ⟨hc1, hf1⟩ := bcell hb1
  have hz1 : w.heap.size < w1.heap.size := (by have := hb1.size; simp at this; omega)
  cases q1
  · go_wp2
    go_ret
    exact ⟨ret_int HK.out.symm, hba⟩
  go_wp2_with fail
  refine (K2.out _ hba).mono ?_
  rintro e w2 ⟨rfl, hb2⟩
  have hbb := hba.trans (hb2.mono hba.size)
  obtain ⟨hc2, hf2⟩ := bcell hb2
  have hz2 : w.heap.size < w2.heap.size := (by have := hb2.size; omega)
  cases q2
  · go_wp2
    go_ret
    exact ⟨ret_int HK.out.symm, hbb⟩
  go_wp2_with fail
  refine (K3.out _ hbb).mono ?_
  rintro e w3 ⟨rfl, hb3⟩
  have hbc := hbb.trans (hb3.mono hbb.size)
  obtain ⟨hc3, hf3⟩ := bcell hb3
  have hz3 : w.heap.size < w3.heap.size := (by have := hb3.size; omega)
  cases q3
  · go_wp2
    go_ret
    exact ⟨ret_int HK.out.symm, hbc⟩
  go_wp2_with fail
  refine (K4.out _ hbc rfl).mono ?_
  rintro e w4 ⟨⟨ad, cap, rfl, ho⟩, hb4⟩
  have hbd := hbc.trans (hb4.mono hbc.size)
  have HIC : Hid (intsAt w4 ad cs) := (ownI_at ho).1
  obtain ⟨hc4, hf4⟩ := bcell hb4
  have hz4 : w.heap.size < w4.heap.size := (by have := hb4.size; omega)
  have hcl := HCL rfl
  clear ho HCL
  go_wp2
  go_loop [6] (fun i => ∃ k : Nat, k ≤ cn ∧ i = .int .i64 k ∧ ∀ j, j < k → betw (cs.getD j 0) 1 3 = true) (fun i => cn - (intOf i).toNat)
  case atStart => exact ⟨0, Nat.zero_le _, rfl, fun i hi => absurd hi (Nat.not_lt_zero i)⟩
  case round =>
    obtain ⟨k, hk, rfl, hall⟩ := hrel
    have HA : Hid (∀ j, j < k → betw (cs.getD j 0) 1 3 = true) := hall
    clear hall
    by_cases hlt : k < cn
    · obtain ⟨bc, oc, ec, xc⟩ := HIC.out k (by rw [HCN.out]; exact hlt)
      subst ec
      have i1 : (0 : Int) ≤ (k : Int) := by omega
      have i2 : (k : Int) < (cn : Int) := by omega
      obtain ⟨cv, hcv⟩ : ∃ z, cs.getD k 0 = z := ⟨_, rfl⟩
      have HCV : Hid (cs.getD k 0 = cv) := hcv
      rw [hcv] at xc
      clear hcv
      cases pc : betw cv 1 3 with
      | true =>
        go_wp2_with
          (go_at_call 25; refine (within_any _ _ _ _).mono ?_; rintro e w' ⟨rfl, hw⟩; subst hw)
        go_round
        case rel => exact ⟨k + 1, by omega, by go_num, fun j hj => by
          rcases Nat.lt_succ_iff_lt_or_eq.1 hj with h | h
          · exact HA.out j h
          · rw [h, HCV.out]; exact pc⟩
        case measure => simp [intOf]; omega
      | false =>
        have HX : Hid (pe = 5) := by
          show pe = 5
          rw [HK.out, HTY.out k hlt (by rw [HCV.out]; exact pc)]; rfl
        go_wp2_with
          (go_at_call 25; refine (within_any _ _ _ _).mono ?_; rintro e w' ⟨rfl, hw⟩; subst hw)
        go_ret
        exact ⟨ret_int HX.out.symm, hbd⟩
    · have HX : Hid (pe = err5 true true true true q5) := by
        show pe = _
        rw [HK.out, HTN.out (fun j hj => HA.out j (by omega))]
      go_wp2_with fail
      refine (K5.out _ hbd rfl).mono ?_
      rintro e w5 ⟨rfl, hb5⟩
      have hbe := hbd.trans (hb5.mono hbd.size)
      cases q5
      all_goals
        go_wp2
        go_ret
        exact ⟨ret_int HX.out.symm, hbe⟩
end Go.Proofs.Ytibjihdeknndoaa.pl
