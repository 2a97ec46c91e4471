/- Several texts in one: PlnRCheck, PlnRCheck2, PlnGone, PlnGone2. -/
import Derived.Test.YtbfbgdinhiglaaaGreatMgPlnD
import Derived.Test.YtbfbgdinhiglaaaGreatMgPlnE
/- The document's CheckPlan: what is wrong with a plan. -/
namespace Go.Proofs.YtbfbgdinhiglaaaGreat.pl
open Go.ChangeShapes Go.WideShapes Go.ChangeAt Go.RowKit
open vl
set_option linter.unusedVariables false
set_option linter.unusedSimpArgs false
def longP (p : Pln) : Prop := 4 < p.left.length ∨ 4 < p.right.length ∨ 4 < p.lkeys.length ∨ 4 < p.rkeys.length ∨ 4 < p.aggs.length ∨ 8 < p.group.length
theorem long_many {p : Pln} (h : longP p) : ¬ manyOk p := fun hm => by
  have := many_len hm
  unfold longP at h
  omega
theorem err_long {p : Pln} (h : longP p) : planErr p = if decide (kindsOk p) = false then 4 else if decide (rangesOk p) = false then 3 else 2 := by
  rw [planErr_5]
  unfold err5
  rw [decide_eq_false (long_many h)]
  simp
/-- a plan without figures -/
def bare (p : Pln) : Pln := { p with aggs := [] }
def bareA (x : PA) : PA := { x with a := none, ac := 0 }
theorem bare_kinds {p : Pln} (h : p.grouped = true → ∀ i, i < p.aggs.length → betw (p.aggs.getD i (0, 0)).1 1 4 = true) : decide (kindsOk (bare p)) = decide (kindsOk p) := by
  rw [kinds_iff, kinds_iff]
  unfold bare
  dsimp only
  have e : figB [] = true := rfl
  rw [e]
  cases hg : p.grouped with
  | false => rfl
  | true => rw [figB_all (h hg)]
theorem bad_kinds {p : Pln} {i : Nat} (hg : p.grouped = true) (hi : i < p.aggs.length) (h : betw (p.aggs.getD i (0, 0)).1 1 4 = false) : decide (kindsOk p) = false := by
  rw [kinds_iff, hg, figB_no hi h]; simp
set_option maxRecDepth 100000 in
set_option maxHeartbeats 8000000 in
theorem checkPlan_short (p : Pln) (x : PA) (w : World) (hw : wfPlan p) (hp : planAt w p x) (hs : ¬ longP p) :
    Calls Tryz.prog 21 #[planV p x] w fun e w' => e = .returned (.int .i64 (planErr p)) ∧ Below w.heap.size w w' := by
  have K1 : Hid (∀ w1, Below w.heap.size w w1 → Calls Tryz.prog 58 #[planV p x] w1 fun e w' => e = .returned (.bool (!decide (kindsOk p))) ∧ Below w1.heap.size w1 w') := fun w1 hb => wrongKind_any p x w1 (aggsAt_below hp.a hb) hw.a
  have K2 : Hid (∀ w1, Below w.heap.size w w1 → Calls Tryz.prog 59 #[planV p x] w1 fun e w' => e = .returned (.bool (!decide (rangesOk p))) ∧ Below w1.heap.size w1 w') := fun w1 hb => wrongRange_any p x w1
  have K3 : Hid (∀ w1, Below w.heap.size w w1 → Calls Tryz.prog 60 #[planV p x] w1 fun e w' => e = .returned (.bool (!decide (manyOk p))) ∧ Below w1.heap.size w1 w') := fun w1 hb => wrongMany_any p x w1 hw
  have K4 : Hid (∀ w1, Below w.heap.size w w1 → yes (decide (manyOk p)) (Calls Tryz.prog 22 #[planV p x] w1 fun e w' => (∃ ad cap, e = .returned (.slice ad (cols p).length cap) ∧ ownI w' w1.heap.size (.slice ad (cols p).length cap) (cols p)) ∧ Below w1.heap.size w1 w')) := fun w1 hb hm => by
    have hm' := many_len (of_decide_eq_true hm)
    exact rtypes_any p x w1 (planAt_below hp hb) (by omega) (by omega) (by omega) (by omega)
  have K5 : Hid (∀ w1, Below w.heap.size w w1 → yes (decide (manyOk p)) (Calls Tryz.prog 61 #[planV p x] w1 fun e w' => e = .returned (.bool (!decide (formOk p))) ∧ Below w1.heap.size w1 w')) := fun w1 hb hm => by
    have hm' := many_len (of_decide_eq_true hm)
    exact wrongForm_any p x w1 hw (planAt_below hp hb) (by omega) (by omega) (by omega) (by omega)
  have HK : Hid (planErr p = err5 (decide (kindsOk p)) (decide (rangesOk p)) (decide (manyOk p)) (decide (typesOk p)) (decide (formOk p))) := planErr_5 p
  have HTY : Hid (∀ i, i < (cols p).length → betw ((cols p).getD i 0) 1 3 = false → decide (typesOk p) = false) := fun i hi h => by rw [types_iff]; exact allB_no hi h
  have HTN : Hid ((∀ i, i < (cols p).length → betw ((cols p).getD i 0) 1 3 = true) → decide (typesOk p) = true) := fun h => by rw [types_iff]; exact allB_iff.2 h
  have HCL : yes (decide (manyOk p)) ((cols p).length ≤ 8) := fun hm => by
    have hm' := many_len (of_decide_eq_true hm)
    unfold cols; rw [List.length_append]; omega
  obtain ⟨q1, hq1⟩ : ∃ z, decide (kindsOk p) = z := ⟨_, rfl⟩
  obtain ⟨q2, hq2⟩ : ∃ z, decide (rangesOk p) = z := ⟨_, rfl⟩
  obtain ⟨q3, hq3⟩ : ∃ z, decide (manyOk p) = z := ⟨_, rfl⟩
  obtain ⟨q4, hq4⟩ : ∃ z, decide (typesOk p) = z := ⟨_, rfl⟩
  obtain ⟨q5, hq5⟩ : ∃ z, decide (formOk p) = z := ⟨_, rfl⟩
  rw [hq1] at K1 HK
  rw [hq2] at K2 HK
  rw [hq3] at K3 K4 K5 HK HCL
  rw [hq4] at HK HTY HTN
  rw [hq5] at K5 HK
  obtain ⟨cs, hcs⟩ : ∃ z, cols p = z := ⟨_, rfl⟩
  rw [hcs] at K4 HTY HTN HCL
  obtain ⟨pe, hpe⟩ : ∃ z, planErr p = z := ⟨_, rfl⟩
  rw [hpe] at HK ⊢
  unfold longP at hs
  clear hq1 hq2 hq3 hq4 hq5 hw hp hcs hpe
  obtain ⟨kind, mode, low, high, size, limit, left, right, lkeys, rkeys, grouped, group, aggs⟩ := p
  obtain ⟨l, lc, r, rc, lk, lkc, rk, rkc, g, gc, a, ac⟩ := x
  unfold planV at K1 K2 K3 K4 K5 ⊢
  dsimp only at K1 K2 K3 K4 K5 hs ⊢
  obtain ⟨n6, h6⟩ : ∃ n, left.length = n := ⟨_, rfl⟩
  obtain ⟨n7, h7⟩ : ∃ n, right.length = n := ⟨_, rfl⟩
  obtain ⟨n8, h8⟩ : ∃ n, lkeys.length = n := ⟨_, rfl⟩
  obtain ⟨n9, h9⟩ : ∃ n, rkeys.length = n := ⟨_, rfl⟩
  obtain ⟨n11, h11⟩ : ∃ n, group.length = n := ⟨_, rfl⟩
  obtain ⟨n12, h12⟩ : ∃ n, aggs.length = n := ⟨_, rfl⟩
  obtain ⟨cn, hcn⟩ : ∃ n, cs.length = n := ⟨_, rfl⟩
  have HCN : Hid (cs.length = cn) := hcn
  rw [h6, h7, h8, h9, h11, h12] at K1 K2 K3 K4 K5 hs
  rw [hcn] at K4 HTY HTN HCL
  rw [h6, h7, h8, h9, h11, h12]
  have t6 : ¬ (4 : Int) < (n6 : Int) := by omega
  have t7 : ¬ (4 : Int) < (n7 : Int) := by omega
  have t8 : ¬ (4 : Int) < (n8 : Int) := by omega
  have t9 : ¬ (4 : Int) < (n9 : Int) := by omega
  have t11 : ¬ (8 : Int) < (n11 : Int) := by omega
  have t12 : ¬ (4 : Int) < (n12 : Int) := by omega
  clear h6 h7 h8 h9 h11 h12 hcn hs
  go_enter Tryz.func21, Tryz.ntmps21
  go_wp2_with fail
  refine (K1.out _ ((Below.refl _ _).alloc (Nat.le_refl _) _)).mono ?_
  rintro e w1 ⟨rfl, hb1⟩
  have hba := ((Below.refl _ _).alloc (Nat.le_refl _) _).trans (hb1.mono (by simp))
  obtain ⟨hc1, hf1⟩ := bcell hb1
  have hz1 : w.heap.size < w1.heap.size := (by have := hb1.size; simp at this; omega)
  cases q1
  · go_wp2
    go_ret
    exact ⟨ret_int HK.out.symm, hba⟩
  go_wp2_with fail
  refine (K2.out _ hba).mono ?_
  rintro e w2 ⟨rfl, hb2⟩
  have hbb := hba.trans (hb2.mono hba.size)
  obtain ⟨hc2, hf2⟩ := bcell hb2
  have hz2 : w.heap.size < w2.heap.size := (by have := hb2.size; omega)
  cases q2
  · go_wp2
    go_ret
    exact ⟨ret_int HK.out.symm, hbb⟩
  go_wp2_with fail
  refine (K3.out _ hbb).mono ?_
  rintro e w3 ⟨rfl, hb3⟩
  have hbc := hbb.trans (hb3.mono hbb.size)
  obtain ⟨hc3, hf3⟩ := bcell hb3
  have hz3 : w.heap.size < w3.heap.size := (by have := hb3.size; omega)
  cases q3
  · go_wp2
    go_ret
    exact ⟨ret_int HK.out.symm, hbc⟩
  go_wp2_with fail
  refine (K4.out _ hbc rfl).mono ?_
  rintro e w4 ⟨⟨ad, cap, rfl, ho⟩, hb4⟩
  have hbd := hbc.trans (hb4.mono hbc.size)
  have HIC : Hid (intsAt w4 ad cs) := (ownI_at ho).1
  obtain ⟨hc4, hf4⟩ := bcell hb4
  have hz4 : w.heap.size < w4.heap.size := (by have := hb4.size; omega)
  have hcl := HCL rfl
  clear ho HCL
  go_wp2
  go_loop [6] (fun i => ∃ k : Nat, k ≤ cn ∧ i = .int .i64 k ∧ ∀ j, j < k → betw (cs.getD j 0) 1 3 = true) (fun i => cn - (intOf i).toNat)
  case atStart => exact ⟨0, Nat.zero_le _, rfl, fun i hi => absurd hi (Nat.not_lt_zero i)⟩
  case round =>
    obtain ⟨k, hk, rfl, hall⟩ := hrel
    have HA : Hid (∀ j, j < k → betw (cs.getD j 0) 1 3 = true) := hall
    clear hall
    by_cases hlt : k < cn
    · obtain ⟨bc, oc, ec, xc⟩ := HIC.out k (by rw [HCN.out]; exact hlt)
      subst ec
      have i1 : (0 : Int) ≤ (k : Int) := by omega
      have i2 : (k : Int) < (cn : Int) := by omega
      obtain ⟨cv, hcv⟩ : ∃ z, cs.getD k 0 = z := ⟨_, rfl⟩
      have HCV : Hid (cs.getD k 0 = cv) := hcv
      rw [hcv] at xc
      clear hcv
      cases pc : betw cv 1 3 with
      | true =>
        go_wp2_with
          (go_at_call 25; refine (within_any _ _ _ _).mono ?_; rintro e w' ⟨rfl, hw⟩; subst hw)
        go_round
        case rel => exact ⟨k + 1, by omega, by go_num, fun j hj => by
          rcases Nat.lt_succ_iff_lt_or_eq.1 hj with h | h
          · exact HA.out j h
          · rw [h, HCV.out]; exact pc⟩
        case measure => simp [intOf]; omega
      | false =>
        have HX : Hid (pe = 5) := by
          show pe = 5
          rw [HK.out, HTY.out k hlt (by rw [HCV.out]; exact pc)]; rfl
        go_wp2_with
          (go_at_call 25; refine (within_any _ _ _ _).mono ?_; rintro e w' ⟨rfl, hw⟩; subst hw)
        go_ret
        exact ⟨ret_int HX.out.symm, hbd⟩
    · have HX : Hid (pe = err5 true true true true q5) := by
        show pe = _
        rw [HK.out, HTN.out (fun j hj => HA.out j (by omega))]
      go_wp2_with fail
      refine (K5.out _ hbd rfl).mono ?_
      rintro e w5 ⟨rfl, hb5⟩
      have hbe := hbd.trans (hb5.mono hbd.size)
      cases q5
      all_goals
        go_wp2
        go_ret
        exact ⟨ret_int HX.out.symm, hbe⟩
end Go.Proofs.YtbfbgdinhiglaaaGreat.pl

/- The document's CheckPlan at plans whose lists are long. -/
namespace Go.Proofs.YtbfbgdinhiglaaaGreat.pl
open Go.ChangeShapes Go.WideShapes Go.ChangeAt Go.RowKit
open vl
set_option linter.unusedVariables false
set_option linter.unusedSimpArgs false
theorem long_cases {a b c d e f : Nat} (h : 4 < a ∨ 4 < b ∨ 4 < c ∨ 4 < d ∨ 4 < e ∨ 8 < f) :
    ((4 : Int) < a) ∨ (¬ (4 : Int) < a ∧ (4 : Int) < b) ∨ (¬ (4 : Int) < a ∧ ¬ (4 : Int) < b ∧ (4 : Int) < c) ∨ (¬ (4 : Int) < a ∧ ¬ (4 : Int) < b ∧ ¬ (4 : Int) < c ∧ (4 : Int) < d) ∨
    (¬ (4 : Int) < a ∧ ¬ (4 : Int) < b ∧ ¬ (4 : Int) < c ∧ ¬ (4 : Int) < d ∧ (4 : Int) < e) ∨ (¬ (4 : Int) < a ∧ ¬ (4 : Int) < b ∧ ¬ (4 : Int) < c ∧ ¬ (4 : Int) < d ∧ ¬ (4 : Int) < e ∧ (8 : Int) < f) := by omega
set_option maxRecDepth 100000 in
set_option maxHeartbeats 8000000 in
theorem checkPlan_long (p : Pln) (x : PA) (w : World) (hw : wfPlan p) (hp : planAt w p x) (hs : longP p) :
    Calls Tryz.prog 21 #[planV p x] w fun e w' => e = .returned (.int .i64 (planErr p)) ∧ Below w.heap.size w w' := by
  have K1 : Hid (∀ w1, Below w.heap.size w w1 → Calls Tryz.prog 58 #[planV p x] w1 fun e w' => e = .returned (.bool (!decide (kindsOk p))) ∧ Below w1.heap.size w1 w') := fun w1 hb => wrongKind_any p x w1 (aggsAt_below hp.a hb) hw.a
  have K2 : Hid (∀ w1, Below w.heap.size w w1 → Calls Tryz.prog 59 #[planV p x] w1 fun e w' => e = .returned (.bool (!decide (rangesOk p))) ∧ Below w1.heap.size w1 w') := fun w1 hb => wrongRange_any p x w1
  have K3 : Hid (∀ w1, Below w.heap.size w w1 → (p.grouped = true → ∀ i, i < p.aggs.length → betw (p.aggs.getD i (0, 0)).1 1 4 = true) → Calls Tryz.prog 58 #[planV (bare p) (bareA x)] w1 fun e w' => e = .returned (.bool (!decide (kindsOk p))) ∧ Below w1.heap.size w1 w') := fun w1 hb h => by
    rw [← bare_kinds h]
    exact wrongKind_any (bare p) (bareA x) w1 (fun i hi => absurd hi (Nat.not_lt_zero i)) (Nat.zero_le _)
  have HK : Hid (planErr p = if decide (kindsOk p) = false then 4 else if decide (rangesOk p) = false then 3 else 2) := err_long hs
  have HBD : Hid (∀ i, p.grouped = true → i < p.aggs.length → betw (p.aggs.getD i (0, 0)).1 1 4 = false → decide (kindsOk p) = false) := fun i hg hi h => bad_kinds hg hi h
  have HPA : Hid (aggsAt w x.a p.aggs) := hp.a
  have hw12 := hw.a
  obtain ⟨q1, hq1⟩ : ∃ z, decide (kindsOk p) = z := ⟨_, rfl⟩
  obtain ⟨q2, hq2⟩ : ∃ z, decide (rangesOk p) = z := ⟨_, rfl⟩
  rw [hq1] at K1 K3 HK HBD
  rw [hq2] at K2 HK
  obtain ⟨pe, hpe⟩ : ∃ z, planErr p = z := ⟨_, rfl⟩
  rw [hpe] at HK ⊢
  unfold longP at hs
  clear hq1 hq2 hw hp hpe
  obtain ⟨kind, mode, low, high, size, limit, left, right, lkeys, rkeys, grouped, group, aggs⟩ := p
  obtain ⟨l, lc, r, rc, lk, lkc, rk, rkc, g, gc, a, ac⟩ := x
  unfold bare bareA at K3
  unfold planV at K1 K2 K3 ⊢
  dsimp only [List.length_nil] at K1 K2 K3 HBD HPA hw12 hs ⊢
  obtain ⟨n6, h6⟩ : ∃ n, left.length = n := ⟨_, rfl⟩
  obtain ⟨n7, h7⟩ : ∃ n, right.length = n := ⟨_, rfl⟩
  obtain ⟨n8, h8⟩ : ∃ n, lkeys.length = n := ⟨_, rfl⟩
  obtain ⟨n9, h9⟩ : ∃ n, rkeys.length = n := ⟨_, rfl⟩
  obtain ⟨n11, h11⟩ : ∃ n, group.length = n := ⟨_, rfl⟩
  obtain ⟨n12, h12⟩ : ∃ n, aggs.length = n := ⟨_, rfl⟩
  have HN : Hid (aggs.length = n12) := h12
  rw [h6, h7, h8, h9, h11, h12] at K1 K2 hs
  rw [h6, h7, h8, h9, h11, h12] at K3
  rw [h12] at HBD hw12
  rw [h6, h7, h8, h9, h11, h12]
  have hs' := long_cases hs
  clear h6 h7 h8 h9 h11 h12 hs
  by_cases t12 : 4 < n12
  · have t12' : (4 : Int) < (n12 : Int) := by omega
    rcases hs' with h | h | h | h | h | h
    all_goals
      first
      | (exfalso; omega)
      | skip
    all_goals
      go_enter Tryz.func21, Tryz.ntmps21
      go_wp2
      go_loop [4] (fun i => ∃ k : Nat, k ≤ n12 ∧ i = .int .i64 k ∧ (grouped = true → ∀ i, i < k → betw (aggs.getD i (0, 0)).1 1 4 = true)) (fun i => n12 - (intOf i).toNat)
      case atStart => exact ⟨0, Nat.zero_le _, rfl, fun _ i hi => absurd hi (Nat.not_lt_zero i)⟩
      case round =>
        obtain ⟨k, hk, rfl, hall⟩ := hrel
        have HA : allOk grouped aggs k := hall
        clear hall
        by_cases hlt : k < n12
        · obtain ⟨b, o, e, x1, x2⟩ := HPA.out k (by rw [HN.out]; exact hlt)
          subst e
          have hblt := World.block_lt_of_cell? _ _ x1
          have hblt' : b < w.heap.size := hblt
          have hblt2 : b < w.heap.size + 1 := by omega
          have i1 : (0 : Int) ≤ (k : Int) := by omega
          have i2 : (k : Int) < (n12 : Int) := by omega
          obtain ⟨z, hz⟩ : ∃ z, (aggs.getD k (0, 0)).1 = z := ⟨_, rfl⟩
          have HZ : Hid ((aggs.getD k (0, 0)).1 = z) := hz
          rw [hz] at x1
          clear x2 hblt hz
          cases grouped with
          | false =>
            go_wp2
            go_round
            case rel => exact ⟨k + 1, by omega, by go_num, fun h => absurd h (by decide)⟩
            case measure => simp [intOf]; omega
          | true =>
            cases hf : betw z 1 4 with
            | true =>
              go_wp2_with
                (go_at_call 25; refine (within_any _ _ _ _).mono ?_; rintro e w' ⟨rfl, hw⟩; subst hw)
              go_round
              case rel => exact ⟨k + 1, by omega, by go_num, fun _ i hi => by
                rcases Nat.lt_succ_iff_lt_or_eq.1 hi with h | h
                · exact HA rfl i h
                · rw [h, HZ.out]; exact hf⟩
              case measure => simp [intOf]; omega
            | false =>
              have HX : Hid (pe = 4) := by
                show pe = 4
                rw [HK.out, HBD.out k rfl hlt (by rw [HZ.out]; exact hf)]; rfl
              go_wp2_with
                (go_at_call 25; refine (within_any _ _ _ _).mono ?_; rintro e w' ⟨rfl, hw⟩; subst hw)
              go_ret
              exact ⟨ret_int HX.out.symm, (by repeat (first | exact Below.refl _ _ | (refine Below.setCell ?_ (by simp) _) | (refine Below.alloc ?_ (by simp <;> omega) _)))⟩
        · have HAL : allOk grouped aggs n12 := fun hg i hi => HA hg i (by omega)
          go_wp2_with fail
          refine (K3.out _ (by repeat (first | exact Below.refl _ _ | (refine Below.setCell ?_ (by simp) _) | (refine Below.alloc ?_ (by simp <;> omega) _))) HAL).mono ?_
          rintro e w1 ⟨rfl, hb1⟩
          have hba := ((by repeat (first | exact Below.refl _ _ | (refine Below.setCell ?_ (by simp) _) | (refine Below.alloc ?_ (by simp <;> omega) _))) : Below w.heap.size w _).trans (hb1.mono (by simp; omega))
          obtain ⟨hc1, hf1⟩ := bcell hb1
          cases q1
          · go_wp2
            go_ret
            exact ⟨ret_int HK.out.symm, hba⟩
          go_wp2_with fail
          refine (K2.out _ hba).mono ?_
          rintro e w2 ⟨rfl, hb2⟩
          have hbb := hba.trans (hb2.mono hba.size)
          cases q2
          all_goals
            go_wp2
            go_ret
            exact ⟨ret_int HK.out.symm, hbb⟩
  · have t12' : ¬ (4 : Int) < (n12 : Int) := by omega
    rcases hs' with h | h | h | h | h | h
    all_goals
      first
      | (exfalso; omega)
      | skip
    all_goals
      go_enter Tryz.func21, Tryz.ntmps21
      go_wp2_with fail
      refine (K1.out _ (by repeat (first | exact Below.refl _ _ | (refine Below.setCell ?_ (by simp) _) | (refine Below.alloc ?_ (by simp <;> omega) _)))).mono ?_
      rintro e w1 ⟨rfl, hb1⟩
      have hba := ((by repeat (first | exact Below.refl _ _ | (refine Below.setCell ?_ (by simp) _) | (refine Below.alloc ?_ (by simp <;> omega) _))) : Below w.heap.size w _).trans (hb1.mono (by simp; omega))
      obtain ⟨hc1, hf1⟩ := bcell hb1
      cases q1
      · go_wp2
        go_ret
        exact ⟨ret_int HK.out.symm, hba⟩
      go_wp2_with fail
      refine (K2.out _ hba).mono ?_
      rintro e w2 ⟨rfl, hb2⟩
      have hbb := hba.trans (hb2.mono hba.size)
      cases q2
      all_goals
        go_wp2
        go_ret
        exact ⟨ret_int HK.out.symm, hbb⟩
theorem checkPlan_any (p : Pln) (x : PA) (w : World) (hw : wfPlan p) (hp : planAt w p x) :
    Calls Tryz.prog 21 #[planV p x] w fun e w' => e = .returned (.int .i64 (planErr p)) ∧ Below w.heap.size w w' := by
  by_cases hs : longP p
  · exact checkPlan_long p x w hw hp hs
  · exact checkPlan_short p x w hw hp hs
end Go.Proofs.YtbfbgdinhiglaaaGreat.pl

/- Gone, and the document's GoneAt. -/
namespace Go.Proofs.YtbfbgdinhiglaaaGreat.pl
open Go.ChangeShapes Go.WideShapes Go.ChangeAt Go.RowKit
open vl
set_option linter.unusedVariables false
set_option linter.unusedSimpArgs false
theorem fit_fitB {t : Int} : fit t ↔ tm.fitB t = true := by rw [tm.fit_iff]; exact Iff.rfl
theorem fit_of {t : Int} (h : fit t) : tm.fitB t = true := fit_fitB.1 h
def untilV (m s : Int) : Int := if m = 1099511627776 then 1099511627776 else m - s
theorem ret_two {a b c d : Int} (h1 : a = c) (h2 : b = d) : Ending.returned (.tuple #[.int .i64 a, .int .i64 b]) = .returned (.tuple #[.int .i64 c, .int .i64 d]) := by rw [h1, h2]
/-- D4: when this side's rows are gone -/
def winV (mark size : Int) : Int := if mark = 1099511627776 then 1099511627776 else tm.start (mark + 1) size - 1
def goneAt (p : Pln) (side mark : Int) : Int :=
  if p.kind = 1 then untilV mark (if side = 2 then -p.low else p.high) else if p.kind = 2 then winV mark p.size else if side = 2 then -1099511627777 else mark
def sideB (side : Int) : Bool := decide (side = 1 ∨ side = 2)
def goneErr (p : Pln) (side mark : Int) : Int := if planErr p = 0 then (if sideB side = true then (if tm.fitB mark = true then 0 else 3) else 4) else planErr p
def goneV (p : Pln) (side mark : Int) : Int := if goneErr p side mark = 0 then goneAt p side mark else 0

end Go.Proofs.YtbfbgdinhiglaaaGreat.pl

/- Gone, and the document's GoneAt: the whole. -/
namespace Go.Proofs.YtbfbgdinhiglaaaGreat.pl
open Go.ChangeShapes Go.WideShapes Go.ChangeAt Go.RowKit
open vl
set_option linter.unusedVariables false
set_option linter.unusedSimpArgs false
theorem ok_1 {p : Pln} (h : planErr p = 0) (hk : p.kind = 1) : fit p.low ∧ fit p.high := by
  have := (planErr_ok h).2.1.1
  rw [if_pos hk] at this; exact this
theorem ok_2 {p : Pln} (h : planErr p = 0) (hk : p.kind = 2) : 1 ≤ p.size ∧ p.size ≤ 1099511627776 := by
  have := (planErr_ok h).2.1.2.1
  rw [if_pos hk] at this; exact this
theorem fit_neg {t : Int} (h : fit t) : fit (-t) := by unfold fit at *; omega
def gErr (pe : Int) (sb fb : Bool) : Int := if pe = 0 then (if sb = true then (if fb = true then 0 else 3) else 4) else pe
end Go.Proofs.YtbfbgdinhiglaaaGreat.pl
