import Derived.Test.YtdohnkkbkfhphaaGreatPe13
import Derived.Test.YtdohnkkbkfhphaaGreatPe4
namespace Go.Proofs.YtdohnkkbkfhphaaGreat.pl
open Go.ChangeShapes Go.WideShapes Go.ChangeAt Go.RowKit
open vl
set_option linter.unusedVariables false
set_option linter.unusedSimpArgs false
def longP (p : Pln) : Prop := 4 < p.left.length ∨ 4 < p.right.length ∨ 4 < p.lkeys.length ∨ 4 < p.rkeys.length ∨ 4 < p.aggs.length ∨ 8 < p.group.length
theorem long_many {p : Pln} (h : longP p) : ¬ manyOk p := fun hm => by
 have := many_len hm
 unfold longP at h
 omega
theorem err_long {p : Pln} (h : longP p) : planErr p = if decide (kindsOk p) = false then 4 else if decide (rangesOk p) = false then 3 else 2 := by
 rw [planErr_5]
 unfold err5
 rw [decide_eq_false (long_many h)]
 simp
def bare (p : Pln) : Pln := { p with aggs := [] }
def bareA (x : PA) : PA := { x with a := none, ac := 0 }
theorem bare_kinds {p : Pln} (h : p.grouped = true → ∀ i, i < p.aggs.length → betw (p.aggs.getD i (0, 0)).1 1 4 = true) : decide (kindsOk (bare p)) = decide (kindsOk p) := by
 rw [kinds_iff, kinds_iff]
 unfold bare
 dsimp only
 have e : figB [] = true := rfl
 rw [e]
 cases hg : p.grouped with
 | false => rfl
 | true => rw [figB_all (h hg)]
theorem bad_kinds {p : Pln} {i : Nat} (hg : p.grouped = true) (hi : i < p.aggs.length) (h : betw (p.aggs.getD i (0, 0)).1 1 4 = false) : decide (kindsOk p) = false := by
 rw [kinds_iff, hg, figB_no hi h]; simp
set_option maxRecDepth 100000 in
set_option maxHeartbeats 8000000 in
theorem checkPlan_short (p : Pln) (x : PA) (w : World) (hw : wfPlan p) (hp : planAt w p x) (hs : ¬ longP p) :
 Calls Tryz.prog 10 #[planV p x] w fun e w' => e = .returned (.int .i64 (planErr p)) ∧ Below w.heap.size w w' := by
 have K1 := hIz (fun (w1 : World) (hb : Below w.heap.size w w1) => wrongKind_any p x w1 (aggsAt_below hp.a hb) hw.a)
 have K2 := hIz (fun (w1 : World) (hb : Below w.heap.size w w1) => wrongRange_any p x w1)
 have K3 := hIz (fun (w1 : World) (hb : Below w.heap.size w w1) => wrongMany_any p x w1 hw)
 have K4 : Hid (∀ w1, Below w.heap.size w w1 → yes (decide (manyOk p)) (Calls Tryz.prog 33 #[planV p x] w1 fun e w' => (∃ ad cap, e = .returned (.slice ad (cols p).length cap) ∧ ownI w' w1.heap.size (.slice ad (cols p).length cap) (cols p)) ∧ Below w1.heap.size w1 w')) := fun w1 hb hm => by
  have hm' := many_len (of_decide_eq_true hm)
  exact rtypes_any p x w1 (planAt_below hp hb) (by omega) (by omega) (by omega) (by omega)
 have K5 : Hid (∀ w1, Below w.heap.size w w1 → yes (decide (manyOk p)) (Calls Tryz.prog 34 #[planV p x] w1 fun e w' => e = .returned (.bool (!decide (formOk p))) ∧ Below w1.heap.size w1 w')) := fun w1 hb hm => by
  have hm' := many_len (of_decide_eq_true hm)
  exact wrongForm_any p x w1 hw (planAt_below hp hb) (by omega) (by omega) (by omega) (by omega)
 have HK : Hid (planErr p = err5 (decide (kindsOk p)) (decide (rangesOk p)) (decide (manyOk p)) (decide (typesOk p)) (decide (formOk p))) := planErr_5 p
 have HTY : Hid (∀ i, i < (cols p).length → betw ((cols p).getD i 0) 1 3 = false → decide (typesOk p) = false) := fun i hi h => by rw [types_iff]; exact allB_no hi h
 have HTN : Hid ((∀ i, i < (cols p).length → betw ((cols p).getD i 0) 1 3 = true) → decide (typesOk p) = true) := fun h => by rw [types_iff]; exact allB_iff.2 h
 have HCL : yes (decide (manyOk p)) ((cols p).length ≤ 8) := fun hm => by
  have hm' := many_len (of_decide_eq_true hm)
  unfold cols; rw [List.length_append]; omega
 obtain ⟨q1, hq1⟩ : ∃ z, decide (kindsOk p) = z := ⟨_, rfl⟩
 obtain ⟨q2, hq2⟩ : ∃ z, decide (rangesOk p) = z := ⟨_, rfl⟩
 obtain ⟨q3, hq3⟩ : ∃ z, decide (manyOk p) = z := ⟨_, rfl⟩
 obtain ⟨q4, hq4⟩ : ∃ z, decide (typesOk p) = z := ⟨_, rfl⟩
 obtain ⟨q5, hq5⟩ : ∃ z, decide (formOk p) = z := ⟨_, rfl⟩
 rw [hq1] at K1 HK
 rw [hq2] at K2 HK
 rw [hq3] at K3 K4 K5 HK HCL
 rw [hq4] at HK HTY HTN
 rw [hq5] at K5 HK
 obtain ⟨cs, hcs⟩ : ∃ z, cols p = z := ⟨_, rfl⟩
 rw [hcs] at K4 HTY HTN HCL
 obtain ⟨pe, hpe⟩ : ∃ z, planErr p = z := ⟨_, rfl⟩
 rw [hpe] at HK ⊢
 unfold longP at hs
 clear hq1 hq2 hq3 hq4 hq5 hw hp hcs hpe
 obtain ⟨kind, mode, low, high, size, limit, left, right, lkeys, rkeys, grouped, group, aggs⟩ := p
 obtain ⟨l, lc, r, rc, lk, lkc, rk, rkc, g, gc, a, ac⟩ := x
 unfold planV at K1 K2 K3 K4 K5 ⊢
 dsimp only at K1 K2 K3 K4 K5 hs ⊢
 obtain ⟨n6, h6⟩ : ∃ n, left.length = n := ⟨_, rfl⟩
 obtain ⟨n7, h7⟩ : ∃ n, right.length = n := ⟨_, rfl⟩
 obtain ⟨n8, h8⟩ : ∃ n, lkeys.length = n := ⟨_, rfl⟩
 obtain ⟨n9, h9⟩ : ∃ n, rkeys.length = n := ⟨_, rfl⟩
 obtain ⟨n11, h11⟩ : ∃ n, group.length = n := ⟨_, rfl⟩
 obtain ⟨n12, h12⟩ : ∃ n, aggs.length = n := ⟨_, rfl⟩
 obtain ⟨cn, hcn⟩ : ∃ n, cs.length = n := ⟨_, rfl⟩
 have HCN : Hid (cs.length = cn) := hcn
 rw [h6, h7, h8, h9, h11, h12] at K1 K2 K3 K4 K5 hs
 rw [hcn] at K4 HTY HTN HCL
 rw [h6, h7, h8, h9, h11, h12]
 have t6 : ¬ (4 : Int) < (n6 : Int) := by omega
 have t7 : ¬ (4 : Int) < (n7 : Int) := by omega
 have t8 : ¬ (4 : Int) < (n8 : Int) := by omega
 have t9 : ¬ (4 : Int) < (n9 : Int) := by omega
 have t11 : ¬ (8 : Int) < (n11 : Int) := by omega
 have t12 : ¬ (4 : Int) < (n12 : Int) := by omega
 clear h6 h7 h8 h9 h11 h12 hcn hs
 go_enter Tryz.func10, Tryz.ntmps10
 go_wp2_with fail
 refine (K1.out _ (bR.alloc nR _)).mono ?_
 rintro e w1 ⟨rfl, hb1⟩
 have hba := (bR.alloc nR _).trans (hb1.mono (by simp))
 obtain ⟨hc1, hf1⟩ := bcell hb1
 have hz1 : w.heap.size < w1.heap.size := (by have := hb1.size; simp at this; omega)
 cases q1
 ·go_wp2
  go_ret
  exact ⟨ret_int HK.out.symm, hba⟩
 go_wp2_with fail
 refine (K2.out _ hba).mono ?_
 rintro e w2 ⟨rfl, hb2⟩
 have hbb := hba.trans (hb2.mono hba.size)
 obtain ⟨hc2, hf2⟩ := bcell hb2
 have hz2 : w.heap.size < w2.heap.size := (by have := hb2.size; omega)
 cases q2
 ·go_wp2
  go_ret
  exact ⟨ret_int HK.out.symm, hbb⟩
 go_wp2_with fail
 refine (K3.out _ hbb).mono ?_
 rintro e w3 ⟨rfl, hb3⟩
 have hbc := hbb.trans (hb3.mono hbb.size)
 obtain ⟨hc3, hf3⟩ := bcell hb3
 have hz3 : w.heap.size < w3.heap.size := (by have := hb3.size; omega)
 cases q3
 ·go_wp2
  go_ret
  exact ⟨ret_int HK.out.symm, hbc⟩
 go_wp2_with fail
 refine (K4.out _ hbc rfl).mono ?_
 rintro e w4 ⟨⟨ad, cap, rfl, ho⟩, hb4⟩
 have hbd := hbc.trans (hb4.mono hbc.size)
 have HIC : Hid (intsAt w4 ad cs) := (ownI_at ho).1
 obtain ⟨hc4, hf4⟩ := bcell hb4
 have hz4 : w.heap.size < w4.heap.size := (by have := hb4.size; omega)
 have hcl := HCL rfl
 clear ho HCL
 go_wp2
 go_loop [6] (fun i => ∃ k : Nat, k ≤ cn ∧ i = .int .i64 k ∧ ∀ j, j < k → betw (cs.getD j 0) 1 3 = true) (fun i => cn - (intOf i).toNat)
 case atStart => exact ⟨0, Nat.zero_le _, rfl, fun i hi => absurd hi (Nat.not_lt_zero i)⟩
 case round =>
  obtain ⟨k, hk, rfl, hall⟩ := hrel
  have HA : Hid (∀ j, j < k → betw (cs.getD j 0) 1 3 = true) := hall
  clear hall
  by_cases hlt : k < cn
  ·obtain ⟨bc, oc, ec, xc⟩ := HIC.out k (by rw [HCN.out]; exact hlt)
   subst ec
   have i1 : (0 : Int) ≤ (k : Int) := by omega
   have i2 : (k : Int) < (cn : Int) := by omega
   obtain ⟨cv, hcv⟩ : ∃ z, cs.getD k 0 = z := ⟨_, rfl⟩
   have HCV : Hid (cs.getD k 0 = cv) := hcv
   rw [hcv] at xc
   clear hcv
   cases pc : betw cv 1 3 with
   | true =>
    go_wp2_with
     (go_at_call 29; refine (within_any _ _ _ _).mono ?_; rintro e w' ⟨rfl, hw⟩; subst hw)
    go_round
    case rel => exact ⟨k + 1, by omega, by go_num, fun j hj => by
     rcases Nat.lt_succ_iff_lt_or_eq.1 hj with h | h
     ·exact HA.out j h
     ·rw [h, HCV.out]; exact pc⟩
    case measure => simp [intOf]; omega
   | false =>
    have HX : Hid (pe = 5) := by
     show pe = 5
     rw [HK.out, HTY.out k hlt (by rw [HCV.out]; exact pc)]; rfl
    go_wp2_with
     (go_at_call 29; refine (within_any _ _ _ _).mono ?_; rintro e w' ⟨rfl, hw⟩; subst hw)
    go_ret
    exact ⟨ret_int HX.out.symm, hbd⟩
  ·have HX : Hid (pe = err5 true true true true q5) := by
    show pe = _
    rw [HK.out, HTN.out (fun j hj => HA.out j (by omega))]
   go_wp2_with fail
   refine (K5.out _ hbd rfl).mono ?_
   rintro e w5 ⟨rfl, hb5⟩
   have hbe := hbd.trans (hb5.mono hbd.size)
   cases q5
   all_goals
    go_wp2
    go_ret
    exact ⟨ret_int HX.out.symm, hbe⟩
theorem long_cases {a b c d e f : Nat} (h : 4 < a ∨ 4 < b ∨ 4 < c ∨ 4 < d ∨ 4 < e ∨ 8 < f) :
 ((4 : Int) < a) ∨ (¬ (4 : Int) < a ∧ (4 : Int) < b) ∨ (¬ (4 : Int) < a ∧ ¬ (4 : Int) < b ∧ (4 : Int) < c) ∨ (¬ (4 : Int) < a ∧ ¬ (4 : Int) < b ∧ ¬ (4 : Int) < c ∧ (4 : Int) < d) ∨
 (¬ (4 : Int) < a ∧ ¬ (4 : Int) < b ∧ ¬ (4 : Int) < c ∧ ¬ (4 : Int) < d ∧ (4 : Int) < e) ∨ (¬ (4 : Int) < a ∧ ¬ (4 : Int) < b ∧ ¬ (4 : Int) < c ∧ ¬ (4 : Int) < d ∧ ¬ (4 : Int) < e ∧ (8 : Int) < f) := by omega
set_option maxRecDepth 100000 in
set_option maxHeartbeats 8000000 in
theorem checkPlan_long (p : Pln) (x : PA) (w : World) (hw : wfPlan p) (hp : planAt w p x) (hs : longP p) :
 Calls Tryz.prog 10 #[planV p x] w fun e w' => e = .returned (.int .i64 (planErr p)) ∧ Below w.heap.size w w' := by
 have K1 := hIz (fun (w1 : World) (hb : Below w.heap.size w w1) => wrongKind_any p x w1 (aggsAt_below hp.a hb) hw.a)
 have K2 := hIz (fun (w1 : World) (hb : Below w.heap.size w w1) => wrongRange_any p x w1)
 have K3 : Hid (∀ w1, Below w.heap.size w w1 → (p.grouped = true → ∀ i, i < p.aggs.length → betw (p.aggs.getD i (0, 0)).1 1 4 = true) → Calls Tryz.prog 30 #[planV (bare p) (bareA x)] w1 fun e w' => e = .returned (.bool (!decide (kindsOk p))) ∧ Below w1.heap.size w1 w') := fun w1 hb h => by
  rw [← bare_kinds h]
  exact wrongKind_any (bare p) (bareA x) w1 (fun i hi => absurd hi (Nat.not_lt_zero i)) (Nat.zero_le _)
 have HK : Hid (planErr p = if decide (kindsOk p) = false then 4 else if decide (rangesOk p) = false then 3 else 2) := err_long hs
 have HBD : Hid (∀ i, p.grouped = true → i < p.aggs.length → betw (p.aggs.getD i (0, 0)).1 1 4 = false → decide (kindsOk p) = false) := fun i hg hi h => bad_kinds hg hi h
 have HPA : Hid (aggsAt w x.a p.aggs) := hp.a
 have hw12 := hw.a
 obtain ⟨q1, hq1⟩ : ∃ z, decide (kindsOk p) = z := ⟨_, rfl⟩
 obtain ⟨q2, hq2⟩ : ∃ z, decide (rangesOk p) = z := ⟨_, rfl⟩
 rw [hq1] at K1 K3 HK HBD
 rw [hq2] at K2 HK
 obtain ⟨pe, hpe⟩ : ∃ z, planErr p = z := ⟨_, rfl⟩
 rw [hpe] at HK ⊢
 unfold longP at hs
 clear hq1 hq2 hw hp hpe
 obtain ⟨kind, mode, low, high, size, limit, left, right, lkeys, rkeys, grouped, group, aggs⟩ := p
 obtain ⟨l, lc, r, rc, lk, lkc, rk, rkc, g, gc, a, ac⟩ := x
 unfold bare bareA at K3
 unfold planV at K1 K2 K3 ⊢
 dsimp only [List.length_nil] at K1 K2 K3 HBD HPA hw12 hs ⊢
 obtain ⟨n6, h6⟩ : ∃ n, left.length = n := ⟨_, rfl⟩
 obtain ⟨n7, h7⟩ : ∃ n, right.length = n := ⟨_, rfl⟩
 obtain ⟨n8, h8⟩ : ∃ n, lkeys.length = n := ⟨_, rfl⟩
 obtain ⟨n9, h9⟩ : ∃ n, rkeys.length = n := ⟨_, rfl⟩
 obtain ⟨n11, h11⟩ : ∃ n, group.length = n := ⟨_, rfl⟩
 obtain ⟨n12, h12⟩ : ∃ n, aggs.length = n := ⟨_, rfl⟩
 have HN : Hid (aggs.length = n12) := h12
 rw [h6, h7, h8, h9, h11, h12] at K1 K2 hs
 rw [h6, h7, h8, h9, h11, h12] at K3
 rw [h12] at HBD hw12
 rw [h6, h7, h8, h9, h11, h12]
 have hs' := long_cases hs
 clear h6 h7 h8 h9 h11 h12 hs
 by_cases t12 : 4 < n12
 ·have t12' : (4 : Int) < (n12 : Int) := by omega
  rcases hs' with h | h | h | h | h | h
  all_goals
   first
   | (exfalso; omega)
   | skip
  all_goals
   go_enter Tryz.func10, Tryz.ntmps10
   go_wp2
   go_loop [4] (fun i => ∃ k : Nat, k ≤ n12 ∧ i = .int .i64 k ∧ (grouped = true → ∀ i, i < k → betw (aggs.getD i (0, 0)).1 1 4 = true)) (fun i => n12 - (intOf i).toNat)
   case atStart => exact ⟨0, Nat.zero_le _, rfl, fun _ i hi => absurd hi (Nat.not_lt_zero i)⟩
   case round =>
    obtain ⟨k, hk, rfl, hall⟩ := hrel
    have HA : allOk grouped aggs k := hall
    clear hall
    by_cases hlt : k < n12
    ·obtain ⟨b, o, e, x1, x2⟩ := HPA.out k (by rw [HN.out]; exact hlt)
     subst e
     have hblt := World.block_lt_of_cell? _ _ x1
     have hblt' : b < w.heap.size := hblt
     have hblt2 : b < w.heap.size + 1 := by omega
     have i1 : (0 : Int) ≤ (k : Int) := by omega
     have i2 : (k : Int) < (n12 : Int) := by omega
     obtain ⟨z, hz⟩ : ∃ z, (aggs.getD k (0, 0)).1 = z := ⟨_, rfl⟩
     have HZ : Hid ((aggs.getD k (0, 0)).1 = z) := hz
     rw [hz] at x1
     clear x2 hblt hz
     cases grouped with
     | false =>
      go_wp2
      go_round
      case rel => exact ⟨k + 1, by omega, by go_num, fun h => absurd h (by decide)⟩
      case measure => simp [intOf]; omega
     | true =>
      cases hf : betw z 1 4 with
      | true =>
       go_wp2_with
        (go_at_call 29; refine (within_any _ _ _ _).mono ?_; rintro e w' ⟨rfl, hw⟩; subst hw)
       go_round
       case rel => exact ⟨k + 1, by omega, by go_num, fun _ i hi => by
        rcases Nat.lt_succ_iff_lt_or_eq.1 hi with h | h
        ·exact HA rfl i h
        ·rw [h, HZ.out]; exact hf⟩
       case measure => simp [intOf]; omega
      | false =>
       have HX : Hid (pe = 4) := by
        show pe = 4
        rw [HK.out, HBD.out k rfl hlt (by rw [HZ.out]; exact hf)]; rfl
       go_wp2_with
        (go_at_call 29; refine (within_any _ _ _ _).mono ?_; rintro e w' ⟨rfl, hw⟩; subst hw)
       go_ret
       exact ⟨ret_int HX.out.symm, (by repeat (first | exact bR | (refine Below.setCell ?_ (by simp) _) | (refine Below.alloc ?_ (by simp <;> omega) _)))⟩
    ·have HAL : allOk grouped aggs n12 := fun hg i hi => HA hg i (by omega)
     go_wp2_with fail
     refine (K3.out _ (by repeat (first | exact bR | (refine Below.setCell ?_ (by simp) _) | (refine Below.alloc ?_ (by simp <;> omega) _))) HAL).mono ?_
     rintro e w1 ⟨rfl, hb1⟩
     have hba := ((by repeat (first | exact bR | (refine Below.setCell ?_ (by simp) _) | (refine Below.alloc ?_ (by simp <;> omega) _))) : Below w.heap.size w _).trans (hb1.mono (by simp; omega))
     obtain ⟨hc1, hf1⟩ := bcell hb1
     cases q1
     ·go_wp2
      go_ret
      exact ⟨ret_int HK.out.symm, hba⟩
     go_wp2_with fail
     refine (K2.out _ hba).mono ?_
     rintro e w2 ⟨rfl, hb2⟩
     have hbb := hba.trans (hb2.mono hba.size)
     cases q2
     all_goals
      go_wp2
      go_ret
      exact ⟨ret_int HK.out.symm, hbb⟩
 ·have t12' : ¬ (4 : Int) < (n12 : Int) := by omega
  rcases hs' with h | h | h | h | h | h
  all_goals
   first
   | (exfalso; omega)
   | skip
  all_goals
   go_enter Tryz.func10, Tryz.ntmps10
   go_wp2_with fail
   refine (K1.out _ (by repeat (first | exact bR | (refine Below.setCell ?_ (by simp) _) | (refine Below.alloc ?_ (by simp <;> omega) _)))).mono ?_
   rintro e w1 ⟨rfl, hb1⟩
   have hba := ((by repeat (first | exact bR | (refine Below.setCell ?_ (by simp) _) | (refine Below.alloc ?_ (by simp <;> omega) _))) : Below w.heap.size w _).trans (hb1.mono (by simp; omega))
   obtain ⟨hc1, hf1⟩ := bcell hb1
   cases q1
   ·go_wp2
    go_ret
    exact ⟨ret_int HK.out.symm, hba⟩
   go_wp2_with fail
   refine (K2.out _ hba).mono ?_
   rintro e w2 ⟨rfl, hb2⟩
   have hbb := hba.trans (hb2.mono hba.size)
   cases q2
   all_goals
    go_wp2
    go_ret
    exact ⟨ret_int HK.out.symm, hbb⟩
theorem checkPlan_any (p : Pln) (x : PA) (w : World) (hw : wfPlan p) (hp : planAt w p x) :
 Calls Tryz.prog 10 #[planV p x] w fun e w' => e = .returned (.int .i64 (planErr p)) ∧ Below w.heap.size w w' := by
 by_cases hs : longP p
 ·exact checkPlan_long p x w hw hp hs
 ·exact checkPlan_short p x w hw hp hs
theorem fit_fitB {t : Int} : fit t ↔ tm.fitB t = true := by rw [tm.fit_iff]; exact Iff.rfl
theorem fit_of {t : Int} (h : fit t) : tm.fitB t = true := fit_fitB.1 h
def untilV (m s : Int) : Int := if m = 1099511627776 then 1099511627776 else m - s
theorem ret_two {a b c d : Int} (h1 : a = c) (h2 : b = d) : Ending.returned (.tuple #[.int .i64 a, .int .i64 b]) = .returned (.tuple #[.int .i64 c, .int .i64 d]) := by rw [h1, h2]
theorem until_b (m s : Int) (w : World) (hm : fit m) (hs : fit s) :
 Calls Tryz.prog 110 #[.int .i64 m, .int .i64 s] w fun e w' => e = .returned (.tuple #[.int .i64 (untilV m s), .int .i64 0]) ∧ Below w.heap.size w w' := by
 have h : tm.fit2 m s = true := by unfold tm.fit2; rw [fit_of hm, fit_of hs]; rfl
 obtain ⟨b1, b2⟩ := hm
 obtain ⟨b3, b4⟩ := hs
 by_cases e : m = 1099511627776
 ·subst e
  have HU : Hid (untilV 1099511627776 s = 1099511627776) := rfl
  go_enter Tryz.func110, Tryz.ntmps110
  go_wp2_with (go_at_call 159; refine (tm.allFit2 _ 1099511627776 s _ (by go_simp) (by go_simp)).mono ?_; rintro e w' ⟨rfl, hw⟩; subst hw)
  go_ret2
  refine ⟨ret_two HU.out.symm rfl, ?_⟩
  repeat (first | exact bR | apply Below.drew | (refine Below.alloc ?_ (by simp <;> omega) _))
 ·have hm' : (m == 1099511627776) = false := by simpa using e
  have HU : Hid (untilV m s = m - s) := if_neg e
  clear e
  go_enter Tryz.func110, Tryz.ntmps110
  go_wp2_with (go_at_call 159; refine (tm.allFit2 _ m s _ (by go_simp) (by go_simp)).mono ?_; rintro e w' ⟨rfl, hw⟩; subst hw)
  go_ret2
  refine ⟨ret_two HU.out.symm rfl, ?_⟩
  repeat (first | exact bR | apply Below.drew | (refine Below.alloc ?_ (by simp <;> omega) _))
def winV (mark size : Int) : Int := if mark = 1099511627776 then 1099511627776 else tm.start (mark + 1) size - 1
def goneAt (p : Pln) (side mark : Int) : Int :=
 if p.kind = 1 then untilV mark (if side = 2 then -p.low else p.high) else if p.kind = 2 then winV mark p.size else if side = 2 then -1099511627777 else mark
def sideB (side : Int) : Bool := decide (side = 1 ∨ side = 2)
def goneErr (p : Pln) (side mark : Int) : Int := if planErr p = 0 then (if sideB side = true then (if tm.fitB mark = true then 0 else 3) else 4) else planErr p
def goneV (p : Pln) (side mark : Int) : Int := if goneErr p side mark = 0 then goneAt p side mark else 0
theorem isSide_any (side : Int) (w : World) : Calls Tryz.prog 87 #[.int .i64 side] w fun e w' => e = .returned (.bool (sideB side)) ∧ w' = w := by
 by_cases h1 : side = 1
 ·subst h1
  go_enter Tryz.func87, Tryz.ntmps87
  go_wp2
  go_ret
  exact ⟨rfl, rfl⟩
 ·have h1' : (side == 1) = false := by simpa using h1
  have HS : Hid (sideB side = (side == 2)) := by show sideB side = _; unfold sideB; exact Bool.eq_iff_iff.2 (by simp [h1])
  clear h1
  go_enter Tryz.func87, Tryz.ntmps87
  go_wp2
  go_ret
  exact ⟨ret_bool HS.out.symm, rfl⟩
theorem reach_any (p : Pln) (x : PA) (side : Int) (w : World) (hl : fit p.low) :
 Calls Tryz.prog 111 #[planV p x, .int .i64 side] w fun e w' => e = .returned (.int .i64 (if side = 2 then -p.low else p.high)) ∧ Below w.heap.size w w' := by
 obtain ⟨kind, mode, low, high, size, limit, left, right, lkeys, rkeys, grouped, group, aggs⟩ := p
 obtain ⟨l, lc, r, rc, lk, lkc, rk, rkc, g, gc, a, ac⟩ := x
 unfold planV
 dsimp only at hl ⊢
 obtain ⟨h1, h2⟩ := hl
 by_cases hs : side = 2
 ·subst hs
  rw [if_pos rfl]
  go_enter Tryz.func111, Tryz.ntmps111
  go_wp2
  go_ret
  exact ⟨ret_int (by first | rfl | omega), bR.alloc nR _⟩
 ·have hs' : (side == 2) = false := by simpa using hs
  rw [if_neg hs]
  clear hs
  go_enter Tryz.func111, Tryz.ntmps111
  go_wp2
  go_ret
  exact ⟨rfl, bR.alloc nR _⟩
theorem goneWin_any (mark size : Int) (w : World) (hm : fit mark) (h1 : 1 ≤ size) (h2 : size ≤ 1099511627776) :
 Calls Tryz.prog 112 #[.int .i64 mark, .int .i64 size] w fun e w' => e = .returned (.tuple #[.int .i64 (winV mark size), .int .i64 0]) ∧ Below w.heap.size w w' := by
 obtain ⟨b1, b2⟩ := hm
 by_cases e : mark = 1099511627776
 ·subst e
  have HU : Hid (winV 1099511627776 size = 1099511627776) := rfl
  go_enter Tryz.func112, Tryz.ntmps112
  go_wp2
  go_ret2
  exact ⟨ret_two HU.out.symm rfl, bR⟩
 ·have hm' : (mark == 1099511627776) = false := by simpa using e
  have hf : tm.fitB (mark + 1) = true := fit_of ⟨by omega, by omega⟩
  have HU : Hid (winV mark size = tm.start (mark + 1) size - 1) := if_neg e
  have sb := tm.start_bd (mark + 1) size (by omega)
  obtain ⟨sb1, sb2⟩ := sb
  clear e
  have K : Hid (∀ w1, Calls Tryz.prog 160 #[.int .i64 (mark + 1), .int .i64 size] w1 fun e w' => e = .returned (.tuple #[.int .i64 (tm.start (mark + 1) size), .int .i64 (tm.start (mark + 1) size + size), .int .i64 0]) ∧ w' = w1) := fun w1 => tm.window_yes (mark + 1) size w1 hf h1 h2
  obtain ⟨sv, hsv⟩ : ∃ z, tm.start (mark + 1) size = z := ⟨_, rfl⟩
  rw [hsv] at K HU sb1 sb2
  clear hsv
  go_enter Tryz.func112, Tryz.ntmps112
  go_wp2_with (go_at_call 160; refine (K.out _).mono ?_; rintro e w' ⟨rfl, hw⟩; subst hw)
  go_ret2
  exact ⟨ret_two HU.out.symm rfl, bR⟩
theorem ok_1 {p : Pln} (h : planErr p = 0) (hk : p.kind = 1) : fit p.low ∧ fit p.high := by
 have := (planErr_ok h).2.1.1
 rw [if_pos hk] at this; exact this
theorem ok_2 {p : Pln} (h : planErr p = 0) (hk : p.kind = 2) : 1 ≤ p.size ∧ p.size ≤ 1099511627776 := by
 have := (planErr_ok h).2.1.2.1
 rw [if_pos hk] at this; exact this
theorem fit_neg {t : Int} (h : fit t) : fit (-t) := by unfold fit at *; omega
def gErr (pe : Int) (sb fb : Bool) : Int := if pe = 0 then (if sb = true then (if fb = true then 0 else 3) else 4) else pe
set_option maxRecDepth 10000 in
set_option maxHeartbeats 4000000 in
theorem gone_any (p : Pln) (x : PA) (side mark : Int) (w : World) (hw : wfPlan p) (hp : planAt w p x) :
 Calls Tryz.prog 57 #[planV p x, .int .i64 side, .int .i64 mark] w fun e w' => e = .returned (.tuple #[.int .i64 (goneV p side mark), .int .i64 (goneErr p side mark)]) ∧ Below w.heap.size w w' := by
 have K1 := hIz (fun (w1 : World) (hb : Below w.heap.size w w1) => planCheck_any p x w1 hw (planAt_below hp hb))
 have HE : Hid (goneErr p side mark = gErr (planErr p) (sideB side) (tm.fitB mark)) := rfl
 have HV : Hid (goneV p side mark = if gErr (planErr p) (sideB side) (tm.fitB mark) = 0 then goneAt p side mark else 0) := rfl
 have K2 := hIz (fun (w1 : World) (h : planErr p = 0) (hk : p.kind = 1) => reach_any p x side w1 (ok_1 h hk).1)
 have HF : Hid (planErr p = 0 → p.kind = 1 → fit (if side = 2 then -p.low else p.high)) := fun h hk => by
  have := ok_1 h hk
  split
  ·exact fit_neg this.1
  ·exact this.2
 have HS : Hid (planErr p = 0 → p.kind = 2 → 1 ≤ p.size ∧ p.size ≤ 1099511627776) := fun h hk => ok_2 h hk
 have HG1 : Hid (p.kind = 1 → goneAt p side mark = untilV mark (if side = 2 then -p.low else p.high)) := fun h => if_pos h
 have HG2 : Hid (p.kind = 2 → goneAt p side mark = winV mark p.size) := fun h => by show goneAt p side mark = _; unfold goneAt; rw [if_neg (by omega), if_pos h]
 have HG3 : Hid (¬ p.kind = 1 → ¬ p.kind = 2 → goneAt p side mark = if side = 2 then -1099511627777 else mark) := fun h1 h2 => by show goneAt p side mark = _; unfold goneAt; rw [if_neg h1, if_neg h2]
 obtain ⟨pe, hpe⟩ : ∃ z, planErr p = z := ⟨_, rfl⟩
 rw [hpe] at K1 HE HV K2 HF HS
 obtain ⟨rv, hrv⟩ : ∃ z, (if side = 2 then -p.low else p.high) = z := ⟨_, rfl⟩
 rw [hrv] at K2 HF HG1
 obtain ⟨gv, hgv⟩ : ∃ z, goneV p side mark = z := ⟨_, rfl⟩
 obtain ⟨ge, hge⟩ : ∃ z, goneErr p side mark = z := ⟨_, rfl⟩
 obtain ⟨ga, hga⟩ : ∃ z, goneAt p side mark = z := ⟨_, rfl⟩
 rw [hgv] at HV ⊢
 rw [hge] at HE ⊢
 rw [hga] at HV HG1 HG2 HG3
 clear hpe hrv hgv hge hga hw hp
 obtain ⟨kind, mode, low, high, size, limit, left, right, lkeys, rkeys, grouped, group, aggs⟩ := p
 obtain ⟨l, lc, r, rc, lk, lkc, rk, rkc, g, gc, a, ac⟩ := x
 unfold planV at K1 K2 ⊢
 dsimp only at K1 K2 HF HS HG1 HG2 HG3 ⊢
 obtain ⟨n6, h6⟩ : ∃ n, left.length = n := ⟨_, rfl⟩
 obtain ⟨n7, h7⟩ : ∃ n, right.length = n := ⟨_, rfl⟩
 obtain ⟨n8, h8⟩ : ∃ n, lkeys.length = n := ⟨_, rfl⟩
 obtain ⟨n9, h9⟩ : ∃ n, rkeys.length = n := ⟨_, rfl⟩
 obtain ⟨n11, h11⟩ : ∃ n, group.length = n := ⟨_, rfl⟩
 obtain ⟨n12, h12⟩ : ∃ n, aggs.length = n := ⟨_, rfl⟩
 rw [h6, h7, h8, h9, h11, h12] at K1 K2
 rw [h6, h7, h8, h9, h11, h12]
 clear h6 h7 h8 h9 h11 h12
 go_enter Tryz.func57, Tryz.ntmps57
 go_wp2_with fail
 refine (K1.out _ (bR.alloc nR _)).mono ?_
 rintro e w1 ⟨rfl, hb1⟩
 have hba := (bR.alloc nR _).trans (hb1.mono (by simp))
 obtain ⟨hc1, hf1⟩ := bcell hb1
 have hz1 : w.heap.size < w1.heap.size := (by have := hb1.size; simp at this; omega)
 by_cases h0 : pe = 0
 ·subst h0
  cases hsb : sideB side
  ·rw [hsb] at HE HV
   go_wp2_with (go_at_call 87; refine (isSide_any _ _).mono ?_; rintro e w' ⟨rfl, hw⟩; subst hw)
   go_ret2
   exact ⟨ret_two (by rw [HV.out]; rfl) (by rw [HE.out]; rfl), hba⟩
  rw [hsb] at HE HV
  cases hfb : tm.fitB mark
  ·rw [hfb] at HE HV
   go_wp2_with (first
    | (go_at_call 87; refine (isSide_any _ _).mono ?_; rintro e w' ⟨rfl, hw⟩; subst hw)
    | (go_at_call 88; refine (tm.fits_any _ _).mono ?_; rintro e w' ⟨rfl, hw⟩; subst hw))
   go_ret2
   exact ⟨ret_two (by rw [HV.out]; rfl) (by rw [HE.out]; rfl), hba⟩
  rw [hfb] at HE HV
  have HFM : Hid (fit mark) := fit_fitB.2 hfb
  have HV' : Hid (gv = ga) := HV.out
  have HE' : Hid (ge = 0) := HE.out
  clear HV HE
  by_cases k1 : kind = 1
  ·subst k1
   have HG := HG1.out rfl
   have HGG : Hid (ga = untilV mark rv) := HG
   have KR : Hid (∀ w1, Calls Tryz.prog 111 #[.agg #[.int .i64 1, .int .i64 mode, .int .i64 low, .int .i64 high, .int .i64 size, .int .i64 limit, .slice l n6 lc, .slice r n7 rc, .slice lk n8 lkc, .slice rk n9 rkc, .bool grouped, .slice g n11 gc, .slice a n12 ac], .int .i64 side] w1 fun e w' => e = .returned (.int .i64 rv) ∧ Below w1.heap.size w1 w') := fun w1 => K2.out w1 rfl rfl
   have HFR : Hid (fit rv) := HF.out rfl rfl
   clear HG K2 HF HG1 HG2 HG3 HS
   go_wp2_with (first
    | (go_at_call 87; refine (isSide_any _ _).mono ?_; rintro e w' ⟨rfl, hw⟩; subst hw)
    | (go_at_call 88; refine (tm.fits_any _ _).mono ?_; rintro e w' ⟨rfl, hw⟩; subst hw)
    | (go_at_call 111; refine (KR.out _).mono ?_; rintro e w2 ⟨rfl, hb2⟩; have hbb := hba.trans (hb2.mono hba.size))
    | (go_at_call 110; refine (until_b _ _ _ HFM.out HFR.out).mono ?_; rintro e w3 ⟨rfl, hb3⟩; have hbc := hbb.trans (hb3.mono hbb.size)))
   go_ret2
   exact ⟨ret_two (by rw [HV'.out, HGG.out]) HE'.out.symm, hbc⟩
  ·have k1' : (kind == 1) = false := by simpa using k1
   by_cases k2 : kind = 2
   ·subst k2
    have HGG : Hid (ga = winV mark size) := HG2.out rfl
    have HSS := HS.out rfl rfl
    obtain ⟨s1, s2⟩ := HSS
    clear K2 HF HG1 HG2 HG3 HS k1
    go_wp2_with (first
     | (go_at_call 87; refine (isSide_any _ _).mono ?_; rintro e w' ⟨rfl, hw⟩; subst hw)
     | (go_at_call 88; refine (tm.fits_any _ _).mono ?_; rintro e w' ⟨rfl, hw⟩; subst hw)
     | (go_at_call 112; refine (goneWin_any _ _ _ HFM.out s1 s2).mono ?_; rintro e w3 ⟨rfl, hb3⟩; have hbc := hba.trans (hb3.mono hba.size)))
    go_ret2
    exact ⟨ret_two (by rw [HV'.out, HGG.out]) HE'.out.symm, hbc⟩
   ·have k2' : (kind == 2) = false := by simpa using k2
    have HGG : Hid (ga = if side = 2 then -1099511627777 else mark) := HG3.out k1 k2
    clear K2 HF HG1 HG2 HG3 HS k1 k2
    by_cases s2 : side = 2
    ·subst s2
     go_wp2_with (first
      | (go_at_call 87; refine (isSide_any _ _).mono ?_; rintro e w' ⟨rfl, hw⟩; subst hw)
      | (go_at_call 88; refine (tm.fits_any _ _).mono ?_; rintro e w' ⟨rfl, hw⟩; subst hw))
     go_ret2
     exact ⟨ret_two (by rw [HV'.out, HGG.out]; rfl) HE'.out.symm, hba⟩
    ·have s2' : (side == 2) = false := by simpa using s2
     rw [if_neg s2] at HGG
     clear s2
     go_wp2_with (first
      | (go_at_call 87; refine (isSide_any _ _).mono ?_; rintro e w' ⟨rfl, hw⟩; subst hw)
      | (go_at_call 88; refine (tm.fits_any _ _).mono ?_; rintro e w' ⟨rfl, hw⟩; subst hw))
     go_ret2
     exact ⟨ret_two (by rw [HV'.out, HGG.out]) HE'.out.symm, hba⟩
 ·have h0' : (pe != 0) = true := by simpa using h0
  have HE' : Hid (ge = pe) := by show ge = pe; rw [HE.out]; exact if_neg h0
  have HV' : Hid (gv = 0) := by
   show gv = 0
   rw [HV.out, if_neg]
   unfold gErr
   rw [if_neg h0]; exact h0
  clear h0 HE HV
  go_wp2
  go_ret2
  exact ⟨ret_two HV'.out.symm HE'.out.symm, hba⟩
def colsOf (p : Pln) (side : Int) : List Int := if side = 2 then p.right else p.left
def keysOf (p : Pln) (side : Int) : List Int := if side = 2 then p.rkeys else p.lkeys
def cA (x : PA) (side : Int) : Option Addr := if side = 2 then x.r else x.l
def cC (x : PA) (side : Int) : Nat := if side = 2 then x.rc else x.lc
def kA (x : PA) (side : Int) : Option Addr := if side = 2 then x.rk else x.lk
def kC (x : PA) (side : Int) : Nat := if side = 2 then x.rkc else x.lkc
theorem colsAt {w : World} {p : Pln} {x : PA} (h : planAt w p x) (side : Int) : intsAt w (cA x side) (colsOf p side) := by
 unfold cA colsOf; split
 ·exact h.r
 ·exact h.l
theorem keysAt {w : World} {p : Pln} {x : PA} (h : planAt w p x) (side : Int) : intsAt w (kA x side) (keysOf p side) := by
 unfold kA keysOf; split
 ·exact h.rk
 ·exact h.lk
theorem colsLen {p : Pln} (h : wfPlan p) (side : Int) : (colsOf p side).length ≤ 9223372036854775807 := by
 unfold colsOf; split
 ·exact h.r
 ·exact h.l
def cellB (c : Cel) (t : Int) : Bool := decide (c.k = 0 ∨ c.k = t)
def typedB (r : List Cel) (c : List Int) : Bool := decide (r.length = c.length) && allB r.length (fun i => cellB (r.getD i default) (c.getD i 0))
def rErr (p : Pln) (side : Int) (r : List Cel) : Int :=
 if sideB side = false then 4 else if r.length ≠ (colsOf p side).length then 2 else if errR r ≠ 0 then errR r else if typedB r (colsOf p side) = false then 5 else 0
def rowErr (p : Pln) (side : Int) (r : List Cel) : Int := if planErr p = 0 then rErr p side r else planErr p
set_option maxHeartbeats 1000000 in
theorem columns_any (p : Pln) (x : PA) (side : Int) (w : World) :
 Calls Tryz.prog 155 #[planV p x, .int .i64 side] w fun e w' => e = .returned (.slice (cA x side) (colsOf p side).length (cC x side)) ∧ Below w.heap.size w w' := by
 unfold cA cC colsOf
 obtain ⟨kind, mode, low, high, size, limit, left, right, lkeys, rkeys, grouped, group, aggs⟩ := p
 obtain ⟨l, lc, r, rc, lk, lkc, rk, rkc, g, gc, a, ac⟩ := x
 unfold planV
 dsimp only
 by_cases hs : side = 2
 ·subst hs
  simp only [if_true]
  go_enter Tryz.func155, Tryz.ntmps155
  go_wp2
  go_ret
  exact ⟨rfl, bR.alloc nR _⟩
 ·have hs' : (side == 2) = false := by simpa using hs
  simp only [if_neg hs]
  clear hs
  go_enter Tryz.func155, Tryz.ntmps155
  go_wp2
  go_ret
  exact ⟨rfl, bR.alloc nR _⟩
set_option maxHeartbeats 1000000 in
theorem keysOf_fn (p : Pln) (x : PA) (side : Int) (w : World) :
 Calls Tryz.prog 108 #[planV p x, .int .i64 side] w fun e w' => e = .returned (.slice (kA x side) (keysOf p side).length (kC x side)) ∧ Below w.heap.size w w' := by
 unfold kA kC keysOf
 obtain ⟨kind, mode, low, high, size, limit, left, right, lkeys, rkeys, grouped, group, aggs⟩ := p
 obtain ⟨l, lc, r, rc, lk, lkc, rk, rkc, g, gc, a, ac⟩ := x
 unfold planV
 dsimp only
 by_cases hs : side = 2
 ·subst hs
  simp only [if_true]
  go_enter Tryz.func108, Tryz.ntmps108
  go_wp2
  go_ret
  exact ⟨rfl, bR.alloc nR _⟩
 ·have hs' : (side == 2) = false := by simpa using hs
  simp only [if_neg hs]
  clear hs
  go_enter Tryz.func108, Tryz.ntmps108
  go_wp2
  go_ret
  exact ⟨rfl, bR.alloc nR _⟩
set_option maxHeartbeats 2000000 in
theorem ty1_any (i : Nat) (B : Nat) (ad : Option Addr) (cp : Nat) (c : List Int) (k n : Int) (s : ByteArray) (w : World) (hi : i < c.length) (hl : c.length ≤ 9223372036854775807) (hc : intsAt w ad c) (hb : w.cell? ⟨B, 0, none⟩ = some (.slice ad c.length cp)) :
 Calls Tryz.prog 192 #[.int .i64 i, .agg #[.int .i64 k, .int .i64 n, .string s], .pointer (some ⟨B, 0, none⟩)] w fun e w' => e = .returned (.bool (cellB ⟨k, n, s⟩ (c.getD i 0))) ∧ Below w.heap.size w w' := by
 have hBlt := World.block_lt_of_cell? _ _ hb
 have hBlt' : B < w.heap.size := hBlt
 obtain ⟨bc, oc, ec, xc⟩ := hc i hi
 subst ec
 have hclt := World.block_lt_of_cell? _ _ xc
 have hclt' : bc < w.heap.size := hclt
 have HB : Hid (cellB ⟨k, n, s⟩ (c.getD i 0) = decide (k = 0 ∨ k = c.getD i 0)) := rfl
 obtain ⟨m, hm⟩ : ∃ z, c.length = z := ⟨_, rfl⟩
 obtain ⟨t, ht⟩ : ∃ z, c.getD i 0 = z := ⟨_, rfl⟩
 rw [hm] at hi hl hb
 rw [ht] at xc HB ⊢
 have i1 : (0 : Int) ≤ (i : Int) := by omega
 have i2 : (i : Int) < (m : Int) := by omega
 clear hm ht hc hBlt hclt
 by_cases hk : k = 0
 ·subst hk
  go_enter Tryz.func192, Tryz.ntmps192
  go_wp2
  go_quiet (fail)
  go_wp2
  go_ret
  exact ⟨ret_bool (by rw [HB.out]; simp), below_dn (bR.alloc nR _) _⟩
 ·have hk' : (k == 0) = false := by simpa using hk
  have HB2 : Hid (cellB ⟨k, n, s⟩ t = (k == t)) := by show cellB ⟨k, n, s⟩ t = _; rw [HB.out]; exact Bool.eq_iff_iff.2 (by simp [hk])
  clear hk HB
  go_enter Tryz.func192, Tryz.ntmps192
  go_wp2
  go_quiet (fail)
  go_wp2
  go_ret
  exact ⟨ret_bool HB2.out.symm, below_dn (bR.alloc nR _) _⟩
set_option maxHeartbeats 1000000 in
theorem typed_any (a ad : Option Addr) (ca cp : Nat) (r : List Cel) (c : List Int) (w : World) (hl : r.length ≤ 9223372036854775807) (hcl : c.length ≤ 9223372036854775807) (ha : vl.rowAt w a r) (hc : intsAt w ad c) :
 Calls Tryz.prog 157 #[.slice a r.length ca, .slice ad c.length cp] w fun e w' => e = .returned (.bool (typedB r c)) ∧ Below w.heap.size w w' := by
 have K : Hid (∀ B w1, Below w.heap.size w w1 → r.length = c.length → w1.cell? ⟨B, 0, none⟩ = some (.slice ad c.length cp) →
  Calls Tryz.prog 191 #[.slice a r.length ca, .func (.func 192) #[] #[.pointer (some ⟨B, 0, none⟩)]] w1 fun e w' => e = .returned (.bool (allB r.length (fun i => cellB (r.getD i default) (c.getD i 0)))) ∧ Below w1.heap.size w1 w') := by
  intro B w1 hb hlen e0
  exact everyVal_any 192 (enters_of Tryz.func192 (by kernel_rfl) rfl) #[.pointer (some ⟨B, 0, none⟩)] (fun i => cellB (r.getD i default) (c.getD i 0)) a ca r w1 hl (rowAt_below ha hb)
   (fun i w2 hi hb2 => ty1_any i B ad cp c _ _ _ w2 (by omega) hcl (intsAt_below (intsAt_below hc hb) hb2) (cLz hb2 e0))
 have HB : Hid (typedB r c = (decide (r.length = c.length) && allB r.length (fun i => cellB (r.getD i default) (c.getD i 0)))) := rfl
 obtain ⟨tb, htb⟩ : ∃ z, allB r.length (fun i => cellB (r.getD i default) (c.getD i 0)) = z := ⟨_, rfl⟩
 rw [htb] at K HB
 obtain ⟨m, hm⟩ : ∃ z, r.length = z := ⟨_, rfl⟩
 obtain ⟨k, hk⟩ : ∃ z, c.length = z := ⟨_, rfl⟩
 rw [hm, hk] at K HB
 rw [hm, hk]
 clear hm hk htb ha hc hl hcl
 by_cases he : m = k
 ·subst he
  rw [show decide (m = m) = true by simp] at HB
  have he' : ((m : Int) == m) = true := by simp
  go_enter Tryz.func157, Tryz.ntmps157
  go_wp2_with (go_at_call 191; refine (K.out _ _ (bR.alloc nR _) (by trivial) (by go_simp)).mono ?_; rintro e w1 ⟨rfl, hb1⟩)
  go_ret
  exact ⟨ret_bool (by rw [HB.out]; simp), (bR.alloc nR _).trans (hb1.mono (by simp))⟩
 ·have he' : ((m : Int) == k) = false := by simp; omega
  rw [decide_eq_false he] at HB
  clear he
  go_enter Tryz.func157, Tryz.ntmps157
  go_wp2
  go_ret
  exact ⟨ret_bool (by rw [HB.out]; rfl), bR.alloc nR _⟩
def rErr4 (sb : Bool) (n m : Nat) (er : Int) (tb : Bool) : Int := if sb = false then 4 else if n ≠ m then 2 else if er ≠ 0 then er else if tb = false then 5 else 0
set_option maxRecDepth 10000 in
set_option maxHeartbeats 4000000 in
theorem row_any (p : Pln) (x : PA) (side : Int) (ar : Option Addr) (cr : Nat) (r : List Cel) (w : World) (hw : wfPlan p) (hp : planAt w p x) (hr : vl.rowAt w ar r) (hwr : wfRow r) (hlr : r.length ≤ 9223372036854775807) :
 Calls Tryz.prog 106 #[planV p x, .int .i64 side, .slice ar r.length cr] w fun e w' => e = .returned (.int .i64 (rowErr p side r)) ∧ Below w.heap.size w w' := by
 have K1 := hIz (fun (w1 : World) (hb : Below w.heap.size w w1) => planCheck_any p x w1 hw (planAt_below hp hb))
 have K2 := hIz (fun (w1 : World) => columns_any p x side w1)
 have K3 := hIz (fun (w1 : World) (hb : Below w.heap.size w w1) => typed_any ar (cA x side) cr (cC x side) r (colsOf p side) w1 hlr (colsLen hw side) (rowAt_below hr hb) (intsAt_below (colsAt hp side) hb))
 have HE : Hid (rowErr p side r = if planErr p = 0 then rErr4 (sideB side) r.length (colsOf p side).length (errR r) (typedB r (colsOf p side)) else planErr p) := rfl
 have hcl := colsLen hw side
 have HR : Hid (vl.rowAt w ar r) := hr
 obtain ⟨pe, hpe⟩ : ∃ z, planErr p = z := ⟨_, rfl⟩
 obtain ⟨res, hres⟩ : ∃ z, rowErr p side r = z := ⟨_, rfl⟩
 obtain ⟨ca, hca⟩ : ∃ z, cA x side = z := ⟨_, rfl⟩
 obtain ⟨cc, hcc⟩ : ∃ z, cC x side = z := ⟨_, rfl⟩
 obtain ⟨ka, hka⟩ : ∃ z, kA x side = z := ⟨_, rfl⟩
 obtain ⟨kc, hkc⟩ : ∃ z, kC x side = z := ⟨_, rfl⟩
 obtain ⟨cn, hcn⟩ : ∃ z, (colsOf p side).length = z := ⟨_, rfl⟩
 obtain ⟨kn, hkn⟩ : ∃ z, (keysOf p side).length = z := ⟨_, rfl⟩
 obtain ⟨tb, htb⟩ : ∃ z, typedB r (colsOf p side) = z := ⟨_, rfl⟩
 rw [hpe] at K1 HE
 rw [hca, hcc, hcn] at K2
 rw [hca, hcc, hcn, htb] at K3
 rw [hres, hcn, htb] at HE
 rw [hcn] at hcl
 rw [hres]
 clear hpe hres hca hcc hka hkc hcn hkn htb hp hw hr
 obtain ⟨n, hn⟩ : ∃ z, r.length = z := ⟨_, rfl⟩
 have HN : Hid (r.length = n) := hn
 rw [hn] at K3 HE hlr ⊢
 clear hn
 obtain ⟨kind, mode, low, high, size, limit, left, right, lkeys, rkeys, grouped, group, aggs⟩ := p
 obtain ⟨l, lc, rr, rc, lk, lkc, rk, rkc, g, gc, a, ac⟩ := x
 unfold planV at K1 K2 ⊢
 dsimp only at K1 K2 ⊢
 obtain ⟨n6, h6⟩ : ∃ n, left.length = n := ⟨_, rfl⟩
 obtain ⟨n7, h7⟩ : ∃ n, right.length = n := ⟨_, rfl⟩
 obtain ⟨n8, h8⟩ : ∃ n, lkeys.length = n := ⟨_, rfl⟩
 obtain ⟨n9, h9⟩ : ∃ n, rkeys.length = n := ⟨_, rfl⟩
 obtain ⟨n11, h11⟩ : ∃ n, group.length = n := ⟨_, rfl⟩
 obtain ⟨n12, h12⟩ : ∃ n, aggs.length = n := ⟨_, rfl⟩
 rw [h6, h7, h8, h9, h11, h12] at K1 K2
 rw [h6, h7, h8, h9, h11, h12]
 clear h6 h7 h8 h9 h11 h12
 go_enter Tryz.func106, Tryz.ntmps106
 go_wp2_with fail
 refine (K1.out _ (bR.alloc nR _)).mono ?_
 rintro e w1 ⟨rfl, hb1⟩
 have hba := (bR.alloc nR _).trans (hb1.mono (by simp))
 obtain ⟨hc1, hf1⟩ := bcell hb1
 by_cases h0 : pe = 0
 ·subst h0
  rw [if_pos rfl] at HE
  cases hsb : sideB side
  ·rw [hsb] at HE
   go_wp2_with (go_at_call 87; refine (isSide_any _ _).mono ?_; rintro e w' ⟨rfl, hw⟩; subst hw)
   go_ret
   exact ⟨ret_int (by rw [HE.out]; rfl), hba⟩
  rw [hsb] at HE
  go_wp2_with fail
  refine (isSide_any _ _).mono ?_
  rintro e w' ⟨rfl, hw'⟩
  subst hw'
  rw [hsb]
  go_wp2_with fail
  refine (K2.out _).mono ?_
  rintro e w2 ⟨rfl, hb2⟩
  have hbb := hba.trans (hb2.mono hba.size)
  clear hc1 hf1 K1 K2 hb1 hb2
  by_cases hnc : n = cn
  ·subst hnc
   have hnc' : ((n : Int) != n) = false := by simp
   go_wp2
   go_loopw [11, 30] (fun _ i wr => ∃ j : Nat, j ≤ n ∧ i = .int .i64 j ∧ Below w.heap.size w wr ∧ ∀ i, i < j → (r.getD i default).ok) (fun _ i _ => n - (intOf i).toNat)
   case atStart => exact ⟨0, Nat.zero_le _, rfl, hbb, fun i hi => absurd hi (Nat.not_lt_zero i)⟩
   case round =>
    obtain ⟨j, hj, rfl, hnx, hall⟩ := hrel
    have HAL : Hid (∀ i, i < j → (r.getD i default).ok) := hall
    have hsz := hnx.size
    clear hall
    by_cases hlt : j < n
    ·obtain ⟨b1, o1, e1, x1, x2, x3⟩ := HR.out j (by rw [HN.out]; exact hlt)
     subst e1
     have q1 := cLz hnx x1
     have q2 := cLz hnx x2
     have q3 := cLz hnx x3
     have hww := wf_at hwr j (by rw [HN.out]; exact hlt)
     have HER : Hid (¬ (r.getD j default).ok → errR r = chk (r.getD j default).k (r.getD j default).n (r.getD j default).s) := errR_at r j (by rw [HN.out]; exact hlt) HAL.out
     have HOK : Hid ((r.getD j default).ok ↔ chk (r.getD j default).k (r.getD j default).n (r.getD j default).s = 0) := Iff.rfl
     have HST : Hid ((r.getD j default).ok → ∀ i, i < j + 1 → (r.getD i default).ok) := fun h i hi => by
      rcases Nat.lt_succ_iff_lt_or_eq.1 hi with h1 | h1
      ·exact HAL.out i h1
      ·rw [h1]; exact h
     obtain ⟨OK, hOK⟩ : ∃ z, (r.getD j default).ok = z := ⟨_, rfl⟩
     rw [hOK] at HER HOK HST
     obtain ⟨⟨kv, nv, sv⟩, hcv⟩ : ∃ z, r.getD j default = z := ⟨_, rfl⟩
     rw [hcv] at q1 q2 q3 hww HER HOK
     dsimp only at q1 q2 q3 hww HER HOK
     obtain ⟨⟨w1a, w2a⟩, w3a⟩ := hww
     have i1 : (0 : Int) ≤ (j : Int) := by omega
     have i2 : (j : Int) < (n : Int) := by omega
     clear hOK hcv x1 x2 x3
     by_cases hc : chk kv nv sv = 0
     ·have hc' : (chk kv nv sv != 0) = false := by simpa using hc
      have HO : Hid OK := HOK.out.2 hc
      clear hc
      go_wp2_with (go_at_call 156; refine (vl.check_any _ _ _ _ w3a).mono ?_; rintro e wc ⟨rfl, hbc⟩; have hlow := (hnx.alloc hsz _).trans (hbc.mono (by simp; omega)))
      go_roundw
      case rel => exact ⟨j + 1, by omega, by go_num, hlow, HST.out HO.out⟩
      case measure => simp [intOf]; omega
     ·have hc' : (chk kv nv sv != 0) = true := by simpa using hc
      have HX : Hid (res = chk kv nv sv) := by
       show res = _
       rw [HE.out, HER.out (fun h => hc (HOK.out.1 h))]
       unfold rErr4
       rw [if_neg (by decide), if_neg (by simp), if_pos hc]
      clear hc
      go_wp2_with (go_at_call 156; refine (vl.check_any _ _ _ _ w3a).mono ?_; rintro e wc ⟨rfl, hbc⟩; have hlow := (hnx.alloc hsz _).trans (hbc.mono (by simp; omega)))
      go_ret
      exact ⟨ret_int HX.out.symm, hlow⟩
    ·have HX : Hid (res = if tb = false then 5 else 0) := by
      show res = _
      rw [HE.out, errR_end r j (by rw [HN.out]; omega) HAL.out]
      unfold rErr4
      rw [if_neg (by decide), if_neg (by simp), if_neg (by simp)]
     go_wp2_with fail
     refine (K3.out _ hnx).mono ?_
     rintro e w3 ⟨rfl, hb3⟩
     have hbc := hnx.trans (hb3.mono hsz)
     cases tb
     all_goals
      go_wp2
      go_ret
      exact ⟨ret_int HX.out.symm, hbc⟩
  ·have hnc' : ((n : Int) != cn) = true := by simp; omega
   have HX : Hid (res = 2) := by
    show res = 2
    rw [HE.out]
    unfold rErr4
    rw [if_neg (by decide), if_pos hnc]
   clear hnc
   go_wp2
   go_ret
   exact ⟨ret_int HX.out.symm, hbb⟩
 ·have h0' : (pe != 0) = true := by simpa using h0
  have HX : Hid (res = pe) := by show res = pe; rw [HE.out, if_neg h0]
  clear h0
  go_wp2
  go_ret
  exact ⟨ret_int HX.out.symm, hba⟩
end Go.Proofs.YtdohnkkbkfhphaaGreat.pl
