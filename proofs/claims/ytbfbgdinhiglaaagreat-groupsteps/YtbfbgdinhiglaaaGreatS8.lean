import Derived.Test.YtbfbgdinhiglaaaGreatMgPlnD
import Derived.Test.YtbfbgdinhiglaaaGreatMgPlnE
import Derived.Test.YtbfbgdinhiglaaaGreatS2
import Derived.Lib.SmallJoins
import Derived.Shelf.SlIter.Nil
import Derived.Shelf.SortM.Plain
import Derived.Shelf.SortM.SortNone
import Derived.Ground.GgzProg
import Derived.Ground.SlgmProg
import Derived.Test.YtbfbgdinhiglaaaGreatRows
import Derived.Maps.OwnSet
import Derived.Maps.Ext
import Derived.Deep.QuietTactic
import Derived.BigQuiet
import Derived.Deep.AppendLies
import Derived.Deep.RegionLaw
namespace Go.Proofs.YtbfbgdinhiglaaaGreat.pl
open Go.ChangeShapes Go.WideShapes Go.ChangeAt Go.RowKit
open vl
set_option linter.unusedVariables false
set_option linter.unusedSimpArgs false
def longP (p : Pln) : Prop := 4 < p.left.length ∨ 4 < p.right.length ∨ 4 < p.lkeys.length ∨ 4 < p.rkeys.length ∨ 4 < p.aggs.length ∨ 8 < p.group.length
theorem long_many {p : Pln} (h : longP p) : ¬ manyOk p := fun hm => by
 have := many_len hm
 unfold longP at h
 omega
theorem err_long {p : Pln} (h : longP p) : planErr p = if decide (kindsOk p) = false then 4 else if decide (rangesOk p) = false then 3 else 2 := by
 rw [planErr_5]
 unfold err5
 rw [decide_eq_false (long_many h)]
 simp
def bare (p : Pln) : Pln := { p with aggs := [] }
def bareA (x : PA) : PA := { x with a := none, ac := 0 }
theorem bare_kinds {p : Pln} (h : p.grouped = true → ∀ i, i < p.aggs.length → betw (p.aggs.getD i (0, 0)).1 1 4 = true) : decide (kindsOk (bare p)) = decide (kindsOk p) := by
 rw [kinds_iff, kinds_iff]
 unfold bare
 dsimp only
 have e : figB [] = true := rfl
 rw [e]
 cases hg : p.grouped with
 | false => rfl
 | true => rw [figB_all (h hg)]
theorem bad_kinds {p : Pln} {i : Nat} (hg : p.grouped = true) (hi : i < p.aggs.length) (h : betw (p.aggs.getD i (0, 0)).1 1 4 = false) : decide (kindsOk p) = false := by
 rw [kinds_iff, hg, figB_no hi h]; simp
set_option maxRecDepth 100000 in
set_option maxHeartbeats 8000000 in
theorem checkPlan_short (p : Pln) (x : PA) (w : World) (hw : wfPlan p) (hp : planAt w p x) (hs : ¬ longP p) :
 Calls Tryz.prog 21 #[planV p x] w fun e w' => e = .returned (.int .i64 (planErr p)) ∧ Below w.heap.size w w' := by
 have K1 : Hid (∀ w1, Below w.heap.size w w1 → Calls Tryz.prog 58 #[planV p x] w1 fun e w' => e = .returned (.bool (!decide (kindsOk p))) ∧ Below w1.heap.size w1 w') := fun w1 hb => wrongKind_any p x w1 (aggsAt_below hp.a hb) hw.a
 have K2 : Hid (∀ w1, Below w.heap.size w w1 → Calls Tryz.prog 59 #[planV p x] w1 fun e w' => e = .returned (.bool (!decide (rangesOk p))) ∧ Below w1.heap.size w1 w') := fun w1 hb => wrongRange_any p x w1
 have K3 : Hid (∀ w1, Below w.heap.size w w1 → Calls Tryz.prog 60 #[planV p x] w1 fun e w' => e = .returned (.bool (!decide (manyOk p))) ∧ Below w1.heap.size w1 w') := fun w1 hb => wrongMany_any p x w1 hw
 have K4 : Hid (∀ w1, Below w.heap.size w w1 → yes (decide (manyOk p)) (Calls Tryz.prog 22 #[planV p x] w1 fun e w' => (∃ ad cap, e = .returned (.slice ad (cols p).length cap) ∧ ownI w' w1.heap.size (.slice ad (cols p).length cap) (cols p)) ∧ Below w1.heap.size w1 w')) := fun w1 hb hm => by
  have hm' := many_len (of_decide_eq_true hm)
  exact rtypes_any p x w1 (planAt_below hp hb) (by omega) (by omega) (by omega) (by omega)
 have K5 : Hid (∀ w1, Below w.heap.size w w1 → yes (decide (manyOk p)) (Calls Tryz.prog 61 #[planV p x] w1 fun e w' => e = .returned (.bool (!decide (formOk p))) ∧ Below w1.heap.size w1 w')) := fun w1 hb hm => by
  have hm' := many_len (of_decide_eq_true hm)
  exact wrongForm_any p x w1 hw (planAt_below hp hb) (by omega) (by omega) (by omega) (by omega)
 have HK : Hid (planErr p = err5 (decide (kindsOk p)) (decide (rangesOk p)) (decide (manyOk p)) (decide (typesOk p)) (decide (formOk p))) := planErr_5 p
 have HTY : Hid (∀ i, i < (cols p).length → betw ((cols p).getD i 0) 1 3 = false → decide (typesOk p) = false) := fun i hi h => by rw [types_iff]; exact allB_no hi h
 have HTN : Hid ((∀ i, i < (cols p).length → betw ((cols p).getD i 0) 1 3 = true) → decide (typesOk p) = true) := fun h => by rw [types_iff]; exact allB_iff.2 h
 have HCL : yes (decide (manyOk p)) ((cols p).length ≤ 8) := fun hm => by
  have hm' := many_len (of_decide_eq_true hm)
  unfold cols; rw [List.length_append]; omega
 obtain ⟨q1, hq1⟩ : ∃ z, decide (kindsOk p) = z := ⟨_, rfl⟩
 obtain ⟨q2, hq2⟩ : ∃ z, decide (rangesOk p) = z := ⟨_, rfl⟩
 obtain ⟨q3, hq3⟩ : ∃ z, decide (manyOk p) = z := ⟨_, rfl⟩
 obtain ⟨q4, hq4⟩ : ∃ z, decide (typesOk p) = z := ⟨_, rfl⟩
 obtain ⟨q5, hq5⟩ : ∃ z, decide (formOk p) = z := ⟨_, rfl⟩
 rw [hq1] at K1 HK
 rw [hq2] at K2 HK
 rw [hq3] at K3 K4 K5 HK HCL
 rw [hq4] at HK HTY HTN
 rw [hq5] at K5 HK
 obtain ⟨cs, hcs⟩ : ∃ z, cols p = z := ⟨_, rfl⟩
 rw [hcs] at K4 HTY HTN HCL
 obtain ⟨pe, hpe⟩ : ∃ z, planErr p = z := ⟨_, rfl⟩
 rw [hpe] at HK ⊢
 unfold longP at hs
 clear hq1 hq2 hq3 hq4 hq5 hw hp hcs hpe
 obtain ⟨kind, mode, low, high, size, limit, left, right, lkeys, rkeys, grouped, group, aggs⟩ := p
 obtain ⟨l, lc, r, rc, lk, lkc, rk, rkc, g, gc, a, ac⟩ := x
 unfold planV at K1 K2 K3 K4 K5 ⊢
 dsimp only at K1 K2 K3 K4 K5 hs ⊢
 obtain ⟨n6, h6⟩ : ∃ n, left.length = n := ⟨_, rfl⟩
 obtain ⟨n7, h7⟩ : ∃ n, right.length = n := ⟨_, rfl⟩
 obtain ⟨n8, h8⟩ : ∃ n, lkeys.length = n := ⟨_, rfl⟩
 obtain ⟨n9, h9⟩ : ∃ n, rkeys.length = n := ⟨_, rfl⟩
 obtain ⟨n11, h11⟩ : ∃ n, group.length = n := ⟨_, rfl⟩
 obtain ⟨n12, h12⟩ : ∃ n, aggs.length = n := ⟨_, rfl⟩
 obtain ⟨cn, hcn⟩ : ∃ n, cs.length = n := ⟨_, rfl⟩
 have HCN : Hid (cs.length = cn) := hcn
 rw [h6, h7, h8, h9, h11, h12] at K1 K2 K3 K4 K5 hs
 rw [hcn] at K4 HTY HTN HCL
 rw [h6, h7, h8, h9, h11, h12]
 have t6 : ¬ (4 : Int) < (n6 : Int) := by omega
 have t7 : ¬ (4 : Int) < (n7 : Int) := by omega
 have t8 : ¬ (4 : Int) < (n8 : Int) := by omega
 have t9 : ¬ (4 : Int) < (n9 : Int) := by omega
 have t11 : ¬ (8 : Int) < (n11 : Int) := by omega
 have t12 : ¬ (4 : Int) < (n12 : Int) := by omega
 clear h6 h7 h8 h9 h11 h12 hcn hs
 go_enter Tryz.func21, Tryz.ntmps21
 go_wp2_with fail
 refine (K1.out _ (bR.alloc nR _)).mono ?_
 rintro e w1 ⟨rfl, hb1⟩
 have hba := (bR.alloc nR _).trans (hb1.mono (by simp))
 obtain ⟨hc1, hf1⟩ := bcell hb1
 have hz1 : w.heap.size < w1.heap.size := (by have := hb1.size; simp at this; omega)
 cases q1
 ·go_wp2
  go_ret
  exact ⟨ret_int HK.out.symm, hba⟩
 go_wp2_with fail
 refine (K2.out _ hba).mono ?_
 rintro e w2 ⟨rfl, hb2⟩
 have hbb := hba.trans (hb2.mono hba.size)
 obtain ⟨hc2, hf2⟩ := bcell hb2
 have hz2 : w.heap.size < w2.heap.size := (by have := hb2.size; omega)
 cases q2
 ·go_wp2
  go_ret
  exact ⟨ret_int HK.out.symm, hbb⟩
 go_wp2_with fail
 refine (K3.out _ hbb).mono ?_
 rintro e w3 ⟨rfl, hb3⟩
 have hbc := hbb.trans (hb3.mono hbb.size)
 obtain ⟨hc3, hf3⟩ := bcell hb3
 have hz3 : w.heap.size < w3.heap.size := (by have := hb3.size; omega)
 cases q3
 ·go_wp2
  go_ret
  exact ⟨ret_int HK.out.symm, hbc⟩
 go_wp2_with fail
 refine (K4.out _ hbc rfl).mono ?_
 rintro e w4 ⟨⟨ad, cap, rfl, ho⟩, hb4⟩
 have hbd := hbc.trans (hb4.mono hbc.size)
 have HIC : Hid (intsAt w4 ad cs) := (ownI_at ho).1
 obtain ⟨hc4, hf4⟩ := bcell hb4
 have hz4 : w.heap.size < w4.heap.size := (by have := hb4.size; omega)
 have hcl := HCL rfl
 clear ho HCL
 go_wp2
 go_loop [6] (fun i => ∃ k : Nat, k ≤ cn ∧ i = .int .i64 k ∧ ∀ j, j < k → betw (cs.getD j 0) 1 3 = true) (fun i => cn - (intOf i).toNat)
 case atStart => exact ⟨0, Nat.zero_le _, rfl, fun i hi => absurd hi (Nat.not_lt_zero i)⟩
 case round =>
  obtain ⟨k, hk, rfl, hall⟩ := hrel
  have HA : Hid (∀ j, j < k → betw (cs.getD j 0) 1 3 = true) := hall
  clear hall
  by_cases hlt : k < cn
  ·obtain ⟨bc, oc, ec, xc⟩ := HIC.out k (by rw [HCN.out]; exact hlt)
   subst ec
   have i1 : (0 : Int) ≤ (k : Int) := by omega
   have i2 : (k : Int) < (cn : Int) := by omega
   obtain ⟨cv, hcv⟩ : ∃ z, cs.getD k 0 = z := ⟨_, rfl⟩
   have HCV : Hid (cs.getD k 0 = cv) := hcv
   rw [hcv] at xc
   clear hcv
   cases pc : betw cv 1 3 with
   | true =>
    go_wp2_with
     (go_at_call 25; refine (within_any _ _ _ _).mono ?_; rintro e w' ⟨rfl, hw⟩; subst hw)
    go_round
    case rel => exact ⟨k + 1, by omega, by go_num, fun j hj => by
     rcases Nat.lt_succ_iff_lt_or_eq.1 hj with h | h
     ·exact HA.out j h
     ·rw [h, HCV.out]; exact pc⟩
    case measure => simp [intOf]; omega
   | false =>
    have HX : Hid (pe = 5) := by
     show pe = 5
     rw [HK.out, HTY.out k hlt (by rw [HCV.out]; exact pc)]; rfl
    go_wp2_with
     (go_at_call 25; refine (within_any _ _ _ _).mono ?_; rintro e w' ⟨rfl, hw⟩; subst hw)
    go_ret
    exact ⟨ret_int HX.out.symm, hbd⟩
  ·have HX : Hid (pe = err5 true true true true q5) := by
    show pe = _
    rw [HK.out, HTN.out (fun j hj => HA.out j (by omega))]
   go_wp2_with fail
   refine (K5.out _ hbd rfl).mono ?_
   rintro e w5 ⟨rfl, hb5⟩
   have hbe := hbd.trans (hb5.mono hbd.size)
   cases q5
   all_goals
    go_wp2
    go_ret
    exact ⟨ret_int HX.out.symm, hbe⟩
end Go.Proofs.YtbfbgdinhiglaaaGreat.pl
namespace Go.Proofs.YtbfbgdinhiglaaaGreat.pl
open Go.ChangeShapes Go.WideShapes Go.ChangeAt Go.RowKit
open vl
set_option linter.unusedVariables false
set_option linter.unusedSimpArgs false
theorem long_cases {a b c d e f : Nat} (h : 4 < a ∨ 4 < b ∨ 4 < c ∨ 4 < d ∨ 4 < e ∨ 8 < f) :
 ((4 : Int) < a) ∨ (¬ (4 : Int) < a ∧ (4 : Int) < b) ∨ (¬ (4 : Int) < a ∧ ¬ (4 : Int) < b ∧ (4 : Int) < c) ∨ (¬ (4 : Int) < a ∧ ¬ (4 : Int) < b ∧ ¬ (4 : Int) < c ∧ (4 : Int) < d) ∨
 (¬ (4 : Int) < a ∧ ¬ (4 : Int) < b ∧ ¬ (4 : Int) < c ∧ ¬ (4 : Int) < d ∧ (4 : Int) < e) ∨ (¬ (4 : Int) < a ∧ ¬ (4 : Int) < b ∧ ¬ (4 : Int) < c ∧ ¬ (4 : Int) < d ∧ ¬ (4 : Int) < e ∧ (8 : Int) < f) := by omega
set_option maxRecDepth 100000 in
set_option maxHeartbeats 8000000 in
theorem checkPlan_long (p : Pln) (x : PA) (w : World) (hw : wfPlan p) (hp : planAt w p x) (hs : longP p) :
 Calls Tryz.prog 21 #[planV p x] w fun e w' => e = .returned (.int .i64 (planErr p)) ∧ Below w.heap.size w w' := by
 have K1 : Hid (∀ w1, Below w.heap.size w w1 → Calls Tryz.prog 58 #[planV p x] w1 fun e w' => e = .returned (.bool (!decide (kindsOk p))) ∧ Below w1.heap.size w1 w') := fun w1 hb => wrongKind_any p x w1 (aggsAt_below hp.a hb) hw.a
 have K2 : Hid (∀ w1, Below w.heap.size w w1 → Calls Tryz.prog 59 #[planV p x] w1 fun e w' => e = .returned (.bool (!decide (rangesOk p))) ∧ Below w1.heap.size w1 w') := fun w1 hb => wrongRange_any p x w1
 have K3 : Hid (∀ w1, Below w.heap.size w w1 → (p.grouped = true → ∀ i, i < p.aggs.length → betw (p.aggs.getD i (0, 0)).1 1 4 = true) → Calls Tryz.prog 58 #[planV (bare p) (bareA x)] w1 fun e w' => e = .returned (.bool (!decide (kindsOk p))) ∧ Below w1.heap.size w1 w') := fun w1 hb h => by
  rw [← bare_kinds h]
  exact wrongKind_any (bare p) (bareA x) w1 (fun i hi => absurd hi (Nat.not_lt_zero i)) (Nat.zero_le _)
 have HK : Hid (planErr p = if decide (kindsOk p) = false then 4 else if decide (rangesOk p) = false then 3 else 2) := err_long hs
 have HBD : Hid (∀ i, p.grouped = true → i < p.aggs.length → betw (p.aggs.getD i (0, 0)).1 1 4 = false → decide (kindsOk p) = false) := fun i hg hi h => bad_kinds hg hi h
 have HPA : Hid (aggsAt w x.a p.aggs) := hp.a
 have hw12 := hw.a
 obtain ⟨q1, hq1⟩ : ∃ z, decide (kindsOk p) = z := ⟨_, rfl⟩
 obtain ⟨q2, hq2⟩ : ∃ z, decide (rangesOk p) = z := ⟨_, rfl⟩
 rw [hq1] at K1 K3 HK HBD
 rw [hq2] at K2 HK
 obtain ⟨pe, hpe⟩ : ∃ z, planErr p = z := ⟨_, rfl⟩
 rw [hpe] at HK ⊢
 unfold longP at hs
 clear hq1 hq2 hw hp hpe
 obtain ⟨kind, mode, low, high, size, limit, left, right, lkeys, rkeys, grouped, group, aggs⟩ := p
 obtain ⟨l, lc, r, rc, lk, lkc, rk, rkc, g, gc, a, ac⟩ := x
 unfold bare bareA at K3
 unfold planV at K1 K2 K3 ⊢
 dsimp only [List.length_nil] at K1 K2 K3 HBD HPA hw12 hs ⊢
 obtain ⟨n6, h6⟩ : ∃ n, left.length = n := ⟨_, rfl⟩
 obtain ⟨n7, h7⟩ : ∃ n, right.length = n := ⟨_, rfl⟩
 obtain ⟨n8, h8⟩ : ∃ n, lkeys.length = n := ⟨_, rfl⟩
 obtain ⟨n9, h9⟩ : ∃ n, rkeys.length = n := ⟨_, rfl⟩
 obtain ⟨n11, h11⟩ : ∃ n, group.length = n := ⟨_, rfl⟩
 obtain ⟨n12, h12⟩ : ∃ n, aggs.length = n := ⟨_, rfl⟩
 have HN : Hid (aggs.length = n12) := h12
 rw [h6, h7, h8, h9, h11, h12] at K1 K2 hs
 rw [h6, h7, h8, h9, h11, h12] at K3
 rw [h12] at HBD hw12
 rw [h6, h7, h8, h9, h11, h12]
 have hs' := long_cases hs
 clear h6 h7 h8 h9 h11 h12 hs
 by_cases t12 : 4 < n12
 ·have t12' : (4 : Int) < (n12 : Int) := by omega
  rcases hs' with h | h | h | h | h | h
  all_goals
   first
   | (exfalso; omega)
   | skip
  all_goals
   go_enter Tryz.func21, Tryz.ntmps21
   go_wp2
   go_loop [4] (fun i => ∃ k : Nat, k ≤ n12 ∧ i = .int .i64 k ∧ (grouped = true → ∀ i, i < k → betw (aggs.getD i (0, 0)).1 1 4 = true)) (fun i => n12 - (intOf i).toNat)
   case atStart => exact ⟨0, Nat.zero_le _, rfl, fun _ i hi => absurd hi (Nat.not_lt_zero i)⟩
   case round =>
    obtain ⟨k, hk, rfl, hall⟩ := hrel
    have HA : allOk grouped aggs k := hall
    clear hall
    by_cases hlt : k < n12
    ·obtain ⟨b, o, e, x1, x2⟩ := HPA.out k (by rw [HN.out]; exact hlt)
     subst e
     have hblt := World.block_lt_of_cell? _ _ x1
     have hblt' : b < w.heap.size := hblt
     have hblt2 : b < w.heap.size + 1 := by omega
     have i1 : (0 : Int) ≤ (k : Int) := by omega
     have i2 : (k : Int) < (n12 : Int) := by omega
     obtain ⟨z, hz⟩ : ∃ z, (aggs.getD k (0, 0)).1 = z := ⟨_, rfl⟩
     have HZ : Hid ((aggs.getD k (0, 0)).1 = z) := hz
     rw [hz] at x1
     clear x2 hblt hz
     cases grouped with
     | false =>
      go_wp2
      go_round
      case rel => exact ⟨k + 1, by omega, by go_num, fun h => absurd h (by decide)⟩
      case measure => simp [intOf]; omega
     | true =>
      cases hf : betw z 1 4 with
      | true =>
       go_wp2_with
        (go_at_call 25; refine (within_any _ _ _ _).mono ?_; rintro e w' ⟨rfl, hw⟩; subst hw)
       go_round
       case rel => exact ⟨k + 1, by omega, by go_num, fun _ i hi => by
        rcases Nat.lt_succ_iff_lt_or_eq.1 hi with h | h
        ·exact HA rfl i h
        ·rw [h, HZ.out]; exact hf⟩
       case measure => simp [intOf]; omega
      | false =>
       have HX : Hid (pe = 4) := by
        show pe = 4
        rw [HK.out, HBD.out k rfl hlt (by rw [HZ.out]; exact hf)]; rfl
       go_wp2_with
        (go_at_call 25; refine (within_any _ _ _ _).mono ?_; rintro e w' ⟨rfl, hw⟩; subst hw)
       go_ret
       exact ⟨ret_int HX.out.symm, (by repeat (first | exact bR | (refine Below.setCell ?_ (by simp) _) | (refine Below.alloc ?_ (by simp <;> omega) _)))⟩
    ·have HAL : allOk grouped aggs n12 := fun hg i hi => HA hg i (by omega)
     go_wp2_with fail
     refine (K3.out _ (by repeat (first | exact bR | (refine Below.setCell ?_ (by simp) _) | (refine Below.alloc ?_ (by simp <;> omega) _))) HAL).mono ?_
     rintro e w1 ⟨rfl, hb1⟩
     have hba := ((by repeat (first | exact bR | (refine Below.setCell ?_ (by simp) _) | (refine Below.alloc ?_ (by simp <;> omega) _))) : Below w.heap.size w _).trans (hb1.mono (by simp; omega))
     obtain ⟨hc1, hf1⟩ := bcell hb1
     cases q1
     ·go_wp2
      go_ret
      exact ⟨ret_int HK.out.symm, hba⟩
     go_wp2_with fail
     refine (K2.out _ hba).mono ?_
     rintro e w2 ⟨rfl, hb2⟩
     have hbb := hba.trans (hb2.mono hba.size)
     cases q2
     all_goals
      go_wp2
      go_ret
      exact ⟨ret_int HK.out.symm, hbb⟩
 ·have t12' : ¬ (4 : Int) < (n12 : Int) := by omega
  rcases hs' with h | h | h | h | h | h
  all_goals
   first
   | (exfalso; omega)
   | skip
  all_goals
   go_enter Tryz.func21, Tryz.ntmps21
   go_wp2_with fail
   refine (K1.out _ (by repeat (first | exact bR | (refine Below.setCell ?_ (by simp) _) | (refine Below.alloc ?_ (by simp <;> omega) _)))).mono ?_
   rintro e w1 ⟨rfl, hb1⟩
   have hba := ((by repeat (first | exact bR | (refine Below.setCell ?_ (by simp) _) | (refine Below.alloc ?_ (by simp <;> omega) _))) : Below w.heap.size w _).trans (hb1.mono (by simp; omega))
   obtain ⟨hc1, hf1⟩ := bcell hb1
   cases q1
   ·go_wp2
    go_ret
    exact ⟨ret_int HK.out.symm, hba⟩
   go_wp2_with fail
   refine (K2.out _ hba).mono ?_
   rintro e w2 ⟨rfl, hb2⟩
   have hbb := hba.trans (hb2.mono hba.size)
   cases q2
   all_goals
    go_wp2
    go_ret
    exact ⟨ret_int HK.out.symm, hbb⟩
theorem checkPlan_any (p : Pln) (x : PA) (w : World) (hw : wfPlan p) (hp : planAt w p x) :
 Calls Tryz.prog 21 #[planV p x] w fun e w' => e = .returned (.int .i64 (planErr p)) ∧ Below w.heap.size w w' := by
 by_cases hs : longP p
 ·exact checkPlan_long p x w hw hp hs
 ·exact checkPlan_short p x w hw hp hs
end Go.Proofs.YtbfbgdinhiglaaaGreat.pl
namespace Go.Proofs.YtbfbgdinhiglaaaGreat.pl
open Go.ChangeShapes Go.WideShapes Go.ChangeAt Go.RowKit
open vl
set_option linter.unusedVariables false
set_option linter.unusedSimpArgs false
end Go.Proofs.YtbfbgdinhiglaaaGreat.pl
namespace Go.Proofs.YtbfbgdinhiglaaaGreat.pl
open Go.ChangeShapes Go.WideShapes Go.ChangeAt Go.RowKit
open vl
set_option linter.unusedVariables false
set_option linter.unusedSimpArgs false
end Go.Proofs.YtbfbgdinhiglaaaGreat.pl
namespace Go.Proofs.YtbfbgdinhiglaaaGreat.vl
open Go.ChangeShapes Go.WideShapes Go.ChangeAt Go.RowKit
set_option linter.unusedVariables false
set_option linter.unusedSimpArgs false
end Go.Proofs.YtbfbgdinhiglaaaGreat.vl
namespace Go.Proofs.YtbfbgdinhiglaaaGreat.vl
open Go.ChangeShapes Go.WideShapes Go.ChangeAt Go.RowKit
set_option linter.unusedVariables false
set_option linter.unusedSimpArgs false
end Go.Proofs.YtbfbgdinhiglaaaGreat.vl
namespace Go.Proofs.YtbfbgdinhiglaaaGreat.vl
set_option linter.unusedVariables false
set_option linter.unusedSimpArgs false
theorem cmpB_same (l x y : List UInt8) : Lib.compareBytes (l ++ x) (l ++ y) = Lib.compareBytes x y := by
 induction l with
 | nil => rfl
 | cons a l ih =>
  rw [List.cons_append, List.cons_append, Lib.compareBytes, if_neg (UInt8.lt_irrefl a), if_neg (UInt8.lt_irrefl a)]
  exact ih
theorem cmpB_lt {a b : UInt8} (x y : List UInt8) (h : a < b) : Lib.compareBytes (a :: x) (b :: y) = -1 := by rw [Lib.compareBytes, if_pos h]
theorem cmpB_gt {a b : UInt8} (x y : List UInt8) (h : b < a) : Lib.compareBytes (a :: x) (b :: y) = 1 := by
 rw [Lib.compareBytes, if_neg (fun h' => absurd (UInt8.lt_trans h h') (UInt8.lt_irrefl b)), if_pos h]
theorem fold_acc (l : List UInt8) (a : Nat) : l.foldl (fun u b => u * 256 + b.toNat) a = a * 256 ^ l.length + beVal l := by
 induction l generalizing a with
 | nil => simp [beVal]
 | cons b l ih =>
  have e : beVal (b :: l) = (b :: l).foldl (fun u b => u * 256 + b.toNat) 0 := rfl
  rw [e, List.foldl_cons, List.foldl_cons, ih, ih (0 * 256 + b.toNat), List.length_cons, Nat.pow_succ]
  rw [Nat.add_mul, Nat.mul_assoc, Nat.mul_comm 256, Nat.zero_mul, Nat.zero_add]
  omega
theorem beVal_cons (b : UInt8) (l : List UInt8) : beVal (b :: l) = b.toNat * 256 ^ l.length + beVal l := by
 have e : beVal (b :: l) = l.foldl (fun u b => u * 256 + b.toNat) (0 * 256 + b.toNat) := rfl
 rw [e, fold_acc]; simp
theorem cmpB_be (l m x y : List UInt8) (h : l.length = m.length) :
 Lib.compareBytes (l ++ x) (m ++ y) = if beVal l < beVal m then -1 else if beVal m < beVal l then 1 else Lib.compareBytes x y := by
 induction l generalizing m with
 | nil =>
  cases m with
  | nil => simp [beVal]
  | cons b m => simp at h
 | cons a l ih =>
  cases m with
  | nil => simp at h
  | cons b m =>
   have hl : l.length = m.length := by simpa using h
   have b1 := beVal_bound l
   have b2 := beVal_bound m
   rw [List.cons_append, List.cons_append, beVal_cons, beVal_cons]
   rw [hl] at b1 ⊢
   by_cases h1 : a < b
   ·have h1' : a.toNat + 1 ≤ b.toNat := UInt8.lt_iff_toNat_lt.1 h1
    have := Nat.mul_le_mul_right (256 ^ m.length) h1'
    rw [Nat.add_mul] at this
    rw [cmpB_lt _ _ h1, if_pos (by omega)]
   ·by_cases h2 : b < a
    ·have h2' : b.toNat + 1 ≤ a.toNat := UInt8.lt_iff_toNat_lt.1 h2
     have := Nat.mul_le_mul_right (256 ^ m.length) h2'
     rw [Nat.add_mul] at this
     rw [cmpB_gt _ _ h2, if_neg (by omega), if_pos (by omega)]
    ·have h3 : a = b := UInt8.le_antisymm (UInt8.not_lt.1 h2) (UInt8.not_lt.1 h1)
     subst h3
     rw [Lib.compareBytes, if_neg h1, if_neg h1, ih m hl]
     simp only [Nat.add_lt_add_iff_left]
theorem pos_of_ne {b : UInt8} (h : b ≠ 0) : (0 : UInt8) < b := by
 rcases Nat.eq_zero_or_pos b.toNat with h0 | h0
 ·exact absurd (byte_eq h0) h
 ·exact UInt8.lt_iff_toNat_lt.2 h0
theorem cmpB_text (s t x y : List UInt8) :
 Lib.compareBytes (encT s ++ 0 :: 1 :: x) (encT t ++ 0 :: 1 :: y) = if Lib.compareBytes s t = 0 then Lib.compareBytes x y else Lib.compareBytes s t := by
 induction s generalizing t with
 | nil =>
  cases t with
  | nil => simp [encT, Lib.compareBytes]
  | cons b t =>
   rw [encT_cons]
   by_cases hb : b = 0
   ·rw [if_pos hb]; simp [encT, Lib.compareBytes]
   ·have := pos_of_ne hb
    rw [if_neg hb]; simp [encT, Lib.compareBytes, this]
 | cons a s ih =>
  cases t with
  | nil =>
   rw [encT_cons]
   by_cases ha : a = 0
   ·rw [if_pos ha]; simp [encT, Lib.compareBytes]
   ·have := pos_of_ne ha
    have h2 : ¬ a < 0 := fun h => absurd (UInt8.lt_trans this h) (UInt8.lt_irrefl 0)
    rw [if_neg ha]; simp [encT, Lib.compareBytes, this, h2]
  | cons b t =>
   rw [encT_cons, encT_cons]
   by_cases hab : a = b
   ·subst hab
    rw [List.append_assoc, List.append_assoc, cmpB_same, ih t, Lib.compareBytes, if_neg (UInt8.lt_irrefl a), if_neg (UInt8.lt_irrefl a)]
   ·by_cases h1 : a < b
    ·have e : Lib.compareBytes (a :: s) (b :: t) = -1 := cmpB_lt _ _ h1
     have hb : b ≠ 0 := fun h => by subst h; exact absurd (UInt8.lt_iff_toNat_lt.1 h1) (Nat.not_lt_zero _)
     rw [e, if_neg (show ¬ ((-1 : Int) = 0) by decide), if_neg hb]
     by_cases ha : a = 0
     ·rw [if_pos ha]
      exact cmpB_lt _ _ (pos_of_ne hb)
     ·rw [if_neg ha]
      exact cmpB_lt _ _ h1
    ·have h2 : b < a := by
      rcases Nat.lt_trichotomy a.toNat b.toNat with h | h | h
      ·exact absurd (UInt8.lt_iff_toNat_lt.2 h) h1
      ·exact absurd (byte_eq h) hab
      ·exact UInt8.lt_iff_toNat_lt.2 h
     have e : Lib.compareBytes (a :: s) (b :: t) = 1 := cmpB_gt _ _ h2
     have ha : a ≠ 0 := fun h => by subst h; exact absurd (UInt8.lt_iff_toNat_lt.1 h2) (Nat.not_lt_zero _)
     rw [e, if_neg (show ¬ ((1 : Int) = 0) by decide), if_neg ha]
     by_cases hb : b = 0
     ·rw [if_pos hb]
      exact cmpB_gt _ _ (pos_of_ne ha)
     ·rw [if_neg hb]
      exact cmpB_gt _ _ h2
theorem cmpC_of (c d : Cel) : cmpC c d = if ordI c.k d.k = 0 then (if ordI c.n d.n = 0 then Lib.compareBytes c.s.data.toList d.s.data.toList else ordI c.n d.n) else ordI c.k d.k := by
 unfold cmpC cmpV firstNZ firstNZ firstNZ firstNZ
 by_cases h1 : ordI c.k d.k = 0
 ·rw [if_pos h1, if_pos h1]
  by_cases h2 : ordI c.n d.n = 0
  ·rw [if_pos h2, if_pos h2]
   split
   ·rename_i h; exact h.symm
   ·rfl
  ·rw [if_neg h2, if_neg h2]
 ·rw [if_neg h1, if_neg h1]
theorem cmpB_cell {c d : Cel} (hc : c.ok) (hd : d.ok) (wc : c.wf) (wd : d.wf) (x y : List UInt8) :
 Lib.compareBytes (encC c ++ x) (encC d ++ y) = if cmpC c d = 0 then Lib.compareBytes x y else cmpC c d := by
 rw [cmpC_of]
 rcases encC_cases hc with ⟨rfl, e⟩ | ⟨rfl, e⟩ | ⟨rfl, e⟩ | ⟨n, rfl, e⟩ | ⟨s, rfl, hs, e⟩ <;>
 rcases encC_cases hd with ⟨rfl, e'⟩ | ⟨rfl, e'⟩ | ⟨rfl, e'⟩ | ⟨m, rfl, e'⟩ | ⟨t, rfl, ht, e'⟩ <;>
 simp only [e, e', List.cons_append, List.nil_append]
 all_goals try (rw [cmpB_lt _ _ (by decide)]; rfl)
 all_goals try (rw [cmpB_gt _ _ (by decide)]; rfl)
 ·exact cmpB_same [0] x y
 ·exact cmpB_same [1, 0] x y
 ·have := cmpB_same [1] (0 :: x) (1 :: y)
  simp only [List.cons_append, List.nil_append] at this
  rw [this, cmpB_lt _ _ (by decide)]; rfl
 ·have := cmpB_same [1] (1 :: x) (0 :: y)
  simp only [List.cons_append, List.nil_append] at this
  rw [this, cmpB_gt _ _ (by decide)]; rfl
 ·exact cmpB_same [1, 1] x y
 ·obtain ⟨⟨n1, n2⟩, _⟩ := wc
  obtain ⟨⟨m1, m2⟩, _⟩ := wd
  dsimp only at n1 n2 m1 m2 ⊢
  have := cmpB_same [2] (be8 (n + 9223372036854775808).toNat 8 ++ x) (be8 (m + 9223372036854775808).toNat 8 ++ y)
  simp only [List.cons_append, List.nil_append] at this
  rw [this, cmpB_be _ _ _ _ (by rw [be8_len, be8_len]), beVal_be8 _ (by omega), beVal_be8 _ (by omega)]
  have e0 : ordI 2 2 = 0 := by decide
  rw [e0, if_pos rfl]
  unfold ordI
  by_cases h1 : n < m
  ·rw [if_pos (by omega), if_pos h1]; rfl
  ·rw [if_neg (by omega), if_neg h1]
   by_cases h2 : m < n
   ·rw [if_pos (by omega), if_pos h2]; rfl
   ·rw [if_neg (by omega), if_neg h2]; rfl
 ·have := cmpB_same [3] (encT s.data.toList ++ [0, 1] ++ x) (encT t.data.toList ++ [0, 1] ++ y)
  simp only [List.cons_append, List.nil_append, List.append_assoc] at this ⊢
  rw [this, cmpB_text]
  rfl
theorem cmpB_rows (a b : List Cel) (ha : ∀ c ∈ a, c.ok ∧ c.wf) (hb : ∀ c ∈ b, c.ok ∧ c.wf) : Lib.compareBytes (encR a) (encR b) = cmpRows a b := by
 induction a generalizing b with
 | nil =>
  cases b with
  | nil => rfl
  | cons d b =>
   have e : encR (d :: b) = encC d ++ encR b := rfl
   rw [e]
   have := encC_ne (hb d (List.mem_cons_self ..)).1
   cases h : encC d with
   | nil => exact absurd h this
   | cons z zs => rfl
 | cons c a ih =>
  have ec : encR (c :: a) = encC c ++ encR a := rfl
  have hc := ha c (List.mem_cons_self ..)
  cases b with
  | nil =>
   rw [ec]
   cases h : encC c with
   | nil => exact absurd h (encC_ne hc.1)
   | cons z zs => rfl
  | cons d b =>
   have ed : encR (d :: b) = encC d ++ encR b := rfl
   have hd := hb d (List.mem_cons_self ..)
   rw [ec, ed, cmpB_cell hc.1 hd.1 hc.2 hd.2, ih b (fun x hx => ha x (List.mem_cons_of_mem _ hx)) (fun x hx => hb x (List.mem_cons_of_mem _ hx)), cmpRows]
theorem cmpB_zero : ∀ {a b : List UInt8}, Lib.compareBytes a b = 0 ↔ a = b
 | [], [] => by simp [Lib.compareBytes]
 | [], _ :: _ => by simp [Lib.compareBytes]
 | _ :: _, [] => by simp [Lib.compareBytes]
 | a :: x, b :: y => by
  rw [Lib.compareBytes]
  by_cases h1 : a < b
  ·rw [if_pos h1]
   exact ⟨fun h => absurd h (by decide), fun h => by cases h; exact absurd h1 (UInt8.lt_irrefl a)⟩
  ·rw [if_neg h1]
   by_cases h2 : b < a
   ·rw [if_pos h2]
    exact ⟨fun h => absurd h (by decide), fun h => by cases h; exact absurd h2 (UInt8.lt_irrefl a)⟩
   ·rw [if_neg h2]
    have h3 : a = b := UInt8.le_antisymm (UInt8.not_lt.1 h2) (UInt8.not_lt.1 h1)
    rw [cmpB_zero, h3]; simp
theorem encR_inj {a b : List Cel} (ha : ∀ c ∈ a, c.ok ∧ c.wf) (hb : ∀ c ∈ b, c.ok ∧ c.wf) (h : encR a = encR b) : a = b := by
 obtain ⟨r2, e1, e2⟩ := encR_split a b [] ha hb (by rw [List.append_nil]; exact h)
 cases r2 with
 | nil => rw [e1, List.append_nil]
 | cons d r2 =>
  have hd := hb d (by rw [e1]; simp)
  have e3 : encR (d :: r2) = encC d ++ encR r2 := rfl
  rw [e3] at e2
  exact absurd (List.append_eq_nil_iff.1 e2.symm).1 (encC_ne hd.1)
end Go.Proofs.YtbfbgdinhiglaaaGreat.vl
namespace Go.Proofs.YtbfbgdinhiglaaaGreat.pl
open Go.ChangeShapes Go.WideShapes Go.ChangeAt Go.RowKit
open vl
set_option linter.unusedVariables false
set_option linter.unusedSimpArgs false
def cellB (c : Cel) (t : Int) : Bool := decide (c.k = 0 ∨ c.k = t)
def typedB (r : List Cel) (c : List Int) : Bool := decide (r.length = c.length) && allB r.length (fun i => cellB (r.getD i default) (c.getD i 0))
set_option maxHeartbeats 2000000 in
theorem ty1_any (i : Nat) (B : Nat) (ad : Option Addr) (cp : Nat) (c : List Int) (k n : Int) (s : ByteArray) (w : World) (hi : i < c.length) (hl : c.length ≤ 9223372036854775807) (hc : intsAt w ad c) (hb : w.cell? ⟨B, 0, none⟩ = some (.slice ad c.length cp)) :
 Calls Tryz.prog 122 #[.int .i64 i, .agg #[.int .i64 k, .int .i64 n, .string s], .pointer (some ⟨B, 0, none⟩)] w fun e w' => e = .returned (.bool (cellB ⟨k, n, s⟩ (c.getD i 0))) ∧ Below w.heap.size w w' := by
 have hBlt := World.block_lt_of_cell? _ _ hb
 have hBlt' : B < w.heap.size := hBlt
 obtain ⟨bc, oc, ec, xc⟩ := hc i hi
 subst ec
 have hclt := World.block_lt_of_cell? _ _ xc
 have hclt' : bc < w.heap.size := hclt
 have HB : Hid (cellB ⟨k, n, s⟩ (c.getD i 0) = decide (k = 0 ∨ k = c.getD i 0)) := rfl
 obtain ⟨m, hm⟩ : ∃ z, c.length = z := ⟨_, rfl⟩
 obtain ⟨t, ht⟩ : ∃ z, c.getD i 0 = z := ⟨_, rfl⟩
 rw [hm] at hi hl hb
 rw [ht] at xc HB ⊢
 have i1 : (0 : Int) ≤ (i : Int) := by omega
 have i2 : (i : Int) < (m : Int) := by omega
 clear hm ht hc hBlt hclt
 by_cases hk : k = 0
 ·subst hk
  go_enter Tryz.func122, Tryz.ntmps122
  go_wp2
  go_quiet (fail)
  go_wp2
  go_ret
  exact ⟨ret_bool (by rw [HB.out]; simp), below_dn (bR.alloc nR _) _⟩
 ·have hk' : (k == 0) = false := by simpa using hk
  have HB2 : Hid (cellB ⟨k, n, s⟩ t = (k == t)) := by show cellB ⟨k, n, s⟩ t = _; rw [HB.out]; exact Bool.eq_iff_iff.2 (by simp [hk])
  clear hk HB
  go_enter Tryz.func122, Tryz.ntmps122
  go_wp2
  go_quiet (fail)
  go_wp2
  go_ret
  exact ⟨ret_bool HB2.out.symm, below_dn (bR.alloc nR _) _⟩
set_option maxHeartbeats 1000000 in
theorem typed_any (a ad : Option Addr) (ca cp : Nat) (r : List Cel) (c : List Int) (w : World) (hl : r.length ≤ 9223372036854775807) (hcl : c.length ≤ 9223372036854775807) (ha : vl.rowAt w a r) (hc : intsAt w ad c) :
 Calls Tryz.prog 75 #[.slice a r.length ca, .slice ad c.length cp] w fun e w' => e = .returned (.bool (typedB r c)) ∧ Below w.heap.size w w' := by
 have K : Hid (∀ B w1, Below w.heap.size w w1 → r.length = c.length → w1.cell? ⟨B, 0, none⟩ = some (.slice ad c.length cp) →
  Calls Tryz.prog 121 #[.slice a r.length ca, .func (.func 122) #[] #[.pointer (some ⟨B, 0, none⟩)]] w1 fun e w' => e = .returned (.bool (allB r.length (fun i => cellB (r.getD i default) (c.getD i 0)))) ∧ Below w1.heap.size w1 w') := by
  intro B w1 hb hlen e0
  exact everyVal_any 122 (enters_of Tryz.func122 (by kernel_rfl) rfl) #[.pointer (some ⟨B, 0, none⟩)] (fun i => cellB (r.getD i default) (c.getD i 0)) a ca r w1 hl (rowAt_below ha hb)
   (fun i w2 hi hb2 => ty1_any i B ad cp c _ _ _ w2 (by omega) hcl (intsAt_below (intsAt_below hc hb) hb2) (cL hb2 e0))
 have HB : Hid (typedB r c = (decide (r.length = c.length) && allB r.length (fun i => cellB (r.getD i default) (c.getD i 0)))) := rfl
 obtain ⟨tb, htb⟩ : ∃ z, allB r.length (fun i => cellB (r.getD i default) (c.getD i 0)) = z := ⟨_, rfl⟩
 rw [htb] at K HB
 obtain ⟨m, hm⟩ : ∃ z, r.length = z := ⟨_, rfl⟩
 obtain ⟨k, hk⟩ : ∃ z, c.length = z := ⟨_, rfl⟩
 rw [hm, hk] at K HB
 rw [hm, hk]
 clear hm hk htb ha hc hl hcl
 by_cases he : m = k
 ·subst he
  rw [show decide (m = m) = true by simp] at HB
  have he' : ((m : Int) == m) = true := by simp
  go_enter Tryz.func75, Tryz.ntmps75
  go_wp2_with (go_at_call 121; refine (K.out _ _ (bR.alloc nR _) (by trivial) (by go_simp)).mono ?_; rintro e w1 ⟨rfl, hb1⟩)
  go_ret
  exact ⟨ret_bool (by rw [HB.out]; simp), (bR.alloc nR _).trans (hb1.mono (by simp))⟩
 ·have he' : ((m : Int) == k) = false := by simp; omega
  rw [decide_eq_false he] at HB
  clear he
  go_enter Tryz.func75, Tryz.ntmps75
  go_wp2
  go_ret
  exact ⟨ret_bool (by rw [HB.out]; rfl), bR.alloc nR _⟩
def fErr (c : List Int) (r : List Cel) : Int := if r.length ≠ c.length then 2 else if typedB r c = false then 5 else 0
theorem fErr_bad {c : List Int} {r : List Cel} {i : Nat} (hl : r.length = c.length) (hi : i < r.length) (h : cellB (r.getD i default) (c.getD i 0) = false) : fErr c r = 5 := by
 unfold fErr typedB
 rw [if_neg (by simp [hl]), allB_no hi h]; simp
theorem fErr_ok {c : List Int} {r : List Cel} (hl : r.length = c.length) (h : ∀ i, i < r.length → cellB (r.getD i default) (c.getD i 0) = true) : fErr c r = 0 := by
 unfold fErr typedB
 rw [if_neg (by simp [hl]), allB_iff.2 h, decide_eq_true hl]; simp
set_option maxHeartbeats 4000000 in
theorem fitsTypes_any (a ad : Option Addr) (ca cp : Nat) (r : List Cel) (c : List Int) (w : World) (hl : r.length ≤ 9223372036854775807) (hcl : c.length ≤ 9223372036854775807) (ha : vl.rowAt w a r) (hc : intsAt w ad c) :
 Calls Tryz.prog 24 #[.slice ad c.length cp, .slice a r.length ca] w fun e w' => e = .returned (.int .i64 (fErr c r)) ∧ Below w.heap.size w w' := by
 have HA : Hid (vl.rowAt w a r) := ha
 have HC : Hid (intsAt w ad c) := hc
 have HB : Hid (∀ i, r.length = c.length → i < r.length → cellB (r.getD i default) (c.getD i 0) = false → fErr c r = 5) := fun i h1 h2 h3 => fErr_bad h1 h2 h3
 have HO : Hid (r.length = c.length → (∀ i, i < r.length → cellB (r.getD i default) (c.getD i 0) = true) → fErr c r = 0) := fErr_ok
 have HN : Hid (r.length ≠ c.length → fErr c r = 2) := fun h => if_pos h
 obtain ⟨fe, hfe⟩ : ∃ z, fErr c r = z := ⟨_, rfl⟩
 rw [hfe] at HB HO HN ⊢
 obtain ⟨m, hm⟩ : ∃ z, r.length = z := ⟨_, rfl⟩
 obtain ⟨k, hk⟩ : ∃ z, c.length = z := ⟨_, rfl⟩
 have HM : Hid (r.length = m) := hm
 have HK : Hid (c.length = k) := hk
 rw [hm] at hl HB HO HN ⊢
 rw [hk] at hcl HB HO HN ⊢
 clear hfe hm hk ha hc
 by_cases he : m = k
 ·subst he
  have he' : ((m : Int) != m) = false := by simp
  go_enter Tryz.func24, Tryz.ntmps24
  go_wp2
  go_loopw [5] (fun i wr => ∃ j : Nat, j ≤ m ∧ i = .int .i64 j ∧ Below w.heap.size w wr ∧ ∀ i, i < j → cellB (r.getD i default) (c.getD i 0) = true) (fun i _ => m - (intOf i).toNat)
  case atStart => exact ⟨0, Nat.zero_le _, rfl, bR, fun i hi => absurd hi (Nat.not_lt_zero i)⟩
  case round =>
   obtain ⟨j, hj, rfl, hnx, hall⟩ := hrel
   have HAL : Hid (∀ i, i < j → cellB (r.getD i default) (c.getD i 0) = true) := hall
   clear hall
   by_cases hlt : j < m
   ·obtain ⟨b1, o1, e1, x1, x2, x3⟩ := HA.out j (by rw [HM.out]; exact hlt)
    obtain ⟨b2, o2, e2, y1⟩ := HC.out j (by rw [HK.out]; exact hlt)
    subst e1 e2
    have q1 := cL hnx x1
    have q2 := cL hnx y1
    have i1 : (0 : Int) ≤ (j : Int) := by omega
    have i2 : (j : Int) < (m : Int) := by omega
    have HBJ : Hid (cellB (r.getD j default) (c.getD j 0) = decide ((r.getD j default).k = 0 ∨ (r.getD j default).k = c.getD j 0)) := rfl
    obtain ⟨kv, hkv⟩ : ∃ z, (r.getD j default).k = z := ⟨_, rfl⟩
    obtain ⟨tv, htv⟩ : ∃ z, c.getD j 0 = z := ⟨_, rfl⟩
    rw [hkv] at q1 HBJ
    rw [htv] at q2
    have HBK : Hid (cellB (r.getD j default) (c.getD j 0) = decide (kv = 0 ∨ kv = tv)) := by show cellB (r.getD j default) (c.getD j 0) = _; rw [HBJ.out, htv]
    clear hkv htv x1 x2 x3 y1 HBJ
    have HSTEP : Hid (cellB (r.getD j default) (c.getD j 0) = true → ∀ i, i < j + 1 → cellB (r.getD i default) (c.getD i 0) = true) := fun h i hi => by
     rcases Nat.lt_succ_iff_lt_or_eq.1 hi with h1 | h1
     ·exact HAL.out i h1
     ·rw [h1]; exact h
    by_cases hk : kv = 0
    ·subst hk
     have HX : Hid (cellB (r.getD j default) (c.getD j 0) = true) := by show cellB (r.getD j default) (c.getD j 0) = true; rw [HBK.out]; simp
     go_wp2
     go_quiet (fail)
     go_wp2
     go_roundw
     case rel => exact ⟨j + 1, by omega, by go_num, below_dn hnx _, HSTEP.out HX.out⟩
     case measure => simp [intOf]; omega
    ·have hk' : (kv != 0) = true := by simpa using hk
     by_cases ht : kv = tv
     ·have ht' : (kv != tv) = false := by simpa using ht
      have HX : Hid (cellB (r.getD j default) (c.getD j 0) = true) := by show cellB (r.getD j default) (c.getD j 0) = true; rw [HBK.out]; exact decide_eq_true (.inr ht)
      clear hk ht
      go_wp2
      go_quiet (fail)
      go_wp2
      go_roundw
      case rel => exact ⟨j + 1, by omega, by go_num, below_dn hnx _, HSTEP.out HX.out⟩
      case measure => simp [intOf]; omega
     ·have ht' : (kv != tv) = true := by simpa using ht
      have HX : Hid (fe = 5) := HB.out j (by trivial) hlt (by rw [HBK.out]; exact decide_eq_false (fun h => h.elim hk ht))
      clear hk ht
      go_wp2
      go_quiet (fail)
      go_wp2
      go_ret
      exact ⟨ret_int HX.out.symm, below_dn hnx _⟩
   ·have HX : Hid (fe = 0) := HO.out (by trivial) (fun i hi => HAL.out i (by omega))
    go_wp2
    go_ret
    exact ⟨ret_int HX.out.symm, hnx⟩
 ·have he' : ((m : Int) != k) = true := by simp; omega
  have HX : Hid (fe = 2) := HN.out he
  clear he
  go_enter Tryz.func24, Tryz.ntmps24
  go_wp2
  go_ret
  exact ⟨ret_int HX.out.symm, bR⟩
end Go.Proofs.YtbfbgdinhiglaaaGreat.pl
namespace Go.Proofs.YtbfbgdinhiglaaaGreat.pl
open Go.ChangeShapes Go.WideShapes Go.ChangeAt Go.RowKit
open vl
set_option linter.unusedVariables false
set_option linter.unusedSimpArgs false
end Go.Proofs.YtbfbgdinhiglaaaGreat.pl
namespace Go.Proofs.YtbfbgdinhiglaaaGreat.pl
open Go.ChangeShapes Go.WideShapes Go.ChangeAt Go.RowKit
open vl
set_option linter.unusedVariables false
set_option linter.unusedSimpArgs false
def pickR (r : List Cel) (l : List Int) : List Cel := l.map fun i => r.getD i.toNat default
theorem take_snocI (l : List Int) (k : Nat) (h : k < l.length) : l.take (k + 1) = l.take k ++ [l.getD k 0] := by
 rw [List.take_succ_eq_append_getElem h, getD_get h]
set_option maxRecDepth 10000 in
set_option maxHeartbeats 4000000 in
theorem pick_any (a ad : Option Addr) (ca cp : Nat) (r : List Cel) (l : List Int) (w : World) (hlr : r.length ≤ 9223372036854775807) (hll : l.length ≤ 1000) (ha : vl.rowAt w a r) (hl : intsAt w ad l) (hpl : ∀ x ∈ l, 0 ≤ x ∧ x < (r.length : Int)) :
 Calls Tryz.prog 52 #[.slice a r.length ca, .slice ad l.length cp] w fun e w' => (∃ ad' c', e = .returned (.slice ad' (pickR r l).length c') ∧ ownV w' w.heap.size (.slice ad' (pickR r l).length c') (pickR r l)) ∧ Below w.heap.size w w' := by
 have HA : Hid (vl.rowAt w a r) := ha
 have HL : Hid (intsAt w ad l) := hl
 have HP : Hid (∀ i, i < l.length → 0 ≤ l.getD i 0 ∧ l.getD i 0 < (r.length : Int)) := fun i hi => hpl _ (getD_mem hi)
 obtain ⟨m, hm⟩ : ∃ z, r.length = z := ⟨_, rfl⟩
 obtain ⟨n, hn⟩ : ∃ z, l.length = z := ⟨_, rfl⟩
 have HM : Hid (r.length = m) := hm
 have HN : Hid (l.length = n) := hn
 rw [hm] at hlr HP ⊢
 rw [hn] at hll HP ⊢
 clear hm hn ha hl hpl
 obtain ⟨i0, hi, hz0, hz1, hz2⟩ := info_parts Tryz.infoV
 obtain ⟨w0, hmk, hown0, hgrow0⟩ := run_make_own (P := Tryz.prog) w w.heap.size 50 68 i0 (.agg #[.int .i64 0, .int .i64 0, .string ⟨#[]⟩]) 3 Tryz.underlying50 hi hz0 hz1 .i64 .i64 n (by rw [hz2]; omega) (by unfold maxLen; omega) nR
 have hb0 : Below w.heap.size w w0 := bR.grown hgrow0 nR (fun b hb => by cases hb)
 have HO0 : Hid (ownV w0 w.heap.size (.slice (some ⟨w.heap.size, 0, none⟩) 0 n) []) := hown0
 clear hi hz0 hz1 hz2 hown0 hgrow0
 have HPK : Hid (∀ k, k < n → pickR r (l.take (k + 1)) = pickR r (l.take k) ++ [r.getD (l.getD k 0).toNat default]) := fun k hk => by
  show pickR r (l.take (k + 1)) = _
  rw [take_snocI l k (by rw [HN.out]; exact hk)]; simp [pickR]
 have HPE : Hid (∀ k, n ≤ k → pickR r (l.take k) = pickR r l) := fun k hk => by
  show pickR r (l.take k) = _
  rw [List.take_of_length_le (by rw [HN.out]; exact hk)]
 have HPL : Hid (∀ k, (pickR r (l.take k)).length ≤ n) := fun k => by
  show (pickR r (l.take k)).length ≤ n
  have : (l.take k).length ≤ l.length := by rw [List.length_take]; omega
  unfold pickR; rw [List.length_map, ← HN.out]; exact this
 obtain ⟨pn, hpn⟩ : ∃ z, (pickR r l).length = z := ⟨_, rfl⟩
 have HPN : Hid ((pickR r l).length = pn) := hpn
 rw [hpn]
 clear hpn
 go_enter Tryz.func52, Tryz.ntmps52
 go_wp2
 go_loopw [5, 7, 13] (fun v _ i wr => ∃ k : Nat, k ≤ n ∧ i = .int .i64 k ∧ ownV wr w.heap.size v (pickR r (l.take k)) ∧ Below w.heap.size w wr) (fun _ _ i _ => n - (intOf i).toNat)
 case atStart => exact ⟨0, Nat.zero_le _, rfl, HO0.out, hb0⟩
 case round =>
  obtain ⟨k, hk, rfl, hov, hnx⟩ := hrel
  have HO : Hid (ownV wr w.heap.size u5 (pickR r (l.take k))) := hov
  have hsz := hnx.size
  clear hov hmk
  by_cases hlt : k < n
  ·obtain ⟨b, o, e, xk⟩ := HL.out k (by rw [HN.out]; exact hlt)
   subst e
   have hpk := HP.out k hlt
   have HPKk := HPK.out k hlt
   obtain ⟨z, hz⟩ : ∃ z, l.getD k 0 = z := ⟨_, rfl⟩
   rw [hz] at xk hpk HPKk
   obtain ⟨zn, rfl⟩ := Int.eq_ofNat_of_zero_le hpk.1
   rw [Int.toNat_natCast] at HPKk
   obtain ⟨b1, o1, e1, x1, x2, x3⟩ := HA.out zn (by rw [HM.out]; omega)
   subst e1
   have qk := cL hnx xk
   have q1 := cL hnx x1
   have q2 := cL hnx x2
   have q3 := cL hnx x3
   obtain ⟨⟨kv, nv, sv⟩, hcv⟩ : ∃ z, r.getD zn default = z := ⟨_, rfl⟩
   rw [hcv] at q1 q2 q3 HPKk
   dsimp only at q1 q2 q3
   have HPK2 : Hid (pickR r (l.take (k + 1)) = pickR r (l.take k) ++ [⟨kv, nv, sv⟩]) := HPKk
   have i1 : (0 : Int) ≤ (k : Int) := by omega
   have i2 : (k : Int) < (n : Int) := by omega
   have i3 : (0 : Int) ≤ (zn : Int) := by omega
   have i4 : (zn : Int) < (m : Int) := by omega
   have hpl := HPL.out k
   obtain ⟨pr, hpr⟩ : ∃ z, pickR r (l.take k) = z := ⟨_, rfl⟩
   rw [hpr] at HO HPK2 hpl
   clear xk x1 x2 x3 hz hcv HPKk hpk hpr
   go_wp2_with (at_builtin; refine append_cell rfl (.tmp 17) (.tmp 22) rfl w.heap.size u5 pr rfl wr HO.out ⟨kv, nv, sv⟩ wr.heap.size rfl rfl (by omega) hsz ?_; intro v2 w3 hown3 hgrow3)
   obtain ⟨ad2, c2, hv, _⟩ := own_form hown3
   have hbn := below_appendV hnx hsz HO.out hgrow3
   subst hv
   go_roundw
   case rel => exact ⟨k + 1, by omega, by go_num, by rw [HPK2.out]; exact hown3, hbn⟩
   case measure => simp [intOf]; omega
  ·have HPEk := HPE.out k (by omega)
   obtain ⟨ad2, c2, hv, _⟩ := own_form HO.out
   rw [HPEk] at HO hv
   rw [HPN.out] at hv
   subst hv
   clear HPEk HPE HPK HPL
   go_wp2
   go_ret
   exact ⟨⟨_, _, rfl, HO.out⟩, hnx⟩
end Go.Proofs.YtbfbgdinhiglaaaGreat.pl
namespace Go.Proofs.YtbfbgdinhiglaaaGreat.pl
open Go.ChangeShapes Go.WideShapes Go.ChangeAt Go.RowKit
open vl
set_option linter.unusedVariables false
set_option linter.unusedSimpArgs false
end Go.Proofs.YtbfbgdinhiglaaaGreat.pl
namespace Go.Proofs.YtbfbgdinhiglaaaGreat.bt
open Go.ChangeShapes Go.WideShapes Go.ChangeAt Go.RowKit
open vl pl
set_option linter.unusedVariables false
set_option linter.unusedSimpArgs false
end Go.Proofs.YtbfbgdinhiglaaaGreat.bt
namespace Go.Proofs.YtbfbgdinhiglaaaGreat.bt
open vl pl
set_option linter.unusedVariables false
set_option linter.unusedSimpArgs false
end Go.Proofs.YtbfbgdinhiglaaaGreat.bt
namespace Go.Proofs.YtbfbgdinhiglaaaGreat.bt
open Go.ChangeShapes Go.WideShapes Go.ChangeAt Go.RowKit
open vl pl
set_option linter.unusedVariables false
set_option linter.unusedSimpArgs false
end Go.Proofs.YtbfbgdinhiglaaaGreat.bt
namespace Go.Proofs.YtbfbgdinhiglaaaGreat.bt
open Go.ChangeShapes Go.WideShapes Go.ChangeAt Go.RowKit
open vl pl
set_option linter.unusedVariables false
set_option linter.unusedSimpArgs false
end Go.Proofs.YtbfbgdinhiglaaaGreat.bt
namespace Go.Proofs
open Go.RowKit Go.Maps Go.Sort Go.Shelf
end Go.Proofs
namespace Go.Proofs.YtbfbgdinhiglaaaGreat.ch
open Go.ChangeShapes Go.WideShapes Go.ChangeAt Go.RowKit Go.Maps
open Go.WideAt Go.WideElems Go.WideMaps
set_option linter.unusedVariables false
set_option linter.unusedSimpArgs false
end Go.Proofs.YtbfbgdinhiglaaaGreat.ch
namespace Go.Proofs.YtbfbgdinhiglaaaGreat.ch
open Go.ChangeShapes Go.WideShapes Go.ChangeAt Go.RowKit Go.Maps Go.Sort
set_option linter.unusedVariables false
set_option linter.unusedSimpArgs false
end Go.Proofs.YtbfbgdinhiglaaaGreat.ch
namespace Go.Proofs.YtbfbgdinhiglaaaGreat.ch
open Go.ChangeShapes Go.WideShapes Go.ChangeAt Go.RowKit Go.Maps Go.Sort Go.WideMaps
set_option linter.unusedVariables false
set_option linter.unusedSimpArgs false
end Go.Proofs.YtbfbgdinhiglaaaGreat.ch
namespace Go.Proofs.YtbfbgdinhiglaaaGreat.ch
open Go.ChangeShapes Go.WideShapes Go.ChangeAt Go.RowKit Go.Maps Go.WideMaps
open vl
set_option linter.unusedVariables false
set_option linter.unusedSimpArgs false
structure Cnt where
 r : List Cel
 n : Int
instance : Inhabited Cnt := ⟨⟨[], 0⟩⟩
def viewAt (w : World) (a : Option Addr) (v : List Cnt) : Prop :=
 ∀ i, i < v.length → ∃ b off ra rc, a = some ⟨b, off, none⟩ ∧ w.cell? ⟨b, off + i * 2, none⟩ = some (.slice ra (v.getD i default).r.length rc) ∧ vl.rowAt w ra (v.getD i default).r ∧ w.cell? ⟨b, off + i * 2 + 1, none⟩ = some (.int .i64 (v.getD i default).n)
def wfView (v : List Cnt) : Prop := ∀ c ∈ v, wfRow c.r ∧ c.r.length ≤ 9223372036854775807 ∧ (-9223372036854775808 ≤ c.n ∧ c.n ≤ 9223372036854775807)
theorem wfv_at {v : List Cnt} (h : wfView v) (k : Nat) (hk : k < v.length) : wfRow (v.getD k default).r ∧ (v.getD k default).r.length ≤ 9223372036854775807 ∧ (-9223372036854775808 ≤ (v.getD k default).n ∧ (v.getD k default).n ≤ 9223372036854775807) :=
 h _ (by simp [List.getD_eq_getElem?_getD, hk])
theorem viewAt_below {w w' : World} {a : Option Addr} {v : List Cnt} (h : viewAt w a v) (hb : Below w.heap.size w w') : viewAt w' a v := by
 intro i hi
 obtain ⟨b, o, ra, rc, e, x1, x2, x3⟩ := h i hi
 exact ⟨b, o, ra, rc, e, cL hb x1, rowAt_below x2 hb, cL hb x3⟩
theorem takeV (v : List Cnt) (k : Nat) (h : k < v.length) : v.take (k + 1) = v.take k ++ [v.getD k default] := by
 rw [List.take_succ_eq_append_getElem h]; simp [List.getD_eq_getElem?_getD, h]
end Go.Proofs.YtbfbgdinhiglaaaGreat.ch
namespace Go.Proofs.YtbfbgdinhiglaaaGreat.ch
open Go.ChangeShapes Go.WideShapes Go.ChangeAt Go.RowKit Go.Maps Go.WideMaps
open vl
set_option linter.unusedVariables false
set_option linter.unusedSimpArgs false
theorem vl_rowOk {r : List Cel} (h : keyErr r = 0) (hw : wfRow r) : rowOk r := by
 unfold keyErr at h
 split at h
 ·cases h
 ·rename_i h8
  exact ⟨by omega, fun c hc => ⟨all_ok h c hc, hw c hc⟩⟩
theorem wrap_is (x : Int) : IntKind.i64.wrap x = (x + 9223372036854775808) % 18446744073709551616 - 9223372036854775808 := by
 simp only [IntKind.wrap, IntKind.signed, IntKind.bits]
 simp
 split <;> omega
attribute [local go_sem ↓] Go.wp_at_zero Go.wp_at_succ
end Go.Proofs.YtbfbgdinhiglaaaGreat.ch
namespace Go.Proofs.YtbfbgdinhiglaaaGreat.ch
open Go.ChangeShapes Go.WideShapes Go.ChangeAt Go.RowKit Go.Maps Go.WideMaps
open vl
set_option linter.unusedVariables false
set_option linter.unusedSimpArgs false
theorem infoC : (Tryz.prog.info? 71).map (fun i => (i.zero, i.size, i.bytes)) = some (some (.agg #[.slice none 0 0, .int .i64 0]), 2, 32) := by kernel_rfl
theorem own_below {w w' : World} {base : Nat} {e : TypeId} {size : Nat} {v : Value} {n : Nat} {xs : List Value} (h : w.ownsRow base e size v n xs) (hb : Below w.heap.size w w') : w'.ownsRow base e size v n xs := by
 refine ⟨h.1, ?_⟩
 rcases h.2 with h0 | ⟨g, cap, cur, hv, h1, hg, h2⟩
 ·exact .inl h0
 ·have hlt : g < w.heap.size := by
   rcases Nat.lt_or_ge g w.heap.size with hlt | hge
   ·exact hlt
   ·rw [Array.getElem?_eq_none hge] at hg; cases hg
  exact .inr ⟨g, cap, cur, hv, h1, by rw [hb.block g hlt]; exact hg, h2⟩
end Go.Proofs.YtbfbgdinhiglaaaGreat.ch
