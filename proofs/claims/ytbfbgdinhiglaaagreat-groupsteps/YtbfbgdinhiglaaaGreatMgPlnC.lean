import Derived.Test.YtbfbgdinhiglaaaGreatMgPlnA
import Derived.Deep.Light
namespace Go.Proofs.YtbfbgdinhiglaaaGreat.pl
open Go.ChangeShapes Go.WideShapes Go.ChangeAt Go.RowKit
open vl
set_option linter.unusedVariables false
set_option linter.unusedSimpArgs false
def allOk (g : Bool) (l : List (Int × Int)) (k : Nat) : Prop := g = true → ∀ i, i < k → betw (l.getD i (0, 0)).1 1 4 = true
theorem kinds_iff (p : Pln) : decide (kindsOk p) = (betw p.kind 1 3 && betw p.mode 1 (if p.kind = 3 then 2 else 4) && (!p.grouped || figB p.aggs)) := by
 refine (dec_bool ?_).symm
 simp only [Bool.and_eq_true, Bool.or_eq_true, betw_iff, figB_iff, kindsOk, Bool.not_eq_true', and_assoc]
 cases p.grouped <;> simp
theorem figB_no {l : List (Int × Int)} {i : Nat} (hi : i < l.length) (h : betw (l.getD i (0, 0)).1 1 4 = false) : figB l = false := allB_no hi h
theorem figB_all {l : List (Int × Int)} (h : ∀ i, i < l.length → betw (l.getD i (0, 0)).1 1 4 = true) : figB l = true := allB_iff.2 h
theorem mode_lt {mode : Int} (h : betw mode 1 4 = true) : betw mode 1 2 = decide (¬ 2 < mode) := by
 have := (betw_iff _ _ _).1 h
 unfold betw
 by_cases h2 : 2 < mode
 ·rw [decide_eq_false (by omega), decide_eq_false (by omega)]
 ·rw [decide_eq_true (by omega), decide_eq_true (by omega)]
set_option maxRecDepth 10000 in
set_option maxHeartbeats 4000000 in
theorem wrongKind_any (p : Pln) (x : PA) (w : World) (hp : aggsAt w x.a p.aggs) (hl : p.aggs.length ≤ 9223372036854775807) :
 Calls Tryz.prog 58 #[planV p x] w fun e w' => e = .returned (.bool (!decide (kindsOk p))) ∧ Below w.heap.size w w' := by
 have HK : Hid ((!decide (kindsOk p)) = !(betw p.kind 1 3 && betw p.mode 1 (if p.kind = 3 then 2 else 4) && (!p.grouped || figB p.aggs))) := by show (!decide (kindsOk p)) = _; rw [kinds_iff]
 obtain ⟨res, hres⟩ : ∃ z, (!decide (kindsOk p)) = z := ⟨_, rfl⟩
 rw [hres] at HK ⊢
 clear hres
 have HF : Hid (∀ i, i < p.aggs.length → betw (p.aggs.getD i (0, 0)).1 1 4 = false → figB p.aggs = false) := fun i hi h => figB_no hi h
 have HT : Hid ((∀ i, i < p.aggs.length → betw (p.aggs.getD i (0, 0)).1 1 4 = true) → figB p.aggs = true) := figB_all
 obtain ⟨kind, mode, low, high, size, limit, left, right, lkeys, rkeys, grouped, group, aggs⟩ := p
 obtain ⟨l, lc, r, rc, lk, lkc, rk, rkc, g, gc, a, ac⟩ := x
 unfold planV
 dsimp only at HK HF HT hp hl ⊢
 obtain ⟨n12, h12⟩ : ∃ n, aggs.length = n := ⟨_, rfl⟩
 have HN : Hid (aggs.length = n12) := h12
 rw [h12] at HF HT hl ⊢
 clear h12
 have HP : Hid (aggsAt w a aggs) := hp
 clear hp
 cases h0 : betw kind 1 3 with
 | false =>
  rw [h0] at HK
  go_enter Tryz.func58, Tryz.ntmps58
  go_wp2_with
   (go_at_call 25; refine (within_any _ _ _ _).mono ?_; rintro e w' ⟨rfl, hw⟩; subst hw)
  go_ret
  exact ⟨ret_bool (by rw [HK.out]; rfl), bR.alloc nR _⟩
 | true =>
  rw [h0] at HK
  cases h1 : betw mode 1 4 with
  | false =>
   have HR : Hid (res = true) := by
    show res = true
    rw [HK.out]
    by_cases hk : kind = 3
    ·rw [if_pos hk]
     have : betw mode 1 2 = false := (betw_no _ _ _).2 (by have := (betw_no _ _ _).1 h1; omega)
     rw [this]; rfl
    ·rw [if_neg hk, h1]; rfl
   go_enter Tryz.func58, Tryz.ntmps58
   go_wp2_with
    (go_at_call 25; refine (within_any _ _ _ _).mono ?_; rintro e w' ⟨rfl, hw⟩; subst hw)
   go_ret
   exact ⟨ret_bool HR.out.symm, bR.alloc nR _⟩
  | true =>
   have HM := mode_lt h1
   by_cases hbad : kind = 3 ∧ 2 < mode
   ·obtain ⟨rfl, hm⟩ := hbad
    rw [if_pos rfl, HM, decide_eq_false (by omega)] at HK
    clear HM
    go_enter Tryz.func58, Tryz.ntmps58
    go_wp2_with
     (go_at_call 25; refine (within_any _ _ _ _).mono ?_; rintro e w' ⟨rfl, hw⟩; subst hw)
    go_ret
    exact ⟨ret_bool (by rw [HK.out]; rfl), bR.alloc nR _⟩
   ·have HR : Hid (res = !(!grouped || figB aggs)) := by
     show res = _
     rw [HK.out]
     by_cases hk : kind = 3
     ·rw [if_pos hk, HM, decide_eq_true (by omega)]; rfl
     ·rw [if_neg hk, h1]; rfl
    clear HK HM
    have hk3 : kind ≠ 3 ∨ mode ≤ 2 := by omega
    clear hbad
    rcases hk3 with hk | hk
    ·have hk' : (kind == 3) = false := by simpa using hk
     clear hk
     go_enter Tryz.func58, Tryz.ntmps58
     go_wp2_with
      (go_at_call 25; refine (within_any _ _ _ _).mono ?_; rintro e w' ⟨rfl, hw⟩; subst hw)
     go_loop [3] (fun i => ∃ k : Nat, k ≤ n12 ∧ i = .int .i64 k ∧ (grouped = true → ∀ i, i < k → betw (aggs.getD i (0, 0)).1 1 4 = true)) (fun i => n12 - (intOf i).toNat)
     case atStart => exact ⟨0, Nat.zero_le _, rfl, fun _ i hi => absurd hi (Nat.not_lt_zero i)⟩
     case round =>
      obtain ⟨k, hk, rfl, hall⟩ := hrel
      have HA : allOk grouped aggs k := hall
      clear hall
      by_cases hlt : k < n12
      ·obtain ⟨b, o, e, x1, x2⟩ := HP.out k (by rw [HN.out]; exact hlt)
       subst e
       have hblt := World.block_lt_of_cell? _ _ x1
       have hblt' : b < w.heap.size := hblt
       have i1 : (0 : Int) ≤ (k : Int) := by omega
       have i2 : (k : Int) < (n12 : Int) := by omega
       obtain ⟨z, hz⟩ : ∃ z, (aggs.getD k (0, 0)).1 = z := ⟨_, rfl⟩
       have HZ : Hid ((aggs.getD k (0, 0)).1 = z) := hz
       rw [hz] at x1
       clear x2 hblt hz
       cases grouped with
       | false =>
        go_wp2
        go_round
        case rel => exact ⟨k + 1, by omega, by go_num, fun h => absurd h (by decide)⟩
        case measure => simp [intOf]; omega
       | true =>
        cases hf : betw z 1 4 with
        | true =>
         go_wp2_with
          (go_at_call 25; refine (within_any _ _ _ _).mono ?_; rintro e w' ⟨rfl, hw⟩; subst hw)
         go_round
         case rel => exact ⟨k + 1, by omega, by go_num, fun _ i hi => by
          rcases Nat.lt_succ_iff_lt_or_eq.1 hi with h | h
          ·exact HA rfl i h
          ·rw [h, HZ.out]; exact hf⟩
         case measure => simp [intOf]; omega
        | false =>
         have HX : Hid (res = true) := by
          show res = true
          rw [HR.out, HF.out k hlt (by rw [HZ.out]; exact hf)]; rfl
         go_wp2_with
          (go_at_call 25; refine (within_any _ _ _ _).mono ?_; rintro e w' ⟨rfl, hw⟩; subst hw)
         go_ret
         exact ⟨ret_bool HX.out.symm, bR.alloc nR _⟩
      ·have HX : Hid (res = false) := by
        show res = false
        rw [HR.out]
        cases hg : grouped with
        | false => rfl
        | true => rw [HT.out (fun i hi => HA hg i (by omega))]; rfl
       go_wp2
       go_ret
       exact ⟨ret_bool HX.out.symm, bR.alloc nR _⟩
    ·have hk' : ¬ 2 < mode := by omega
     have hk4 : decide (2 < mode) = false := decide_eq_false hk'
     cases hk3 : (kind == 3)
     all_goals
      go_enter Tryz.func58, Tryz.ntmps58
      go_wp2_with
       (go_at_call 25; refine (within_any _ _ _ _).mono ?_; rintro e w' ⟨rfl, hw⟩; subst hw)
      go_loop [3] (fun i => ∃ k : Nat, k ≤ n12 ∧ i = .int .i64 k ∧ (grouped = true → ∀ i, i < k → betw (aggs.getD i (0, 0)).1 1 4 = true)) (fun i => n12 - (intOf i).toNat)
      case atStart => exact ⟨0, Nat.zero_le _, rfl, fun _ i hi => absurd hi (Nat.not_lt_zero i)⟩
      case round =>
       obtain ⟨k, hk, rfl, hall⟩ := hrel
       have HA : allOk grouped aggs k := hall
       clear hall
       by_cases hlt : k < n12
       ·obtain ⟨b, o, e, x1, x2⟩ := HP.out k (by rw [HN.out]; exact hlt)
        subst e
        have hblt := World.block_lt_of_cell? _ _ x1
        have hblt' : b < w.heap.size := hblt
        have i1 : (0 : Int) ≤ (k : Int) := by omega
        have i2 : (k : Int) < (n12 : Int) := by omega
        obtain ⟨z, hz⟩ : ∃ z, (aggs.getD k (0, 0)).1 = z := ⟨_, rfl⟩
        have HZ : Hid ((aggs.getD k (0, 0)).1 = z) := hz
        rw [hz] at x1
        clear x2 hblt hz
        cases grouped with
        | false =>
         go_wp2
         go_round
         case rel => exact ⟨k + 1, by omega, by go_num, fun h => absurd h (by decide)⟩
         case measure => simp [intOf]; omega
        | true =>
         cases hf : betw z 1 4 with
         | true =>
          go_wp2_with
           (go_at_call 25; refine (within_any _ _ _ _).mono ?_; rintro e w' ⟨rfl, hw⟩; subst hw)
          go_round
          case rel => exact ⟨k + 1, by omega, by go_num, fun _ i hi => by
           rcases Nat.lt_succ_iff_lt_or_eq.1 hi with h | h
           ·exact HA rfl i h
           ·rw [h, HZ.out]; exact hf⟩
          case measure => simp [intOf]; omega
         | false =>
          have HX : Hid (res = true) := by
           show res = true
           rw [HR.out, HF.out k hlt (by rw [HZ.out]; exact hf)]; rfl
          go_wp2_with
           (go_at_call 25; refine (within_any _ _ _ _).mono ?_; rintro e w' ⟨rfl, hw⟩; subst hw)
          go_ret
          exact ⟨ret_bool HX.out.symm, bR.alloc nR _⟩
       ·have HX : Hid (res = false) := by
         show res = false
         rw [HR.out]
         cases hg : grouped with
         | false => rfl
         | true => rw [HT.out (fun i hi => HA hg i (by omega))]; rfl
        go_wp2
        go_ret
        exact ⟨ret_bool HX.out.symm, bR.alloc nR _⟩
end Go.Proofs.YtbfbgdinhiglaaaGreat.pl
namespace Go.Proofs.YtbfbgdinhiglaaaGreat.pl
open Go.ChangeShapes Go.WideShapes Go.ChangeAt Go.RowKit
open vl
set_option linter.unusedVariables false
set_option linter.unusedSimpArgs false
set_option maxRecDepth 10000 in
set_option maxHeartbeats 4000000 in
theorem wrongRange_any (p : Pln) (x : PA) (w : World) :
 Calls Tryz.prog 59 #[planV p x] w fun e w' => e = .returned (.bool (!decide (rangesOk p))) ∧ Below w.heap.size w w' := by
 have HK : Hid ((!decide (rangesOk p)) = !(spanB p && sizeB p && betw p.limit 1 64)) := by show (!decide (rangesOk p)) = _; rw [ranges_iff]
 have HP : Hid (spanB p = if p.kind = 1 then tm.fitB p.low && tm.fitB p.high else decide (p.low = 0) && decide (p.high = 0)) := rfl
 have HS : Hid (sizeB p = if p.kind = 2 then betw p.size 1 1099511627776 else decide (p.size = 0)) := rfl
 obtain ⟨res, hres⟩ : ∃ z, (!decide (rangesOk p)) = z := ⟨_, rfl⟩
 rw [hres] at HK ⊢
 rw [HP.out, HS.out] at HK
 clear hres HP HS
 obtain ⟨kind, mode, low, high, size, limit, left, right, lkeys, rkeys, grouped, group, aggs⟩ := p
 obtain ⟨l, lc, r, rc, lk, lkc, rk, rkc, g, gc, a, ac⟩ := x
 unfold planV
 dsimp only at HK ⊢
 by_cases h1 : kind = 1
 ·subst h1
  rw [if_pos rfl, if_neg (by decide)] at HK
  cases hl : tm.fitB low <;> rw [hl] at HK
  ·go_enter Tryz.func59, Tryz.ntmps59
   go_wp2_with
    (first | (go_at_call 25; refine (within_any _ _ _ _).mono ?_; rintro e w' ⟨rfl, hw⟩; subst hw) | (go_at_call 107; refine (tm.rfits_any _ _).mono ?_; rintro e w' ⟨rfl, hw⟩; subst hw))
   go_ret
   exact ⟨ret_bool (by rw [HK.out]; first | rfl | simp), bR.alloc nR _⟩
  ·cases hh : tm.fitB high <;> rw [hh] at HK
   ·go_enter Tryz.func59, Tryz.ntmps59
    go_wp2_with
     (first | (go_at_call 25; refine (within_any _ _ _ _).mono ?_; rintro e w' ⟨rfl, hw⟩; subst hw) | (go_at_call 107; refine (tm.rfits_any _ _).mono ?_; rintro e w' ⟨rfl, hw⟩; subst hw))
    go_ret
    exact ⟨ret_bool (by rw [HK.out]; first | rfl | simp), bR.alloc nR _⟩
   ·by_cases hs : size = 0
    ·subst hs
     go_enter Tryz.func59, Tryz.ntmps59
     go_wp2_with
      (first | (go_at_call 25; refine (within_any _ _ _ _).mono ?_; rintro e w' ⟨rfl, hw⟩; subst hw) | (go_at_call 107; refine (tm.rfits_any _ _).mono ?_; rintro e w' ⟨rfl, hw⟩; subst hw))
     go_ret
     exact ⟨ret_bool (by rw [HK.out]; first | rfl | simp), bR.alloc nR _⟩
    ·have hs' : (size != 0) = true := by simpa using hs
     rw [decide_eq_false hs] at HK
     clear hs
     go_enter Tryz.func59, Tryz.ntmps59
     go_wp2_with
      (first | (go_at_call 25; refine (within_any _ _ _ _).mono ?_; rintro e w' ⟨rfl, hw⟩; subst hw) | (go_at_call 107; refine (tm.rfits_any _ _).mono ?_; rintro e w' ⟨rfl, hw⟩; subst hw))
     go_ret
     exact ⟨ret_bool (by rw [HK.out]; first | rfl | simp), bR.alloc nR _⟩
 ·rw [if_neg h1] at HK
  have h1' : (kind == 1) = false := by simpa using h1
  have h1'' : (kind != 1) = true := by simpa using h1
  by_cases hl : low = 0
  ·subst hl
   rw [show decide ((0 : Int) = 0) = true by decide] at HK
   by_cases hh : high = 0
   ·subst hh
    rw [show decide ((0 : Int) = 0) = true by decide] at HK
    by_cases h2 : kind = 2
    ·subst h2
     rw [if_pos rfl] at HK
     cases hs : betw size 1 1099511627776 <;> rw [hs] at HK
     all_goals
      go_enter Tryz.func59, Tryz.ntmps59
      go_wp2_with
       (first | (go_at_call 25; refine (within_any _ _ _ _).mono ?_; rintro e w' ⟨rfl, hw⟩; subst hw) | (go_at_call 107; refine (tm.rfits_any _ _).mono ?_; rintro e w' ⟨rfl, hw⟩; subst hw))
      go_ret
      exact ⟨ret_bool (by rw [HK.out]; first | rfl | simp), bR.alloc nR _⟩
    ·rw [if_neg h2] at HK
     have h2' : (kind == 2) = false := by simpa using h2
     have h2'' : (kind != 2) = true := by simpa using h2
     clear h1 h2
     by_cases hs : size = 0
     ·subst hs
      go_enter Tryz.func59, Tryz.ntmps59
      go_wp2_with
       (first | (go_at_call 25; refine (within_any _ _ _ _).mono ?_; rintro e w' ⟨rfl, hw⟩; subst hw) | (go_at_call 107; refine (tm.rfits_any _ _).mono ?_; rintro e w' ⟨rfl, hw⟩; subst hw))
      go_ret
      exact ⟨ret_bool (by rw [HK.out]; first | rfl | simp), bR.alloc nR _⟩
     ·have hs' : (size != 0) = true := by simpa using hs
      rw [decide_eq_false hs] at HK
      clear hs
      go_enter Tryz.func59, Tryz.ntmps59
      go_wp2_with
       (first | (go_at_call 25; refine (within_any _ _ _ _).mono ?_; rintro e w' ⟨rfl, hw⟩; subst hw) | (go_at_call 107; refine (tm.rfits_any _ _).mono ?_; rintro e w' ⟨rfl, hw⟩; subst hw))
      go_ret
      exact ⟨ret_bool (by rw [HK.out]; first | rfl | simp), bR.alloc nR _⟩
   ·have hh' : (high != 0) = true := by simpa using hh
    rw [decide_eq_false hh] at HK
    clear hh h1
    go_enter Tryz.func59, Tryz.ntmps59
    go_wp2_with
     (first | (go_at_call 25; refine (within_any _ _ _ _).mono ?_; rintro e w' ⟨rfl, hw⟩; subst hw) | (go_at_call 107; refine (tm.rfits_any _ _).mono ?_; rintro e w' ⟨rfl, hw⟩; subst hw))
    go_ret
    exact ⟨ret_bool (by rw [HK.out]; first | rfl | simp), bR.alloc nR _⟩
  ·have hl' : (low != 0) = true := by simpa using hl
   rw [decide_eq_false hl] at HK
   clear hl h1
   go_enter Tryz.func59, Tryz.ntmps59
   go_wp2_with
    (first | (go_at_call 25; refine (within_any _ _ _ _).mono ?_; rintro e w' ⟨rfl, hw⟩; subst hw) | (go_at_call 107; refine (tm.rfits_any _ _).mono ?_; rintro e w' ⟨rfl, hw⟩; subst hw))
   go_ret
   exact ⟨ret_bool (by rw [HK.out]; first | rfl | simp), bR.alloc nR _⟩
set_option maxRecDepth 10000 in
set_option maxHeartbeats 4000000 in
theorem wrongMany_any (p : Pln) (x : PA) (w : World) (hw : wfPlan p) :
 Calls Tryz.prog 60 #[planV p x] w fun e w' => e = .returned (.bool (!decide (manyOk p))) ∧ Below w.heap.size w w' := by
 have HK : Hid ((!decide (manyOk p)) = !(betw p.left.length 1 4 && (betw p.right.length 1 4 && (betw p.lkeys.length 1 4 && betw p.rkeys.length 1 4)) && groupB p)) := by show (!decide (manyOk p)) = _; rw [many_iff]; rfl
 have HG : Hid (groupB p = if p.grouped = true then betw p.aggs.length 1 4 && decide ((p.group.length : Int) ≤ 8 - p.aggs.length) else decide (p.group.length = 0) && decide (p.aggs.length = 0)) := rfl
 rw [HG.out] at HK
 obtain ⟨res, hres⟩ : ∃ z, (!decide (manyOk p)) = z := ⟨_, rfl⟩
 rw [hres] at HK ⊢
 have l11 := hw.g
 have l12 := hw.a
 clear hres HG hw
 obtain ⟨kind, mode, low, high, size, limit, left, right, lkeys, rkeys, grouped, group, aggs⟩ := p
 obtain ⟨l, lc, r, rc, lk, lkc, rk, rkc, g, gc, a, ac⟩ := x
 unfold planV
 dsimp only at HK l11 l12 ⊢
 obtain ⟨n6, h6⟩ : ∃ n, left.length = n := ⟨_, rfl⟩
 obtain ⟨n7, h7⟩ : ∃ n, right.length = n := ⟨_, rfl⟩
 obtain ⟨n8, h8⟩ : ∃ n, lkeys.length = n := ⟨_, rfl⟩
 obtain ⟨n9, h9⟩ : ∃ n, rkeys.length = n := ⟨_, rfl⟩
 obtain ⟨n11, h11⟩ : ∃ n, group.length = n := ⟨_, rfl⟩
 obtain ⟨n12, h12⟩ : ∃ n, aggs.length = n := ⟨_, rfl⟩
 rw [h6, h7, h8, h9, h11, h12] at HK
 rw [h11] at l11
 rw [h12] at l12
 rw [h6, h7, h8, h9, h11, h12]
 clear h6 h7 h8 h9 h11 h12
 cases b6 : betw n6 1 4 <;> rw [b6] at HK
 ·go_enter Tryz.func60, Tryz.ntmps60
  go_wp2_with
   (first | (go_at_call 25; refine (within_any _ _ _ _).mono ?_; rintro e w' ⟨rfl, hw⟩; subst hw) | (go_at_call 107; refine (tm.rfits_any _ _).mono ?_; rintro e w' ⟨rfl, hw⟩; subst hw))
  go_ret
  exact ⟨ret_bool (by rw [HK.out]; first | rfl | simp), bR.alloc nR _⟩
 cases b7 : betw n7 1 4 <;> rw [b7] at HK
 ·go_enter Tryz.func60, Tryz.ntmps60
  go_wp2_with
   (first | (go_at_call 25; refine (within_any _ _ _ _).mono ?_; rintro e w' ⟨rfl, hw⟩; subst hw) | (go_at_call 107; refine (tm.rfits_any _ _).mono ?_; rintro e w' ⟨rfl, hw⟩; subst hw))
  go_ret
  exact ⟨ret_bool (by rw [HK.out]; first | rfl | simp), bR.alloc nR _⟩
 cases b8 : betw n8 1 4 <;> rw [b8] at HK
 ·go_enter Tryz.func60, Tryz.ntmps60
  go_wp2_with
   (first | (go_at_call 25; refine (within_any _ _ _ _).mono ?_; rintro e w' ⟨rfl, hw⟩; subst hw) | (go_at_call 107; refine (tm.rfits_any _ _).mono ?_; rintro e w' ⟨rfl, hw⟩; subst hw))
  go_ret
  exact ⟨ret_bool (by rw [HK.out]; first | rfl | simp), bR.alloc nR _⟩
 cases b9 : betw n9 1 4 <;> rw [b9] at HK
 ·go_enter Tryz.func60, Tryz.ntmps60
  go_wp2_with
   (first | (go_at_call 25; refine (within_any _ _ _ _).mono ?_; rintro e w' ⟨rfl, hw⟩; subst hw) | (go_at_call 107; refine (tm.rfits_any _ _).mono ?_; rintro e w' ⟨rfl, hw⟩; subst hw))
  go_ret
  exact ⟨ret_bool (by rw [HK.out]; first | rfl | simp), bR.alloc nR _⟩
 cases grouped
 ·rw [if_neg (by decide)] at HK
  by_cases h12 : n12 = 0
  ·subst h12
   go_enter Tryz.func60, Tryz.ntmps60
   go_wp2_with
    (first | (go_at_call 25; refine (within_any _ _ _ _).mono ?_; rintro e w' ⟨rfl, hw⟩; subst hw) | (go_at_call 107; refine (tm.rfits_any _ _).mono ?_; rintro e w' ⟨rfl, hw⟩; subst hw))
   go_ret
   exact ⟨ret_bool (by rw [HK.out]; exact Bool.eq_iff_iff.2 (by simp; try omega)), bR.alloc nR _⟩
  ·have h12' : (0 : Int) < n12 := by omega
   rw [decide_eq_false h12, Bool.and_false] at HK
   clear h12
   go_enter Tryz.func60, Tryz.ntmps60
   go_wp2_with
    (first | (go_at_call 25; refine (within_any _ _ _ _).mono ?_; rintro e w' ⟨rfl, hw⟩; subst hw) | (go_at_call 107; refine (tm.rfits_any _ _).mono ?_; rintro e w' ⟨rfl, hw⟩; subst hw))
   go_ret
   exact ⟨ret_bool (by rw [HK.out]; first | rfl | simp), bR.alloc nR _⟩
 ·rw [if_pos rfl] at HK
  cases b12 : betw n12 1 4 <;> rw [b12] at HK
  ·go_enter Tryz.func60, Tryz.ntmps60
   go_wp2_with
    (first | (go_at_call 25; refine (within_any _ _ _ _).mono ?_; rintro e w' ⟨rfl, hw⟩; subst hw) | (go_at_call 107; refine (tm.rfits_any _ _).mono ?_; rintro e w' ⟨rfl, hw⟩; subst hw))
   go_ret
   exact ⟨ret_bool (by rw [HK.out]; first | rfl | simp), bR.alloc nR _⟩
  ·obtain ⟨u1, u2⟩ := (betw_iff _ _ _).1 b12
   go_enter Tryz.func60, Tryz.ntmps60
   go_wp2_with
    (first | (go_at_call 25; refine (within_any _ _ _ _).mono ?_; rintro e w' ⟨rfl, hw⟩; subst hw) | (go_at_call 107; refine (tm.rfits_any _ _).mono ?_; rintro e w' ⟨rfl, hw⟩; subst hw))
   go_ret
   exact ⟨ret_bool (by rw [HK.out]; exact Bool.eq_iff_iff.2 (by simp; try omega)), bR.alloc nR _⟩
end Go.Proofs.YtbfbgdinhiglaaaGreat.pl
