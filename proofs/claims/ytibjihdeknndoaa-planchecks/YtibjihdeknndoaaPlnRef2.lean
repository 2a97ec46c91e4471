/- The document's wrongRange, wrongMany. -/
import Derived.Test.YtibjihdeknndoaaPlnRef
namespace Go.Proofs.Ytibjihdeknndoaa.pl
open Go.ChangeShapes Go.WideShapes Go.ChangeAt Go.RowKit
open vl
set_option linter.unusedVariables false
set_option linter.unusedSimpArgs false
set_option maxRecDepth 10000 in
set_option maxHeartbeats 4000000 in
theorem wrongRange_any (p : Pln) (x : PA) (w : World) :
    Calls Try.prog 27 #[planV p x] w fun e w' => e = .returned (.bool (!decide (rangesOk p))) ∧ Below w.heap.size w w' := by
  have HK : Hid ((!decide (rangesOk p)) = !(spanB p && sizeB p && betw p.limit 1 64)) := by show (!decide (rangesOk p)) = _; rw [ranges_iff]
  have HP : Hid (spanB p = if p.kind = 1 then tm.fitB p.low && tm.fitB p.high else decide (p.low = 0) && decide (p.high = 0)) := rfl
  have HS : Hid (sizeB p = if p.kind = 2 then betw p.size 1 1099511627776 else decide (p.size = 0)) := rfl
  obtain ⟨res, hres⟩ : ∃ z, (!decide (rangesOk p)) = z := ⟨_, rfl⟩
  rw [hres] at HK ⊢
  rw [HP.out, HS.out] at HK
  clear hres HP HS
  obtain ⟨kind, mode, low, high, size, limit, left, right, lkeys, rkeys, grouped, group, aggs⟩ := p
  obtain ⟨l, lc, r, rc, lk, lkc, rk, rkc, g, gc, a, ac⟩ := x
  unfold planV
  dsimp only at HK ⊢
  by_cases h1 : kind = 1
  · subst h1
    rw [if_pos rfl, if_neg (by decide)] at HK
    cases hl : tm.fitB low <;> rw [hl] at HK
    · go_enter Try.func27, Try.ntmps27
      go_wp2_with
        (first | (go_at_call 25; refine (within_any _ _ _ _).mono ?_; rintro e w' ⟨rfl, hw⟩; subst hw) | (go_at_call 18; refine (tm.rfits_any _ _).mono ?_; rintro e w' ⟨rfl, hw⟩; subst hw))
      go_ret
      exact ⟨ret_bool (by rw [HK.out]; first | rfl | simp), (Below.refl _ _).alloc (Nat.le_refl _) _⟩
    · cases hh : tm.fitB high <;> rw [hh] at HK
      · go_enter Try.func27, Try.ntmps27
        go_wp2_with
          (first | (go_at_call 25; refine (within_any _ _ _ _).mono ?_; rintro e w' ⟨rfl, hw⟩; subst hw) | (go_at_call 18; refine (tm.rfits_any _ _).mono ?_; rintro e w' ⟨rfl, hw⟩; subst hw))
        go_ret
        exact ⟨ret_bool (by rw [HK.out]; first | rfl | simp), (Below.refl _ _).alloc (Nat.le_refl _) _⟩
      · by_cases hs : size = 0
        · subst hs
          go_enter Try.func27, Try.ntmps27
          go_wp2_with
            (first | (go_at_call 25; refine (within_any _ _ _ _).mono ?_; rintro e w' ⟨rfl, hw⟩; subst hw) | (go_at_call 18; refine (tm.rfits_any _ _).mono ?_; rintro e w' ⟨rfl, hw⟩; subst hw))
          go_ret
          exact ⟨ret_bool (by rw [HK.out]; first | rfl | simp), (Below.refl _ _).alloc (Nat.le_refl _) _⟩
        · have hs' : (size != 0) = true := by simpa using hs
          rw [decide_eq_false hs] at HK
          clear hs
          go_enter Try.func27, Try.ntmps27
          go_wp2_with
            (first | (go_at_call 25; refine (within_any _ _ _ _).mono ?_; rintro e w' ⟨rfl, hw⟩; subst hw) | (go_at_call 18; refine (tm.rfits_any _ _).mono ?_; rintro e w' ⟨rfl, hw⟩; subst hw))
          go_ret
          exact ⟨ret_bool (by rw [HK.out]; first | rfl | simp), (Below.refl _ _).alloc (Nat.le_refl _) _⟩
  · rw [if_neg h1] at HK
    have h1' : (kind == 1) = false := by simpa using h1
    have h1'' : (kind != 1) = true := by simpa using h1
    by_cases hl : low = 0
    · subst hl
      rw [show decide ((0 : Int) = 0) = true by decide] at HK
      by_cases hh : high = 0
      · subst hh
        rw [show decide ((0 : Int) = 0) = true by decide] at HK
        by_cases h2 : kind = 2
        · subst h2
          rw [if_pos rfl] at HK
          cases hs : betw size 1 1099511627776 <;> rw [hs] at HK
          all_goals
            go_enter Try.func27, Try.ntmps27
            go_wp2_with
              (first | (go_at_call 25; refine (within_any _ _ _ _).mono ?_; rintro e w' ⟨rfl, hw⟩; subst hw) | (go_at_call 18; refine (tm.rfits_any _ _).mono ?_; rintro e w' ⟨rfl, hw⟩; subst hw))
            go_ret
            exact ⟨ret_bool (by rw [HK.out]; first | rfl | simp), (Below.refl _ _).alloc (Nat.le_refl _) _⟩
        · rw [if_neg h2] at HK
          have h2' : (kind == 2) = false := by simpa using h2
          have h2'' : (kind != 2) = true := by simpa using h2
          clear h1 h2
          by_cases hs : size = 0
          · subst hs
            go_enter Try.func27, Try.ntmps27
            go_wp2_with
              (first | (go_at_call 25; refine (within_any _ _ _ _).mono ?_; rintro e w' ⟨rfl, hw⟩; subst hw) | (go_at_call 18; refine (tm.rfits_any _ _).mono ?_; rintro e w' ⟨rfl, hw⟩; subst hw))
            go_ret
            exact ⟨ret_bool (by rw [HK.out]; first | rfl | simp), (Below.refl _ _).alloc (Nat.le_refl _) _⟩
          · have hs' : (size != 0) = true := by simpa using hs
            rw [decide_eq_false hs] at HK
            clear hs
            go_enter Try.func27, Try.ntmps27
            go_wp2_with
              (first | (go_at_call 25; refine (within_any _ _ _ _).mono ?_; rintro e w' ⟨rfl, hw⟩; subst hw) | (go_at_call 18; refine (tm.rfits_any _ _).mono ?_; rintro e w' ⟨rfl, hw⟩; subst hw))
            go_ret
            exact ⟨ret_bool (by rw [HK.out]; first | rfl | simp), (Below.refl _ _).alloc (Nat.le_refl _) _⟩
      · have hh' : (high != 0) = true := by simpa using hh
        rw [decide_eq_false hh] at HK
        clear hh h1
        go_enter Try.func27, Try.ntmps27
        go_wp2_with
          (first | (go_at_call 25; refine (within_any _ _ _ _).mono ?_; rintro e w' ⟨rfl, hw⟩; subst hw) | (go_at_call 18; refine (tm.rfits_any _ _).mono ?_; rintro e w' ⟨rfl, hw⟩; subst hw))
        go_ret
        exact ⟨ret_bool (by rw [HK.out]; first | rfl | simp), (Below.refl _ _).alloc (Nat.le_refl _) _⟩
    · have hl' : (low != 0) = true := by simpa using hl
      rw [decide_eq_false hl] at HK
      clear hl h1
      go_enter Try.func27, Try.ntmps27
      go_wp2_with
        (first | (go_at_call 25; refine (within_any _ _ _ _).mono ?_; rintro e w' ⟨rfl, hw⟩; subst hw) | (go_at_call 18; refine (tm.rfits_any _ _).mono ?_; rintro e w' ⟨rfl, hw⟩; subst hw))
      go_ret
      exact ⟨ret_bool (by rw [HK.out]; first | rfl | simp), (Below.refl _ _).alloc (Nat.le_refl _) _⟩
set_option maxRecDepth 10000 in
set_option maxHeartbeats 4000000 in
theorem wrongMany_any (p : Pln) (x : PA) (w : World) (hw : wfPlan p) :
    Calls Try.prog 28 #[planV p x] w fun e w' => e = .returned (.bool (!decide (manyOk p))) ∧ Below w.heap.size w w' := by
  have HK : Hid ((!decide (manyOk p)) = !(betw p.left.length 1 4 && (betw p.right.length 1 4 && (betw p.lkeys.length 1 4 && betw p.rkeys.length 1 4)) && groupB p)) := by show (!decide (manyOk p)) = _; rw [many_iff]; rfl
  have HG : Hid (groupB p = if p.grouped = true then betw p.aggs.length 1 4 && decide ((p.group.length : Int) ≤ 8 - p.aggs.length) else decide (p.group.length = 0) && decide (p.aggs.length = 0)) := rfl
  rw [HG.out] at HK
  obtain ⟨res, hres⟩ : ∃ z, (!decide (manyOk p)) = z := ⟨_, rfl⟩
  rw [hres] at HK ⊢
  have l11 := hw.g
  have l12 := hw.a
  clear hres HG hw
  obtain ⟨kind, mode, low, high, size, limit, left, right, lkeys, rkeys, grouped, group, aggs⟩ := p
  obtain ⟨l, lc, r, rc, lk, lkc, rk, rkc, g, gc, a, ac⟩ := x
  unfold planV
  dsimp only at HK l11 l12 ⊢
  obtain ⟨n6, h6⟩ : ∃ n, left.length = n := ⟨_, rfl⟩
  obtain ⟨n7, h7⟩ : ∃ n, right.length = n := ⟨_, rfl⟩
  obtain ⟨n8, h8⟩ : ∃ n, lkeys.length = n := ⟨_, rfl⟩
  obtain ⟨n9, h9⟩ : ∃ n, rkeys.length = n := ⟨_, rfl⟩
  obtain ⟨n11, h11⟩ : ∃ n, group.length = n := ⟨_, rfl⟩
  obtain ⟨n12, h12⟩ : ∃ n, aggs.length = n := ⟨_, rfl⟩
  rw [h6, h7, h8, h9, h11, h12] at HK
  rw [h11] at l11
  rw [h12] at l12
  rw [h6, h7, h8, h9, h11, h12]
  clear h6 h7 h8 h9 h11 h12
  cases b6 : betw n6 1 4 <;> rw [b6] at HK
  · go_enter Try.func28, Try.ntmps28
    go_wp2_with
      (first | (go_at_call 25; refine (within_any _ _ _ _).mono ?_; rintro e w' ⟨rfl, hw⟩; subst hw) | (go_at_call 18; refine (tm.rfits_any _ _).mono ?_; rintro e w' ⟨rfl, hw⟩; subst hw))
    go_ret
    exact ⟨ret_bool (by rw [HK.out]; first | rfl | simp), (Below.refl _ _).alloc (Nat.le_refl _) _⟩
  cases b7 : betw n7 1 4 <;> rw [b7] at HK
  · go_enter Try.func28, Try.ntmps28
    go_wp2_with
      (first | (go_at_call 25; refine (within_any _ _ _ _).mono ?_; rintro e w' ⟨rfl, hw⟩; subst hw) | (go_at_call 18; refine (tm.rfits_any _ _).mono ?_; rintro e w' ⟨rfl, hw⟩; subst hw))
    go_ret
    exact ⟨ret_bool (by rw [HK.out]; first | rfl | simp), (Below.refl _ _).alloc (Nat.le_refl _) _⟩
  cases b8 : betw n8 1 4 <;> rw [b8] at HK
  · go_enter Try.func28, Try.ntmps28
    go_wp2_with
      (first | (go_at_call 25; refine (within_any _ _ _ _).mono ?_; rintro e w' ⟨rfl, hw⟩; subst hw) | (go_at_call 18; refine (tm.rfits_any _ _).mono ?_; rintro e w' ⟨rfl, hw⟩; subst hw))
    go_ret
    exact ⟨ret_bool (by rw [HK.out]; first | rfl | simp), (Below.refl _ _).alloc (Nat.le_refl _) _⟩
  cases b9 : betw n9 1 4 <;> rw [b9] at HK
  · go_enter Try.func28, Try.ntmps28
    go_wp2_with
      (first | (go_at_call 25; refine (within_any _ _ _ _).mono ?_; rintro e w' ⟨rfl, hw⟩; subst hw) | (go_at_call 18; refine (tm.rfits_any _ _).mono ?_; rintro e w' ⟨rfl, hw⟩; subst hw))
    go_ret
    exact ⟨ret_bool (by rw [HK.out]; first | rfl | simp), (Below.refl _ _).alloc (Nat.le_refl _) _⟩
  cases grouped
  · rw [if_neg (by decide)] at HK
    by_cases h12 : n12 = 0
    · subst h12
      go_enter Try.func28, Try.ntmps28
      go_wp2_with
        (first | (go_at_call 25; refine (within_any _ _ _ _).mono ?_; rintro e w' ⟨rfl, hw⟩; subst hw) | (go_at_call 18; refine (tm.rfits_any _ _).mono ?_; rintro e w' ⟨rfl, hw⟩; subst hw))
      go_ret
      exact ⟨ret_bool (by rw [HK.out]; exact Bool.eq_iff_iff.2 (by simp; try omega)), (Below.refl _ _).alloc (Nat.le_refl _) _⟩
    · have h12' : (0 : Int) < n12 := by omega
      rw [decide_eq_false h12, Bool.and_false] at HK
      clear h12
      go_enter Try.func28, Try.ntmps28
      go_wp2_with
        (first | (go_at_call 25; refine (within_any _ _ _ _).mono ?_; rintro e w' ⟨rfl, hw⟩; subst hw) | (go_at_call 18; refine (tm.rfits_any _ _).mono ?_; rintro e w' ⟨rfl, hw⟩; subst hw))
      go_ret
      exact ⟨ret_bool (by rw [HK.out]; first | rfl | simp), (Below.refl _ _).alloc (Nat.le_refl _) _⟩
  · rw [if_pos rfl] at HK
    cases b12 : betw n12 1 4 <;> rw [b12] at HK
    · go_enter Try.func28, Try.ntmps28
      go_wp2_with
        (first | (go_at_call 25; refine (within_any _ _ _ _).mono ?_; rintro e w' ⟨rfl, hw⟩; subst hw) | (go_at_call 18; refine (tm.rfits_any _ _).mono ?_; rintro e w' ⟨rfl, hw⟩; subst hw))
      go_ret
      exact ⟨ret_bool (by rw [HK.out]; first | rfl | simp), (Below.refl _ _).alloc (Nat.le_refl _) _⟩
    · obtain ⟨u1, u2⟩ := (betw_iff _ _ _).1 b12
      go_enter Try.func28, Try.ntmps28
      go_wp2_with
        (first | (go_at_call 25; refine (within_any _ _ _ _).mono ?_; rintro e w' ⟨rfl, hw⟩; subst hw) | (go_at_call 18; refine (tm.rfits_any _ _).mono ?_; rintro e w' ⟨rfl, hw⟩; subst hw))
      go_ret
      exact ⟨ret_bool (by rw [HK.out]; exact Bool.eq_iff_iff.2 (by simp; try omega)), (Below.refl _ _).alloc (Nat.le_refl _) _⟩
end Go.Proofs.Ytibjihdeknndoaa.pl
