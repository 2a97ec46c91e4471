/- The walk of the law TimesPass, a theorem for each way of its windows: it answers true whatever it is handed. -/
import Derived.Test.YtkjiaeolodemlaeTimesBegun
namespace Go.Proofs.Ytkjiaeolodemlae.tm
open Go.ChangeShapes Go.WideShapes Go.ChangeAt Go.RowKit
set_option linter.unusedVariables false

theorem fit2_bd {m s : Int} (h : fit2 m s = true) : (-1099511627776 ≤ m ∧ m ≤ 1099511627776) ∧ (-1099511627776 ≤ s ∧ s ≤ 1099511627776) := by
  simpa only [fit2, Bool.and_eq_true, fit_iff] using h

/-! ### one contract a function, its answer a plain function -/
def untilN (m s : Int) : Int := if fit2 m s = true then (if m = 1099511627776 then 1099511627776 else m - s) else 0
def untilE (m s : Int) : Int := if fit2 m s = true then 0 else 3
theorem until_fn (m s : Int) (w : World) :
    Calls Try.prog 14 #[.int .i64 m, .int .i64 s] w fun e w' => e = .returned (.tuple #[.int .i64 (untilN m s), .int .i64 (untilE m s)]) ∧ Grown w w' := by
  unfold untilN untilE
  by_cases h : fit2 m s = true
  · have hb := fit2_bd h
    rw [if_pos h, if_pos h]
    by_cases hm : m = 1099511627776
    · subst hm; exact until_top s w h
    · rw [if_neg hm]
      exact until_yes m s w h (by simpa using hm) hb.1.1 hb.1.2 hb.2.1 hb.2.2
  · rw [if_neg h, if_neg h]
    exact until_no m s w (by simpa using h)
def meetsE (l r lo hi : Int) : Int := if fit4 l r lo hi = true then (if hi < lo then 1 else 0) else 3
def meetsB (l r lo hi : Int) : Bool := if fit4 l r lo hi = true then (if hi < lo then false else meetB l r lo hi) else false
theorem meets_fn (l r lo hi : Int) (w : World) :
    Calls Try.prog 13 #[.int .i64 l, .int .i64 r, .int .i64 lo, .int .i64 hi] w fun e w' => e = .returned (.tuple #[.bool (meetsB l r lo hi), .int .i64 (meetsE l r lo hi)]) ∧ Grown w w' := by
  unfold meetsB meetsE
  by_cases h : fit4 l r lo hi = true
  · rw [if_pos h, if_pos h]
    by_cases hlt : hi < lo
    · rw [if_pos hlt, if_pos hlt]; exact meets_form l r lo hi w h hlt
    · rw [if_neg hlt, if_neg hlt]; exact meets_yes l r lo hi w h hlt
  · rw [if_neg h, if_neg h]; exact meets_no l r lo hi w (by simpa using h)
def winE (t s : Int) : Int := if fitB t = true ∧ 1 ≤ s ∧ s ≤ 1099511627776 then 0 else 3
def winA (t s : Int) : Int := if fitB t = true ∧ 1 ≤ s ∧ s ≤ 1099511627776 then start t s else 0
def winB (t s : Int) : Int := if fitB t = true ∧ 1 ≤ s ∧ s ≤ 1099511627776 then start t s + s else 0
theorem window_fn (t s : Int) (w : World) :
    Calls Try.prog 9 #[.int .i64 t, .int .i64 s] w fun e w' => e = .returned (.tuple #[.int .i64 (winA t s), .int .i64 (winB t s), .int .i64 (winE t s)]) ∧ w' = w := by
  unfold winA winB winE
  by_cases h : fitB t = true ∧ 1 ≤ s ∧ s ≤ 1099511627776
  · rw [if_pos h, if_pos h, if_pos h]; exact window_yes t s w h.1 h.2.1 h.2.2
  · rw [if_neg h, if_neg h, if_neg h]
    refine window_range t s w ?_
    cases hf : fitB t
    · exact .inl rfl
    · have : ¬ (1 ≤ s ∧ s ≤ 1099511627776) := fun k => h ⟨hf, k⟩
      omega

/-- the ways through the first test: none of them comes to 'return false' -/
theorem ways (m s t u lo : Int) :
    (untilE m s == 0) = false ∨ (untilE m s = 0 ∧ (meetsE t u lo s == 0) = false) ∨
    (untilE m s = 0 ∧ meetsE t u lo s = 0 ∧ ¬ t ≤ untilN m s) ∨
    (untilE m s = 0 ∧ meetsE t u lo s = 0 ∧ t ≤ untilN m s ∧ ¬ m < u) ∨
    (untilE m s = 0 ∧ meetsE t u lo s = 0 ∧ t ≤ untilN m s ∧ m < u ∧ meetsB t u lo s = false) := by
  unfold untilE
  by_cases h2 : fit2 m s = true
  · rw [if_pos h2]
    refine .inr ?_
    unfold meetsE
    by_cases h4 : fit4 t u lo s = true
    · rw [if_pos h4]
      by_cases hlo : s < lo
      · rw [if_pos hlo]; exact .inl ⟨rfl, rfl⟩
      · rw [if_neg hlo]
        refine .inr ?_
        have bd := fit4_bd h4
        have bm := fit2_bd h2
        by_cases ht : t ≤ untilN m s
        · by_cases hu : m < u
          · refine .inr (.inr ⟨rfl, rfl, ht, hu, ?_⟩)
            unfold meetsB
            rw [if_pos h4, if_neg hlo]
            unfold meetB
            unfold untilN at ht
            rw [if_pos h2] at ht
            split at ht
            · omega
            · exact decide_eq_false (by omega)
          · exact .inr (.inl ⟨rfl, rfl, ht, hu⟩)
        · exact .inl ⟨rfl, rfl, ht⟩
    · rw [if_neg h4]; exact .inl ⟨rfl, rfl⟩
  · rw [if_neg h2]; exact .inl rfl

set_option maxHeartbeats 4000000 in
theorem pass_no (m s t u lo z : Int) (w : World) (hz : (winE t z == 0) = false) :
    Calls Try.prog 6 #[.int .i64 m, .int .i64 s, .int .i64 t, .int .i64 u, .int .i64 lo, .int .i64 z] w fun e w' => e = .returned (.bool true) ∧ Grown w w' := by
  rcases ways m s t u lo with h2 | ⟨h2, h4⟩ | ⟨h2, h4, ht⟩ | ⟨h2, h4, ht, hu⟩ | ⟨h2, h4, ht, hu, hm⟩
  · skip
    go_enter Try.func6, Try.ntmps6
    go_wp2_with (first
      | (go_at_call 14; refine (until_fn _ _ _).mono ?_; rintro e wu ⟨rfl, hgu⟩)
      | (go_at_call 13; refine (meets_fn _ _ _ _ _).mono ?_; rintro e wm ⟨rfl, hgm⟩)
      | (go_at_call 9; refine (window_fn _ _ _).mono ?_; rintro e w' ⟨rfl, hw⟩; subst hw)
      | (go_at_call 11; refine (begun_any _).mono ?_; rintro e wb ⟨rfl, hgb⟩))
    go_ret
    exact ⟨rfl, grown_trans (grown_trans hgu hgm) hgb⟩
  · skip
    go_enter Try.func6, Try.ntmps6
    go_wp2_with (first
      | (go_at_call 14; refine (until_fn _ _ _).mono ?_; rintro e wu ⟨rfl, hgu⟩)
      | (go_at_call 13; refine (meets_fn _ _ _ _ _).mono ?_; rintro e wm ⟨rfl, hgm⟩)
      | (go_at_call 9; refine (window_fn _ _ _).mono ?_; rintro e w' ⟨rfl, hw⟩; subst hw)
      | (go_at_call 11; refine (begun_any _).mono ?_; rintro e wb ⟨rfl, hgb⟩))
    go_ret
    exact ⟨rfl, grown_trans (grown_trans hgu hgm) hgb⟩
  · have ht' : decide (t ≤ untilN m s) = false := decide_eq_false ht
    go_enter Try.func6, Try.ntmps6
    go_wp2_with (first
      | (go_at_call 14; refine (until_fn _ _ _).mono ?_; rintro e wu ⟨rfl, hgu⟩)
      | (go_at_call 13; refine (meets_fn _ _ _ _ _).mono ?_; rintro e wm ⟨rfl, hgm⟩)
      | (go_at_call 9; refine (window_fn _ _ _).mono ?_; rintro e w' ⟨rfl, hw⟩; subst hw)
      | (go_at_call 11; refine (begun_any _).mono ?_; rintro e wb ⟨rfl, hgb⟩))
    go_ret
    exact ⟨rfl, grown_trans (grown_trans hgu hgm) hgb⟩
  · have hu' : decide (m < u) = false := decide_eq_false hu
    go_enter Try.func6, Try.ntmps6
    go_wp2_with (first
      | (go_at_call 14; refine (until_fn _ _ _).mono ?_; rintro e wu ⟨rfl, hgu⟩)
      | (go_at_call 13; refine (meets_fn _ _ _ _ _).mono ?_; rintro e wm ⟨rfl, hgm⟩)
      | (go_at_call 9; refine (window_fn _ _ _).mono ?_; rintro e w' ⟨rfl, hw⟩; subst hw)
      | (go_at_call 11; refine (begun_any _).mono ?_; rintro e wb ⟨rfl, hgb⟩))
    go_ret
    exact ⟨rfl, grown_trans (grown_trans hgu hgm) hgb⟩
  · skip
    go_enter Try.func6, Try.ntmps6
    go_wp2_with (first
      | (go_at_call 14; refine (until_fn _ _ _).mono ?_; rintro e wu ⟨rfl, hgu⟩)
      | (go_at_call 13; refine (meets_fn _ _ _ _ _).mono ?_; rintro e wm ⟨rfl, hgm⟩)
      | (go_at_call 9; refine (window_fn _ _ _).mono ?_; rintro e w' ⟨rfl, hw⟩; subst hw)
      | (go_at_call 11; refine (begun_any _).mono ?_; rintro e wb ⟨rfl, hgb⟩))
    go_ret
    exact ⟨rfl, grown_trans (grown_trans hgu hgm) hgb⟩

set_option maxHeartbeats 4000000 in
theorem pass_none (m s t u lo z : Int) (w : World) (hz : winE t z = 0) (hy : (winE u z == 0) = false) :
    Calls Try.prog 6 #[.int .i64 m, .int .i64 s, .int .i64 t, .int .i64 u, .int .i64 lo, .int .i64 z] w fun e w' => e = .returned (.bool true) ∧ Grown w w' := by
  rcases ways m s t u lo with h2 | ⟨h2, h4⟩ | ⟨h2, h4, ht⟩ | ⟨h2, h4, ht, hu⟩ | ⟨h2, h4, ht, hu, hm⟩
  · skip
    go_enter Try.func6, Try.ntmps6
    go_wp2_with (first
      | (go_at_call 14; refine (until_fn _ _ _).mono ?_; rintro e wu ⟨rfl, hgu⟩)
      | (go_at_call 13; refine (meets_fn _ _ _ _ _).mono ?_; rintro e wm ⟨rfl, hgm⟩)
      | (go_at_call 9; refine (window_fn _ _ _).mono ?_; rintro e w' ⟨rfl, hw⟩; subst hw)
      | (go_at_call 11; refine (begun_any _).mono ?_; rintro e wb ⟨rfl, hgb⟩))
    go_ret
    exact ⟨rfl, grown_trans (grown_trans hgu hgm) hgb⟩
  · skip
    go_enter Try.func6, Try.ntmps6
    go_wp2_with (first
      | (go_at_call 14; refine (until_fn _ _ _).mono ?_; rintro e wu ⟨rfl, hgu⟩)
      | (go_at_call 13; refine (meets_fn _ _ _ _ _).mono ?_; rintro e wm ⟨rfl, hgm⟩)
      | (go_at_call 9; refine (window_fn _ _ _).mono ?_; rintro e w' ⟨rfl, hw⟩; subst hw)
      | (go_at_call 11; refine (begun_any _).mono ?_; rintro e wb ⟨rfl, hgb⟩))
    go_ret
    exact ⟨rfl, grown_trans (grown_trans hgu hgm) hgb⟩
  · have ht' : decide (t ≤ untilN m s) = false := decide_eq_false ht
    go_enter Try.func6, Try.ntmps6
    go_wp2_with (first
      | (go_at_call 14; refine (until_fn _ _ _).mono ?_; rintro e wu ⟨rfl, hgu⟩)
      | (go_at_call 13; refine (meets_fn _ _ _ _ _).mono ?_; rintro e wm ⟨rfl, hgm⟩)
      | (go_at_call 9; refine (window_fn _ _ _).mono ?_; rintro e w' ⟨rfl, hw⟩; subst hw)
      | (go_at_call 11; refine (begun_any _).mono ?_; rintro e wb ⟨rfl, hgb⟩))
    go_ret
    exact ⟨rfl, grown_trans (grown_trans hgu hgm) hgb⟩
  · have hu' : decide (m < u) = false := decide_eq_false hu
    go_enter Try.func6, Try.ntmps6
    go_wp2_with (first
      | (go_at_call 14; refine (until_fn _ _ _).mono ?_; rintro e wu ⟨rfl, hgu⟩)
      | (go_at_call 13; refine (meets_fn _ _ _ _ _).mono ?_; rintro e wm ⟨rfl, hgm⟩)
      | (go_at_call 9; refine (window_fn _ _ _).mono ?_; rintro e w' ⟨rfl, hw⟩; subst hw)
      | (go_at_call 11; refine (begun_any _).mono ?_; rintro e wb ⟨rfl, hgb⟩))
    go_ret
    exact ⟨rfl, grown_trans (grown_trans hgu hgm) hgb⟩
  · skip
    go_enter Try.func6, Try.ntmps6
    go_wp2_with (first
      | (go_at_call 14; refine (until_fn _ _ _).mono ?_; rintro e wu ⟨rfl, hgu⟩)
      | (go_at_call 13; refine (meets_fn _ _ _ _ _).mono ?_; rintro e wm ⟨rfl, hgm⟩)
      | (go_at_call 9; refine (window_fn _ _ _).mono ?_; rintro e w' ⟨rfl, hw⟩; subst hw)
      | (go_at_call 11; refine (begun_any _).mono ?_; rintro e wb ⟨rfl, hgb⟩))
    go_ret
    exact ⟨rfl, grown_trans (grown_trans hgu hgm) hgb⟩

/-- both windows are there: what is known of them -/
theorem win_facts (t u z : Int) (ht : winE t z = 0) (hu : winE u z = 0) :
    (1 ≤ z ∧ z ≤ 1099511627776) ∧ (-1099511627776 ≤ t ∧ t ≤ 1099511627776) ∧ (-1099511627776 ≤ u ∧ u ≤ 1099511627776) ∧
    winB t z = winA t z + z ∧ winB u z = winA u z + z ∧ winA t z ≤ t ∧ t < winA t z + z ∧ winA u z ≤ u ∧ u < winA u z + z ∧
    ((winA t z ≤ u ∧ u < winA t z + z) ↔ winA u z = winA t z) := by
  unfold winE at ht hu
  split at ht
  · rename_i h1
    split at hu
    · rename_i h2
      obtain ⟨f1, z1, z2⟩ := h1
      have f2 := h2.1
      have e1 : winA t z = start t z := by unfold winA; rw [if_pos ⟨f1, z1, z2⟩]
      have e2 : winA u z = start u z := by unfold winA; rw [if_pos ⟨f2, z1, z2⟩]
      have e3 : winB t z = start t z + z := by unfold winB; rw [if_pos ⟨f1, z1, z2⟩]
      have e4 : winB u z = start u z + z := by unfold winB; rw [if_pos ⟨f2, z1, z2⟩]
      have b1 := start_bd t z (by omega)
      have b2 := start_bd u z (by omega)
      rw [e1, e2, e3, e4]
      refine ⟨⟨z1, z2⟩, (fit_iff t).1 f1, (fit_iff u).1 f2, rfl, rfl, b1.1, b1.2, b2.1, b2.2, ?_, ?_⟩
      · rintro ⟨k1, k2⟩
        have d1 : start t z = z * (t / z) := by unfold start; have := Int.mul_ediv_add_emod t z; omega
        have d2 : start u z = z * (u / z) := by unfold start; have := Int.mul_ediv_add_emod u z; omega
        have q : u / z = t / z := by
          rw [d1] at k1 k2
          have q1 : t / z ≤ u / z := (Int.le_ediv_iff_mul_le (by omega)).2 (by rw [Int.mul_comm]; exact k1)
          have q2 : u / z < t / z + 1 := (Int.ediv_lt_iff_lt_mul (by omega)).2 (by rw [Int.mul_comm, Int.mul_add]; omega)
          omega
        rw [d1, d2, q]
      · intro k
        omega
    · cases hu
  · cases ht

set_option maxHeartbeats 4000000 in
theorem pass_low (m s t u lo z : Int) (w : World) (hz : winE t z = 0) (hy : winE u z = 0) (hc : u < winA t z) :
    Calls Try.prog 6 #[.int .i64 m, .int .i64 s, .int .i64 t, .int .i64 u, .int .i64 lo, .int .i64 z] w fun e w' => e = .returned (.bool true) ∧ Grown w w' := by
  obtain ⟨⟨z1, z2⟩, ⟨t1, t2⟩, ⟨u1, u2⟩, e1, e2, c1, c2, c3, c4, iff⟩ := win_facts t u z hz hy
  have hne : (winA u z == winA t z) = false := by
    simp only [beq_eq_false_iff_ne, ne_eq]; intro k; omega
  have hd : decide (winA t z ≤ u) = false := decide_eq_false (by omega)
  have hq : (winA u z + z - winA u z == z) = true := by simp only [beq_iff_eq]; omega
  clear iff
  rcases ways m s t u lo with h2 | ⟨h2, h4⟩ | ⟨h2, h4, ht⟩ | ⟨h2, h4, ht, hu⟩ | ⟨h2, h4, ht, hu, hm⟩
  · skip
    go_enter Try.func6, Try.ntmps6
    go_wp2_with (first
      | (go_at_call 14; refine (until_fn _ _ _).mono ?_; rintro e wu ⟨rfl, hgu⟩)
      | (go_at_call 13; refine (meets_fn _ _ _ _ _).mono ?_; rintro e wm ⟨rfl, hgm⟩)
      | (go_at_call 9; refine (window_fn _ _ _).mono ?_; rintro e w' ⟨rfl, hw⟩; subst hw)
      | (go_at_call 11; refine (begun_any _).mono ?_; rintro e wb ⟨rfl, hgb⟩))
    go_ret
    exact ⟨rfl, grown_trans (grown_trans hgu hgm) hgb⟩
  · skip
    go_enter Try.func6, Try.ntmps6
    go_wp2_with (first
      | (go_at_call 14; refine (until_fn _ _ _).mono ?_; rintro e wu ⟨rfl, hgu⟩)
      | (go_at_call 13; refine (meets_fn _ _ _ _ _).mono ?_; rintro e wm ⟨rfl, hgm⟩)
      | (go_at_call 9; refine (window_fn _ _ _).mono ?_; rintro e w' ⟨rfl, hw⟩; subst hw)
      | (go_at_call 11; refine (begun_any _).mono ?_; rintro e wb ⟨rfl, hgb⟩))
    go_ret
    exact ⟨rfl, grown_trans (grown_trans hgu hgm) hgb⟩
  · have ht' : decide (t ≤ untilN m s) = false := decide_eq_false ht
    go_enter Try.func6, Try.ntmps6
    go_wp2_with (first
      | (go_at_call 14; refine (until_fn _ _ _).mono ?_; rintro e wu ⟨rfl, hgu⟩)
      | (go_at_call 13; refine (meets_fn _ _ _ _ _).mono ?_; rintro e wm ⟨rfl, hgm⟩)
      | (go_at_call 9; refine (window_fn _ _ _).mono ?_; rintro e w' ⟨rfl, hw⟩; subst hw)
      | (go_at_call 11; refine (begun_any _).mono ?_; rintro e wb ⟨rfl, hgb⟩))
    go_ret
    exact ⟨rfl, grown_trans (grown_trans hgu hgm) hgb⟩
  · have hu' : decide (m < u) = false := decide_eq_false hu
    go_enter Try.func6, Try.ntmps6
    go_wp2_with (first
      | (go_at_call 14; refine (until_fn _ _ _).mono ?_; rintro e wu ⟨rfl, hgu⟩)
      | (go_at_call 13; refine (meets_fn _ _ _ _ _).mono ?_; rintro e wm ⟨rfl, hgm⟩)
      | (go_at_call 9; refine (window_fn _ _ _).mono ?_; rintro e w' ⟨rfl, hw⟩; subst hw)
      | (go_at_call 11; refine (begun_any _).mono ?_; rintro e wb ⟨rfl, hgb⟩))
    go_ret
    exact ⟨rfl, grown_trans (grown_trans hgu hgm) hgb⟩
  · skip
    go_enter Try.func6, Try.ntmps6
    go_wp2_with (first
      | (go_at_call 14; refine (until_fn _ _ _).mono ?_; rintro e wu ⟨rfl, hgu⟩)
      | (go_at_call 13; refine (meets_fn _ _ _ _ _).mono ?_; rintro e wm ⟨rfl, hgm⟩)
      | (go_at_call 9; refine (window_fn _ _ _).mono ?_; rintro e w' ⟨rfl, hw⟩; subst hw)
      | (go_at_call 11; refine (begun_any _).mono ?_; rintro e wb ⟨rfl, hgb⟩))
    go_ret
    exact ⟨rfl, grown_trans (grown_trans hgu hgm) hgb⟩

set_option maxHeartbeats 4000000 in
theorem pass_high (m s t u lo z : Int) (w : World) (hz : winE t z = 0) (hy : winE u z = 0) (hc : winA t z ≤ u) (hc2 : winA t z + z ≤ u) :
    Calls Try.prog 6 #[.int .i64 m, .int .i64 s, .int .i64 t, .int .i64 u, .int .i64 lo, .int .i64 z] w fun e w' => e = .returned (.bool true) ∧ Grown w w' := by
  obtain ⟨⟨z1, z2⟩, ⟨t1, t2⟩, ⟨u1, u2⟩, e1, e2, c1, c2, c3, c4, iff⟩ := win_facts t u z hz hy
  have hne : (winA u z == winA t z) = false := by
    simp only [beq_eq_false_iff_ne, ne_eq]; intro k; omega
  have hd : decide (u < winA t z + z) = false := decide_eq_false (by omega)
  have hq : (winA u z + z - winA u z == z) = true := by simp only [beq_iff_eq]; omega
  clear iff
  rcases ways m s t u lo with h2 | ⟨h2, h4⟩ | ⟨h2, h4, ht⟩ | ⟨h2, h4, ht, hu⟩ | ⟨h2, h4, ht, hu, hm⟩
  · skip
    go_enter Try.func6, Try.ntmps6
    go_wp2_with (first
      | (go_at_call 14; refine (until_fn _ _ _).mono ?_; rintro e wu ⟨rfl, hgu⟩)
      | (go_at_call 13; refine (meets_fn _ _ _ _ _).mono ?_; rintro e wm ⟨rfl, hgm⟩)
      | (go_at_call 9; refine (window_fn _ _ _).mono ?_; rintro e w' ⟨rfl, hw⟩; subst hw)
      | (go_at_call 11; refine (begun_any _).mono ?_; rintro e wb ⟨rfl, hgb⟩))
    go_ret
    exact ⟨rfl, grown_trans (grown_trans hgu hgm) hgb⟩
  · skip
    go_enter Try.func6, Try.ntmps6
    go_wp2_with (first
      | (go_at_call 14; refine (until_fn _ _ _).mono ?_; rintro e wu ⟨rfl, hgu⟩)
      | (go_at_call 13; refine (meets_fn _ _ _ _ _).mono ?_; rintro e wm ⟨rfl, hgm⟩)
      | (go_at_call 9; refine (window_fn _ _ _).mono ?_; rintro e w' ⟨rfl, hw⟩; subst hw)
      | (go_at_call 11; refine (begun_any _).mono ?_; rintro e wb ⟨rfl, hgb⟩))
    go_ret
    exact ⟨rfl, grown_trans (grown_trans hgu hgm) hgb⟩
  · have ht' : decide (t ≤ untilN m s) = false := decide_eq_false ht
    go_enter Try.func6, Try.ntmps6
    go_wp2_with (first
      | (go_at_call 14; refine (until_fn _ _ _).mono ?_; rintro e wu ⟨rfl, hgu⟩)
      | (go_at_call 13; refine (meets_fn _ _ _ _ _).mono ?_; rintro e wm ⟨rfl, hgm⟩)
      | (go_at_call 9; refine (window_fn _ _ _).mono ?_; rintro e w' ⟨rfl, hw⟩; subst hw)
      | (go_at_call 11; refine (begun_any _).mono ?_; rintro e wb ⟨rfl, hgb⟩))
    go_ret
    exact ⟨rfl, grown_trans (grown_trans hgu hgm) hgb⟩
  · have hu' : decide (m < u) = false := decide_eq_false hu
    go_enter Try.func6, Try.ntmps6
    go_wp2_with (first
      | (go_at_call 14; refine (until_fn _ _ _).mono ?_; rintro e wu ⟨rfl, hgu⟩)
      | (go_at_call 13; refine (meets_fn _ _ _ _ _).mono ?_; rintro e wm ⟨rfl, hgm⟩)
      | (go_at_call 9; refine (window_fn _ _ _).mono ?_; rintro e w' ⟨rfl, hw⟩; subst hw)
      | (go_at_call 11; refine (begun_any _).mono ?_; rintro e wb ⟨rfl, hgb⟩))
    go_ret
    exact ⟨rfl, grown_trans (grown_trans hgu hgm) hgb⟩
  · skip
    go_enter Try.func6, Try.ntmps6
    go_wp2_with (first
      | (go_at_call 14; refine (until_fn _ _ _).mono ?_; rintro e wu ⟨rfl, hgu⟩)
      | (go_at_call 13; refine (meets_fn _ _ _ _ _).mono ?_; rintro e wm ⟨rfl, hgm⟩)
      | (go_at_call 9; refine (window_fn _ _ _).mono ?_; rintro e w' ⟨rfl, hw⟩; subst hw)
      | (go_at_call 11; refine (begun_any _).mono ?_; rintro e wb ⟨rfl, hgb⟩))
    go_ret
    exact ⟨rfl, grown_trans (grown_trans hgu hgm) hgb⟩

set_option maxHeartbeats 4000000 in
theorem pass_in (m s t u lo z : Int) (w : World) (hz : winE t z = 0) (hy : winE u z = 0) (hc : winA t z ≤ u) (hc2 : u < winA t z + z) :
    Calls Try.prog 6 #[.int .i64 m, .int .i64 s, .int .i64 t, .int .i64 u, .int .i64 lo, .int .i64 z] w fun e w' => e = .returned (.bool true) ∧ Grown w w' := by
  obtain ⟨⟨z1, z2⟩, ⟨t1, t2⟩, ⟨u1, u2⟩, e1, e2, c1, c2, c3, c4, iff⟩ := win_facts t u z hz hy
  have heq : winA u z = winA t z := iff.1 ⟨hc, hc2⟩
  have hq : (winA u z + z - winA u z == z) = true := by simp only [beq_iff_eq]; omega
  clear iff
  rcases ways m s t u lo with h2 | ⟨h2, h4⟩ | ⟨h2, h4, ht⟩ | ⟨h2, h4, ht, hu⟩ | ⟨h2, h4, ht, hu, hm⟩
  · skip
    go_enter Try.func6, Try.ntmps6
    go_wp2_with (first
      | (go_at_call 14; refine (until_fn _ _ _).mono ?_; rintro e wu ⟨rfl, hgu⟩)
      | (go_at_call 13; refine (meets_fn _ _ _ _ _).mono ?_; rintro e wm ⟨rfl, hgm⟩)
      | (go_at_call 9; refine (window_fn _ _ _).mono ?_; rintro e w' ⟨rfl, hw⟩; subst hw)
      | (go_at_call 11; refine (begun_any _).mono ?_; rintro e wb ⟨rfl, hgb⟩))
    go_ret
    exact ⟨rfl, grown_trans (grown_trans hgu hgm) hgb⟩
  · skip
    go_enter Try.func6, Try.ntmps6
    go_wp2_with (first
      | (go_at_call 14; refine (until_fn _ _ _).mono ?_; rintro e wu ⟨rfl, hgu⟩)
      | (go_at_call 13; refine (meets_fn _ _ _ _ _).mono ?_; rintro e wm ⟨rfl, hgm⟩)
      | (go_at_call 9; refine (window_fn _ _ _).mono ?_; rintro e w' ⟨rfl, hw⟩; subst hw)
      | (go_at_call 11; refine (begun_any _).mono ?_; rintro e wb ⟨rfl, hgb⟩))
    go_ret
    exact ⟨rfl, grown_trans (grown_trans hgu hgm) hgb⟩
  · have ht' : decide (t ≤ untilN m s) = false := decide_eq_false ht
    go_enter Try.func6, Try.ntmps6
    go_wp2_with (first
      | (go_at_call 14; refine (until_fn _ _ _).mono ?_; rintro e wu ⟨rfl, hgu⟩)
      | (go_at_call 13; refine (meets_fn _ _ _ _ _).mono ?_; rintro e wm ⟨rfl, hgm⟩)
      | (go_at_call 9; refine (window_fn _ _ _).mono ?_; rintro e w' ⟨rfl, hw⟩; subst hw)
      | (go_at_call 11; refine (begun_any _).mono ?_; rintro e wb ⟨rfl, hgb⟩))
    go_ret
    exact ⟨rfl, grown_trans (grown_trans hgu hgm) hgb⟩
  · have hu' : decide (m < u) = false := decide_eq_false hu
    go_enter Try.func6, Try.ntmps6
    go_wp2_with (first
      | (go_at_call 14; refine (until_fn _ _ _).mono ?_; rintro e wu ⟨rfl, hgu⟩)
      | (go_at_call 13; refine (meets_fn _ _ _ _ _).mono ?_; rintro e wm ⟨rfl, hgm⟩)
      | (go_at_call 9; refine (window_fn _ _ _).mono ?_; rintro e w' ⟨rfl, hw⟩; subst hw)
      | (go_at_call 11; refine (begun_any _).mono ?_; rintro e wb ⟨rfl, hgb⟩))
    go_ret
    exact ⟨rfl, grown_trans (grown_trans hgu hgm) hgb⟩
  · skip
    go_enter Try.func6, Try.ntmps6
    go_wp2_with (first
      | (go_at_call 14; refine (until_fn _ _ _).mono ?_; rintro e wu ⟨rfl, hgu⟩)
      | (go_at_call 13; refine (meets_fn _ _ _ _ _).mono ?_; rintro e wm ⟨rfl, hgm⟩)
      | (go_at_call 9; refine (window_fn _ _ _).mono ?_; rintro e w' ⟨rfl, hw⟩; subst hw)
      | (go_at_call 11; refine (begun_any _).mono ?_; rintro e wb ⟨rfl, hgb⟩))
    go_ret
    exact ⟨rfl, grown_trans (grown_trans hgu hgm) hgb⟩
end Go.Proofs.Ytkjiaeolodemlae.tm
