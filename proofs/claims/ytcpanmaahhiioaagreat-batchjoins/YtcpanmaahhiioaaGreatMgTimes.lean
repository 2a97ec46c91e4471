/- Several texts in one: TimesBase, TimesCalls, TimesRefs. -/
import Derived.Test.YtcpanmaahhiioaaGreatRows
import Derived.WalkKit
import Derived.ProofKit
import Derived.OpenShut
/- What the functions of package times (and their mirrors in the reference) do, one contract each: Fits, allFit, Until, Meets, Window, Add and the fixed examples of timesBegun. -/
namespace Go.Proofs.YtcpanmaahhiioaaGreat.tm
open Go.ChangeShapes Go.WideShapes Go.ChangeAt Go.RowKit
set_option linter.unusedVariables false

/-- a time: from -2^40 to 2^40 -/
def fitB (t : Int) : Bool := decide (-1099511627776 ≤ t ∧ t ≤ 1099511627776)
theorem fit_iff (t : Int) : fitB t = true ↔ (-1099511627776 ≤ t ∧ t ≤ 1099511627776) := by simp [fitB]
theorem fit_no (t : Int) : fitB t = false ↔ ¬ (-1099511627776 ≤ t ∧ t ≤ 1099511627776) := by
  unfold fitB; exact decide_eq_false_iff_not

theorem fits_any (t : Int) (w : World) :
    Calls Tryz.prog 109 #[.int .i64 t] w fun e w' => e = .returned (.bool (fitB t)) ∧ w' = w := by
  by_cases h1 : -1099511627776 ≤ t
  · by_cases h2 : t ≤ 1099511627776
    · have hf : fitB t = true := (fit_iff t).2 ⟨h1, h2⟩
      rw [hf]
      go_enter Tryz.func109, Tryz.ntmps109
      go_wp2
      go_ret
      exact ⟨rfl, rfl⟩
    · have hf : fitB t = false := (fit_no t).2 (by omega)
      rw [hf]
      go_enter Tryz.func109, Tryz.ntmps109
      go_wp2
      go_ret
      exact ⟨rfl, rfl⟩
  · have hf : fitB t = false := (fit_no t).2 (by omega)
    rw [hf]
    go_enter Tryz.func109, Tryz.ntmps109
    go_wp2
    go_ret
    exact ⟨rfl, rfl⟩

theorem rfits_any (t : Int) (w : World) :
    Calls Tryz.prog 31 #[.int .i64 t] w fun e w' => e = .returned (.bool (fitB t)) ∧ w' = w := by
  by_cases h1 : -1099511627776 ≤ t
  · by_cases h2 : t ≤ 1099511627776
    · have hf : fitB t = true := (fit_iff t).2 ⟨h1, h2⟩
      rw [hf]
      go_enter Tryz.func31, Tryz.ntmps31
      go_wp2
      go_ret
      exact ⟨rfl, rfl⟩
    · have hf : fitB t = false := (fit_no t).2 (by omega)
      rw [hf]
      go_enter Tryz.func31, Tryz.ntmps31
      go_wp2
      go_ret
      exact ⟨rfl, rfl⟩
  · have hf : fitB t = false := (fit_no t).2 (by omega)
    rw [hf]
    go_enter Tryz.func31, Tryz.ntmps31
    go_wp2
    go_ret
    exact ⟨rfl, rfl⟩

theorem all_snoc (zs : List Int) (k : Nat) (h : k < zs.length) : (zs.take (k + 1)).all fitB = ((zs.take k).all fitB && fitB (zs[k]?.getD 0)) := by
  rw [List.take_succ_eq_append_getElem h, List.all_append, List.getElem?_eq_getElem h]
  simp only [List.all_cons, List.all_nil, Bool.and_true, Option.getD_some]
theorem all_no (zs : List Int) (k : Nat) (h : k < zs.length) (hf : fitB (zs[k]?.getD 0) = false) : zs.all fitB = false := by
  rw [List.all_eq_false]
  exact ⟨zs[k], List.getElem_mem h, by simpa [List.getElem?_eq_getElem h] using hf⟩

set_option maxHeartbeats 400000 in
theorem allFit_any (b : Nat) (zs : List Int) (w : World) (hl : zs.length ≤ 100)
    (hc : ∀ i, i < zs.length → w.cell? ⟨b, i, none⟩ = some (.int .i64 (zs[i]?.getD 0))) :
    Calls Tryz.prog 176 #[.slice (some ⟨b, 0, none⟩) zs.length zs.length] w fun e w' => e = .returned (.bool (zs.all fitB)) ∧ w' = w := by
  go_enter Tryz.func176, Tryz.ntmps176
  go_wp2
  go_loop [7] (fun i => ∃ k : Nat, k ≤ zs.length ∧ i = .int .i64 k ∧ (zs.take k).all fitB = true) (fun i => zs.length - (intOf i).toNat)
  case atStart => exact ⟨0, Nat.zero_le _, rfl, rfl⟩
  case round =>
    obtain ⟨k, hk, rfl, hall⟩ := hrel
    have HA : Hid ((zs.take k).all fitB = true) := hall
    clear hall
    by_cases hlt : k < zs.length
    · have hcell := hc k hlt
      obtain ⟨z, hz0⟩ : ∃ z, zs[k]?.getD 0 = z := ⟨_, rfl⟩
      rw [hz0] at hcell
      have HZ : Hid (zs[k]?.getD 0 = z) := hz0
      clear hc hz0
      by_cases hf : fitB z = true
      · go_wp2_with (go_at_call 109; refine (fits_any _ _).mono ?_; rintro e w' ⟨rfl, hw⟩; subst hw)
        go_round
        case rel => exact ⟨k + 1, by omega, by go_num, by rw [all_snoc zs k hlt, HA.out, HZ.out, hf]; rfl⟩
        case measure => simp [intOf]; omega
      · have hf' : fitB z = false := by simpa using hf
        have hz : Hid (zs.all fitB = false) := all_no zs k hlt (by rw [HZ.out]; exact hf')
        go_wp2_with (go_at_call 109; refine (fits_any _ _).mono ?_; rintro e w' ⟨rfl, hw⟩; subst hw)
        go_ret
        exact ⟨by rw [hz.out]; rfl, rfl⟩
    · have hz : Hid (zs.all fitB = true) := by
        show zs.all fitB = true
        have h := HA.out
        rwa [List.take_of_length_le (by omega)] at h
      go_wp2
      go_ret
      exact ⟨by rw [hz.out]; rfl, rfl⟩
end Go.Proofs.YtcpanmaahhiioaaGreat.tm

/- The contracts of times.Until, Meets, Window, Add, of the reference's Until and Start, and of timesBegun: each answers the plain function that is laid here beside it, and memory only grows. -/
namespace Go.Proofs.YtcpanmaahhiioaaGreat.tm
open Go.ChangeShapes Go.WideShapes Go.ChangeAt Go.RowKit
set_option linter.unusedVariables false

def fit2 (a b : Int) : Bool := fitB a && fitB b
def fit4 (a b c d : Int) : Bool := fitB a && (fitB b && (fitB c && fitB d))

theorem allFit2 (b : Nat) (x y : Int) (w : World)
    (h0 : w.cell? ⟨b, 0, none⟩ = some (.int .i64 x)) (h1 : w.cell? ⟨b, 1, none⟩ = some (.int .i64 y)) :
    Calls Tryz.prog 176 #[.slice (some ⟨b, 0, none⟩) 2 2] w fun e w' => e = .returned (.bool (fit2 x y)) ∧ w' = w := by
  have h := allFit_any b [x, y] w (by simp) (fun i hi => by
    match i, hi with
    | 0, _ => exact h0
    | 1, _ => exact h1)
  refine h.mono fun e w' ⟨he, hw⟩ => ⟨?_, hw⟩
  rw [he]; simp [fit2]

theorem allFit4 (b : Nat) (x y z u : Int) (w : World)
    (h0 : w.cell? ⟨b, 0, none⟩ = some (.int .i64 x)) (h1 : w.cell? ⟨b, 1, none⟩ = some (.int .i64 y))
    (h2 : w.cell? ⟨b, 2, none⟩ = some (.int .i64 z)) (h3 : w.cell? ⟨b, 3, none⟩ = some (.int .i64 u)) :
    Calls Tryz.prog 176 #[.slice (some ⟨b, 0, none⟩) 4 4] w fun e w' => e = .returned (.bool (fit4 x y z u)) ∧ w' = w := by
  have h := allFit_any b [x, y, z, u] w (by simp) (fun i hi => by
    match i, hi with
    | 0, _ => exact h0
    | 1, _ => exact h1
    | 2, _ => exact h2
    | 3, _ => exact h3)
  refine h.mono fun e w' ⟨he, hw⟩ => ⟨?_, hw⟩
  rw [he]; simp [fit4]

/-! ### Until -/
theorem grown_trans {a b c : World} (h : Grown a b) (k : Grown b c) : Grown a c :=
  ⟨World.keptBut_trans h.1 k.1, fun x => (k.2.1 x).trans (h.2.1 x), Nat.le_trans h.2.2 k.2.2⟩

/-! ### Meets -/
theorem meets_no (l r lo hi : Int) (w : World) (h : fit4 l r lo hi = false) :
    Calls Tryz.prog 148 #[.int .i64 l, .int .i64 r, .int .i64 lo, .int .i64 hi] w fun e w' => e = .returned (.tuple #[.bool false, .int .i64 3]) ∧ Grown w w' := by
  go_enter Tryz.func148, Tryz.ntmps148
  go_wp2_with (go_at_call 176; refine (allFit4 _ l r lo hi _ (by go_simp) (by go_simp) (by go_simp) (by go_simp)).mono ?_; rintro e w' ⟨rfl, hw⟩; subst hw)
  go_ret2
  exact ⟨rfl, by repeat (first | exact Grown.refl _ | apply Grown.drew | apply Grown.alloc)⟩

theorem meets_form (l r lo hi : Int) (w : World) (h : fit4 l r lo hi = true) (hlt : hi < lo) :
    Calls Tryz.prog 148 #[.int .i64 l, .int .i64 r, .int .i64 lo, .int .i64 hi] w fun e w' => e = .returned (.tuple #[.bool false, .int .i64 1]) ∧ Grown w w' := by
  go_enter Tryz.func148, Tryz.ntmps148
  go_wp2_with (go_at_call 176; refine (allFit4 _ l r lo hi _ (by go_simp) (by go_simp) (by go_simp) (by go_simp)).mono ?_; rintro e w' ⟨rfl, hw⟩; subst hw)
  go_ret2
  exact ⟨rfl, by repeat (first | exact Grown.refl _ | apply Grown.drew | apply Grown.alloc)⟩

def meetB (l r lo hi : Int) : Bool := decide (lo ≤ r - l ∧ r - l ≤ hi)

theorem fit4_bd {l r lo hi : Int} (h : fit4 l r lo hi = true) :
    (-1099511627776 ≤ l ∧ l ≤ 1099511627776) ∧ (-1099511627776 ≤ r ∧ r ≤ 1099511627776) ∧ (-1099511627776 ≤ lo ∧ lo ≤ 1099511627776) ∧ (-1099511627776 ≤ hi ∧ hi ≤ 1099511627776) := by
  simp only [fit4, Bool.and_eq_true, fit_iff] at h
  exact h

theorem meets_yes (l r lo hi : Int) (w : World) (h : fit4 l r lo hi = true) (hle : ¬ hi < lo) :
    Calls Tryz.prog 148 #[.int .i64 l, .int .i64 r, .int .i64 lo, .int .i64 hi] w fun e w' => e = .returned (.tuple #[.bool (meetB l r lo hi), .int .i64 0]) ∧ Grown w w' := by
  obtain ⟨⟨b1, b2⟩, ⟨b3, b4⟩, ⟨b5, b6⟩, ⟨b7, b8⟩⟩ := fit4_bd h
  by_cases h1 : l + lo ≤ r
  · by_cases h2 : r ≤ l + hi
    · have hf : meetB l r lo hi = true := by unfold meetB; exact decide_eq_true ⟨by omega, by omega⟩
      rw [hf]
      go_enter Tryz.func148, Tryz.ntmps148
      go_wp2_with (go_at_call 176; refine (allFit4 _ l r lo hi _ (by go_simp) (by go_simp) (by go_simp) (by go_simp)).mono ?_; rintro e w' ⟨rfl, hw⟩; subst hw)
      go_ret2
      exact ⟨rfl, by repeat (first | exact Grown.refl _ | apply Grown.drew | apply Grown.alloc)⟩
    · have hf : meetB l r lo hi = false := by unfold meetB; exact decide_eq_false (by omega)
      have hd : decide (r ≤ l + hi) = false := decide_eq_false h2
      rw [hf]
      go_enter Tryz.func148, Tryz.ntmps148
      go_wp2_with (go_at_call 176; refine (allFit4 _ l r lo hi _ (by go_simp) (by go_simp) (by go_simp) (by go_simp)).mono ?_; rintro e w' ⟨rfl, hw⟩; subst hw)
      go_ret2
      exact ⟨rfl, by repeat (first | exact Grown.refl _ | apply Grown.drew | apply Grown.alloc)⟩
  · have hf : meetB l r lo hi = false := by unfold meetB; exact decide_eq_false (by omega)
    rw [hf]
    go_enter Tryz.func148, Tryz.ntmps148
    go_wp2_with (go_at_call 176; refine (allFit4 _ l r lo hi _ (by go_simp) (by go_simp) (by go_simp) (by go_simp)).mono ?_; rintro e w' ⟨rfl, hw⟩; subst hw)
    go_ret2
    exact ⟨rfl, by repeat (first | exact Grown.refl _ | apply Grown.drew | apply Grown.alloc)⟩

/-! ### Window -/
/-- where the window of a time begins: the floor -/
def start (t s : Int) : Int := t - t % s

theorem window_range (t s : Int) (w : World) (h : fitB t = false ∨ s < 1 ∨ 1099511627776 < s) :
    Calls Tryz.prog 149 #[.int .i64 t, .int .i64 s] w fun e w' => e = .returned (.tuple #[.int .i64 0, .int .i64 0, .int .i64 3]) ∧ w' = w := by
  by_cases h0 : fitB t = true
  · by_cases h1 : s < 1
    · go_enter Tryz.func149, Tryz.ntmps149
      go_wp2_with (go_at_call 109; refine (fits_any _ _).mono ?_; rintro e w' ⟨rfl, hw⟩; subst hw)
      go_ret3
      exact ⟨rfl, rfl⟩
    · have h2 : 1099511627776 < s := by
        rcases h with h | h | h
        · rw [h0] at h; cases h
        · omega
        · exact h
      go_enter Tryz.func149, Tryz.ntmps149
      go_wp2_with (go_at_call 109; refine (fits_any _ _).mono ?_; rintro e w' ⟨rfl, hw⟩; subst hw)
      go_ret3
      exact ⟨rfl, rfl⟩
  · have h0' : fitB t = false := by simpa using h0
    clear h h0
    go_enter Tryz.func149, Tryz.ntmps149
    go_wp2_with (go_at_call 109; refine (fits_any _ _).mono ?_; rintro e w' ⟨rfl, hw⟩; subst hw)
    go_ret3
    exact ⟨rfl, rfl⟩

theorem tmod_neg (t s : Int) (ht : t < 0) (hs : 0 < s) : t.tmod s = -((-t) % s) := by
  have := Int.neg_tmod (-t) s
  rw [Int.neg_neg] at this
  rw [this, Int.tmod_eq_emod_of_nonneg (by omega)]

theorem neg_mod (t s : Int) (hs : 0 < s) : (-t % s = 0 ∧ t % s = 0) ∨ (0 < -t % s ∧ t % s = s - -t % s) := by
  have n1 := Int.emod_nonneg t (show s ≠ 0 by omega)
  have n2 := Int.emod_lt_of_pos t hs
  have n3 := Int.emod_nonneg (-t) (show s ≠ 0 by omega)
  have n4 := Int.emod_lt_of_pos (-t) hs
  have d1 := Int.mul_ediv_add_emod t s
  have d2 := Int.mul_ediv_add_emod (-t) s
  have d3 : s * (t / s + -t / s) = -(t % s + -t % s) := by rw [Int.mul_add]; omega
  obtain ⟨k, hk⟩ : ∃ k, t / s + -t / s = k := ⟨_, rfl⟩
  rw [hk] at d3
  have k1 : k ≤ 0 := by
    rcases Int.lt_or_le 0 k with h | h
    · have := Int.mul_pos hs h; omega
    · exact h
  have k2 : -2 < k := by
    rcases Int.lt_or_le (-2) k with h | h
    · exact h
    · have := Int.mul_le_mul_of_nonneg_left h (Int.le_of_lt hs); omega
  have k3 : k = 0 ∨ k = -1 := by omega
  rcases k3 with rfl | rfl <;> omega

theorem tup3 {a b c a' b' c' : Int} (h1 : a = a') (h2 : b = b') (h3 : c = c') :
    Ending.returned (.tuple #[.int .i64 a, .int .i64 b, .int .i64 c]) = .returned (.tuple #[.int .i64 a', .int .i64 b', .int .i64 c']) := by rw [h1, h2, h3]

theorem start_bd (t s : Int) (hs : 0 < s) : start t s ≤ t ∧ t < start t s + s := by
  unfold start
  have := Int.emod_nonneg t (show s ≠ 0 by omega)
  have := Int.emod_lt_of_pos t hs
  omega

theorem window_yes (t s : Int) (w : World) (h : fitB t = true) (h1 : 1 ≤ s) (h2 : s ≤ 1099511627776) :
    Calls Tryz.prog 149 #[.int .i64 t, .int .i64 s] w fun e w' => e = .returned (.tuple #[.int .i64 (start t s), .int .i64 (start t s + s), .int .i64 0]) ∧ w' = w := by
  have hb := (fit_iff t).1 h
  obtain ⟨b1, b2⟩ := hb
  have hn1 : ¬ s < 1 := by omega
  have hn2 : ¬ 1099511627776 < s := by omega
  have s0 : (s == 0) = false := by simp; omega
  by_cases ht : 0 ≤ t
  · have e1 := Int.emod_nonneg t (show s ≠ 0 by omega)
    have e2 := Int.emod_lt_of_pos t (show 0 < s by omega)
    go_enter Tryz.func149, Tryz.ntmps149
    go_wp2_with (go_at_call 109; refine (fits_any _ _).mono ?_; rintro e w' ⟨rfl, hw⟩; subst hw)
    go_ret3
    exact ⟨rfl, rfl⟩
  · have e0 := tmod_neg t s (by omega) (by omega)
    have e1 := Int.emod_nonneg (-t) (show s ≠ 0 by omega)
    have e2 := Int.emod_lt_of_pos (-t) (show 0 < s by omega)
    have HM : Hid ((-t % s = 0 ∧ t % s = 0) ∨ (0 < -t % s ∧ t % s = s - -t % s)) := neg_mod t s (by omega)
    go_enter Tryz.func149, Tryz.ntmps149
    go_wp2_with (go_at_call 109; refine (fits_any _ _).mono ?_; rintro e w' ⟨rfl, hw⟩; subst hw)
    all_goals
      have hm := HM.out
      go_ret3
      exact ⟨tup3 (by unfold start; omega) (by unfold start; omega) rfl, rfl⟩

/-! ### Add -/
/-- the sum, held to the bounds of times -/
def clamp (x : Int) : Int := if x < -1099511627776 then -1099511627776 else if 1099511627776 < x then 1099511627776 else x

theorem ret_int {k : IntKind} {a b : Int} (h : a = b) : Ending.returned (.int k a) = .returned (.int k b) := by rw [h]

end Go.Proofs.YtcpanmaahhiioaaGreat.tm

/- The contracts of the reference's Until and Start. -/
namespace Go.Proofs.YtcpanmaahhiioaaGreat.tm
open Go.ChangeShapes Go.WideShapes Go.ChangeAt Go.RowKit
set_option linter.unusedVariables false

/-! ### the reference -/
theorem start_any (t s : Int) (w : World) (b1 : -1099511627776 ≤ t) (b2 : t ≤ 1099511627776) (h1 : 1 ≤ s) (h2 : s ≤ 1099511627776) :
    Calls Tryz.prog 117 #[.int .i64 t, .int .i64 s] w fun e w' => e = .returned (.int .i64 (start t s)) ∧ w' = w := by
  have s0 : (s == 0) = false := by simp; omega
  by_cases ht : 0 ≤ t
  · have e1 := Int.emod_nonneg t (show s ≠ 0 by omega)
    have e2 := Int.emod_lt_of_pos t (show 0 < s by omega)
    have HD : Hid (s * (t / s) + t % s = t) := Int.mul_ediv_add_emod t s
    have m1 : 0 ≤ t / s := Int.ediv_nonneg ht (by omega)
    have m2 : t / s ≤ t := Int.ediv_le_self s ht
    have c1 : t / s * s = t - t % s := by have := HD.out; rw [Int.mul_comm]; omega
    go_enter Tryz.func117, Tryz.ntmps117
    go_wp2
    go_ret
    exact ⟨ret_int (by unfold start; omega), rfl⟩
  · have e0 : t.tdiv s = -(-t / s) := by
      have := Int.neg_tdiv (-t) s
      rw [Int.neg_neg] at this
      rw [this, Int.tdiv_eq_ediv_of_nonneg (by omega)]
    have e1 := Int.emod_nonneg (-t) (show s ≠ 0 by omega)
    have e2 := Int.emod_lt_of_pos (-t) (show 0 < s by omega)
    have HD : Hid (s * (-t / s) + -t % s = -t) := Int.mul_ediv_add_emod (-t) s
    have m1 : 0 ≤ -t / s := Int.ediv_nonneg (by omega) (by omega)
    have m2 : -t / s ≤ -t := Int.ediv_le_self s (by omega)
    have c1 : -(-t / s) * s = t + -t % s := by have := HD.out; rw [Int.mul_comm, Int.mul_neg]; omega
    have HM : Hid ((-t % s = 0 ∧ t % s = 0) ∨ (0 < -t % s ∧ t % s = s - -t % s)) := neg_mod t s (by omega)
    go_enter Tryz.func117, Tryz.ntmps117
    go_wp2
    all_goals
      have hm := HM.out
      go_ret
      exact ⟨ret_int (by unfold start; omega), rfl⟩
end Go.Proofs.YtcpanmaahhiioaaGreat.tm
