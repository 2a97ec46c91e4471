/- countsRight; slices.Concat of two lists of numbers, joined, typesRight. -/
import Derived.Test.YtibjihdeknndoaaPlnRanges

namespace Go.Proofs.Ytibjihdeknndoaa.pl
open Go.ChangeShapes Go.WideShapes Go.ChangeAt Go.RowKit
open vl
set_option linter.unusedVariables false
set_option linter.unusedSimpArgs false

theorem cnt1_any (i : Int) (a : Option Addr) (n c : Nat) (w : World) :
    Calls Try.prog 63 #[.int .i64 i, .slice a n c] w fun e w' => e = .returned (.bool (betw n 1 4)) ∧ Below w.heap.size w w' := by
  go_enter Try.func63, Try.ntmps63
  go_wp2_with (go_at_call 58; refine (between_any _ _ _ _).mono ?_; rintro e w' ⟨rfl, hw⟩; subst hw)
  go_ret
  exact ⟨rfl, Below.refl _ _⟩
def sidesB (a b c d : Nat) : Bool := betw a 1 4 && (betw b 1 4 && (betw c 1 4 && betw d 1 4))
theorem every4 (g : Nat) (h0 h1 h2 h3 : Option Addr × Nat × Nat) (w : World)
    (e0 : w.cell? ⟨g, 0, none⟩ = some (.slice h0.1 h0.2.1 h0.2.2)) (e1 : w.cell? ⟨g, 1, none⟩ = some (.slice h1.1 h1.2.1 h1.2.2)) (e2 : w.cell? ⟨g, 2, none⟩ = some (.slice h2.1 h2.2.1 h2.2.2)) (e3 : w.cell? ⟨g, 3, none⟩ = some (.slice h3.1 h3.2.1 h3.2.2)) :
    Calls Try.prog 62 #[.slice (some ⟨g, 0, none⟩) 4 4, .func (.func 63) #[] #[]] w fun e w' => e = .returned (.bool (sidesB h0.2.1 h1.2.1 h2.2.1 h3.2.1)) ∧ Below w.heap.size w w' := by
  have H := everyHdr_any 63 (enters_of Try.func63 (by kernel_rfl) rfl) #[] (fun i => betw (([h0, h1, h2, h3] : List (Option Addr × Nat × Nat)).getD i (none, 0, 0)).2.1 1 4) (some ⟨g, 0, none⟩) 4 [h0, h1, h2, h3] w (by simp)
    (fun i hi => by
      match i, hi with
      | 0, _ => exact ⟨g, 0, rfl, e0⟩
      | 1, _ => exact ⟨g, 0, rfl, e1⟩
      | 2, _ => exact ⟨g, 0, rfl, e2⟩
      | 3, _ => exact ⟨g, 0, rfl, e3⟩) (fun i w1 _ _ => cnt1_any i _ _ _ w1)
  refine H.mono fun e w' ⟨he, hb⟩ => ⟨he.trans (ret_bool ?_), hb⟩
  simp [allB, List.range, List.range.loop, sidesB]
def groupB (p : Pln) : Bool := if p.grouped = true then betw p.aggs.length 1 4 && decide ((p.group.length : Int) ≤ 8 - p.aggs.length) else decide (p.group.length = 0) && decide (p.aggs.length = 0)
theorem many_iff (p : Pln) : decide (manyOk p) = (sidesB p.left.length p.right.length p.lkeys.length p.rkeys.length && groupB p) := by
  refine (dec_bool ?_).symm
  unfold manyOk sidesB groupB len14
  simp only [Bool.and_eq_true, betw_iff]
  refine and_congr ?_ ?_
  · omega
  · split
    · simp only [Bool.and_eq_true, betw_iff, decide_eq_true_eq]; omega
    · simp
set_option maxHeartbeats 4000000 in
theorem countsRight_any (p : Pln) (x : PA) (w : World) (hw : wfPlan p) :
    Calls Try.prog 36 #[planV p x] w fun e w' => e = .returned (.bool (decide (manyOk p))) ∧ Below w.heap.size w w' := by
  have HK : Hid (decide (manyOk p) = (sidesB p.left.length p.right.length p.lkeys.length p.rkeys.length && groupB p)) := many_iff p
  have HG : Hid (groupB p = if p.grouped = true then betw p.aggs.length 1 4 && decide ((p.group.length : Int) ≤ 8 - p.aggs.length) else decide (p.group.length = 0) && decide (p.aggs.length = 0)) := rfl
  have l11 := hw.g
  have l12 := hw.a
  rw [HG.out] at HK
  obtain ⟨kind, mode, low, high, size, limit, left, right, lkeys, rkeys, grouped, group, aggs⟩ := p
  obtain ⟨l, lc, r, rc, lk, lkc, rk, rkc, g, gc, a, ac⟩ := x
  unfold planV
  dsimp only at HK l11 l12 ⊢
  clear HG hw
  obtain ⟨n6, h6⟩ : ∃ n, left.length = n := ⟨_, rfl⟩
  obtain ⟨n7, h7⟩ : ∃ n, right.length = n := ⟨_, rfl⟩
  obtain ⟨n8, h8⟩ : ∃ n, lkeys.length = n := ⟨_, rfl⟩
  obtain ⟨n9, h9⟩ : ∃ n, rkeys.length = n := ⟨_, rfl⟩
  obtain ⟨n11, h11⟩ : ∃ n, group.length = n := ⟨_, rfl⟩
  obtain ⟨n12, h12⟩ : ∃ n, aggs.length = n := ⟨_, rfl⟩
  rw [h11] at l11
  rw [h12] at l12
  rw [h6, h7, h8, h9, h11, h12] at HK
  rw [h6, h7, h8, h9, h11, h12]
  clear h6 h7 h8 h9 h11 h12
  have HE : Hid (∀ (g0 : Nat) (w1 : World), w1.cell? ⟨g0, 0, none⟩ = some (.slice l n6 lc) → w1.cell? ⟨g0, 1, none⟩ = some (.slice r n7 rc) → w1.cell? ⟨g0, 2, none⟩ = some (.slice lk n8 lkc) → w1.cell? ⟨g0, 3, none⟩ = some (.slice rk n9 rkc) →
      Calls Try.prog 62 #[.slice (some ⟨g0, 0, none⟩) 4 4, .func (.func 63) #[] #[]] w1 fun e w' => e = .returned (.bool (sidesB n6 n7 n8 n9)) ∧ Below w1.heap.size w1 w') :=
    fun g0 w1 e0 e1 e2 e3 => every4 g0 (l, n6, lc) (r, n7, rc) (lk, n8, lkc) (rk, n9, rkc) w1 e0 e1 e2 e3
  obtain ⟨sb, hsb⟩ : ∃ z, sidesB n6 n7 n8 n9 = z := ⟨_, rfl⟩
  rw [hsb] at HE HK
  clear hsb
  cases sb
  · cases grouped
    all_goals
      go_enter Try.func36, Try.ntmps36
      go_wp2_with (first
        | (go_at_call 62; refine (HE.out _ _ (by go_simp) (by go_simp) (by go_simp) (by go_simp)).mono ?_; rintro e w1 ⟨rfl, hb1⟩; have hba := (((Below.refl _ _).alloc (Nat.le_refl _) _).alloc (by simp) _).trans (hb1.mono (by simp; omega)); obtain ⟨hc1, hf1⟩ := bcell hb1))
      go_ret
      exact ⟨ret_bool (by rw [HK.out]; simp), hba⟩
  · cases grouped
    · rw [if_neg (by decide)] at HK
      by_cases h0 : n11 = 0
      · subst h0
        go_enter Try.func36, Try.ntmps36
        go_wp2_with (first
          | (go_at_call 62; refine (HE.out _ _ (by go_simp) (by go_simp) (by go_simp) (by go_simp)).mono ?_; rintro e w1 ⟨rfl, hb1⟩; have hba := (((Below.refl _ _).alloc (Nat.le_refl _) _).alloc (by simp) _).trans (hb1.mono (by simp; omega)); obtain ⟨hc1, hf1⟩ := bcell hb1))
        go_ret
        exact ⟨ret_bool (by rw [HK.out]; exact Bool.eq_iff_iff.2 (by simp)), hba⟩
      · have hn0 : ((n11 : Int) == 0) = false := by simpa using h0
        rw [decide_eq_false h0] at HK
        clear h0
        go_enter Try.func36, Try.ntmps36
        go_wp2_with (first
          | (go_at_call 62; refine (HE.out _ _ (by go_simp) (by go_simp) (by go_simp) (by go_simp)).mono ?_; rintro e w1 ⟨rfl, hb1⟩; have hba := (((Below.refl _ _).alloc (Nat.le_refl _) _).alloc (by simp) _).trans (hb1.mono (by simp; omega)); obtain ⟨hc1, hf1⟩ := bcell hb1))
        go_ret
        exact ⟨ret_bool (by rw [HK.out]; rfl), hba⟩
    · rw [if_pos rfl] at HK
      obtain ⟨ab, hab⟩ : ∃ z, betw n12 1 4 = z := ⟨_, rfl⟩
      rw [hab] at HK
      cases ab
      · go_enter Try.func36, Try.ntmps36
        go_wp2_with (first
          | (go_at_call 62; refine (HE.out _ _ (by go_simp) (by go_simp) (by go_simp) (by go_simp)).mono ?_; rintro e w1 ⟨rfl, hb1⟩; have hba := (((Below.refl _ _).alloc (Nat.le_refl _) _).alloc (by simp) _).trans (hb1.mono (by simp; omega)); obtain ⟨hc1, hf1⟩ := bcell hb1)
          | (go_at_call 58; refine (between_any _ _ _ _).mono ?_; rintro e w' ⟨rfl, hw⟩; subst hw))
        go_ret
        exact ⟨ret_bool (by rw [HK.out]; rfl), hba⟩
      · have hn12 := (betw_iff _ _ _).1 hab
        obtain ⟨u1, u2⟩ := hn12
        go_enter Try.func36, Try.ntmps36
        go_wp2_with (first
          | (go_at_call 62; refine (HE.out _ _ (by go_simp) (by go_simp) (by go_simp) (by go_simp)).mono ?_; rintro e w1 ⟨rfl, hb1⟩; have hba := (((Below.refl _ _).alloc (Nat.le_refl _) _).alloc (by simp) _).trans (hb1.mono (by simp; omega)); obtain ⟨hc1, hf1⟩ := bcell hb1)
          | (go_at_call 58; refine (between_any _ _ _ _).mono ?_; rintro e w' ⟨rfl, hw⟩; subst hw))
        go_ret
        exact ⟨ret_bool (by rw [HK.out]; simp), hba⟩
end Go.Proofs.Ytibjihdeknndoaa.pl
