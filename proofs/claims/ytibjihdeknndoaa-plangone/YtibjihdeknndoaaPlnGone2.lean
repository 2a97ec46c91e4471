/- Gone, and the document's GoneAt: the whole. -/
import Derived.Test.YtibjihdeknndoaaPlnGone
namespace Go.Proofs.Ytibjihdeknndoaa.pl
open Go.ChangeShapes Go.WideShapes Go.ChangeAt Go.RowKit
open vl
set_option linter.unusedVariables false
set_option linter.unusedSimpArgs false
theorem ok_1 {p : Pln} (h : planErr p = 0) (hk : p.kind = 1) : fit p.low ∧ fit p.high := by
  have := (planErr_ok h).2.1.1
  rw [if_pos hk] at this; exact this
theorem ok_2 {p : Pln} (h : planErr p = 0) (hk : p.kind = 2) : 1 ≤ p.size ∧ p.size ≤ 1099511627776 := by
  have := (planErr_ok h).2.1.2.1
  rw [if_pos hk] at this; exact this
theorem fit_neg {t : Int} (h : fit t) : fit (-t) := by unfold fit at *; omega
def gErr (pe : Int) (sb fb : Bool) : Int := if pe = 0 then (if sb = true then (if fb = true then 0 else 3) else 4) else pe
set_option maxRecDepth 10000 in
set_option maxHeartbeats 4000000 in
theorem gone_any (p : Pln) (x : PA) (side mark : Int) (w : World) (hw : wfPlan p) (hp : planAt w p x) :
    Calls Try.prog 17 #[planV p x, .int .i64 side, .int .i64 mark] w fun e w' => e = .returned (.tuple #[.int .i64 (goneV p side mark), .int .i64 (goneErr p side mark)]) ∧ Below w.heap.size w w' := by
  have K1 : Hid (∀ w1, Below w.heap.size w w1 → Calls Try.prog 10 #[planV p x] w1 fun e w' => e = .returned (.int .i64 (planErr p)) ∧ Below w1.heap.size w1 w') := fun w1 hb => planCheck_any p x w1 hw (planAt_below hp hb)
  have HE : Hid (goneErr p side mark = gErr (planErr p) (sideB side) (tm.fitB mark)) := rfl
  have HV : Hid (goneV p side mark = if gErr (planErr p) (sideB side) (tm.fitB mark) = 0 then goneAt p side mark else 0) := rfl
  have K2 : Hid (∀ w1, planErr p = 0 → p.kind = 1 → Calls Try.prog 50 #[planV p x, .int .i64 side] w1 fun e w' => e = .returned (.int .i64 (if side = 2 then -p.low else p.high)) ∧ Below w1.heap.size w1 w') := fun w1 h hk => reach_any p x side w1 (ok_1 h hk).1
  have HF : Hid (planErr p = 0 → p.kind = 1 → fit (if side = 2 then -p.low else p.high)) := fun h hk => by
    have := ok_1 h hk
    split
    · exact fit_neg this.1
    · exact this.2
  have HS : Hid (planErr p = 0 → p.kind = 2 → 1 ≤ p.size ∧ p.size ≤ 1099511627776) := fun h hk => ok_2 h hk
  have HG1 : Hid (p.kind = 1 → goneAt p side mark = untilV mark (if side = 2 then -p.low else p.high)) := fun h => if_pos h
  have HG2 : Hid (p.kind = 2 → goneAt p side mark = winV mark p.size) := fun h => by show goneAt p side mark = _; unfold goneAt; rw [if_neg (by omega), if_pos h]
  have HG3 : Hid (¬ p.kind = 1 → ¬ p.kind = 2 → goneAt p side mark = if side = 2 then -1099511627777 else mark) := fun h1 h2 => by show goneAt p side mark = _; unfold goneAt; rw [if_neg h1, if_neg h2]
  obtain ⟨pe, hpe⟩ : ∃ z, planErr p = z := ⟨_, rfl⟩
  rw [hpe] at K1 HE HV K2 HF HS
  obtain ⟨rv, hrv⟩ : ∃ z, (if side = 2 then -p.low else p.high) = z := ⟨_, rfl⟩
  rw [hrv] at K2 HF HG1
  obtain ⟨gv, hgv⟩ : ∃ z, goneV p side mark = z := ⟨_, rfl⟩
  obtain ⟨ge, hge⟩ : ∃ z, goneErr p side mark = z := ⟨_, rfl⟩
  obtain ⟨ga, hga⟩ : ∃ z, goneAt p side mark = z := ⟨_, rfl⟩
  rw [hgv] at HV ⊢
  rw [hge] at HE ⊢
  rw [hga] at HV HG1 HG2 HG3
  clear hpe hrv hgv hge hga hw hp
  obtain ⟨kind, mode, low, high, size, limit, left, right, lkeys, rkeys, grouped, group, aggs⟩ := p
  obtain ⟨l, lc, r, rc, lk, lkc, rk, rkc, g, gc, a, ac⟩ := x
  unfold planV at K1 K2 ⊢
  dsimp only at K1 K2 HF HS HG1 HG2 HG3 ⊢
  obtain ⟨n6, h6⟩ : ∃ n, left.length = n := ⟨_, rfl⟩
  obtain ⟨n7, h7⟩ : ∃ n, right.length = n := ⟨_, rfl⟩
  obtain ⟨n8, h8⟩ : ∃ n, lkeys.length = n := ⟨_, rfl⟩
  obtain ⟨n9, h9⟩ : ∃ n, rkeys.length = n := ⟨_, rfl⟩
  obtain ⟨n11, h11⟩ : ∃ n, group.length = n := ⟨_, rfl⟩
  obtain ⟨n12, h12⟩ : ∃ n, aggs.length = n := ⟨_, rfl⟩
  rw [h6, h7, h8, h9, h11, h12] at K1 K2
  rw [h6, h7, h8, h9, h11, h12]
  clear h6 h7 h8 h9 h11 h12
  go_enter Try.func17, Try.ntmps17
  go_wp2_with fail
  refine (K1.out _ ((Below.refl _ _).alloc (Nat.le_refl _) _)).mono ?_
  rintro e w1 ⟨rfl, hb1⟩
  have hba := ((Below.refl _ _).alloc (Nat.le_refl _) _).trans (hb1.mono (by simp))
  obtain ⟨hc1, hf1⟩ := bcell hb1
  have hz1 : w.heap.size < w1.heap.size := (by have := hb1.size; simp at this; omega)
  by_cases h0 : pe = 0
  · subst h0
    cases hsb : sideB side
    · rw [hsb] at HE HV
      go_wp2_with (go_at_call 44; refine (isSide_any _ _).mono ?_; rintro e w' ⟨rfl, hw⟩; subst hw)
      go_ret2
      exact ⟨ret_two (by rw [HV.out]; rfl) (by rw [HE.out]; rfl), hba⟩
    rw [hsb] at HE HV
    cases hfb : tm.fitB mark
    · rw [hfb] at HE HV
      go_wp2_with (first
        | (go_at_call 44; refine (isSide_any _ _).mono ?_; rintro e w' ⟨rfl, hw⟩; subst hw)
        | (go_at_call 20; refine (tm.fits_any _ _).mono ?_; rintro e w' ⟨rfl, hw⟩; subst hw))
      go_ret2
      exact ⟨ret_two (by rw [HV.out]; rfl) (by rw [HE.out]; rfl), hba⟩
    rw [hfb] at HE HV
    have HFM : Hid (fit mark) := fit_fitB.2 hfb
    have HV' : Hid (gv = ga) := HV.out
    have HE' : Hid (ge = 0) := HE.out
    clear HV HE
    by_cases k1 : kind = 1
    · subst k1
      have HG := HG1.out rfl
      have HGG : Hid (ga = untilV mark rv) := HG
      have KR : Hid (∀ w1, Calls Try.prog 50 #[.agg #[.int .i64 1, .int .i64 mode, .int .i64 low, .int .i64 high, .int .i64 size, .int .i64 limit, .slice l n6 lc, .slice r n7 rc, .slice lk n8 lkc, .slice rk n9 rkc, .bool grouped, .slice g n11 gc, .slice a n12 ac], .int .i64 side] w1 fun e w' => e = .returned (.int .i64 rv) ∧ Below w1.heap.size w1 w') := fun w1 => K2.out w1 rfl rfl
      have HFR : Hid (fit rv) := HF.out rfl rfl
      clear HG K2 HF HG1 HG2 HG3 HS
      go_wp2_with (first
        | (go_at_call 44; refine (isSide_any _ _).mono ?_; rintro e w' ⟨rfl, hw⟩; subst hw)
        | (go_at_call 20; refine (tm.fits_any _ _).mono ?_; rintro e w' ⟨rfl, hw⟩; subst hw)
        | (go_at_call 50; refine (KR.out _).mono ?_; rintro e w2 ⟨rfl, hb2⟩; have hbb := hba.trans (hb2.mono hba.size))
        | (go_at_call 49; refine (until_b _ _ _ HFM.out HFR.out).mono ?_; rintro e w3 ⟨rfl, hb3⟩; have hbc := hbb.trans (hb3.mono hbb.size)))
      go_ret2
      exact ⟨ret_two (by rw [HV'.out, HGG.out]) HE'.out.symm, hbc⟩
    · have k1' : (kind == 1) = false := by simpa using k1
      by_cases k2 : kind = 2
      · subst k2
        have HGG : Hid (ga = winV mark size) := HG2.out rfl
        have HSS := HS.out rfl rfl
        obtain ⟨s1, s2⟩ := HSS
        clear K2 HF HG1 HG2 HG3 HS k1
        go_wp2_with (first
          | (go_at_call 44; refine (isSide_any _ _).mono ?_; rintro e w' ⟨rfl, hw⟩; subst hw)
          | (go_at_call 20; refine (tm.fits_any _ _).mono ?_; rintro e w' ⟨rfl, hw⟩; subst hw)
          | (go_at_call 51; refine (goneWin_any _ _ _ HFM.out s1 s2).mono ?_; rintro e w3 ⟨rfl, hb3⟩; have hbc := hba.trans (hb3.mono hba.size)))
        go_ret2
        exact ⟨ret_two (by rw [HV'.out, HGG.out]) HE'.out.symm, hbc⟩
      · have k2' : (kind == 2) = false := by simpa using k2
        have HGG : Hid (ga = if side = 2 then -1099511627777 else mark) := HG3.out k1 k2
        clear K2 HF HG1 HG2 HG3 HS k1 k2
        by_cases s2 : side = 2
        · subst s2
          go_wp2_with (first
            | (go_at_call 44; refine (isSide_any _ _).mono ?_; rintro e w' ⟨rfl, hw⟩; subst hw)
            | (go_at_call 20; refine (tm.fits_any _ _).mono ?_; rintro e w' ⟨rfl, hw⟩; subst hw))
          go_ret2
          exact ⟨ret_two (by rw [HV'.out, HGG.out]; rfl) HE'.out.symm, hba⟩
        · have s2' : (side == 2) = false := by simpa using s2
          rw [if_neg s2] at HGG
          clear s2
          go_wp2_with (first
            | (go_at_call 44; refine (isSide_any _ _).mono ?_; rintro e w' ⟨rfl, hw⟩; subst hw)
            | (go_at_call 20; refine (tm.fits_any _ _).mono ?_; rintro e w' ⟨rfl, hw⟩; subst hw))
          go_ret2
          exact ⟨ret_two (by rw [HV'.out, HGG.out]) HE'.out.symm, hba⟩
  · have h0' : (pe != 0) = true := by simpa using h0
    have HE' : Hid (ge = pe) := by show ge = pe; rw [HE.out]; exact if_neg h0
    have HV' : Hid (gv = 0) := by
      show gv = 0
      rw [HV.out, if_neg]
      unfold gErr
      rw [if_neg h0]; exact h0
    clear h0 HE HV
    go_wp2
    go_ret2
    exact ⟨ret_two HV'.out.symm HE'.out.symm, hba⟩

set_option maxRecDepth 10000 in
set_option maxHeartbeats 4000000 in
theorem rgone_any (p : Pln) (x : PA) (side mark : Int) (w : World) (h : planErr p = 0) (hm : fit mark) :
    Calls Try.prog 19 #[planV p x, .int .i64 side, .int .i64 mark] w fun e w' => e = .returned (.int .i64 (goneAt p side mark)) ∧ Below w.heap.size w w' := by
  have HF : Hid (p.kind = 1 → fit p.low ∧ fit p.high) := fun hk => ok_1 h hk
  have HS : Hid (p.kind = 2 → 1 ≤ p.size ∧ p.size ≤ 1099511627776) := fun hk => ok_2 h hk
  have HG1 : Hid (p.kind = 1 → goneAt p side mark = untilV mark (if side = 2 then -p.low else p.high)) := fun h => if_pos h
  have HG2 : Hid (p.kind = 2 → goneAt p side mark = winV mark p.size) := fun h => by show goneAt p side mark = _; unfold goneAt; rw [if_neg (by omega), if_pos h]
  have HG3 : Hid (¬ p.kind = 1 → ¬ p.kind = 2 → goneAt p side mark = if side = 2 then -1099511627777 else mark) := fun h1 h2 => by show goneAt p side mark = _; unfold goneAt; rw [if_neg h1, if_neg h2]
  obtain ⟨ga, hga⟩ : ∃ z, goneAt p side mark = z := ⟨_, rfl⟩
  rw [hga] at HG1 HG2 HG3 ⊢
  have HFM : Hid (fit mark) := hm
  clear hga h
  obtain ⟨kind, mode, low, high, size, limit, left, right, lkeys, rkeys, grouped, group, aggs⟩ := p
  obtain ⟨l, lc, r, rc, lk, lkc, rk, rkc, g, gc, a, ac⟩ := x
  unfold planV
  dsimp only at HF HS HG1 HG2 HG3 ⊢
  obtain ⟨m1, m2⟩ := hm
  by_cases k1 : kind = 1
  · subst k1
    have hf := HF.out rfl
    have HGG := HG1.out rfl
    obtain ⟨f1, f2⟩ := hf
    obtain ⟨l1, l2⟩ := id f1
    clear HG1 HG2 HG3 HF HS
    by_cases s2 : side = 2
    · subst s2
      have HG4 : Hid (ga = untilV mark (-low)) := HGG
      have KU : Hid (∀ w1, Calls Try.prog 52 #[.int .i64 mark, .int .i64 (-low)] w1 fun e w' => e = .returned (.int .i64 (untilV mark (-low))) ∧ w' = w1) := fun w1 => tm.runtil_any mark (-low) w1 (by unfold tm.fit2; rw [fit_of HFM.out, fit_of (fit_neg f1)]; rfl)
      clear HGG f1 f2
      go_enter Try.func19, Try.ntmps19
      go_wp2_with (go_at_call 52; refine (KU.out _).mono ?_; rintro e w' ⟨rfl, hw⟩; subst hw)
      go_ret
      exact ⟨ret_int HG4.out.symm, (Below.refl _ _).alloc (Nat.le_refl _) _⟩
    · have s2' : (side == 2) = false := by simpa using s2
      rw [if_neg s2] at HGG
      have HG4 : Hid (ga = untilV mark high) := HGG
      have KU : Hid (∀ w1, Calls Try.prog 52 #[.int .i64 mark, .int .i64 high] w1 fun e w' => e = .returned (.int .i64 (untilV mark high)) ∧ w' = w1) := fun w1 => tm.runtil_any mark high w1 (by unfold tm.fit2; rw [fit_of HFM.out, fit_of f2]; rfl)
      clear HGG f1 f2 s2
      go_enter Try.func19, Try.ntmps19
      go_wp2_with (go_at_call 52; refine (KU.out _).mono ?_; rintro e w' ⟨rfl, hw⟩; subst hw)
      go_ret
      exact ⟨ret_int HG4.out.symm, (Below.refl _ _).alloc (Nat.le_refl _) _⟩
  · have k1' : (kind == 1) = false := by simpa using k1
    by_cases k2 : kind = 2
    · subst k2
      have HGG : Hid (ga = winV mark size) := HG2.out rfl
      have HSS := HS.out rfl
      obtain ⟨s1, s2⟩ := HSS
      clear HF HG1 HG2 HG3 HS k1
      by_cases e : mark = 1099511627776
      · subst e
        go_enter Try.func19, Try.ntmps19
        go_wp2
        go_ret
        exact ⟨ret_int (by rw [HGG.out]; rfl), (Below.refl _ _).alloc (Nat.le_refl _) _⟩
      · have hm' : (mark == 1099511627776) = false := by simpa using e
        have HW : Hid (ga = tm.start (mark + 1) size - 1) := by show ga = _; rw [HGG.out]; exact if_neg e
        have sb := tm.start_bd (mark + 1) size (by omega)
        obtain ⟨sb1, sb2⟩ := sb
        have KS : Hid (∀ w1, Calls Try.prog 53 #[.int .i64 (mark + 1), .int .i64 size] w1 fun e w' => e = .returned (.int .i64 (tm.start (mark + 1) size)) ∧ w' = w1) := fun w1 => tm.start_any (mark + 1) size w1 (by omega) (by omega) s1 s2
        obtain ⟨sv, hsv⟩ : ∃ z, tm.start (mark + 1) size = z := ⟨_, rfl⟩
        rw [hsv] at KS HW sb1 sb2
        clear hsv e HGG
        go_enter Try.func19, Try.ntmps19
        go_wp2_with (go_at_call 53; refine (KS.out _).mono ?_; rintro e w' ⟨rfl, hw⟩; subst hw)
        go_ret
        exact ⟨ret_int HW.out.symm, (Below.refl _ _).alloc (Nat.le_refl _) _⟩
    · have k2' : (kind == 2) = false := by simpa using k2
      have HGG : Hid (ga = if side = 2 then -1099511627777 else mark) := HG3.out k1 k2
      clear HF HG1 HG2 HG3 HS k1 k2
      by_cases s2 : side = 2
      · subst s2
        go_enter Try.func19, Try.ntmps19
        go_wp2
        go_ret
        exact ⟨ret_int (by rw [HGG.out]; rfl), (Below.refl _ _).alloc (Nat.le_refl _) _⟩
      · have s2' : (side == 2) = false := by simpa using s2
        rw [if_neg s2] at HGG
        clear s2
        go_enter Try.func19, Try.ntmps19
        go_wp2
        go_ret
        exact ⟨ret_int HGG.out.symm, (Below.refl _ _).alloc (Nat.le_refl _) _⟩
end Go.Proofs.Ytibjihdeknndoaa.pl
