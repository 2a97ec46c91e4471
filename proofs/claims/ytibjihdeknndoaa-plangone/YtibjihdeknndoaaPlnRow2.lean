/- Row and the document's RowError. -/
import Derived.Test.YtibjihdeknndoaaPlnRow
namespace Go.Proofs.Ytibjihdeknndoaa.pl
open Go.ChangeShapes Go.WideShapes Go.ChangeAt Go.RowKit
open vl
set_option linter.unusedVariables false
set_option linter.unusedSimpArgs false
def rErr4 (sb : Bool) (n m : Nat) (er : Int) (tb : Bool) : Int := if sb = false then 4 else if n ≠ m then 2 else if er ≠ 0 then er else if tb = false then 5 else 0
set_option maxRecDepth 10000 in
set_option maxHeartbeats 4000000 in
theorem row_any (p : Pln) (x : PA) (side : Int) (ar : Option Addr) (cr : Nat) (r : List Cel) (w : World) (hw : wfPlan p) (hp : planAt w p x) (hr : vl.rowAt w ar r) (hwr : wfRow r) (hlr : r.length ≤ 9223372036854775807) :
    Calls Try.prog 15 #[planV p x, .int .i64 side, .slice ar r.length cr] w fun e w' => e = .returned (.int .i64 (rowErr p side r)) ∧ Below w.heap.size w w' := by
  have K1 : Hid (∀ w1, Below w.heap.size w w1 → Calls Try.prog 10 #[planV p x] w1 fun e w' => e = .returned (.int .i64 (planErr p)) ∧ Below w1.heap.size w1 w') := fun w1 hb => planCheck_any p x w1 hw (planAt_below hp hb)
  have K2 : Hid (∀ w1, Calls Try.prog 45 #[planV p x, .int .i64 side] w1 fun e w' => e = .returned (.slice (cA x side) (colsOf p side).length (cC x side)) ∧ Below w1.heap.size w1 w') := fun w1 => columns_any p x side w1
  have K3 : Hid (∀ w1, Below w.heap.size w w1 → Calls Try.prog 47 #[.slice ar r.length cr, .slice (cA x side) (colsOf p side).length (cC x side)] w1 fun e w' => e = .returned (.bool (typedB r (colsOf p side))) ∧ Below w1.heap.size w1 w') := fun w1 hb => typed_any ar (cA x side) cr (cC x side) r (colsOf p side) w1 hlr (colsLen hw side) (rowAt_below hr hb) (intsAt_below (colsAt hp side) hb)
  have HE : Hid (rowErr p side r = if planErr p = 0 then rErr4 (sideB side) r.length (colsOf p side).length (errR r) (typedB r (colsOf p side)) else planErr p) := rfl
  have hcl := colsLen hw side
  have HR : Hid (vl.rowAt w ar r) := hr
  obtain ⟨pe, hpe⟩ : ∃ z, planErr p = z := ⟨_, rfl⟩
  obtain ⟨res, hres⟩ : ∃ z, rowErr p side r = z := ⟨_, rfl⟩
  obtain ⟨ca, hca⟩ : ∃ z, cA x side = z := ⟨_, rfl⟩
  obtain ⟨cc, hcc⟩ : ∃ z, cC x side = z := ⟨_, rfl⟩
  obtain ⟨ka, hka⟩ : ∃ z, kA x side = z := ⟨_, rfl⟩
  obtain ⟨kc, hkc⟩ : ∃ z, kC x side = z := ⟨_, rfl⟩
  obtain ⟨cn, hcn⟩ : ∃ z, (colsOf p side).length = z := ⟨_, rfl⟩
  obtain ⟨kn, hkn⟩ : ∃ z, (keysOf p side).length = z := ⟨_, rfl⟩
  obtain ⟨tb, htb⟩ : ∃ z, typedB r (colsOf p side) = z := ⟨_, rfl⟩
  rw [hpe] at K1 HE
  rw [hca, hcc, hcn] at K2
  rw [hca, hcc, hcn, htb] at K3
  rw [hres, hcn, htb] at HE
  rw [hcn] at hcl
  rw [hres]
  clear hpe hres hca hcc hka hkc hcn hkn htb hp hw hr
  obtain ⟨n, hn⟩ : ∃ z, r.length = z := ⟨_, rfl⟩
  have HN : Hid (r.length = n) := hn
  rw [hn] at K3 HE hlr ⊢
  clear hn
  obtain ⟨kind, mode, low, high, size, limit, left, right, lkeys, rkeys, grouped, group, aggs⟩ := p
  obtain ⟨l, lc, rr, rc, lk, lkc, rk, rkc, g, gc, a, ac⟩ := x
  unfold planV at K1 K2 ⊢
  dsimp only at K1 K2 ⊢
  obtain ⟨n6, h6⟩ : ∃ n, left.length = n := ⟨_, rfl⟩
  obtain ⟨n7, h7⟩ : ∃ n, right.length = n := ⟨_, rfl⟩
  obtain ⟨n8, h8⟩ : ∃ n, lkeys.length = n := ⟨_, rfl⟩
  obtain ⟨n9, h9⟩ : ∃ n, rkeys.length = n := ⟨_, rfl⟩
  obtain ⟨n11, h11⟩ : ∃ n, group.length = n := ⟨_, rfl⟩
  obtain ⟨n12, h12⟩ : ∃ n, aggs.length = n := ⟨_, rfl⟩
  rw [h6, h7, h8, h9, h11, h12] at K1 K2
  rw [h6, h7, h8, h9, h11, h12]
  clear h6 h7 h8 h9 h11 h12
  go_enter Try.func15, Try.ntmps15
  go_wp2_with fail
  refine (K1.out _ ((Below.refl _ _).alloc (Nat.le_refl _) _)).mono ?_
  rintro e w1 ⟨rfl, hb1⟩
  have hba := ((Below.refl _ _).alloc (Nat.le_refl _) _).trans (hb1.mono (by simp))
  obtain ⟨hc1, hf1⟩ := bcell hb1
  by_cases h0 : pe = 0
  · subst h0
    rw [if_pos rfl] at HE
    cases hsb : sideB side
    · rw [hsb] at HE
      go_wp2_with (go_at_call 44; refine (isSide_any _ _).mono ?_; rintro e w' ⟨rfl, hw⟩; subst hw)
      go_ret
      exact ⟨ret_int (by rw [HE.out]; rfl), hba⟩
    rw [hsb] at HE
    go_wp2_with fail
    refine (isSide_any _ _).mono ?_
    rintro e w' ⟨rfl, hw'⟩
    subst hw'
    rw [hsb]
    go_wp2_with fail
    refine (K2.out _).mono ?_
    rintro e w2 ⟨rfl, hb2⟩
    have hbb := hba.trans (hb2.mono hba.size)
    clear hc1 hf1 K1 K2 hb1 hb2
    by_cases hnc : n = cn
    · subst hnc
      have hnc' : ((n : Int) != n) = false := by simp
      go_wp2
      go_loopw [11, 30] (fun _ i wr => ∃ j : Nat, j ≤ n ∧ i = .int .i64 j ∧ Below w.heap.size w wr ∧ ∀ i, i < j → (r.getD i default).ok) (fun _ i _ => n - (intOf i).toNat)
      case atStart => exact ⟨0, Nat.zero_le _, rfl, hbb, fun i hi => absurd hi (Nat.not_lt_zero i)⟩
      case round =>
        obtain ⟨j, hj, rfl, hnx, hall⟩ := hrel
        have HAL : Hid (∀ i, i < j → (r.getD i default).ok) := hall
        have hsz := hnx.size
        clear hall
        by_cases hlt : j < n
        · obtain ⟨b1, o1, e1, x1, x2, x3⟩ := HR.out j (by rw [HN.out]; exact hlt)
          subst e1
          have q1 := cell_later hnx x1
          have q2 := cell_later hnx x2
          have q3 := cell_later hnx x3
          have hww := wf_at hwr j (by rw [HN.out]; exact hlt)
          have HER : Hid (¬ (r.getD j default).ok → errR r = chk (r.getD j default).k (r.getD j default).n (r.getD j default).s) := errR_at r j (by rw [HN.out]; exact hlt) HAL.out
          have HOK : Hid ((r.getD j default).ok ↔ chk (r.getD j default).k (r.getD j default).n (r.getD j default).s = 0) := Iff.rfl
          have HST : Hid ((r.getD j default).ok → ∀ i, i < j + 1 → (r.getD i default).ok) := fun h i hi => by
            rcases Nat.lt_succ_iff_lt_or_eq.1 hi with h1 | h1
            · exact HAL.out i h1
            · rw [h1]; exact h
          obtain ⟨OK, hOK⟩ : ∃ z, (r.getD j default).ok = z := ⟨_, rfl⟩
          rw [hOK] at HER HOK HST
          obtain ⟨⟨kv, nv, sv⟩, hcv⟩ : ∃ z, r.getD j default = z := ⟨_, rfl⟩
          rw [hcv] at q1 q2 q3 hww HER HOK
          dsimp only at q1 q2 q3 hww HER HOK
          obtain ⟨⟨w1a, w2a⟩, w3a⟩ := hww
          have i1 : (0 : Int) ≤ (j : Int) := by omega
          have i2 : (j : Int) < (n : Int) := by omega
          clear hOK hcv x1 x2 x3
          by_cases hc : chk kv nv sv = 0
          · have hc' : (chk kv nv sv != 0) = false := by simpa using hc
            have HO : Hid OK := HOK.out.2 hc
            clear hc
            go_wp2_with (go_at_call 46; refine (vl.check_any _ _ _ _ w3a).mono ?_; rintro e wc ⟨rfl, hbc⟩; have hlow := (hnx.alloc hsz _).trans (hbc.mono (by simp; omega)))
            go_roundw
            case rel => exact ⟨j + 1, by omega, by go_num, hlow, HST.out HO.out⟩
            case measure => simp [intOf]; omega
          · have hc' : (chk kv nv sv != 0) = true := by simpa using hc
            have HX : Hid (res = chk kv nv sv) := by
              show res = _
              rw [HE.out, HER.out (fun h => hc (HOK.out.1 h))]
              unfold rErr4
              rw [if_neg (by decide), if_neg (by simp), if_pos hc]
            clear hc
            go_wp2_with (go_at_call 46; refine (vl.check_any _ _ _ _ w3a).mono ?_; rintro e wc ⟨rfl, hbc⟩; have hlow := (hnx.alloc hsz _).trans (hbc.mono (by simp; omega)))
            go_ret
            exact ⟨ret_int HX.out.symm, hlow⟩
        · have HX : Hid (res = if tb = false then 5 else 0) := by
            show res = _
            rw [HE.out, errR_end r j (by rw [HN.out]; omega) HAL.out]
            unfold rErr4
            rw [if_neg (by decide), if_neg (by simp), if_neg (by simp)]
          go_wp2_with fail
          refine (K3.out _ hnx).mono ?_
          rintro e w3 ⟨rfl, hb3⟩
          have hbc := hnx.trans (hb3.mono hsz)
          cases tb
          all_goals
            go_wp2
            go_ret
            exact ⟨ret_int HX.out.symm, hbc⟩
    · have hnc' : ((n : Int) != cn) = true := by simp; omega
      have HX : Hid (res = 2) := by
        show res = 2
        rw [HE.out]
        unfold rErr4
        rw [if_neg (by decide), if_pos hnc]
      clear hnc
      go_wp2
      go_ret
      exact ⟨ret_int HX.out.symm, hbb⟩
  · have h0' : (pe != 0) = true := by simpa using h0
    have HX : Hid (res = pe) := by show res = pe; rw [HE.out, if_neg h0]
    clear h0
    go_wp2
    go_ret
    exact ⟨ret_int HX.out.symm, hba⟩

theorem errR_key {r : List Cel} (h : r.length ≤ 8) : keyErr r = errR r := by unfold keyErr; rw [if_neg (by omega)]
set_option maxRecDepth 10000 in
set_option maxHeartbeats 4000000 in
theorem rowError_any (p : Pln) (x : PA) (side : Int) (ar : Option Addr) (cr : Nat) (r : List Cel) (w : World) (hw : wfPlan p) (hp : planAt w p x) (hm : planErr p = 0) (hr : vl.rowAt w ar r) (hwr : wfRow r) (hlr : r.length ≤ 9223372036854775807) :
    Calls Try.prog 14 #[planV p x, .int .i64 side, .slice ar r.length cr] w fun e w' => e = .returned (.int .i64 (rErr p side r)) ∧ Below w.heap.size w w' := by
  have hml := many_len (planErr_ok hm).2.2.1
  have K1 : Hid (∀ w1, Below w.heap.size w w1 → Calls Try.prog 42 #[.slice ar r.length cr] w1 fun e w' => e = .returned (.int .i64 (keyErr r)) ∧ Below w1.heap.size w1 w') := fun w1 hb => vl.keyError_any ar cr r w1 (rowAt_below hr hb) hwr hlr
  have K2 : Hid (∀ w1, Below w.heap.size w w1 → Calls Try.prog 43 #[.slice (cA x side) (colsOf p side).length (cC x side), .slice ar r.length cr] w1 fun e w' => e = .returned (.int .i64 (fErr (colsOf p side) r)) ∧ Below w1.heap.size w1 w') := fun w1 hb => fitsTypes_any ar (cA x side) cr (cC x side) r (colsOf p side) w1 hlr (colsLen hw side) (rowAt_below hr hb) (intsAt_below (colsAt hp side) hb)
  have HE : Hid (rErr p side r = rErr4 (sideB side) r.length (colsOf p side).length (errR r) (typedB r (colsOf p side))) := rfl
  have HF : Hid (fErr (colsOf p side) r = if r.length ≠ (colsOf p side).length then 2 else if typedB r (colsOf p side) = false then 5 else 0) := rfl
  have HKE : Hid (r.length = (colsOf p side).length → keyErr r = errR r) := fun h => errR_key (by rw [h]; unfold colsOf; split <;> omega)
  have H2 : Hid (side = 2 → cA x side = x.r ∧ cC x side = x.rc ∧ (colsOf p side).length = p.right.length) := fun h => by show cA x side = x.r ∧ cC x side = x.rc ∧ _; unfold cA cC colsOf; simp only [if_pos h]; exact ⟨trivial, trivial, trivial⟩
  have H1 : Hid (¬ side = 2 → cA x side = x.l ∧ cC x side = x.lc ∧ (colsOf p side).length = p.left.length) := fun h => by show cA x side = x.l ∧ cC x side = x.lc ∧ _; unfold cA cC colsOf; simp only [if_neg h]; exact ⟨trivial, trivial, trivial⟩
  have hcl := colsLen hw side
  obtain ⟨res, hres⟩ : ∃ z, rErr p side r = z := ⟨_, rfl⟩
  obtain ⟨ca, hca⟩ : ∃ z, cA x side = z := ⟨_, rfl⟩
  obtain ⟨cc, hcc⟩ : ∃ z, cC x side = z := ⟨_, rfl⟩
  obtain ⟨cn, hcn⟩ : ∃ z, (colsOf p side).length = z := ⟨_, rfl⟩
  obtain ⟨tb, htb⟩ : ∃ z, typedB r (colsOf p side) = z := ⟨_, rfl⟩
  obtain ⟨ke, hke⟩ : ∃ z, keyErr r = z := ⟨_, rfl⟩
  obtain ⟨er, her⟩ : ∃ z, errR r = z := ⟨_, rfl⟩
  obtain ⟨fe, hfe⟩ : ∃ z, fErr (colsOf p side) r = z := ⟨_, rfl⟩
  rw [hke] at K1 HKE
  rw [hca, hcc, hcn, hfe] at K2
  rw [hres, hcn, htb, her] at HE
  rw [hfe, hcn, htb] at HF
  rw [her, hcn] at HKE
  rw [hca, hcc, hcn] at H1 H2
  rw [hcn] at hcl
  rw [hres]
  clear hres hca hcc hcn htb hke her hfe hp hw hr hm hml
  obtain ⟨n, hn⟩ : ∃ z, r.length = z := ⟨_, rfl⟩
  rw [hn] at K1 K2 HE HF HKE hlr ⊢
  clear hn hwr
  obtain ⟨kind, mode, low, high, size, limit, left, right, lkeys, rkeys, grouped, group, aggs⟩ := p
  obtain ⟨l, lc, rr, rc, lk, lkc, rk, rkc, g, gc, a, ac⟩ := x
  unfold planV
  dsimp only at H1 H2 ⊢
  obtain ⟨n6, h6⟩ : ∃ n, left.length = n := ⟨_, rfl⟩
  obtain ⟨n7, h7⟩ : ∃ n, right.length = n := ⟨_, rfl⟩
  rw [h6] at H1 ⊢
  rw [h7] at H2 ⊢
  clear h6 h7
  cases hsb : sideB side
  · rw [hsb] at HE
    have hns : ¬ (side = 1 ∨ side = 2) := of_decide_eq_false hsb
    have s2 : (side == 2) = false := by simp; omega
    have s1 : (side != 1) = true := by simp; omega
    clear hns
    go_enter Try.func14, Try.ntmps14
    go_wp2
    go_ret
    exact ⟨ret_int (by rw [HE.out]; rfl), (Below.refl _ _).alloc (Nat.le_refl _) _⟩
  rw [hsb] at HE
  have hsd : side = 1 ∨ side = 2 := of_decide_eq_true hsb
  rcases hsd with rfl | rfl
  · obtain ⟨rfl, rfl, rfl⟩ := H1.out (by decide)
    clear H1 H2 hsb
    by_cases hnc : n = cn
    · subst hnc
      have hnc' : ((n : Int) != n) = false := by simp
      have hk := HKE.out (by trivial)
      subst hk
      clear HKE
      go_enter Try.func14, Try.ntmps14
      go_wp2_with fail
      refine (K1.out _ ((Below.refl _ _).alloc (Nat.le_refl _) _)).mono ?_
      rintro e w1 ⟨rfl, hb1⟩
      have hba := ((Below.refl _ _).alloc (Nat.le_refl _) _).trans (hb1.mono (by simp))
      by_cases h0 : ke = 0
      · subst h0
        have HX : Hid (res = fe) := by
          show res = fe
          rw [HE.out, HF.out]
          unfold rErr4
          simp
        go_wp2_with fail
        refine (K2.out _ hba).mono ?_
        rintro e w2 ⟨rfl, hb2⟩
        go_wp2
        go_ret
        exact ⟨ret_int HX.out.symm, hba.trans (hb2.mono hba.size)⟩
      · have h0' : (ke != 0) = true := by simpa using h0
        have HX : Hid (res = ke) := by
          show res = ke
          rw [HE.out]
          unfold rErr4
          rw [if_neg (by decide), if_neg (by simp), if_pos h0]
        clear h0
        go_wp2
        go_ret
        exact ⟨ret_int HX.out.symm, hba⟩
    · have hnc' : ((n : Int) != cn) = true := by simp; omega
      have HX : Hid (res = 2) := by
        show res = 2
        rw [HE.out]
        unfold rErr4
        rw [if_neg (by decide), if_pos hnc]
      clear hnc
      go_enter Try.func14, Try.ntmps14
      go_wp2
      go_ret
      exact ⟨ret_int HX.out.symm, (Below.refl _ _).alloc (Nat.le_refl _) _⟩
  · obtain ⟨rfl, rfl, rfl⟩ := H2.out rfl
    clear H1 H2 hsb
    by_cases hnc : n = cn
    · subst hnc
      have hnc' : ((n : Int) != n) = false := by simp
      have hk := HKE.out (by trivial)
      subst hk
      clear HKE
      go_enter Try.func14, Try.ntmps14
      go_wp2_with fail
      refine (K1.out _ ((Below.refl _ _).alloc (Nat.le_refl _) _)).mono ?_
      rintro e w1 ⟨rfl, hb1⟩
      have hba := ((Below.refl _ _).alloc (Nat.le_refl _) _).trans (hb1.mono (by simp))
      by_cases h0 : ke = 0
      · subst h0
        have HX : Hid (res = fe) := by
          show res = fe
          rw [HE.out, HF.out]
          unfold rErr4
          simp
        go_wp2_with fail
        refine (K2.out _ hba).mono ?_
        rintro e w2 ⟨rfl, hb2⟩
        go_wp2
        go_ret
        exact ⟨ret_int HX.out.symm, hba.trans (hb2.mono hba.size)⟩
      · have h0' : (ke != 0) = true := by simpa using h0
        have HX : Hid (res = ke) := by
          show res = ke
          rw [HE.out]
          unfold rErr4
          rw [if_neg (by decide), if_neg (by simp), if_pos h0]
        clear h0
        go_wp2
        go_ret
        exact ⟨ret_int HX.out.symm, hba⟩
    · have hnc' : ((n : Int) != cn) = true := by simp; omega
      have HX : Hid (res = 2) := by
        show res = 2
        rw [HE.out]
        unfold rErr4
        rw [if_neg (by decide), if_pos hnc]
      clear hnc
      go_enter Try.func14, Try.ntmps14
      go_wp2
      go_ret
      exact ⟨ret_int HX.out.symm, (Below.refl _ _).alloc (Nat.le_refl _) _⟩
end Go.Proofs.Ytibjihdeknndoaa.pl
