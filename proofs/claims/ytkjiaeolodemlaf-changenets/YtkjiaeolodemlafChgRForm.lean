/- The document's FormOf and sign. -/
import Derived.Test.YtkjiaeolodemlafChgKeys
namespace Go.Proofs.Ytkjiaeolodemlaf.ch
open Go.ChangeShapes Go.WideShapes Go.ChangeAt Go.RowKit Go.Maps Go.WideMaps
open vl
set_option linter.unusedVariables false
set_option linter.unusedSimpArgs false

theorem ret_ferr {a b : Int} (h : a = b) : Ending.returned (.int .i64 a) = .returned (.int .i64 b) := by rw [h]
theorem sign_any (k : Int) (ra : Option Addr) (rl rc : Nat) (w : World) : Calls Try.prog 34 #[.agg #[.int .i64 k, .slice ra rl rc]] w fun e w' => e = .returned (.int .i64 (moreOf k)) ∧ Below w.heap.size w w' := by
  by_cases h1 : k = 1
  · subst h1
    go_enter Try.func34, Try.ntmps34
    go_wp2
    go_ret
    exact ⟨rfl, (Below.refl _ _).alloc (Nat.le_refl _) _⟩
  · have h1' : (k == 1) = false := by simpa using h1
    by_cases h2 : k = 4
    · subst h2
      go_enter Try.func34, Try.ntmps34
      go_wp2
      go_ret
      exact ⟨rfl, (Below.refl _ _).alloc (Nat.le_refl _) _⟩
    · have h2' : (k == 4) = false := by simpa using h2
      have e : moreOf k = -1 := by unfold moreOf; rw [if_neg (by omega)]
      rw [e]
      go_enter Try.func34, Try.ntmps34
      go_wp2
      go_ret
      exact ⟨rfl, (Below.refl _ _).alloc (Nat.le_refl _) _⟩


set_option maxRecDepth 100000 in
set_option maxHeartbeats 8000000 in
theorem formOf_any (a : Option Addr) (cap : Nat) (l : List Chg) (w : World) (hv : chgsAt w a l) (hw : wfChgs l) (hl : l.length ≤ 9223372036854775807) :
    Calls Try.prog 14 #[.slice a l.length cap] w fun e w' => e = .returned (.int .i64 (formErr l)) ∧ Below w.heap.size w w' := by
  obtain ⟨n, hn⟩ : ∃ n, l.length = n := ⟨_, rfl⟩
  have HN : Hid (l.length = n) := hn
  rw [hn] at hl ⊢
  clear hn
  by_cases h4 : 4096 < n
  · have HE : Hid (formErr l = 2) := formErr_many (by rw [HN.out]; exact h4)
    go_enter Try.func14, Try.ntmps14
    go_wp2
    go_ret
    exact ⟨ret_ferr HE.out.symm, Below.refl _ _⟩
  · have HV : Hid (chgsAt w a l) := hv
    clear hv
    go_enter Try.func14, Try.ntmps14
    go_wp2
    go_loopw [3] (fun i wr => ∃ k : Nat, k ≤ n ∧ i = .int .i64 k ∧ Below w.heap.size w wr ∧ (∀ i, i < k → chgOk l i)) (fun i _ => n - (intOf i).toNat)
    case atStart => exact ⟨0, by omega, rfl, Below.refl _ _, fun i hi => absurd hi (Nat.not_lt_zero i)⟩
    case round =>
      obtain ⟨k, hk, rfl, hnx, hall⟩ := hrel
      have HA : Hid (∀ i, i < k → chgOk l i) := hall
      clear hall
      by_cases hlt : k < n
      · have hkl : k < l.length := by rw [HN.out]; exact hlt
        obtain ⟨b, o, ra, rc, e, x1, x2, x3⟩ := HV.out k hkl
        subst e
        obtain ⟨ww1, ww2, ww3, ww4⟩ := wfc_at hw k hkl
        have HCELL : Hid (∀ j, j < n → wr.cell? ⟨b, o + j * 2, none⟩ = some (.int .i64 (l.getD j default).k)) := fun j hj => by
          obtain ⟨b', o', ra', rc', e', y1, _, _⟩ := HV.out j (by rw [HN.out]; exact hj)
          cases e'
          exact cell_later hnx y1
        have q1 := cell_later hnx x1
        have q2 := cell_later hnx x2
        have HR : Hid (vl.rowAt wr ra (l.getD k default).r) := rowAt_below x3 hnx
        have i1 : (0 : Int) ≤ (k : Int) := by omega
        have i2 : (k : Int) < (n : Int) := by omega
        have HB : Hid (chgErr l k ≠ 0 → formErr l = chgErr l k) := fun he => formErr_at (by rw [HN.out]; exact h4) k hkl HA.out he
        have HDEF : Hid (chgErr l k = if (l.getD k default).k < 1 ∨ 4 < (l.getD k default).k then 4 else if keyErr (l.getD k default).r = 0 then (if pairedAt l k then 0 else 6) else keyErr (l.getD k default).r) := rfl
        have HPD : Hid (pairedAt l k = if (l.getD k default).k = 3 then decide (k + 1 < n) && decide ((l.getD (k + 1) default).k = 4) else if (l.getD k default).k = 4 then decide (0 < k) && decide ((l.getD (k - 1) default).k = 3) else true) := by
          show pairedAt l k = _
          rw [← HN.out]; rfl
        obtain ⟨⟨m, r⟩, hcv⟩ : ∃ c, l.getD k default = c := ⟨_, rfl⟩
        rw [hcv] at q1 q2 HR HDEF HPD ww1 ww2 ww3 ww4
        dsimp only at q1 q2 HR HDEF HPD ww1 ww2 ww3 ww4
        clear x1 x2 x3 hcv
        obtain ⟨rl, hrl⟩ : ∃ l, r.length = l := ⟨_, rfl⟩
        rw [hrl] at q2
        have KK : Hid (∀ w, vl.rowAt w ra r → Calls Try.prog 33 #[.slice ra rl rc] w fun e w' => e = .returned (.int .i64 (keyErr r)) ∧ Below w.heap.size w w') := by
          subst hrl; exact fun w h => keyError_any ra rc r w h ww1 ww2
        obtain ⟨ke, hke⟩ : ∃ z, keyErr r = z := ⟨_, rfl⟩
        rw [hke] at KK HDEF
        clear hke hrl
        by_cases e1 : m < 1
        · have HE : Hid (formErr l = 4) := by
            have hd := HDEF.out
            rw [if_pos (.inl e1)] at hd
            show formErr l = 4
            rw [HB.out (by rw [hd]; decide), hd]
          go_wp2
          go_ret
          exact ⟨ret_ferr HE.out.symm, hnx⟩
        · by_cases e2 : 4 < m
          · have HE : Hid (formErr l = 4) := by
              have hd := HDEF.out
              rw [if_pos (.inr e2)] at hd
              show formErr l = 4
              rw [HB.out (by rw [hd]; decide), hd]
            go_wp2
            go_ret
            exact ⟨ret_ferr HE.out.symm, hnx⟩
          · by_cases e3 : ke = 0
            · subst e3
              have HBAD : Hid (pairedAt l k = false → formErr l = 6) := fun hp => by
                have hd := HDEF.out
                rw [if_neg (by omega), if_pos rfl, hp, if_neg (by decide)] at hd
                rw [HB.out (by rw [hd]; decide), hd]
              have HGOOD : Hid (pairedAt l k = true → chgOk l k) := fun hp => chgErr_zero (by
                have hd := HDEF.out
                rw [if_neg (by omega), if_pos rfl, hp, if_pos rfl] at hd
                exact hd)
              by_cases m3 : m = 3
              · subst m3
                by_cases hk1 : k + 1 < n
                · have y1 := HCELL.out (k + 1) hk1
                  obtain ⟨k2, hk2⟩ : ∃ z, (l.getD (k + 1) default).k = z := ⟨_, rfl⟩
                  rw [hk2] at y1 HPD
                  have hne : (((k : Int) + 1) == (n : Int)) = false := by rw [beq_eq_false_iff_ne]; omega
                  have hwk : IntKind.i64.wrap ((k : Int) + 1) = (k : Int) + 1 := by rw [wrap_is]; omega
                  have j1 : (0 : Int) ≤ (k : Int) + 1 := by omega
                  have j2 : (k : Int) + 1 < (n : Int) := by omega
                  by_cases k24 : k2 = 4
                  · subst k24
                    have HP : Hid (pairedAt l k = true) := by show _ = _; rw [HPD.out, if_pos rfl, decide_eq_true hk1]; rfl
                    go_wp2_with (go_at_call 33; refine (KK.out _ HR.out).mono ?_; rintro e wa ⟨rfl, hba⟩; have q1a := cell_later hba q1; have y1a := cell_later hba y1)
                    go_roundw
                    case rel => exact ⟨k + 1, by omega, by go_num, hnx.trans (hba.mono hnx.size), fun i hi => by
                      rcases Nat.lt_or_ge i k with h | h
                      · exact HA.out i h
                      · rw [show i = k by omega]; exact HGOOD.out HP.out⟩
                    case measure => simp [intOf]; omega
                  · have k24' : (k2 == 4) = false := by simpa using k24
                    have k24n : (k2 != 4) = true := by simpa using k24
                    have HP : Hid (pairedAt l k = false) := by show _ = _; rw [HPD.out, if_pos rfl, decide_eq_true hk1, decide_eq_false k24]; rfl
                    go_wp2_with (go_at_call 33; refine (KK.out _ HR.out).mono ?_; rintro e wa ⟨rfl, hba⟩; have q1a := cell_later hba q1; have y1a := cell_later hba y1)
                    go_ret
                    exact ⟨ret_ferr (HBAD.out HP.out).symm, hnx.trans (hba.mono hnx.size)⟩
                · have hkn : (k : Int) + 1 = (n : Int) := by omega
                  have hne : (((k : Int) + 1) == (n : Int)) = true := by rw [beq_iff_eq]; exact hkn
                  have hwk : IntKind.i64.wrap ((k : Int) + 1) = (k : Int) + 1 := by rw [wrap_is]; omega
                  have HP : Hid (pairedAt l k = false) := by show _ = _; rw [HPD.out, if_pos rfl, decide_eq_false hk1]; rfl
                  clear hkn
                  go_wp2_with (go_at_call 33; refine (KK.out _ HR.out).mono ?_; rintro e wa ⟨rfl, hba⟩; have q1a := cell_later hba q1)
                  go_ret
                  exact ⟨ret_ferr (HBAD.out HP.out).symm, hnx.trans (hba.mono hnx.size)⟩
              · have m3' : (m == 3) = false := by simpa using m3
                by_cases m4 : m = 4
                · subst m4
                  by_cases hk0 : k = 0
                  · subst hk0
                    simp only [Nat.zero_mul, Nat.add_zero] at q1 q2
                    have HP : Hid (pairedAt l 0 = false) := by show _ = _; rw [HPD.out, if_neg (by decide), if_pos rfl]; rfl
                    go_wp2_with (go_at_call 33; refine (KK.out _ HR.out).mono ?_; rintro e wa ⟨rfl, hba⟩; have q1a := cell_later hba q1)
                    go_ret
                    exact ⟨ret_ferr (HBAD.out HP.out).symm, hnx.trans (hba.mono hnx.size)⟩
                  · obtain ⟨j, rfl⟩ : ∃ j, k = j + 1 := ⟨k - 1, by omega⟩
                    have y1 := HCELL.out j (by omega)
                    rw [show j + 1 - 1 = j by omega] at HPD
                    obtain ⟨k2, hk2⟩ : ∃ z, (l.getD j default).k = z := ⟨_, rfl⟩
                    rw [hk2] at y1 HPD
                    have j0 : (((j : Int) + 1) == 0) = false := by rw [beq_eq_false_iff_ne]; omega
                    have hwj1 : IntKind.i64.wrap ((j : Int) + 1 - 1) = (j : Int) := by rw [wrap_is]; omega
                    have hwj2 : IntKind.i64.wrap (j : Int) = (j : Int) := by rw [wrap_is]; omega
                    have j1 : (0 : Int) ≤ (j : Int) := by omega
                    have j2 : (j : Int) < (n : Int) := by omega
                    have j3 : (0 : Int) ≤ (j : Int) + 1 := by omega
                    have j4 : (j : Int) + 1 < (n : Int) := by omega
                    by_cases k23 : k2 = 3
                    · subst k23
                      have HP : Hid (pairedAt l (j + 1) = true) := by show _ = _; rw [HPD.out, if_neg (by decide), if_pos rfl, decide_eq_true (by omega : 0 < j + 1)]; rfl
                      go_wp2_with (go_at_call 33; refine (KK.out _ HR.out).mono ?_; rintro e wa ⟨rfl, hba⟩; have q1a := cell_later hba q1; have y1a := cell_later hba y1)
                      go_roundw
                      case rel => exact ⟨j + 1 + 1, by omega, by go_num, hnx.trans (hba.mono hnx.size), fun i hi => by
                        rcases Nat.lt_or_ge i (j + 1) with h | h
                        · exact HA.out i h
                        · rw [show i = j + 1 by omega]; exact HGOOD.out HP.out⟩
                      case measure => simp [intOf]; omega
                    · have k23' : (k2 == 3) = false := by simpa using k23
                      have k23n : (k2 != 3) = true := by simpa using k23
                      have HP : Hid (pairedAt l (j + 1) = false) := by show _ = _; rw [HPD.out, if_neg (by decide), if_pos rfl, decide_eq_true (by omega : 0 < j + 1), decide_eq_false k23]; rfl
                      go_wp2_with (go_at_call 33; refine (KK.out _ HR.out).mono ?_; rintro e wa ⟨rfl, hba⟩; have q1a := cell_later hba q1; have y1a := cell_later hba y1)
                      go_ret
                      exact ⟨ret_ferr (HBAD.out HP.out).symm, hnx.trans (hba.mono hnx.size)⟩
                · have m4' : (m == 4) = false := by simpa using m4
                  have HP : Hid (pairedAt l k = true) := by show _ = _; rw [HPD.out, if_neg m3, if_neg m4]
                  go_wp2_with (go_at_call 33; refine (KK.out _ HR.out).mono ?_; rintro e wa ⟨rfl, hba⟩; have q1a := cell_later hba q1)
                  go_roundw
                  case rel => exact ⟨k + 1, by omega, by go_num, hnx.trans (hba.mono hnx.size), fun i hi => by
                    rcases Nat.lt_or_ge i k with h | h
                    · exact HA.out i h
                    · rw [show i = k by omega]; exact HGOOD.out HP.out⟩
                  case measure => simp [intOf]; omega
            · have e3' : (ke == 0) = false := by simpa using e3
              have HE : Hid (formErr l = ke) := by
                have hd := HDEF.out
                rw [if_neg (by omega), if_neg e3] at hd
                show formErr l = ke
                rw [HB.out (by rw [hd]; exact e3), hd]
              go_wp2_with (go_at_call 33; refine (KK.out _ HR.out).mono ?_; rintro e wa ⟨rfl, hba⟩)
              go_ret
              exact ⟨ret_ferr HE.out.symm, hnx.trans (hba.mono hnx.size)⟩
      · have HO2 : Hid (formOk l) := ⟨by rw [HN.out]; omega, fun i hi => HA.out i (by rw [HN.out] at hi; omega)⟩
        go_wp2
        go_ret
        exact ⟨ret_ferr (ok_form HO2.out).symm, hnx⟩
end Go.Proofs.Ytkjiaeolodemlaf.ch
