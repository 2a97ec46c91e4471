/- The walk of the law ValueTells. -/
import Derived.Test.YtkjiaeolodemladValOrder
import Derived.Test.YtkjiaeolodemladValBegun
namespace Go.Proofs.Ytkjiaeolodemlad.vl
open Go.ChangeShapes Go.WideShapes Go.ChangeAt Go.RowKit
set_option linter.unusedVariables false
set_option linter.unusedSimpArgs false

theorem rowOk_of {r : List Cel} (h : keyErr r = 0) (hw : wfRow r) : rowOk r := by
  unfold keyErr at h
  split at h
  · cases h
  · rename_i h8
    exact ⟨by omega, fun c hc => ⟨all_ok h c hc, hw c hc⟩⟩
theorem tells {a b : List Cel} (ha : rowOk a) (hb : rowOk b) :
    (cmpRows a b = -1 ∧ Op.bytesLess (keyS a).toList (keyS b).toList = true ∧ ((keyS a).toList == (keyS b).toList) = false ∧ decide (a = b) = false) ∨
    (cmpRows a b = 0 ∧ Op.bytesLess (keyS a).toList (keyS b).toList = false ∧ ((keyS a).toList == (keyS b).toList) = true ∧ decide (a = b) = true) ∨
    (cmpRows a b = 1 ∧ Op.bytesLess (keyS a).toList (keyS b).toList = false ∧ ((keyS a).toList == (keyS b).toList) = false ∧ decide (a = b) = false) := by
  rw [Lib.toList_data, Lib.toList_data, keyS_ok ha, keyS_ok hb]
  have h1 := cmpB_rows a b ha.2 hb.2
  have h2 := less_cmp (encR a) (encR b)
  rw [h1] at h2
  cases hl : Op.bytesLess (encR a) (encR b) with
  | true =>
    rw [hl, if_pos rfl] at h2
    have hne : encR a ≠ encR b := fun h => by
      have := cmpB_zero.2 h
      rw [h1, h2] at this
      cases this
    exact .inl ⟨h2, rfl, by simpa using hne, decide_eq_false (fun h => hne (by rw [h]))⟩
  | false =>
    rw [hl, if_neg (by decide)] at h2
    cases he : (encR a == encR b) with
    | true =>
      rw [he, if_pos rfl] at h2
      exact .inr (.inl ⟨h2, rfl, rfl, decide_eq_true (encR_inj ha.2 hb.2 (by simpa using he))⟩)
    | false =>
      rw [he, if_neg (by decide)] at h2
      exact .inr (.inr ⟨h2, rfl, rfl, decide_eq_false (fun h => by rw [h] at he; simp at he)⟩)

theorem back_ok (r : List Cel) (w : World) (h : rowOk r) :
    Calls Try.prog 18 #[.string (keyS r)] w fun e w' => (∃ ad cap, e = .returned (.tuple #[.slice ad r.length cap, .int .i64 0]) ∧ rowAt w' ad r) ∧ Below w.heap.size w w' :=
  (back_yes (keyS r) r w (Nat.le_trans (keyS_len h) (by unfold maxLen; omega)) h (keyS_ok h).symm).mono fun e w' ⟨⟨ad, cap, he, ho⟩, hb⟩ => ⟨⟨ad, cap, he, ownV_row ho⟩, hb⟩

set_option maxHeartbeats 8000000 in
theorem tells_walk (a1 : Option Addr) (c1 : Nat) (r1 : List Cel) (a2 : Option Addr) (c2 : Nat) (r2 : List Cel) (w : World) (h1 : rowAt w a1 r1) (h2 : rowAt w a2 r2) (w1 : wfRow r1) (w2 : wfRow r2)
    (l1 : r1.length ≤ 9223372036854775807) (l2 : r2.length ≤ 9223372036854775807) :
    Calls Try.prog 6 #[.slice a1 r1.length c1, .slice a2 r2.length c2] w fun e w' => e = .returned (.bool true) ∧ Below w.heap.size w w' := by
  obtain ⟨n1, hn1⟩ : ∃ n, r1.length = n := ⟨_, rfl⟩
  obtain ⟨n2, hn2⟩ : ∃ n, r2.length = n := ⟨_, rfl⟩
  have HR1 : Hid (rowAt w a1 r1) := h1
  have HR2 : Hid (rowAt w a2 r2) := h2
  have HW1 : Hid (wfRow r1) := w1
  have HW2 : Hid (wfRow r2) := w2
  have K1 : Hid (∀ w, rowAt w a1 r1 → Calls Try.prog 13 #[.slice a1 n1 c1] w fun e w' => e = .returned (.tuple #[.string (keyS r1), .int .i64 (keyErr r1)]) ∧ Below w.heap.size w w') := by
    subst hn1; exact fun w h => key_any a1 c1 r1 w h w1 l1
  have K2 : Hid (∀ w, rowAt w a2 r2 → Calls Try.prog 13 #[.slice a2 n2 c2] w fun e w' => e = .returned (.tuple #[.string (keyS r2), .int .i64 (keyErr r2)]) ∧ Below w.heap.size w w') := by
    subst hn2; exact fun w h => key_any a2 c2 r2 w h w2 l2
  have KR : Hid (∀ w, rowAt w a1 r1 → rowAt w a2 r2 → Calls Try.prog 16 #[.slice a1 n1 c1, .slice a2 n2 c2] w fun e w' => e = .returned (.int .i64 (cmpRows r1 r2)) ∧ Below w.heap.size w w') := by
    subst hn1 hn2; exact fun w h h' => rows_any a1 a2 c1 c2 r1 r2 w h h' l1 l2
  have KS : Hid (∀ w, rowAt w a1 r1 → rowAt w a2 r2 → Calls Try.prog 20 #[.slice a1 n1 c1, .slice a2 n2 c2] w fun e w' => e = .returned (.bool (decide (r1 = r2))) ∧ Below w.heap.size w w') := by
    subst hn1 hn2; exact fun w h h' => same_any a1 a2 c1 c2 r1 r2 w h h' l1 l2
  have KB : Hid (∀ w ad cap, rowAt w ad r1 → rowAt w a1 r1 → Calls Try.prog 20 #[.slice ad n1 cap, .slice a1 n1 c1] w fun e w' => e = .returned (.bool true) ∧ Below w.heap.size w w') := by
    subst hn1; exact fun w ad cap h h' => (same_any ad a1 cap c1 r1 r1 w h h' l1 l1).mono fun e w' ⟨he, hb⟩ => ⟨he.trans (ret_bool (by simp)), hb⟩
  have KK : Hid (rowOk r1 → ∀ w, Calls Try.prog 18 #[.string (keyS r1)] w fun e w' => (∃ ad cap, e = .returned (.tuple #[.slice ad n1 cap, .int .i64 0]) ∧ rowAt w' ad r1) ∧ Below w.heap.size w w') := by
    subst hn1; exact fun h w => back_ok r1 w h
  have hnn1 : Hid (r1.length = n1) := hn1
  have hnn2 : Hid (r2.length = n2) := hn2
  rw [hn1, hn2]
  rw [hn1] at l1
  rw [hn2] at l2
  clear h1 h2 w1 w2 hn1 hn2
  by_cases e1 : keyErr r1 = 0
  · by_cases e2 : keyErr r2 = 0
    · have O1 : Hid (rowOk r1) := rowOk_of e1 HW1.out
      have O2 : Hid (rowOk r2) := rowOk_of e2 HW2.out
      have HT := tells O1.out O2.out
      obtain ⟨k1, hk1⟩ : ∃ k, keyS r1 = k := ⟨_, rfl⟩
      obtain ⟨k2, hk2⟩ : ∃ k, keyS r2 = k := ⟨_, rfl⟩
      rw [hk1, hk2] at HT
      have KK1 := KK.out O1.out
      rw [hk1] at KK1
      have KKK : Hid (∀ w, Calls Try.prog 18 #[.string k1] w fun e w' => (∃ ad cap, e = .returned (.tuple #[.slice ad n1 cap, .int .i64 0]) ∧ rowAt w' ad r1) ∧ Below w.heap.size w w') := KK1
      clear KK1 KK
      rcases HT with ⟨hc, hl, he, hs⟩ | ⟨hc, hl, he, hs⟩ | ⟨hc, hl, he, hs⟩
      all_goals
        go_enter Try.func6, Try.ntmps6
        go_wp2_with fail
        refine (K1.out _ HR1.out).mono ?_
        rintro e wa ⟨rfl, hba⟩
        have A1 : Hid (rowAt wa a1 r1) := rowAt_below HR1.out hba
        have A2 : Hid (rowAt wa a2 r2) := rowAt_below HR2.out hba
        go_wp2_with fail
        refine (K2.out _ A2.out).mono ?_
        rintro e wb ⟨rfl, hbb⟩
        have B1 : Hid (rowAt wb a1 r1) := rowAt_below A1.out hbb
        have B2 : Hid (rowAt wb a2 r2) := rowAt_below A2.out hbb
        have hb2 := hba.trans (hbb.mono hba.size)
        go_wp2_with fail
        refine (KKK.out _).mono ?_
        rintro e wc ⟨⟨ad, cap, rfl, had⟩, hbc⟩
        have C0 : Hid (rowAt wc ad r1) := had
        have C1 : Hid (rowAt wc a1 r1) := rowAt_below B1.out hbc
        have C2 : Hid (rowAt wc a2 r2) := rowAt_below B2.out hbc
        have hb3 := hb2.trans (hbc.mono hb2.size)
        clear had A1 A2 B1 B2 hba hbb hbc
        go_wp2_with fail
        refine (KR.out _ C1.out C2.out).mono ?_
        rintro e wd ⟨rfl, hbd⟩
        have D0 : Hid (rowAt wd ad r1) := rowAt_below C0.out hbd
        have D1 : Hid (rowAt wd a1 r1) := rowAt_below C1.out hbd
        have D2 : Hid (rowAt wd a2 r2) := rowAt_below C2.out hbd
        have hb4 := hb3.trans (hbd.mono hb3.size)
        clear C0 C1 C2 hbd
        go_wp2_with fail
        refine (begun_any _).mono ?_
        rintro e we ⟨rfl, hbe⟩
        have E0 : Hid (rowAt we ad r1) := rowAt_below D0.out hbe
        have E1 : Hid (rowAt we a1 r1) := rowAt_below D1.out hbe
        have E2 : Hid (rowAt we a2 r2) := rowAt_below D2.out hbe
        have hb5 := hb4.trans (hbe.mono hb4.size)
        clear D0 D1 D2 hbe
        go_wp2_with fail
        refine (KB.out _ ad cap E0.out E1.out).mono ?_
        rintro e wf ⟨rfl, hbf⟩
        have F1 : Hid (rowAt wf a1 r1) := rowAt_below E1.out hbf
        have F2 : Hid (rowAt wf a2 r2) := rowAt_below E2.out hbf
        have hb6 := hb5.trans (hbf.mono hb5.size)
        clear E0 E1 E2 hbf
        go_wp2_with fail
        refine (KS.out _ F1.out F2.out).mono ?_
        rintro e wg ⟨rfl, hbg⟩
        have hb7 := hb6.trans (hbg.mono hb6.size)
        go_wp2
        go_ret
        exact ⟨rfl, hb7⟩
    · have e2' : (keyErr r2 == 0) = false := by simpa using e2
      go_enter Try.func6, Try.ntmps6
      go_wp2_with fail
      refine (K1.out _ HR1.out).mono ?_
      rintro e wa ⟨rfl, hba⟩
      have A2 : Hid (rowAt wa a2 r2) := rowAt_below HR2.out hba
      go_wp2_with fail
      refine (K2.out _ A2.out).mono ?_
      rintro e wb ⟨rfl, hbb⟩
      have hb2 := hba.trans (hbb.mono hba.size)
      go_wp2_with fail
      refine (begun_any _).mono ?_
      rintro e wc ⟨rfl, hbc⟩
      have hb3 := hb2.trans (hbc.mono hb2.size)
      go_wp2
      go_ret
      exact ⟨rfl, hb3⟩
  · have e1' : (keyErr r1 == 0) = false := by simpa using e1
    go_enter Try.func6, Try.ntmps6
    go_wp2_with fail
    refine (K1.out _ HR1.out).mono ?_
    rintro e wa ⟨rfl, hba⟩
    have A2 : Hid (rowAt wa a2 r2) := rowAt_below HR2.out hba
    go_wp2_with fail
    refine (K2.out _ A2.out).mono ?_
    rintro e wb ⟨rfl, hbb⟩
    have hb2 := hba.trans (hbb.mono hba.size)
    go_wp2_with fail
    refine (begun_any _).mono ?_
    rintro e wc ⟨rfl, hbc⟩
    have hb3 := hb2.trans (hbc.mono hb2.size)
    go_wp2
    go_ret
    exact ⟨rfl, hb3⟩
end Go.Proofs.Ytkjiaeolodemlad.vl
