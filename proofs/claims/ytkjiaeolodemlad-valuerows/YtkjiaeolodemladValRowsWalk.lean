/- The walk of the law ValueRows. -/
import Derived.Test.YtkjiaeolodemladValRef
namespace Go.Proofs.Ytkjiaeolodemlad.vl
open Go.ChangeShapes Go.WideShapes Go.ChangeAt Go.RowKit
set_option linter.unusedVariables false
set_option linter.unusedSimpArgs false

theorem rowOk_key {r : List Cel} (h : keyErr r = 0) (hw : wfRow r) : rowOk r := by
  unfold keyErr at h
  split at h
  · cases h
  · rename_i h8
    exact ⟨by omega, fun c hc => ⟨all_ok h c hc, hw c hc⟩⟩

set_option maxHeartbeats 8000000 in
theorem rows_walk (a1 : Option Addr) (c1 : Nat) (r1 : List Cel) (a2 : Option Addr) (c2 : Nat) (r2 : List Cel) (w : World) (h1 : rowAt w a1 r1) (h2 : rowAt w a2 r2) (w1 : wfRow r1) (w2 : wfRow r2)
    (l1 : r1.length ≤ 9223372036854775807) (l2 : r2.length ≤ 9223372036854775807) :
    Calls Try.prog 4 #[.slice a1 r1.length c1, .slice a2 r2.length c2] w fun e w' => e = .returned (.bool true) ∧ Below w.heap.size w w' := by
  obtain ⟨n1, hn1⟩ : ∃ n, r1.length = n := ⟨_, rfl⟩
  obtain ⟨n2, hn2⟩ : ∃ n, r2.length = n := ⟨_, rfl⟩
  have HR1 : Hid (rowAt w a1 r1) := h1
  have HR2 : Hid (rowAt w a2 r2) := h2
  have K1 : Hid (∀ w, rowAt w a1 r1 → Calls Try.prog 13 #[.slice a1 n1 c1] w fun e w' => e = .returned (.tuple #[.string (keyS r1), .int .i64 (keyErr r1)]) ∧ Below w.heap.size w w') := by
    subst hn1; exact fun w h => key_any a1 c1 r1 w h w1 l1
  have KE : Hid (∀ w, rowAt w a1 r1 → Calls Try.prog 14 #[.slice a1 n1 c1] w fun e w' => e = .returned (.int .i64 (keyErr r1)) ∧ Below w.heap.size w w') := by
    subst hn1; exact fun w h => keyError_any a1 c1 r1 w h w1 l1
  have KR : Hid (∀ w, rowAt w a1 r1 → rowAt w a2 r2 → Calls Try.prog 16 #[.slice a1 n1 c1, .slice a2 n2 c2] w fun e w' => e = .returned (.int .i64 (cmpRows r1 r2)) ∧ Below w.heap.size w w') := by
    subst hn1 hn2; exact fun w h h' => rows_any a1 a2 c1 c2 r1 r2 w h h' l1 l2
  have KC : Hid (∀ w, rowAt w a1 r1 → rowAt w a2 r2 → Calls Try.prog 17 #[.slice a1 n1 c1, .slice a2 n2 c2] w fun e w' => e = .returned (.int .i64 (cmpRows r1 r2)) ∧ Below w.heap.size w w') := by
    subst hn1 hn2; exact fun w h h' => rrows_any a1 a2 c1 c2 r1 r2 w h h' l1 l2
  by_cases e1 : keyErr r1 = 0
  · have hok := rowOk_key e1 w1
    have KK : Hid (∀ w, rowAt w a1 r1 → Calls Try.prog 15 #[.slice a1 n1 c1] w fun e w' => e = .returned (.string (keyS r1)) ∧ Below w.heap.size w w') := by
      subst hn1
      intro w h
      have : (⟨(encR r1).toArray⟩ : ByteArray) = keyS r1 := str_eq (keyS_ok hok).symm
      rw [← this]
      exact rkey_any a1 c1 r1 w h hok
    obtain ⟨k1, hk1⟩ : ∃ k, keyS r1 = k := ⟨_, rfl⟩
    rw [hk1] at K1 KK
    rw [hn1, hn2]
    clear h1 h2 w1 w2 hn1 hn2 l1 l2 hok hk1
    go_enter Try.func4, Try.ntmps4
    go_wp2_with fail
    refine (K1.out _ HR1.out).mono ?_
    rintro e wa ⟨rfl, hba⟩
    have A1 : Hid (rowAt wa a1 r1) := rowAt_below HR1.out hba
    have A2 : Hid (rowAt wa a2 r2) := rowAt_below HR2.out hba
    go_wp2_with fail
    refine (KE.out _ A1.out).mono ?_
    rintro e wb ⟨rfl, hbb⟩
    have B1 : Hid (rowAt wb a1 r1) := rowAt_below A1.out hbb
    have B2 : Hid (rowAt wb a2 r2) := rowAt_below A2.out hbb
    have hb2 := hba.trans (hbb.mono hba.size)
    go_wp2_with fail
    refine (KK.out _ B1.out).mono ?_
    rintro e wc ⟨rfl, hbc⟩
    have C1 : Hid (rowAt wc a1 r1) := rowAt_below B1.out hbc
    have C2 : Hid (rowAt wc a2 r2) := rowAt_below B2.out hbc
    have hb3 := hb2.trans (hbc.mono hb2.size)
    go_wp2_with fail
    refine (begun_any _).mono ?_
    rintro e wd ⟨rfl, hbd⟩
    have D1 : Hid (rowAt wd a1 r1) := rowAt_below C1.out hbd
    have D2 : Hid (rowAt wd a2 r2) := rowAt_below C2.out hbd
    have hb4 := hb3.trans (hbd.mono hb3.size)
    go_wp2_with fail
    refine (KR.out _ D1.out D2.out).mono ?_
    rintro e we ⟨rfl, hbe⟩
    have E1 : Hid (rowAt we a1 r1) := rowAt_below D1.out hbe
    have E2 : Hid (rowAt we a2 r2) := rowAt_below D2.out hbe
    have hb5 := hb4.trans (hbe.mono hb4.size)
    go_wp2_with fail
    refine (KC.out _ E1.out E2.out).mono ?_
    rintro e wf ⟨rfl, hbf⟩
    have hb6 := hb5.trans (hbf.mono hb5.size)
    go_wp2
    go_ret
    exact ⟨rfl, hb6⟩
  · have e1' : (keyErr r1 == 0) = false := by simpa using e1
    have hk1 : keyS r1 = ⟨#[]⟩ := by unfold keyS; rw [if_neg e1]
    rw [hk1] at K1
    rw [hn1, hn2]
    clear h1 h2 w1 w2 hn1 hn2 l1 l2 hk1
    go_enter Try.func4, Try.ntmps4
    go_wp2_with fail
    refine (K1.out _ HR1.out).mono ?_
    rintro e wa ⟨rfl, hba⟩
    have A1 : Hid (rowAt wa a1 r1) := rowAt_below HR1.out hba
    have A2 : Hid (rowAt wa a2 r2) := rowAt_below HR2.out hba
    go_wp2_with fail
    refine (KE.out _ A1.out).mono ?_
    rintro e wb ⟨rfl, hbb⟩
    have B1 : Hid (rowAt wb a1 r1) := rowAt_below A1.out hbb
    have B2 : Hid (rowAt wb a2 r2) := rowAt_below A2.out hbb
    have hb2 := hba.trans (hbb.mono hba.size)
    go_wp2_with fail
    refine (begun_any _).mono ?_
    rintro e wd ⟨rfl, hbd⟩
    have D1 : Hid (rowAt wd a1 r1) := rowAt_below B1.out hbd
    have D2 : Hid (rowAt wd a2 r2) := rowAt_below B2.out hbd
    have hb4 := hb2.trans (hbd.mono hb2.size)
    go_wp2_with fail
    refine (KR.out _ D1.out D2.out).mono ?_
    rintro e we ⟨rfl, hbe⟩
    have E1 : Hid (rowAt we a1 r1) := rowAt_below D1.out hbe
    have E2 : Hid (rowAt we a2 r2) := rowAt_below D2.out hbe
    have hb5 := hb4.trans (hbe.mono hb4.size)
    go_wp2_with fail
    refine (KC.out _ E1.out E2.out).mono ?_
    rintro e wf ⟨rfl, hbf⟩
    have hb6 := hb5.trans (hbf.mono hb5.size)
    go_wp2
    go_ret
    exact ⟨rfl, hb6⟩
end Go.Proofs.Ytkjiaeolodemlad.vl
