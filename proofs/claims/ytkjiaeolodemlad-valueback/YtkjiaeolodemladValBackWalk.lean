/- The walk of the law ValueBack. -/
import Derived.Test.YtkjiaeolodemladValRBack
namespace Go.Proofs.Ytkjiaeolodemlad.vl
open Go.ChangeShapes Go.WideShapes Go.ChangeAt Go.RowKit
set_option linter.unusedVariables false
set_option linter.unusedSimpArgs false

set_option maxHeartbeats 8000000 in
theorem back_walk (s : ByteArray) (w : World) (hm : s.size ≤ 140737488355328) :
    Calls Try.prog 5 #[.string s] w fun e w' => e = .returned (.bool true) ∧ Below w.heap.size w w' := by
  have hm' : s.size ≤ maxLen := by unfold maxLen; omega
  by_cases hex : ∃ r, rowOk r ∧ encR r = s.data.toList
  · obtain ⟨r, hr, hk⟩ := hex
    obtain ⟨n, hn⟩ : ∃ n, r.length = n := ⟨_, rfl⟩
    have KB : Hid (∀ w, Calls Try.prog 18 #[.string s] w fun e w' => (∃ ad cap, e = .returned (.tuple #[.slice ad n cap, .int .i64 0]) ∧ rowAt w' ad r) ∧ Below w.heap.size w w') := by
      subst hn
      exact fun w => (back_yes s r w hm' hr hk).mono fun e w' ⟨⟨ad, cap, he, ho⟩, hb⟩ => ⟨⟨ad, cap, he, ownV_row ho⟩, hb⟩
    have KR : Hid (∀ w, Calls Try.prog 19 #[.string s] w fun e w' => (∃ ad cap, e = .returned (.tuple #[.slice ad n cap, .bool true]) ∧ rowAt w' ad r) ∧ Below w.heap.size w w') := by
      subst hn
      exact fun w => rback_yes s r w hm hr hk
    have KS : Hid (∀ w a1 c1 a2 c2, rowAt w a1 r → rowAt w a2 r → Calls Try.prog 20 #[.slice a1 n c1, .slice a2 n c2] w fun e w' => e = .returned (.bool true) ∧ Below w.heap.size w w') := by
      subst hn
      have := hr.1
      exact fun w a1 c1 a2 c2 h h' => (same_any a1 a2 c1 c2 r r w h h' (by omega) (by omega)).mono fun e w' ⟨he, hb⟩ => ⟨he.trans (ret_bool (by simp)), hb⟩
    clear hn hr hk hm'
    go_enter Try.func5, Try.ntmps5
    go_wp2_with fail
    refine (KB.out _).mono ?_
    rintro e wa ⟨⟨a1, c1, rfl, h1⟩, hba⟩
    have A1 : Hid (rowAt wa a1 r) := h1
    clear h1
    go_wp2_with fail
    refine (KR.out _).mono ?_
    rintro e wb ⟨⟨a2, c2, rfl, h2⟩, hbb⟩
    have B1 : Hid (rowAt wb a1 r) := rowAt_below A1.out hbb
    have B2 : Hid (rowAt wb a2 r) := h2
    have hb2 := hba.trans (hbb.mono hba.size)
    clear h2 A1
    go_wp2_with fail
    refine (begun_any _).mono ?_
    rintro e wc ⟨rfl, hbc⟩
    have C1 : Hid (rowAt wc a1 r) := rowAt_below B1.out hbc
    have C2 : Hid (rowAt wc a2 r) := rowAt_below B2.out hbc
    have hb3 := hb2.trans (hbc.mono hb2.size)
    go_wp2_with fail
    refine (KS.out _ a1 c1 a2 c2 C1.out C2.out).mono ?_
    rintro e wd ⟨rfl, hbd⟩
    have hb4 := hb3.trans (hbd.mono hb3.size)
    go_wp2
    go_ret
    exact ⟨rfl, hb4⟩
  · have hno : noKey s.data.toList := fun r hr h => hex ⟨r, hr, h⟩
    have HM : Hid (s.size ≤ maxLen) := hm'
    have HNO : Hid (noKey s.data.toList) := hno
    have HM2 : Hid (s.size ≤ 140737488355328) := hm
    clear hex hno hm' hm
    go_enter Try.func5, Try.ntmps5
    go_wp2_with fail
    refine (back_no s _ HM.out HNO.out).mono ?_
    rintro e wa ⟨rfl, hba⟩
    go_wp2_with fail
    refine (rback_no s _ HM2.out HNO.out).mono ?_
    rintro e wb ⟨rfl, hbb⟩
    have hb2 := hba.trans (hbb.mono hba.size)
    go_wp2_with fail
    refine (begun_any _).mono ?_
    rintro e wc ⟨rfl, hbc⟩
    have hb3 := hb2.trans (hbc.mono hb2.size)
    go_wp2
    go_ret
    exact ⟨rfl, hb3⟩
end Go.Proofs.Ytkjiaeolodemlad.vl
