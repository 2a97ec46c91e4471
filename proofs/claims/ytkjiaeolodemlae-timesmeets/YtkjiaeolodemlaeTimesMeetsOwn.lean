/- For all l, r, low and high the law TimesMeets answers true: times.Meets agrees with the document's answer, errors too. -/
import Derived.Test.YtkjiaeolodemlaeRows
import Derived.WalkKit
import Derived.ProofKit
import Derived.OpenShut
import Derived.ShutString
import Derived.Test.YtkjiaeolodemlaeTimesBegun
namespace Go.Proofs.Ytkjiaeolodemlae.timesMeets
open Go.ChangeShapes Go.WideShapes Go.ChangeAt Go.RowKit
open Go.ChangeMaps (open_string shut_string)
set_option linter.unusedVariables false      -- a walk need not use every 'w<i>' (that an integer argument fits its kind)

theorem own : ownKnob Try.prog.godebug = none := by kernel_rfl

open tm
theorem parts (a b c d : Int) : fit4 a b c d = true ∨ (fit4 a b c d = false ∧ (fitB a = false ∨ (fitB a = true ∧ fitB b = false) ∨ (fitB a = true ∧ fitB b = true ∧ fitB c = false) ∨ (fitB a = true ∧ fitB b = true ∧ fitB c = true ∧ fitB d = false))) := by
  unfold fit4
  cases fitB a <;> cases fitB b <;> cases fitB c <;> cases fitB d <;> simp
theorem all4 {a b c d : Int} (h : fit4 a b c d = true) : fitB a = true ∧ fitB b = true ∧ fitB c = true ∧ fitB d = true := by
  simpa [fit4, Bool.and_eq_true] using h

/-! ### STEP 1: THE WALK: the Go text returns true. 'Grown w w'': the world has at most new blocks (Derived/RowKit3.lean). Part the cases AHEAD of 'go_enter' where a test parts the walk; take each callee by a contract of your own. -/
theorem walk (a0 : Int) (a1 : Int) (a2 : Int) (a3 : Int) (w0 : (Lit.int .i64 a0).wf = true) (w1 : (Lit.int .i64 a1).wf = true) (w2 : (Lit.int .i64 a2).wf = true) (w3 : (Lit.int .i64 a3).wf = true) (w : World) :
    Calls Try.prog 4 #[.int .i64 a0, .int .i64 a1, .int .i64 a2, .int .i64 a3] w fun e w' => e = .returned (.bool true) ∧ Grown w w' := by
  rcases parts a0 a1 a2 a3 with h | ⟨h, h' | ⟨f0, h'⟩ | ⟨f0, f1, h'⟩ | ⟨f0, f1, f2, h'⟩⟩
  · obtain ⟨f0, f1, f2, f3⟩ := all4 h
    obtain ⟨⟨b1, b2⟩, ⟨b3, b4⟩, ⟨b5, b6⟩, ⟨b7, b8⟩⟩ := fit4_bd h
    by_cases hlt : a3 < a2
    · go_enter Try.func4, Try.ntmps4
      go_wp2_with (first
        | (go_at_call 13; refine (meets_form _ _ _ _ _ h hlt).mono ?_; rintro e wu ⟨rfl, hgu⟩)
        | (go_at_call 10; refine (rfits_any _ _).mono ?_; rintro e w' ⟨rfl, hw⟩; subst hw)
        | (go_at_call 11; refine (begun_any _).mono ?_; rintro e wb ⟨rfl, hgb⟩))
      go_ret
      exact ⟨rfl, grown_trans hgu hgb⟩
    · have hw1 : (a2 ≤ a1 - a0 ∧ a1 - a0 ≤ a3 ∧ meetB a0 a1 a2 a3 = true) ∨ (¬ a2 ≤ a1 - a0 ∧ meetB a0 a1 a2 a3 = false) ∨ (a2 ≤ a1 - a0 ∧ ¬ a1 - a0 ≤ a3 ∧ meetB a0 a1 a2 a3 = false) := by
        unfold meetB
        by_cases p1 : a2 ≤ a1 - a0
        · by_cases p2 : a1 - a0 ≤ a3 <;> simp [p1, p2]
        · simp [p1]
      rcases hw1 with ⟨p1, p2, hm⟩ | ⟨p1, hm⟩ | ⟨p1, p2, hm⟩
      · go_enter Try.func4, Try.ntmps4
        go_wp2_with (first
          | (go_at_call 13; refine (meets_yes _ _ _ _ _ h hlt).mono ?_; rintro e wu ⟨rfl, hgu⟩)
          | (go_at_call 10; refine (rfits_any _ _).mono ?_; rintro e w' ⟨rfl, hw⟩; subst hw)
          | (go_at_call 11; refine (begun_any _).mono ?_; rintro e wb ⟨rfl, hgb⟩))
        go_ret
        exact ⟨rfl, grown_trans hgu hgb⟩
      · have p1' : decide (a2 ≤ a1 - a0) = false := decide_eq_false p1
        go_enter Try.func4, Try.ntmps4
        go_wp2_with (first
          | (go_at_call 13; refine (meets_yes _ _ _ _ _ h hlt).mono ?_; rintro e wu ⟨rfl, hgu⟩)
          | (go_at_call 10; refine (rfits_any _ _).mono ?_; rintro e w' ⟨rfl, hw⟩; subst hw)
          | (go_at_call 11; refine (begun_any _).mono ?_; rintro e wb ⟨rfl, hgb⟩))
        go_ret
        exact ⟨rfl, grown_trans hgu hgb⟩
      · have p2' : decide (a1 - a0 ≤ a3) = false := decide_eq_false p2
        go_enter Try.func4, Try.ntmps4
        go_wp2_with (first
          | (go_at_call 13; refine (meets_yes _ _ _ _ _ h hlt).mono ?_; rintro e wu ⟨rfl, hgu⟩)
          | (go_at_call 10; refine (rfits_any _ _).mono ?_; rintro e w' ⟨rfl, hw⟩; subst hw)
          | (go_at_call 11; refine (begun_any _).mono ?_; rintro e wb ⟨rfl, hgb⟩))
        go_ret
        exact ⟨rfl, grown_trans hgu hgb⟩
  all_goals
    go_enter Try.func4, Try.ntmps4
    go_wp2_with (first
      | (go_at_call 13; refine (meets_no _ _ _ _ _ h).mono ?_; rintro e wu ⟨rfl, hgu⟩)
      | (go_at_call 10; refine (rfits_any _ _).mono ?_; rintro e w' ⟨rfl, hw⟩; subst hw)
      | (go_at_call 11; refine (begun_any _).mono ?_; rintro e wb ⟨rfl, hgb⟩))
    go_ret
    exact ⟨rfl, grown_trans hgu hgb⟩

/-! ### THE ROW's STEP: WRITTEN OUT: LEAVE IT -/
set_option maxRecDepth 100000 in
theorem lifted (os : Os) (started : os.Started) (H : Type) (enc : TypeId × Value → H) :
    ReturnsInHanded {} Try.checked os 4 .any (Rows.timesMeetsSpec.pre6 enc Try.prog Try.f4 Rows.timesMeetsRow.domain false) (Rows.timesMeetsSpec.post enc Try.prog Try.f4 false true false false) := by
  refine returnsInHanded_of_change (C := Try.checked) own started (by kernel_rfl) Try.func4
    (ChangeSpec.witness6 (enc := enc) (C := Try.checked) false ⟨#[], #[.int .i64 0, .int .i64 0, .int .i64 0, .int .i64 0], []⟩ 8 (by kernel_rfl) (by kernel_rfl) (by kernel_rfl) (by kernel_rfl)) ?_
  intro W base args ds gs before hval0 hW hcnd _
  have hval : ∀ (j : Nat) t v, Try.f4.params[j]? = some t → args[j]? = some v → Value.okWide Try.prog W .any base t v := hval0
  have hW' := hW
  obtain ⟨p, q, hA0, hV, rfl, hfz, hnd⟩ := hW
  have hA : DataW.TrodAll enc Try.prog W 0 (fun _ => true) true Try.f4.params.toList args.toList ds p := hA0
  rw [Try.params4] at hA hval
  obtain ⟨v0, vs0, d0, ds0, p0, q0, hargs, rfl, rfl, h0, r0⟩ := trodAll_cons hA
  obtain ⟨v1, vs1, d1, ds1, p1, q1, rfl, rfl, rfl, h1, r1⟩ := trodAll_cons r0
  obtain ⟨v2, vs2, d2, ds2, p2, q2, rfl, rfl, rfl, h2, r2⟩ := trodAll_cons r1
  obtain ⟨v3, vs3, d3, ds3, p3, q3, rfl, rfl, rfl, h3, r3⟩ := trodAll_cons r2
  obtain ⟨rfl, rfl, rfl⟩ := trodAll_nil r3
  obtain rfl : args = #[v0, v1, v2, v3] := by cases args; simp_all
  obtain ⟨rfl, rfl⟩ := trodVars_none hV
  obtain ⟨a0, rfl, rfl, rfl, w0⟩ := open_int Try.underlying3 (hval 0 3 v0 rfl rfl) h0
  obtain ⟨a1, rfl, rfl, rfl, w1⟩ := open_int Try.underlying3 (hval 1 3 v1 rfl rfl) h1
  obtain ⟨a2, rfl, rfl, rfl, w2⟩ := open_int Try.underlying3 (hval 2 3 v2 rfl rfl) h2
  obtain ⟨a3, rfl, rfl, rfl, w3⟩ := open_int Try.underlying3 (hval 3 3 v3 rfl rfl) h3
  clear hA0 hval0
  simp only [List.append_nil] at hW'
  refine (walk a0 a1 a2 a3 w0 w1 w2 w3 W).mono fun e W' ⟨he, hg⟩ => ?_
  subst he
  exact ⟨_, rfl, post_of_same (pa := []) (pv := []) hW' (fun _ _ _ => (trodAll_cons_mk (shut_bool Try.underlying4 _) trodAll_mk0)) (fun sp _ => (trodAll_cons_mk (shut_int Try.underlying3 w0) (trodAll_cons_mk (shut_int Try.underlying3 w1) (trodAll_cons_mk (shut_int Try.underlying3 w2) (trodAll_cons_mk (shut_int Try.underlying3 w3) trodAll_mk0))))) (fun _ _ => rfl) rfl
    (hg.frame _) hg.2.1 (ok_one (by kernel_rfl) rfl (okWide_bool_mk Try.underlying4 _))⟩

theorem over : Rows.timesMeetsRow.holds Try.pinned (OpenSpec.ofChange Rows.timesMeetsSpec) :=
  OpenClaim.holds_of_wide 4 Try.f4 rfl rfl rfl rfl rfl rfl rfl ⟨rfl, rfl, rfl, rfl, rfl⟩ rfl rfl rfl rfl rfl (by kernel_rfl) Try.func4 (by kernel_rfl)
    (of_decide_eq_true (by kernel_rfl)) (by unfold Func.isWrapper; first | (rw [if_pos (by decide +kernel)]; kernel_rfl) | (rw [if_neg (by decide +kernel)]; exact ⟨rfl, rfl⟩))
    (fun os started H enc _ => lifted os started H enc)

/-- ████ THE STATEMENT ████ -/
theorem proved : Rows.TimesMeetsSaid :=
  over
#print axioms proved
end Go.Proofs.Ytkjiaeolodemlae.timesMeets
