/- planBegun answers true: the whole. -/
import Derived.Test.YtibjihdeknndoaaPlnBegun
namespace Go.Proofs.Ytibjihdeknndoaa.pl
open Go.ChangeShapes Go.WideShapes Go.ChangeAt Go.RowKit
open vl
set_option linter.unusedVariables false
set_option linter.unusedSimpArgs false
theorem num_any (n : Int) (w : World) : Calls Try.prog 57 #[.int .i64 n] w fun e w' => e = .returned (.agg #[.int .i64 2, .int .i64 n, .string ⟨#[]⟩]) ∧ Below w.heap.size w w' := by
  go_enter Try.func57, Try.ntmps57
  go_wp2
  exact bodyPost_ret (v := .agg #[.int .i64 2, .int .i64 n, .string ⟨#[]⟩]) (by simp [results, Try.results57, go_sem]) rfl ⟨rfl, by repeat (first | exact Below.refl _ _ | apply Below.drew | (refine Below.setCell ?_ (by simp) _) | (refine Below.alloc ?_ (by simp <;> omega) _))⟩
theorem rowTwo {w : World} {b : Nat} {x y : Int} (h0 : w.cell? ⟨b, 0, none⟩ = some (.int .i64 2)) (h1 : w.cell? ⟨b, 1, none⟩ = some (.int .i64 x)) (h2 : w.cell? ⟨b, 2, none⟩ = some (.string ⟨#[]⟩)) (h3 : w.cell? ⟨b, 3, none⟩ = some (.int .i64 2)) (h4 : w.cell? ⟨b, 4, none⟩ = some (.int .i64 y)) (h5 : w.cell? ⟨b, 5, none⟩ = some (.string ⟨#[]⟩)) :
    vl.rowAt w (some ⟨b, 0, none⟩) [⟨2, x, ⟨#[]⟩⟩, ⟨2, y, ⟨#[]⟩⟩] := by
  intro i hi
  match i, hi with
  | 0, _ => exact ⟨b, 0, rfl, h0, h1, h2⟩
  | 1, _ => exact ⟨b, 0, rfl, h3, h4, h5⟩
theorem lawRow_any (x y : Int) (w : World) : Calls Try.prog 33 #[.int .i64 x, .int .i64 y] w fun e w' => (∃ ad, e = .returned (.slice ad 2 2) ∧ vl.rowAt w' ad [⟨2, x, ⟨#[]⟩⟩, ⟨2, y, ⟨#[]⟩⟩]) ∧ Below w.heap.size w w' := by
  go_enter Try.func33, Try.ntmps33
  go_wp2_with fail
  refine (num_any _ _).mono ?_
  rintro e w1 ⟨rfl, hb1⟩
  go_wp2_with fail
  refine (num_any _ _).mono ?_
  rintro e w2 ⟨rfl, hb2⟩
  have hbb := hb1.trans (hb2.mono hb1.size)
  go_wp2
  go_ret
  exact ⟨⟨_, rfl, rowTwo (by go_simp) (by go_simp) (by go_simp) (by go_simp) (by go_simp) (by go_simp)⟩, hbb.alloc hbb.size _⟩
theorem out_begun (x : PA) (w : World) (hp : planAt w countedP x) : Calls Try.prog 7 #[planV countedP x] w fun e w' => (∃ ad cap, e = .returned (.tuple #[.slice ad 3 cap, .int .i64 0])) ∧ Below w.heap.size w w' := by
  refine (out_any countedP x w wf_counted hp).mono ?_
  rintro e w' ⟨hres, hb⟩
  refine ⟨?_, hb⟩
  rcases hres with ⟨h1, _⟩ | ⟨_, ad, cap, h1, _⟩
  · exact absurd err_counted h1
  · rw [out_counted] at h1
    exact ⟨ad, cap, h1⟩
theorem key_begun (x : PA) (ad : Option Addr) (w : World) (hp : planAt w simpleP x) (hr : vl.rowAt w ad row78) : Calls Try.prog 13 #[planV simpleP x, .int .i64 1, .slice ad 2 2] w fun e w' => (∃ s : ByteArray, s.size = 9 ∧ e = .returned (.tuple #[.string s, .bool true, .int .i64 0])) ∧ Below w.heap.size w w' := by
  refine (keyOf_any simpleP x 1 ad 2 row78 w wf_simple hp hr wf_row78 (by decide)).mono ?_
  rintro e w' ⟨he, hb⟩
  rw [has_simple, row_simple] at he
  exact ⟨⟨_, key_simple, he⟩, hb⟩
theorem gone_begun (x : PA) (w : World) (hp : planAt w simpleP x) : Calls Try.prog 17 #[planV simpleP x, .int .i64 1, .int .i64 9] w fun e w' => e = .returned (.tuple #[.int .i64 4, .int .i64 0]) ∧ Below w.heap.size w w' := by
  refine (gone_any simpleP x 1 9 w wf_simple hp).mono ?_
  rintro e w' ⟨he, hb⟩
  rw [gone_simple.1, gone_simple.2] at he
  exact ⟨he, hb⟩
theorem check_begun (x : PA) (w : World) (hp : planAt w simpleP x) : Calls Try.prog 10 #[planV simpleP x] w fun e w' => e = .returned (.int .i64 0) ∧ Below w.heap.size w w' := by
  refine (planCheck_any simpleP x w wf_simple hp).mono ?_
  rintro e w' ⟨he, hb⟩
  rw [err_simple] at he
  exact ⟨he, hb⟩
theorem zero_begun (w : World) : Calls Try.prog 10 #[.agg #[.int .i64 0, .int .i64 0, .int .i64 0, .int .i64 0, .int .i64 0, .int .i64 0, .slice none 0 0, .slice none 0 0, .slice none 0 0, .slice none 0 0, .bool false, .slice none 0 0, .slice none 0 0]] w fun e w' => e = .returned (.int .i64 4) ∧ Below w.heap.size w w' := by
  refine (planCheck_any zeroP zeroX w wf_zero (at_zero w)).mono ?_
  rintro e w' ⟨he, hb⟩
  rw [err_zero] at he
  exact ⟨he, hb⟩
set_option maxRecDepth 10000 in
set_option maxHeartbeats 4000000 in
theorem begun_any (w : World) : Calls Try.prog 9 #[] w fun e w' => e = .returned (.bool true) ∧ Below w.heap.size w w' := by
  go_enter Try.func9, Try.ntmps9
  go_wp2_with fail
  refine (counted_any _).mono ?_
  rintro e w1 ⟨⟨x1, rfl, hp1⟩, hb1⟩
  obtain ⟨pv, hpv⟩ : ∃ z, planV countedP x1 = z := ⟨_, rfl⟩
  have K1 := out_begun x1 w1 hp1
  rw [hpv] at K1
  rw [hpv]
  clear hpv hp1
  go_wp2_with fail
  refine K1.mono ?_
  rintro e w2 ⟨⟨ad, cap, rfl⟩, hb2⟩
  have h2 := hb1.trans (hb2.mono hb1.size)
  go_wp2_with fail
  refine (simple_any _).mono ?_
  rintro e w3 ⟨⟨x3, rfl, hp3, _⟩, hb3⟩
  have h3 := h2.trans (hb3.mono h2.size)
  have HP3 : Hid (planAt w3 simpleP x3) := hp3
  obtain ⟨pv3, hpv3⟩ : ∃ z, planV simpleP x3 = z := ⟨_, rfl⟩
  have HV3 : Hid (planV simpleP x3 = pv3) := hpv3
  rw [hpv3]
  clear hpv3 hp3
  go_wp2_with fail
  refine (lawRow_any _ _ _).mono ?_
  rintro e w4 ⟨⟨ar, rfl, hr4⟩, hb4⟩
  have h4 := h3.trans (hb4.mono h3.size)
  have K4 := key_begun x3 ar w4 (planAt_below HP3.out hb4) hr4
  rw [HV3.out] at K4
  clear hr4
  go_wp2_with fail
  refine K4.mono ?_
  rintro e w5 ⟨⟨s, hs, rfl⟩, hb5⟩
  have h5 := h4.trans (hb5.mono h4.size)
  have hs1 : s.size = 9 := hs
  go_wp2_with fail
  refine (simple_any _).mono ?_
  rintro e w6 ⟨⟨x6, rfl, hp6, _⟩, hb6⟩
  have h6 := h5.trans (hb6.mono h5.size)
  have K6 := gone_begun x6 w6 hp6
  obtain ⟨pv6, hpv6⟩ : ∃ z, planV simpleP x6 = z := ⟨_, rfl⟩
  rw [hpv6] at K6
  rw [hpv6]
  clear hpv6 hp6
  go_wp2_with fail
  refine K6.mono ?_
  rintro e w7 ⟨rfl, hb7⟩
  have h7 := h6.trans (hb7.mono h6.size)
  go_wp2_with fail
  refine (simple_any _).mono ?_
  rintro e w8 ⟨⟨x8, rfl, hp8, _⟩, hb8⟩
  have h8 := h7.trans (hb8.mono h7.size)
  have K8 := check_begun x8 w8 hp8
  obtain ⟨pv8, hpv8⟩ : ∃ z, planV simpleP x8 = z := ⟨_, rfl⟩
  rw [hpv8] at K8
  rw [hpv8]
  clear hpv8 hp8
  go_wp2_with fail
  refine K8.mono ?_
  rintro e w9 ⟨rfl, hb9⟩
  have h9 := h8.trans (hb9.mono h8.size)
  go_wp2_with fail
  refine (zero_begun _).mono ?_
  rintro e w10 ⟨rfl, hb10⟩
  have h10 := h9.trans (hb10.mono h9.size)
  go_wp2
  go_ret
  exact ⟨rfl, h10⟩
end Go.Proofs.Ytibjihdeknndoaa.pl
