/- For all values a and b the law ValueChecks answers true: Check and Compare agree with the document's answer. -/
import Derived.Test.YtkjiaeolodemladValOpen
import Derived.Test.YtkjiaeolodemladValChecksWalk
namespace Go.Proofs.Ytkjiaeolodemlad.valueChecks
open Go.ChangeShapes Go.WideShapes Go.ChangeAt Go.RowKit Go.Joins Go.Deep
open Go.ChangeMaps (open_string shut_string)
set_option linter.unusedVariables false
set_option maxRecDepth 100000 in
theorem lifted (os : Os) (started : os.Started) (H : Type) (enc : TypeId × Value → H) :
    ReturnsInHanded {} Try.checked os 3 .any (Rows.valueChecksSpec.pre6 enc Try.prog Try.f3 Rows.valueChecksRow.domain false) (Rows.valueChecksSpec.post enc Try.prog Try.f3 false true false false) := by
  refine returnsInHanded_of_change (C := Try.checked) vl.own started (by kernel_rfl) Try.func3
    (ChangeSpec.witness6 (enc := enc) (C := Try.checked) false ⟨#[], #[.agg #[.int .i64 0, .int .i64 0, .string ⟨#[]⟩], .agg #[.int .i64 0, .int .i64 0, .string ⟨#[]⟩]], []⟩ 8 (by kernel_rfl) (by kernel_rfl) (by kernel_rfl) (by kernel_rfl)) ?_
  intro W base args ds gs before hval0 hW hcnd _
  have hval : ∀ (j : Nat) t v, Try.f3.params[j]? = some t → args[j]? = some v → Value.okWide Try.prog W .any base t v := hval0
  have hW' := hW
  obtain ⟨p, q, hA0, hV, rfl, hfz, hnd⟩ := hW
  have hA : DataW.TrodAll enc Try.prog W 0 (fun _ => true) true Try.f3.params.toList args.toList ds p := hA0
  rw [Try.params3] at hA hval
  obtain ⟨v0, vs0, d0, ds0, p0, q0, hargs, rfl, rfl, h0, r0⟩ := trodAll_cons hA
  obtain ⟨v1, vs1, d1, ds1, p1, q1, rfl, rfl, rfl, h1, r1⟩ := trodAll_cons r0
  obtain ⟨rfl, rfl, rfl⟩ := trodAll_nil r1
  obtain rfl : args = #[v0, v1] := by cases args; simp_all
  obtain ⟨rfl, rfl⟩ := trodVars_none hV
  have k0 := h0
  have lt0 : ∀ x ∈ p0, x.block < W.heap.size := by obtain ⟨m, hm⟩ := k0; exact DataW.trod_lt m _ _ _ hm
  obtain ⟨ca0, cb0, cc0, ya0, yb0, yc0, m0, rfl, e0, f0, ha0, hb0, hc0⟩ := open_agg3 Try.underlying23 (by kernel_rfl) vl.cellsV (hval 0 23 v0 rfl rfl) h0
  obtain ⟨ck0, ea0, _, wk0⟩ := DataW.trod_int Try.underlying3 ha0
  obtain ⟨cn0, eb0, _, wn0⟩ := DataW.trod_int Try.underlying3 hb0
  obtain ⟨cs0, ec0, _, ws0⟩ := DataW.trod_string Try.underlying9 hc0
  simp only [List.cons.injEq, and_true] at ea0 eb0 ec0
  subst ea0 eb0 ec0
  have k1 := h1
  have lt1 : ∀ x ∈ p1, x.block < W.heap.size := by obtain ⟨m, hm⟩ := k1; exact DataW.trod_lt m _ _ _ hm
  obtain ⟨ca1, cb1, cc1, ya1, yb1, yc1, m1, rfl, e1, f1, ha1, hb1, hc1⟩ := open_agg3 Try.underlying23 (by kernel_rfl) vl.cellsV (hval 1 23 v1 rfl rfl) h1
  obtain ⟨ck1, ea1, _, wk1⟩ := DataW.trod_int Try.underlying3 ha1
  obtain ⟨cn1, eb1, _, wn1⟩ := DataW.trod_int Try.underlying3 hb1
  obtain ⟨cs1, ec1, _, ws1⟩ := DataW.trod_string Try.underlying9 hc1
  simp only [List.cons.injEq, and_true] at ea1 eb1 ec1
  subst ea1 eb1 ec1
  clear hA0 hval0
  refine (vl.checks_walk ck0 cn0 cs0 ck1 cn1 cs1 W ws0 ws1).mono fun e W' ⟨he, bel⟩ => ?_
  subst he
  exact ⟨_, rfl, _, _, _, [], _, [], hW', trodAll_mk1 (shut_bool Try.underlying4 _), (trodAll_cons_mk (Below.trod vl.laidOut (by kernel_rfl) (of_decide_eq_true (by kernel_rfl)) k0 bel lt0) (trodAll_cons_mk (Below.trod vl.laidOut (by kernel_rfl) (of_decide_eq_true (by kernel_rfl)) k1 bel lt1) trodAll_mk0)), rfl, bel.frame _, fun h => by cases h⟩

theorem proved : Rows.ValueChecksSaid :=
  OpenClaim.holds_of_wide 3 Try.f3 rfl rfl rfl rfl rfl rfl rfl ⟨rfl, rfl, rfl, rfl, rfl⟩ rfl rfl rfl rfl rfl (by kernel_rfl) Try.func3 (by kernel_rfl)
    (of_decide_eq_true (by kernel_rfl)) (by unfold Func.isWrapper; first | (rw [if_pos (by decide +kernel)]; kernel_rfl) | (rw [if_neg (by decide +kernel)]; exact ⟨rfl, rfl⟩))
    (fun os started H enc _ => lifted os started H enc)
#print axioms proved
end Go.Proofs.Ytkjiaeolodemlad.valueChecks
