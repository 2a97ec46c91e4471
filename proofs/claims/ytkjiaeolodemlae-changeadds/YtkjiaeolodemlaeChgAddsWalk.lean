/- ChangeAdds answers true. -/
import Derived.Test.YtkjiaeolodemlaeChgAdd
import Derived.Test.YtkjiaeolodemlaeChgBegun
import Derived.Test.YtkjiaeolodemlaeChgSame
namespace Go.Proofs.Ytkjiaeolodemlae.ch
open Go.ChangeShapes Go.WideShapes Go.ChangeAt Go.RowKit Go.Maps Go.WideMaps Go.Sort
open vl
set_option linter.unusedVariables false
set_option linter.unusedSimpArgs false

theorem adds_same {v : List Cnt} {r : List Cel} {n : Int} {e e' : Ending} {w1 w2 : World} (h : addRes v r n e w1) (k : addRes v r n e' w2) :
    (∃ x, e = .returned (.tuple #[.slice none 0 0, .int .i64 x]) ∧ e' = .returned (.tuple #[.slice none 0 0, .int .i64 x])) ∨
    (∃ out : List Cnt, wfView out ∧ out.length ≤ 4096 ∧ ∃ ad cap ad' cap', e = .returned (.tuple #[.slice ad out.length cap, .int .i64 0]) ∧ viewAt w1 ad out ∧ e' = .returned (.tuple #[.slice ad' out.length cap', .int .i64 0]) ∧ viewAt w2 ad' out) := by
  rcases h with ⟨h1, h2⟩ | ⟨h0, out, ad, cap, h1, h2, h3, h4, h5⟩
  · rcases k with ⟨k1, k2⟩ | ⟨k0, _⟩
    · exact .inl ⟨_, h2, k2⟩
    · exact absurd k0 h1
  · rcases k with ⟨k1, _⟩ | ⟨_, out', ad', cap', k1, k2, k3, k4, k5⟩
    · exact absurd h0 k1
    · have e1 : out' = out := kvOf_inj (view_rows k3 k2) (view_rows h3 h2) (k1.trans h1.symm)
      subst e1
      exact .inr ⟨out', h3, h2.1, ad, cap, ad', cap', h4, h5, k4, k5⟩
theorem add_form {v : List Cnt} {r : List Cel} {n : Int} {e : Ending} {w1 : World} (h : addRes v r n e w1) : ∃ z x, e = .returned (.tuple #[z, .int .i64 x]) := by
  rcases h with ⟨_, h2⟩ | ⟨_, out, ad, cap, _, _, _, h4, _⟩
  · exact ⟨_, _, h2⟩
  · exact ⟨_, _, h4⟩

set_option maxRecDepth 10000 in
set_option maxHeartbeats 8000000 in
theorem adds_walk (a : Option Addr) (ca : Nat) (v : List Cnt) (c : Option Addr) (cc : Nat) (r : List Cel) (n : Int) (n1 : -9223372036854775808 ≤ n) (n2 : n ≤ 9223372036854775807) (w : World) (hv : viewAt w a v) (hr : vl.rowAt w c r) (hwv : wfView v) (hwr : wfRow r) (hlv : v.length ≤ 9223372036854775807) (hlr : r.length ≤ 9223372036854775807) :
    Calls Try.prog 7 #[.slice a v.length ca, .slice c r.length cc, .int .i64 n] w fun e w' => e = .returned (.bool true) ∧ Below w.heap.size w w' := by
  have K1 := add2_any a c ca cc v r n w hv hwv hlv hr hwr hlr n1 n2
  have K2 : Hid (∀ w1, Below w.heap.size w w1 → Calls Try.prog 17 #[.slice a v.length ca, .slice c r.length cc, .int .i64 n] w1 fun e w' => addRes v r n e w' ∧ Below w1.heap.size w1 w') := fun w1 hb => addTo_any a c ca cc v r n w1 (viewAt_below hv hb) hwv hlv (rowAt_below hr hb) hwr hlr n1 n2
  have K3 : Hid (∀ w1, Below w.heap.size w w1 → Calls Try.prog 19 #[.slice a v.length ca] w1 fun e w' => e = .returned (.int .i64 (viewErr v)) ∧ Below w1.heap.size w1 w') := fun w1 hb => check_any a ca v w1 (viewAt_below hv hb) hwv hlv
  have K4 : Hid (∀ w1, Below w.heap.size w w1 → Calls Try.prog 20 #[.slice a v.length ca] w1 fun e w' => e = .returned (.int .i64 (viewErr v)) ∧ Below w1.heap.size w1 w') := fun w1 hb => checkView_any a ca v w1 (viewAt_below hv hb) hwv hlv
  clear hv hr
  obtain ⟨m, hm⟩ : ∃ x, v.length = x := ⟨_, rfl⟩
  obtain ⟨rl, hrl⟩ : ∃ x, r.length = x := ⟨_, rfl⟩
  obtain ⟨ve, hve⟩ : ∃ x, viewErr v = x := ⟨_, rfl⟩
  rw [hm, hrl] at K1 K2
  rw [hm, hve] at K3 K4
  rw [hm, hrl]
  clear hm hrl hve
  go_enter Try.func7, Try.ntmps7
  go_wp2_with fail
  refine K1.mono ?_
  rintro e w1 ⟨hres, hb1⟩
  have HRES : Hid (addRes v r n e w1) := hres
  obtain ⟨r1, x1, he1⟩ := add_form hres
  clear hres
  subst he1
  go_wp2_with fail
  refine (K2.out w1 hb1).mono ?_
  rintro e w2 ⟨hres2, hb2⟩
  have h2 := hb1.trans (hb2.mono hb1.size)
  rcases adds_same HRES.out hres2 with ⟨x, e1, rfl⟩ | ⟨out, hwf, hlen, ad, cap, ad', cap', e1, hc1, rfl, hc2⟩
  · injection e1 with e1
    injection e1 with e1
    have e2 : r1 = .slice none 0 0 ∧ (Value.int .i64 x1) = .int .i64 x := by simpa using e1
    obtain ⟨rfl, e3⟩ := e2
    injection e3 with _ e3
    subst e3
    clear HRES hres2 e1
    go_wp2_with fail
    refine (cbegun_any _).mono ?_
    rintro e w3 ⟨rfl, hb3⟩
    have h3 := h2.trans (hb3.mono h2.size)
    go_wp2_with fail
    refine (K3.out _ h3).mono ?_
    rintro e w4 ⟨rfl, hb4⟩
    have h4 := h3.trans (hb4.mono h3.size)
    go_wp2_with fail
    refine (K4.out _ h4).mono ?_
    rintro e w5 ⟨rfl, hb5⟩
    have h5 := h4.trans (hb5.mono h4.size)
    have KS := sameViews_any none none 0 0 [] [] w5 (fun i hi => absurd hi (Nat.not_lt_zero i)) (fun i hi => absurd hi (Nat.not_lt_zero i)) (fun c hc => absurd hc List.not_mem_nil) (fun c hc => absurd hc List.not_mem_nil) (by decide) (by decide)
    rw [decide_eq_true rfl] at KS
    simp only [List.length_nil] at KS
    go_wp2_with fail
    refine KS.mono ?_
    rintro e w6 ⟨rfl, hb6⟩
    go_wp2
    go_ret
    exact ⟨rfl, h5.trans (hb6.mono h5.size)⟩
  · injection e1 with e1
    injection e1 with e1
    have e2 : r1 = .slice ad out.length cap ∧ (Value.int .i64 x1) = .int .i64 0 := by simpa using e1
    obtain ⟨rfl, e3⟩ := e2
    injection e3 with _ e3
    subst e3
    have HC1 : Hid (viewAt w2 ad out) := viewAt_below hc1 hb2
    have HC2 : Hid (viewAt w2 ad' out) := hc2
    have HWF : Hid (wfView out) := hwf
    obtain ⟨ln, hln⟩ : ∃ x, out.length = x := ⟨_, rfl⟩
    have HLN : Hid (out.length = ln) := hln
    rw [hln] at hlen
    rw [hln]
    clear HRES hres2 e1 hc1 hc2 hwf hln
    go_wp2_with fail
    refine (cbegun_any _).mono ?_
    rintro e w3 ⟨rfl, hb3⟩
    have h3 := h2.trans (hb3.mono h2.size)
    go_wp2_with fail
    refine (K3.out _ h3).mono ?_
    rintro e w4 ⟨rfl, hb4⟩
    have h4 := h3.trans (hb4.mono h3.size)
    go_wp2_with fail
    refine (K4.out _ h4).mono ?_
    rintro e w5 ⟨rfl, hb5⟩
    have h5 := h4.trans (hb5.mono h4.size)
    have hb25 := (hb3.trans (hb4.mono hb3.size)).trans (hb5.mono (Nat.le_trans hb3.size hb4.size))
    have KS := sameViews_any ad ad' cap cap' out out w5 (viewAt_below HC1.out hb25) (viewAt_below HC2.out hb25) HWF.out HWF.out (by rw [HLN.out]; omega) (by rw [HLN.out]; omega)
    rw [decide_eq_true rfl, HLN.out] at KS
    go_wp2_with fail
    refine KS.mono ?_
    rintro e w6 ⟨rfl, hb6⟩
    go_wp2
    go_ret
    exact ⟨rfl, h5.trans (hb6.mono h5.size)⟩
end Go.Proofs.Ytkjiaeolodemlae.ch
