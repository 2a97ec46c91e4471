/- ChangeFolds answers true. -/
import Derived.Test.YtkjiaeolodemlaeChgFoldIn
import Derived.Test.YtkjiaeolodemlaeChgBegun
import Derived.Test.YtkjiaeolodemlaeChgSame
namespace Go.Proofs.Ytkjiaeolodemlae.ch
open Go.ChangeShapes Go.WideShapes Go.ChangeAt Go.RowKit Go.Maps Go.WideMaps Go.Sort
open vl
set_option linter.unusedVariables false
set_option linter.unusedSimpArgs false

theorem form2_any (a : Option Addr) (cap : Nat) (l : List Chg) (w : World) (hv : chgsAt w a l) (hw : wfChgs l) (hl : l.length ≤ 9223372036854775807) :
    Calls Try.prog 24 #[.slice a l.length cap] w fun e w' => e = .returned (.int .i64 (formErr l)) ∧ Below w.heap.size w w' := by
  have KK := keysOf_any a cap l w hv hw hl
  obtain ⟨n, hn⟩ : ∃ n, l.length = n := ⟨_, rfl⟩
  rw [hn] at KK
  rw [hn]
  go_enter Try.func24, Try.ntmps24
  go_wp2_with fail
  refine KK.mono ?_
  rintro e w1 ⟨hres, hb⟩
  rcases hres with ⟨h1, _, ad, c, rfl, _⟩ | ⟨_, rfl⟩
  · go_wp2
    go_ret
    exact ⟨ret_ferr h1.symm, hb⟩
  · go_wp2
    go_ret
    exact ⟨rfl, hb⟩
theorem folds_same {v : List Cnt} {l : List Chg} {e e' : Ending} {w1 w2 : World} (h : foldRes v l e w1) (k : foldRes v l e' w2) :
    (∃ p x, e = .returned (.tuple #[.slice none 0 0, .int .i64 p, .int .i64 x]) ∧ e' = .returned (.tuple #[.slice none 0 0, .int .i64 p, .int .i64 x])) ∨
    (∃ out : List Cnt, wfView out ∧ out.length ≤ 4096 ∧ ∃ ad cap ad' cap', e = .returned (.tuple #[.slice ad out.length cap, .int .i64 0, .int .i64 0]) ∧ viewAt w1 ad out ∧ e' = .returned (.tuple #[.slice ad' out.length cap', .int .i64 0, .int .i64 0]) ∧ viewAt w2 ad' out) := by
  rcases h with ⟨h1, h2⟩ | ⟨h0, h1, h2⟩ | ⟨h0, h1, i, hi, ha, hb, h2⟩ | ⟨h0, h1, h3, out, ad, cap, h4, h5, h6, h7, h8⟩
  · rcases k with ⟨k1, k2⟩ | ⟨k0, _⟩ | ⟨k0, _⟩ | ⟨k0, _⟩
    · exact .inl ⟨_, _, h2, k2⟩
    · exact absurd k0 h1
    · exact absurd k0 h1
    · exact absurd k0 h1
  · rcases k with ⟨k1, _⟩ | ⟨_, _, k2⟩ | ⟨_, k0, _⟩ | ⟨_, k0, _⟩
    · exact absurd h0 k1
    · exact .inl ⟨_, _, h2, k2⟩
    · exact absurd k0 h1
    · exact absurd k0 h1
  · rcases k with ⟨k1, _⟩ | ⟨_, k1, _⟩ | ⟨_, _, j, hj, ka, kb, k2⟩ | ⟨_, _, k3, _⟩
    · exact absurd h0 k1
    · exact absurd h1 k1
    · have e1 : i = j := by
        rcases Nat.lt_trichotomy i j with h | h | h
        · exact absurd (ka i h) hb
        · exact h
        · exact absurd (ha j h) kb
      subst e1
      exact .inl ⟨_, _, h2, k2⟩
    · exact absurd (k3 i hi) hb
  · rcases k with ⟨k1, _⟩ | ⟨_, k1, _⟩ | ⟨_, _, j, hj, ka, kb, k2⟩ | ⟨_, _, k3, out', ad', cap', k4, k5, k6, k7, k8⟩
    · exact absurd h0 k1
    · exact absurd h1 k1
    · exact absurd (h3 j hj) kb
    · have e1 : out' = out := kvOf_inj (view_rows k6 k5) (view_rows h6 h5) (k4.trans h4.symm)
      subst e1
      exact .inr ⟨out', h6, h5.1, ad, cap, ad', cap', h7, h8, k7, k8⟩
theorem fold_form {v : List Cnt} {l : List Chg} {e : Ending} {w1 : World} (h : foldRes v l e w1) : ∃ z p x, e = .returned (.tuple #[z, .int .i64 p, .int .i64 x]) := by
  rcases h with ⟨_, h2⟩ | ⟨_, _, h2⟩ | ⟨_, _, i, _, _, _, h2⟩ | ⟨_, _, _, out, ad, cap, _, _, _, h2, _⟩
  · exact ⟨_, _, _, h2⟩
  · exact ⟨_, _, _, h2⟩
  · exact ⟨_, _, _, h2⟩
  · exact ⟨_, _, _, h2⟩

set_option maxRecDepth 10000 in
set_option maxHeartbeats 8000000 in
theorem folds_walk (a : Option Addr) (ca : Nat) (v : List Cnt) (c : Option Addr) (cc : Nat) (l : List Chg) (w : World) (hv : viewAt w a v) (hc : chgsAt w c l) (hwv : wfView v) (hwl : wfChgs l) (hlv : v.length ≤ 9223372036854775807) (hll : l.length ≤ 9223372036854775807) :
    Calls Try.prog 8 #[.slice a v.length ca, .slice c l.length cc] w fun e w' => e = .returned (.bool true) ∧ Below w.heap.size w w' := by
  have K1 := fold_any a c ca cc v l w hv hwv hlv hc hwl hll
  have K2 : Hid (∀ w1, Below w.heap.size w w1 → Calls Try.prog 23 #[.slice a v.length ca, .slice c l.length cc] w1 fun e w' => foldRes v l e w' ∧ Below w1.heap.size w1 w') := fun w1 hb => foldIn_any a c ca cc v l w1 (viewAt_below hv hb) hwv hlv (chgsAt_below hc hb) hwl hll
  have K3 : Hid (∀ w1, Below w.heap.size w w1 → Calls Try.prog 24 #[.slice c l.length cc] w1 fun e w' => e = .returned (.int .i64 (formErr l)) ∧ Below w1.heap.size w1 w') := fun w1 hb => form2_any c cc l w1 (chgsAt_below hc hb) hwl hll
  have K4 : Hid (∀ w1, Below w.heap.size w w1 → Calls Try.prog 25 #[.slice c l.length cc] w1 fun e w' => e = .returned (.int .i64 (formErr l)) ∧ Below w1.heap.size w1 w') := fun w1 hb => formOf_any c cc l w1 (chgsAt_below hc hb) hwl hll
  clear hv hc
  obtain ⟨m, hm⟩ : ∃ x, v.length = x := ⟨_, rfl⟩
  obtain ⟨n, hn⟩ : ∃ x, l.length = x := ⟨_, rfl⟩
  obtain ⟨fe, hfe⟩ : ∃ x, formErr l = x := ⟨_, rfl⟩
  rw [hm, hn] at K1 K2
  rw [hn, hfe] at K3 K4
  rw [hm, hn]
  clear hm hn hfe
  go_enter Try.func8, Try.ntmps8
  go_wp2_with fail
  refine K1.mono ?_
  rintro e w1 ⟨hres, hb1⟩
  have HRES : Hid (foldRes v l e w1) := hres
  obtain ⟨r1, p1, x1, he1⟩ := fold_form hres
  clear hres
  subst he1
  go_wp2_with fail
  refine (K2.out w1 hb1).mono ?_
  rintro e w2 ⟨hres2, hb2⟩
  have h2 := hb1.trans (hb2.mono hb1.size)
  rcases folds_same HRES.out hres2 with ⟨p, x, e1, rfl⟩ | ⟨out, hwf, hlen, ad, cap, ad', cap', e1, hc1, rfl, hc2⟩
  · injection e1 with e1
    injection e1 with e1
    have e2 : r1 = .slice none 0 0 ∧ (Value.int .i64 p1) = .int .i64 p ∧ (Value.int .i64 x1) = .int .i64 x := by simpa using e1
    obtain ⟨rfl, e3, e4⟩ := e2
    injection e3 with _ e3
    injection e4 with _ e4
    subst e3 e4
    clear HRES hres2 e1
    go_wp2_with fail
    refine (cbegun_any _).mono ?_
    rintro e w3 ⟨rfl, hb3⟩
    have h3 := h2.trans (hb3.mono h2.size)
    go_wp2_with fail
    refine (K3.out _ h3).mono ?_
    rintro e w4 ⟨rfl, hb4⟩
    have h4 := h3.trans (hb4.mono h3.size)
    go_wp2_with fail
    refine (K4.out _ h4).mono ?_
    rintro e w5 ⟨rfl, hb5⟩
    have h5 := h4.trans (hb5.mono h4.size)
    have KS := sameViews_any none none 0 0 [] [] w5 (fun i hi => absurd hi (Nat.not_lt_zero i)) (fun i hi => absurd hi (Nat.not_lt_zero i)) (fun c hc => absurd hc List.not_mem_nil) (fun c hc => absurd hc List.not_mem_nil) (by decide) (by decide)
    rw [decide_eq_true rfl] at KS
    simp only [List.length_nil] at KS
    go_wp2_with fail
    refine KS.mono ?_
    rintro e w6 ⟨rfl, hb6⟩
    go_wp2
    go_ret
    exact ⟨rfl, h5.trans (hb6.mono h5.size)⟩
  · injection e1 with e1
    injection e1 with e1
    have e2 : r1 = .slice ad out.length cap ∧ (Value.int .i64 p1) = .int .i64 0 ∧ (Value.int .i64 x1) = .int .i64 0 := by simpa using e1
    obtain ⟨rfl, e3, e4⟩ := e2
    injection e3 with _ e3
    injection e4 with _ e4
    subst e3 e4
    have HC1 : Hid (viewAt w2 ad out) := viewAt_below hc1 hb2
    have HC2 : Hid (viewAt w2 ad' out) := hc2
    have HWF : Hid (wfView out) := hwf
    obtain ⟨ln, hln⟩ : ∃ x, out.length = x := ⟨_, rfl⟩
    have HLN : Hid (out.length = ln) := hln
    rw [hln] at hlen
    rw [hln]
    clear HRES hres2 e1 hc1 hc2 hwf hln
    go_wp2_with fail
    refine (cbegun_any _).mono ?_
    rintro e w3 ⟨rfl, hb3⟩
    have h3 := h2.trans (hb3.mono h2.size)
    go_wp2_with fail
    refine (K3.out _ h3).mono ?_
    rintro e w4 ⟨rfl, hb4⟩
    have h4 := h3.trans (hb4.mono h3.size)
    go_wp2_with fail
    refine (K4.out _ h4).mono ?_
    rintro e w5 ⟨rfl, hb5⟩
    have h5 := h4.trans (hb5.mono h4.size)
    have hb25 := (hb3.trans (hb4.mono hb3.size)).trans (hb5.mono (Nat.le_trans hb3.size hb4.size))
    have KS := sameViews_any ad ad' cap cap' out out w5 (viewAt_below HC1.out hb25) (viewAt_below HC2.out hb25) HWF.out HWF.out (by rw [HLN.out]; omega) (by rw [HLN.out]; omega)
    rw [decide_eq_true rfl, HLN.out] at KS
    go_wp2_with fail
    refine KS.mono ?_
    rintro e w6 ⟨rfl, hb6⟩
    go_wp2
    go_ret
    exact ⟨rfl, h5.trans (hb6.mono h5.size)⟩
end Go.Proofs.Ytkjiaeolodemlae.ch
