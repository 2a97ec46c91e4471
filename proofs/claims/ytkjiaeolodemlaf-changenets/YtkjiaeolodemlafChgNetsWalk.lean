/- ChangeNets answers true. -/
import Derived.Test.YtkjiaeolodemlafChgUndoOf
import Derived.Test.YtkjiaeolodemlafChgPartA
import Derived.Test.YtkjiaeolodemlafChgBegun
namespace Go.Proofs.Ytkjiaeolodemlaf.ch
open Go.ChangeShapes Go.WideShapes Go.ChangeAt Go.RowKit Go.Maps Go.WideMaps Go.Sort
open vl
set_option linter.unusedVariables false
set_option linter.unusedSimpArgs false

set_option maxRecDepth 10000 in
set_option maxHeartbeats 8000000 in
theorem nets_walk (c : Option Addr) (cc : Nat) (l : List Chg) (w : World) (hc : chgsAt w c l) (hwl : wfChgs l) (hll : l.length ≤ 9223372036854775807) :
    Calls Try.prog 4 #[.slice c l.length cc] w fun e w' => e = .returned (.bool true) ∧ Below w.heap.size w w' := by
  have K1 := net_any c cc l w hc hwl hll
  have K2 : Hid (∀ w1, Below w.heap.size w w1 → Calls Try.prog 13 #[.slice c l.length cc] w1 fun e w' => undoRes l e w' ∧ Below w1.heap.size w1 w') := fun w1 hb => undo_any c cc l w1 (chgsAt_below hc hb) hwl hll
  have K3 : Hid (∀ w1, Below w.heap.size w w1 → Calls Try.prog 14 #[.slice c l.length cc] w1 fun e w' => e = .returned (.int .i64 (formErr l)) ∧ Below w1.heap.size w1 w') := fun w1 hb => formOf_any c cc l w1 (chgsAt_below hc hb) hwl hll
  have K4 : Hid (formOk l → ∀ w1, Below w.heap.size w w1 → Calls Try.prog 15 #[.slice c l.length cc] w1 fun e w' => (∃ M ad cap, (∀ c ∈ M, rowOk c.r) ∧ rising (kvOf M) ∧ (∀ k, getK (kvOf M) k = sumK l k) ∧ e = .returned (.slice ad (madeL M).length cap) ∧ chgsAt w' ad (madeL M)) ∧ Below w1.heap.size w1 w') := fun hf w1 hb => netOf_any c cc l w1 (chgsAt_below hc hb) hwl hf
  have K5 : Hid (formOk l → ∀ w1, Below w.heap.size w w1 → Calls Try.prog 16 #[.slice c l.length cc] w1 fun e w' => (∃ ad cap, e = .returned (.slice ad (backL l).length cap) ∧ chgsAt w' ad (backL l)) ∧ Below w1.heap.size w1 w') := fun hf w1 hb => undoOf_any c cc l w1 (chgsAt_below hc hb) hwl hf
  clear hc
  obtain ⟨n, hn⟩ : ∃ x, l.length = x := ⟨_, rfl⟩
  have HN : Hid (l.length = n) := hn
  obtain ⟨fe, hfe⟩ : ∃ x, formErr l = x := ⟨_, rfl⟩
  have HFE : Hid (formErr l = fe) := hfe
  rw [hn] at K1 K2 K4 K5
  rw [hn, hfe] at K3
  rw [hn]
  clear hn hfe
  go_enter Try.func4, Try.ntmps4
  go_wp2_with fail
  refine K1.mono ?_
  rintro e w1 ⟨hres, hb1⟩
  by_cases f0 : fe = 0
  · subst f0
    obtain ⟨out, ad1, cap1, hk1, hok1, rfl, hc1⟩ : ∃ out ad cap, kvOf out = netK l ∧ (∀ c ∈ out, rowOk c.r) ∧ e = .returned (.tuple #[.slice ad (dels out ++ inss out).length cap, .int .i64 0]) ∧ chgsAt w1 ad (dels out ++ inss out) := by
      rcases hres with ⟨h1, _⟩ | ⟨_, h1⟩
      · exact absurd HFE.out h1
      · exact h1
    have HFO : Hid (formOk l) := form_ok HFE.out
    have HK1 : Hid (kvOf out = netK l) := hk1
    have HOK : Hid (∀ c ∈ out, rowOk c.r) := hok1
    have hnu : rising (netK l) := by
      have := (net_at hwl HFO.out l.length (Nat.le_refl _)).up
      rwa [List.take_length] at this
    have HRI : Hid (rising (kvOf out)) := by show rising (kvOf out); rw [hk1]; exact hnu
    have hml : (madeL out).length ≤ 4096 := by
      rw [made_len, hk1]
      exact Nat.le_trans (sumAbs_net hwl HFO.out) HFO.out.1
    have HMF : Hid (formOk (madeL out) ∧ wfChgs (madeL out)) := made_form hok1 hml
    have HBF : Hid (formOk (backL l) ∧ wfChgs (backL l)) := back_form HFO.out hwl
    have HC1 : Hid (chgsAt w1 ad1 (madeL out)) := hc1
    have hmm : (dels out ++ inss out).length = (madeL out).length := rfl
    rw [hmm]
    obtain ⟨ml, hml2⟩ : ∃ x, (madeL out).length = x := ⟨_, rfl⟩
    have HML : Hid ((madeL out).length = ml) := hml2
    rw [hml2] at hml ⊢
    clear hres hk1 hok1 hc1 hmm hml2 hnu
    go_wp2_with fail
    refine (K2.out _ hb1).mono ?_
    rintro e w2 ⟨hun, hb2⟩
    obtain ⟨ad2, cap2, rfl, hc2⟩ : ∃ ad cap, e = .returned (.tuple #[.slice ad (backL l).length cap, .int .i64 0]) ∧ chgsAt w2 ad (backL l) := by
      rcases hun with ⟨h1, _⟩ | ⟨_, h1⟩
      · exact absurd HFE.out h1
      · exact h1
    have h2 := hb1.trans (hb2.mono hb1.size)
    have HC12 : Hid (chgsAt w2 ad1 (madeL out)) := chgsAt_below HC1.out hb2
    have HC2 : Hid (chgsAt w2 ad2 (backL l)) := hc2
    rw [backL_len, HN.out]
    clear hun hc2
    go_wp2_with fail
    refine (K3.out _ h2).mono ?_
    rintro e w3 ⟨rfl, hb3⟩
    have h3 := h2.trans (hb3.mono h2.size)
    go_wp2_with fail
    refine (cbegun_any _).mono ?_
    rintro e w4 ⟨rfl, hb4⟩
    have h4 := h3.trans (hb4.mono h3.size)
    have hb24 := hb3.trans (hb4.mono hb3.size)
    go_wp2_with fail
    refine (K4.out HFO.out _ h4).mono ?_
    rintro e w5 ⟨⟨M, ad5, cap5, hm1, hm2, hm3, rfl, hc5⟩, hb5⟩
    have h5 := h4.trans (hb5.mono h4.size)
    have eM : madeL M = madeL out := made_same hm2 HRI.out hm1 HOK.out (fun k => by rw [hm3, HK1.out, net_get_sum])
    rw [eM] at hc5 ⊢
    have hb25 := hb24.trans (hb5.mono hb24.size)
    have KS := sameChanges_any ad1 ad5 cap1 cap5 (madeL out) (madeL out) w5 (chgsAt_below HC12.out hb25) hc5 HMF.out.2 HMF.out.2 (by rw [HML.out]; omega) (by rw [HML.out]; omega)
    rw [decide_eq_true rfl, HML.out] at KS
    rw [HML.out]
    clear hm1 hm2 hm3 eM hc5
    go_wp2_with fail
    refine KS.mono ?_
    rintro e w6 ⟨rfl, hb6⟩
    have h6 := h5.trans (hb6.mono h5.size)
    have hb26 := hb25.trans (hb6.mono hb25.size)
    clear KS
    go_wp2_with fail
    refine (K5.out HFO.out _ h6).mono ?_
    rintro e w7 ⟨⟨ad7, cap7, rfl, hc7⟩, hb7⟩
    have h7 := h6.trans (hb7.mono h6.size)
    have hb27 := hb26.trans (hb7.mono hb26.size)
    have KT := sameChanges_any ad2 ad7 cap2 cap7 (backL l) (backL l) w7 (chgsAt_below HC2.out hb27) hc7 HBF.out.2 HBF.out.2 (by rw [backL_len]; exact hll) (by rw [backL_len]; exact hll)
    rw [decide_eq_true rfl, backL_len, HN.out] at KT
    rw [backL_len, HN.out]
    clear hc7
    go_wp2_with fail
    refine KT.mono ?_
    rintro e w8 ⟨rfl, hb8⟩
    go_wp2
    go_ret
    exact ⟨rfl, h7.trans (hb8.mono h7.size)⟩
  · have he : e = .returned (.tuple #[.slice none 0 0, .int .i64 fe]) := by
      rcases hres with ⟨_, h2⟩ | ⟨h1, _⟩
      · rw [h2]; exact ret_str2 HFE.out
      · exact absurd (HFE.out.symm.trans h1) f0
    subst he
    clear hres
    have f0' : (fe == 0) = false := by simpa using f0
    go_wp2_with fail
    refine (K2.out _ hb1).mono ?_
    rintro e w2 ⟨hun, hb2⟩
    have he : e = .returned (.tuple #[.slice none 0 0, .int .i64 fe]) := by
      rcases hun with ⟨_, h2⟩ | ⟨h1, _⟩
      · rw [h2]; exact ret_str2 HFE.out
      · exact absurd (HFE.out.symm.trans h1) f0
    subst he
    clear hun
    have h2 := hb1.trans (hb2.mono hb1.size)
    go_wp2_with fail
    refine (K3.out _ h2).mono ?_
    rintro e w3 ⟨rfl, hb3⟩
    have h3 := h2.trans (hb3.mono h2.size)
    go_wp2_with fail
    refine (cbegun_any _).mono ?_
    rintro e w4 ⟨rfl, hb4⟩
    go_wp2
    go_ret
    exact ⟨rfl, h3.trans (hb4.mono h3.size)⟩
end Go.Proofs.Ytkjiaeolodemlaf.ch
