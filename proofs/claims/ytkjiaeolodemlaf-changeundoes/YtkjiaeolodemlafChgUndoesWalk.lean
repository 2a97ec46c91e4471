/- ChangeUndoes answers true. -/
import Derived.Test.YtkjiaeolodemlafChgUndo
import Derived.Test.YtkjiaeolodemlafChgCutsWalk
namespace Go.Proofs.Ytkjiaeolodemlaf.ch
open Go.ChangeShapes Go.WideShapes Go.ChangeAt Go.RowKit Go.Maps Go.WideMaps Go.Sort
open vl
set_option linter.unusedVariables false
set_option linter.unusedSimpArgs false

/-- what is left of changes makes the same -/
theorem net_sum {kv : KV} {l : List Chg} {out out0 : List Cnt} (hall : ∀ i, i < l.length → errK kv l i = 0) (h0 : kvOf out0 = atK kv l l.length) (h1 : kvOf out = netK l) : ∀ k, getK (kvOf out0) k = getK kv k + getK (kvOf out) k := by
  intro k
  rw [h0, at_get _ (Nat.le_refl _) hall, List.take_length, h1, net_get_sum]
theorem net_rising {l : List Chg} (hw : wfChgs l) (hf : formOk l) : rising (netK l) := by
  have := (net_at hw hf l.length (Nat.le_refl _)).up
  rwa [List.take_length] at this

set_option maxRecDepth 10000 in
set_option maxHeartbeats 8000000 in
theorem undoes_walk (a : Option Addr) (ca : Nat) (v : List Cnt) (c : Option Addr) (cc : Nat) (l : List Chg) (w : World) (hv : viewAt w a v) (hc : chgsAt w c l) (hwv : wfView v) (hwl : wfChgs l) (hlv : v.length ≤ 9223372036854775807) (hll : l.length ≤ 9223372036854775807) :
    Calls Try.prog 6 #[.slice a v.length ca, .slice c l.length cc] w fun e w' => e = .returned (.bool true) ∧ Below w.heap.size w w' := by
  have K1 := fold_any a c ca cc v l w hv hwv hlv hc hwl hll
  have KN : Hid (∀ w1, Below w.heap.size w w1 → Calls Try.prog 12 #[.slice c l.length cc] w1 fun e w' => netRes l e w' ∧ Below w1.heap.size w1 w') := fun w1 hb => net_any c cc l w1 (chgsAt_below hc hb) hwl hll
  have KU : Hid (∀ w1, Below w.heap.size w w1 → Calls Try.prog 13 #[.slice c l.length cc] w1 fun e w' => undoRes l e w' ∧ Below w1.heap.size w1 w') := fun w1 hb => undo_any c cc l w1 (chgsAt_below hc hb) hwl hll
  have HV : Hid (viewAt w a v) := hv
  clear hv hc
  obtain ⟨m, hm⟩ : ∃ x, v.length = x := ⟨_, rfl⟩
  have HM : Hid (v.length = m) := hm
  obtain ⟨n, hn⟩ : ∃ x, l.length = x := ⟨_, rfl⟩
  have HN : Hid (l.length = n) := hn
  rw [hm, hn] at K1
  rw [hn] at KN KU hll
  rw [hm] at hlv
  rw [hm, hn]
  clear hm hn
  go_enter Try.func6, Try.ntmps6
  go_wp2_with fail
  refine K1.mono ?_
  rintro e w1 ⟨hres, hb1⟩
  rcases fold_split hres with ⟨p, x, hx, rfl⟩ | ⟨hve, hfe, hall, out0, hk0, ho0, hw0, ad0, cap0, rfl, hv0⟩
  · have hx1 : (x == 0) = false := by simpa using hx
    have hx2 : (x != 0) = true := by simpa using hx
    clear hx hres
    go_wp2_with fail
    refine (cbegun_any _).mono ?_
    rintro e w2 ⟨rfl, hb2⟩
    go_wp2
    go_ret
    exact ⟨rfl, hb1.trans (hb2.mono hb1.size)⟩
  · have HVE : Hid (viewErr v = 0) := hve
    have HFE : Hid (formErr l = 0) := hfe
    have HALL : Hid (∀ i, i < l.length → errK (kvOf v) l i = 0) := hall
    have HK0 : Hid (kvOf out0 = atK (kvOf v) l l.length) := hk0
    have HO0 : Hid (viewOk out0) := ho0
    have HW0 : Hid (wfView out0) := hw0
    have HV0 : Hid (viewAt w1 ad0 out0) := hv0
    have HVO : Hid (viewOk v) := by
      show viewOk v
      have h := hve
      unfold viewErr at h
      split at h
      · cases h
      · split at h
        · assumption
        · cases h
    clear hve hfe hall hk0 ho0 hw0 hv0 hres K1
    obtain ⟨o0, ho0⟩ : ∃ x, out0.length = x := ⟨_, rfl⟩
    have HOL : Hid (out0.length = o0) := ho0
    rw [ho0]
    clear ho0
    go_wp2_with fail
    refine (KN.out _ hb1).mono ?_
    rintro e w2 ⟨hnet, hb2⟩
    obtain ⟨out, ad1, cap1, hk1, hok1, rfl, hc1⟩ : ∃ out ad cap, kvOf out = netK l ∧ (∀ c ∈ out, rowOk c.r) ∧ e = .returned (.tuple #[.slice ad (dels out ++ inss out).length cap, .int .i64 0]) ∧ chgsAt w2 ad (dels out ++ inss out) := by
      rcases hnet with ⟨h1, _⟩ | ⟨_, h1⟩
      · exact absurd HFE.out h1
      · exact h1
    have HFO : Hid (formOk l) := form_ok HFE.out
    have HK1 : Hid (kvOf out = netK l) := hk1
    have HRI : Hid (rising (kvOf out)) := by show rising (kvOf out); rw [hk1]; exact net_rising hwl HFO.out
    have hml : (madeL out).length ≤ 4096 := by
      rw [made_len, hk1]
      exact Nat.le_trans (sumAbs_net hwl HFO.out) HFO.out.1
    have HMF : Hid (formOk (madeL out) ∧ wfChgs (madeL out)) := made_form hok1 hml
    have HPL : Hid ((∀ i, i < (madeL out).length → errK (kvOf v) (madeL out) i = 0) ∧ atK (kvOf v) (madeL out) (madeL out).length = kvOf out0) := made_play (view_good hwv HVO.out) (view_good HW0.out HO0.out) HRI.out hok1 hml (net_sum HALL.out HK0.out HK1.out)
    have HC1 : Hid (chgsAt w2 ad1 (madeL out)) := hc1
    have h2 := hb1.trans (hb2.mono hb1.size)
    have HV2 : Hid (viewAt w2 ad0 out0) := viewAt_below HV0.out hb2
    have hmm : (dels out ++ inss out).length = (madeL out).length := rfl
    rw [hmm]
    obtain ⟨ml, hml2⟩ : ∃ x, (madeL out).length = x := ⟨_, rfl⟩
    have HML : Hid ((madeL out).length = ml) := hml2
    rw [hml2] at hml ⊢
    clear hnet hk1 hok1 hc1 HV0 hb2 hb1 hmm hml2 KN
    go_wp2_with fail
    refine (KU.out _ h2).mono ?_
    rintro e w3 ⟨hun, hb3⟩
    obtain ⟨ad2, cap2, rfl, hc2⟩ : ∃ ad cap, e = .returned (.tuple #[.slice ad (backL l).length cap, .int .i64 0]) ∧ chgsAt w3 ad (backL l) := by
      rcases hun with ⟨h1, _⟩ | ⟨_, h1⟩
      · exact absurd HFE.out h1
      · exact h1
    have HC2 : Hid (chgsAt w3 ad2 (backL l)) := hc2
    have HC3 : Hid (chgsAt w3 ad1 (madeL out)) := chgsAt_below HC1.out hb3
    have h3 := h2.trans (hb3.mono h2.size)
    have HV3 : Hid (viewAt w3 ad0 out0) := viewAt_below HV2.out hb3
    have KA : Hid (Calls Try.prog 17 #[.slice a m ca, .slice ad1 ml cap1] w3 fun e w' => foldRes v (madeL out) e w' ∧ Below w3.heap.size w3 w') := by
      have h := fold_any a ad1 ca cap1 v (madeL out) w3 (viewAt_below HV.out h3) hwv (by rw [HM.out]; exact hlv) HC3.out HMF.out.2 (by rw [HML.out]; omega)
      rw [HM.out, HML.out] at h; exact h
    rw [backL_len, HN.out]
    clear hun hc2 HC1 HV2 hb3 h2 KU
    go_wp2_with fail
    refine KA.out.mono ?_
    rintro e w4 ⟨hres, hb4⟩
    obtain ⟨out3, hk3, ho3, hw3, ad3, cap3, rfl, hv3⟩ := fold_yes hres HVE.out (ok_form HMF.out.1) HPL.out.1
    have HE : Hid (out3 = out0) := kvOf_inj (view_rows hw3 ho3) (view_rows HW0.out HO0.out) (by rw [hk3, HPL.out.2])
    have HX : Hid (viewAt w4 ad3 out0) := by show viewAt w4 ad3 out0; rw [← HE.out]; exact hv3
    have h4 := h3.trans (hb4.mono h3.size)
    have HV4 : Hid (viewAt w4 ad0 out0) := viewAt_below HV3.out hb4
    have HBF : Hid (formOk (backL l) ∧ wfChgs (backL l)) := back_form HFO.out hwl
    have HBP : Hid (atK (kvOf out0) (backL l) (backL l).length = kvOf v ∧ ∀ j, j < (backL l).length → errK (kvOf out0) (backL l) j = 0) := by
      have h := back_play (view_good hwv HVO.out) HFO.out hwl HALL.out l.length (Nat.le_refl _)
      show atK (kvOf out0) (backL l) (backL l).length = kvOf v ∧ ∀ j, j < (backL l).length → errK (kvOf out0) (backL l) j = 0
      rw [HK0.out, backL_len]
      refine ⟨?_, h.2⟩
      rw [h.1, Nat.sub_self]
      rfl
    have KB : Hid (Calls Try.prog 17 #[.slice ad0 o0 cap0, .slice ad2 n cap2] w4 fun e w' => foldRes out0 (backL l) e w' ∧ Below w4.heap.size w4 w') := by
      have h := fold_any ad0 ad2 cap0 cap2 out0 (backL l) w4 HV4.out HW0.out (view_len HO0.out) (chgsAt_below HC2.out hb4) HBF.out.2 (by rw [backL_len, HN.out]; exact hll)
      rw [HOL.out, backL_len, HN.out] at h; exact h
    rw [HE.out, HOL.out]
    clear hres hk3 ho3 hw3 hv3 HV3 hb4 h3 KA
    go_wp2_with fail
    refine KB.out.mono ?_
    rintro e w5 ⟨hres, hb5⟩
    obtain ⟨out4, hk4, ho4, hw4, ad4, cap4, rfl, hv4⟩ := fold_yes hres (viewErr_ok HO0.out) (ok_form HBF.out.1) HBP.out.2
    have HE2 : Hid (out4 = v) := kvOf_inj (view_rows hw4 ho4) (view_rows hwv HVO.out) (by rw [hk4, HBP.out.1])
    have HY : Hid (viewAt w5 ad4 v) := by show viewAt w5 ad4 v; rw [← HE2.out]; exact hv4
    have HX5 : Hid (viewAt w5 ad3 out0) := viewAt_below HX.out hb5
    have h5 := h4.trans (hb5.mono h4.size)
    have HV5 : Hid (viewAt w5 ad0 out0) := viewAt_below HV4.out hb5
    rw [HE2.out, HM.out]
    clear hres hk4 ho4 hw4 hv4 HV4 HX hb5 h4 KB
    go_wp2_with fail
    refine (cbegun_any _).mono ?_
    rintro e w6 ⟨rfl, hb6⟩
    have h6 := h5.trans (hb6.mono h5.size)
    have KS : Hid (Calls Try.prog 18 #[.slice ad3 o0 cap3, .slice ad0 o0 cap0] w6 fun e w' => e = .returned (.bool true) ∧ Below w6.heap.size w6 w') := by
      have h := sameViews_any ad3 ad0 cap3 cap0 out0 out0 w6 (viewAt_below HX5.out hb6) (viewAt_below HV5.out hb6) HW0.out HW0.out (view_len HO0.out) (view_len HO0.out)
      rw [HOL.out, decide_eq_true rfl] at h; exact h
    have KT : Hid (∀ w7, Below w6.heap.size w6 w7 → Calls Try.prog 18 #[.slice ad4 m cap4, .slice a m ca] w7 fun e w' => e = .returned (.bool true) ∧ Below w7.heap.size w7 w') := fun w7 hb7 => by
      have h := sameViews_any ad4 a cap4 ca v v w7 (viewAt_below (viewAt_below HY.out hb6) hb7) (viewAt_below HV.out (h6.trans (hb7.mono h6.size))) hwv hwv (by rw [HM.out]; exact hlv) (by rw [HM.out]; exact hlv)
      rw [HM.out, decide_eq_true rfl] at h; exact h
    go_wp2_with fail
    refine KS.out.mono ?_
    rintro e w7 ⟨rfl, hb7⟩
    have h7 := h6.trans (hb7.mono h6.size)
    go_wp2_with fail
    refine (KT.out _ hb7).mono ?_
    rintro e w8 ⟨rfl, hb8⟩
    go_wp2
    go_ret
    exact ⟨rfl, h7.trans (hb8.mono h7.size)⟩
end Go.Proofs.Ytkjiaeolodemlaf.ch
