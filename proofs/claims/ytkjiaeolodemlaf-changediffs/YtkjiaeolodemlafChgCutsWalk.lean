/- ChangeCuts answers true. -/
import Derived.Test.YtkjiaeolodemlafChgCuts
namespace Go.Proofs.Ytkjiaeolodemlaf.ch
open Go.ChangeShapes Go.WideShapes Go.ChangeAt Go.RowKit Go.Maps Go.WideMaps Go.Sort
open vl
set_option linter.unusedVariables false
set_option linter.unusedSimpArgs false

def foldYes (v : List Cnt) (l : List Chg) (out : List Cnt) (e : Ending) (w' : World) : Prop :=
  kvOf out = atK (kvOf v) l l.length ∧ viewOk out ∧ wfView out ∧ ∃ ad cap, e = .returned (.tuple #[.slice ad out.length cap, .int .i64 0, .int .i64 0]) ∧ viewAt w' ad out
theorem fold_split {v : List Cnt} {l : List Chg} {e : Ending} {w' : World} (h : foldRes v l e w') : (∃ p x, x ≠ 0 ∧ e = .returned (.tuple #[.slice none 0 0, .int .i64 p, .int .i64 x])) ∨ (viewErr v = 0 ∧ formErr l = 0 ∧ (∀ i, i < l.length → errK (kvOf v) l i = 0) ∧ ∃ out, foldYes v l out e w') := by
  rcases h with ⟨h1, h2⟩ | ⟨_, h1, h2⟩ | ⟨_, _, k, _, _, h1, h2⟩ | ⟨h1, h2, h3, out, ad, cap, h4, h5, h6, h7, h8⟩
  · exact .inl ⟨_, _, h1, h2⟩
  · exact .inl ⟨_, _, h1, h2⟩
  · exact .inl ⟨_, _, h1, h2⟩
  · exact .inr ⟨h1, h2, h3, out, h4, h5, h6, ad, cap, h7, h8⟩
theorem fold_yes {v : List Cnt} {l : List Chg} {e : Ending} {w' : World} (h : foldRes v l e w') (h1 : viewErr v = 0) (h2 : formErr l = 0) (h3 : ∀ i, i < l.length → errK (kvOf v) l i = 0) : ∃ out, foldYes v l out e w' := by
  rcases h with ⟨k1, _⟩ | ⟨_, k1, _⟩ | ⟨_, _, k, k2, _, k1, _⟩ | ⟨_, _, _, out, ad, cap, h4, h5, h6, h7, h8⟩
  · exact absurd h1 k1
  · exact absurd h2 k1
  · exact absurd (h3 k k2) k1
  · exact ⟨out, h4, h5, h6, ad, cap, h7, h8⟩
theorem view_len {v : List Cnt} (h : viewOk v) : v.length ≤ 9223372036854775807 := by have := h.1; omega

set_option maxRecDepth 10000 in
set_option maxHeartbeats 8000000 in
theorem cuts_walk (a : Option Addr) (ca : Nat) (v : List Cnt) (c : Option Addr) (cc : Nat) (l : List Chg) (cut : Int) (c1 : -9223372036854775808 ≤ cut) (c2 : cut ≤ 9223372036854775807) (w : World) (hv : viewAt w a v) (hc : chgsAt w c l) (hwv : wfView v) (hwl : wfChgs l) (hlv : v.length ≤ 9223372036854775807) (hll : l.length ≤ 9223372036854775807) (hcap : l.length ≤ cc) :
    Calls Try.prog 7 #[.slice a v.length ca, .slice c l.length cc, .int .i64 cut] w fun e w' => e = .returned (.bool true) ∧ Below w.heap.size w w' := by
  have K1 : Hid (∀ w1, Below w.heap.size w w1 → Calls Try.prog 17 #[.slice a v.length ca, .slice c l.length cc] w1 fun e w' => foldRes v l e w' ∧ Below w1.heap.size w1 w') := fun w1 hb => fold_any a c ca cc v l w1 (viewAt_below hv hb) hwv hlv (chgsAt_below hc hb) hwl hll
  have HV : Hid (viewAt w a v) := hv
  have HC : Hid (chgsAt w c l) := hc
  clear hv hc
  obtain ⟨m, hm⟩ : ∃ x, v.length = x := ⟨_, rfl⟩
  have HM : Hid (v.length = m) := hm
  obtain ⟨n, hn⟩ : ∃ x, l.length = x := ⟨_, rfl⟩
  have HN : Hid (l.length = n) := hn
  rw [hm, hn] at K1
  rw [hm] at hlv
  rw [hn] at hll hcap
  rw [hm, hn]
  clear hm hn
  obtain ⟨n1, hn1⟩ : ∃ x, IntKind.i64.wrap ((n : Int) + 1) = x := ⟨_, rfl⟩
  have hn2 : n1 = n + 1 ∨ (n = 9223372036854775807 ∧ n1 = -9223372036854775808) := by
    rw [wrap_is] at hn1; omega
  go_enter Try.func7, Try.ntmps7
  go_wp2_with fail
  refine (choose_any cut n1 n _ c1 c2 hn2 hll).mono ?_
  rintro e w0 ⟨⟨k, hk, rfl⟩, rfl⟩
  obtain ⟨a1, hs1, hfront⟩ := front_is c n cc k hk hcap
  obtain ⟨a2, cap2, hs2, hback⟩ := back_is c n cc k hk hcap
  have HFR : Hid (∀ (w : World) (l : List Chg), l.length = n → chgsAt w c l → chgsAt w a1 (l.take k)) := hfront
  have HBK : Hid (∀ (w : World) (l : List Chg), l.length = n → chgsAt w c l → chgsAt w a2 (l.drop k)) := hback
  have HTL : Hid ((l.take k).length = k) := by show (l.take k).length = k; rw [List.length_take, HN.out]; omega
  have HDL : Hid ((l.drop k).length = n - k) := by show (l.drop k).length = n - k; rw [List.length_drop, HN.out]
  clear hfront hback hn2 hn1
  go_wp2_with fail
  refine (K1.out _ (Below.refl _ _)).mono ?_
  rintro e w1 ⟨hres, hb1⟩
  rcases fold_split hres with ⟨p, x, hx, rfl⟩ | ⟨hve, hfe, hall, out0, hk0, ho0, hw0, ad0, cap0, rfl, hv0⟩
  · have hx1 : (x == 0) = false := by simpa using hx
    have hx2 : (x != 0) = true := by simpa using hx
    clear hx hres
    go_wp2_with fail
    refine (cbegun_any _).mono ?_
    rintro e w2 ⟨rfl, hb2⟩
    go_wp2
    go_ret
    exact ⟨rfl, hb1.trans (hb2.mono hb1.size)⟩
  · have HVE : Hid (viewErr v = 0) := hve
    have HFE : Hid (formErr l = 0) := hfe
    have HALL : Hid (∀ i, i < l.length → errK (kvOf v) l i = 0) := hall
    have HK0 : Hid (kvOf out0 = atK (kvOf v) l l.length) := hk0
    have HO0 : Hid (viewOk out0) := ho0
    have HW0 : Hid (wfView out0) := hw0
    have HV0 : Hid (viewAt w1 ad0 out0) := hv0
    clear hve hfe hall hk0 ho0 hw0 hv0 hres
    have KF : Hid (Calls Try.prog 20 #[.slice a1 k cc] w1 fun e w' => e = .returned (.int .i64 (formErr (l.take k))) ∧ Below w1.heap.size w1 w') := by
      have h := form_any a1 cc (l.take k) w1 (HFR.out w1 l HN.out (chgsAt_below HC.out hb1)) (wf_take hwl k) (by rw [HTL.out]; omega)
      rw [HTL.out] at h; exact h
    obtain ⟨x, hx⟩ : ∃ x, formErr (l.take k) = x := ⟨_, rfl⟩
    have HX : Hid (formErr (l.take k) = x) := hx
    rw [hx] at KF
    clear hx
    obtain ⟨o0, ho0⟩ : ∃ x, out0.length = x := ⟨_, rfl⟩
    have HOL : Hid (out0.length = o0) := ho0
    rw [ho0]
    clear ho0
    by_cases hx : x = 0
    · subst hx
      have HF1 : Hid (formOk (l.take k)) := form_ok HX.out
      have HF2 : Hid (formErr (l.drop k) = 0) := ok_form (form_drop (form_ok HFE.out) (by rw [HN.out]; exact hk) HF1.out)
      go_wp2_with fail
      refine KF.out.mono ?_
      rintro e w2 ⟨rfl, hb2⟩
      have h2 := hb1.trans (hb2.mono hb1.size)
      have HV2 : Hid (viewAt w2 ad0 out0) := viewAt_below HV0.out hb2
      have KA : Hid (Calls Try.prog 17 #[.slice a m ca, .slice a1 k cc] w2 fun e w' => foldRes v (l.take k) e w' ∧ Below w2.heap.size w2 w') := by
        have h := fold_any a a1 ca cc v (l.take k) w2 (viewAt_below HV.out h2) hwv (by rw [HM.out]; exact hlv) (HFR.out w2 l HN.out (chgsAt_below HC.out h2)) (wf_take hwl k) (by rw [HTL.out]; omega)
        rw [HM.out, HTL.out] at h; exact h
      clear KF HV0 hb2 hb1
      go_wp2_with fail
      refine KA.out.mono ?_
      rintro e w3 ⟨hres, hb3⟩
      obtain ⟨out1, hk1, ho1, hw1, ad1, cap1, rfl, hv1⟩ := fold_yes hres HVE.out HX.out (fun i hi => by rw [HTL.out] at hi; rw [errK_take _ _ _ _ hi]; exact HALL.out i (by rw [HN.out]; omega))
      have HK1 : Hid (kvOf out1 = atK (kvOf v) l k) := by
        show kvOf out1 = atK (kvOf v) l k
        rw [hk1, HTL.out, atK_take _ _ _ _ (Nat.le_refl _)]
      have HO1 : Hid (viewOk out1) := ho1
      have h3 := h2.trans (hb3.mono h2.size)
      have HV3 : Hid (viewAt w3 ad0 out0) := viewAt_below HV2.out hb3
      have KB : Hid (Calls Try.prog 17 #[.slice ad1 out1.length cap1, .slice a2 (n - k) cap2] w3 fun e w' => foldRes out1 (l.drop k) e w' ∧ Below w3.heap.size w3 w') := by
        have h := fold_any ad1 a2 cap1 cap2 out1 (l.drop k) w3 hv1 hw1 (view_len ho1) (HBK.out w3 l HN.out (chgsAt_below HC.out h3)) (wf_drop hwl k) (by rw [HDL.out]; omega)
        rw [HDL.out] at h; exact h
      clear KA HV2 hb3 h2 hres hk1 ho1 hw1 hv1
      obtain ⟨o1, ho1⟩ : ∃ x, out1.length = x := ⟨_, rfl⟩
      rw [ho1] at KB
      rw [ho1]
      clear ho1
      go_wp2_with fail
      refine KB.out.mono ?_
      rintro e w4 ⟨hres, hb4⟩
      obtain ⟨out2, hk2, ho2, hw2, ad2, cap2, rfl, hv2⟩ := fold_yes hres (viewErr_ok HO1.out) HF2.out (fun i hi => by rw [HDL.out] at hi; rw [HK1.out, errK_drop]; exact HALL.out (k + i) (by rw [HN.out]; omega))
      have HE : Hid (out2 = out0) := kvOf_inj (view_rows hw2 ho2) (view_rows HW0.out HO0.out) (by
        rw [hk2, HK1.out, HDL.out, atK_drop, HK0.out, HN.out, show k + (n - k) = n by omega])
      have h4 := h3.trans (hb4.mono h3.size)
      have HV4 : Hid (viewAt w4 ad0 out0) := viewAt_below HV3.out hb4
      have HV5 : Hid (viewAt w4 ad2 out0) := by show viewAt w4 ad2 out0; rw [← HE.out]; exact hv2
      rw [HE.out, HOL.out]
      clear hres hk2 ho2 hw2 hv2 hb4 h3 KB
      go_wp2_with fail
      refine (cbegun_any _).mono ?_
      rintro e w5 ⟨rfl, hb5⟩
      have h5 := h4.trans (hb5.mono h4.size)
      have KS : Hid (Calls Try.prog 18 #[.slice ad2 o0 cap2, .slice ad0 o0 cap0] w5 fun e w' => e = .returned (.bool true) ∧ Below w5.heap.size w5 w') := by
        have h := sameViews_any ad2 ad0 cap2 cap0 out0 out0 w5 (viewAt_below HV5.out hb5) (viewAt_below HV4.out hb5) HW0.out HW0.out (view_len HO0.out) (view_len HO0.out)
        rw [HOL.out, decide_eq_true rfl] at h; exact h
      go_wp2_with (go_at_call 18; refine KS.out.mono ?_; rintro e w6 ⟨rfl, hb6⟩)
      go_ret
      exact ⟨rfl, h5.trans (hb6.mono h5.size)⟩
    · have hx1 : (x == 0) = false := by simpa using hx
      have hx2 : (x != 0) = true := by simpa using hx
      go_wp2_with fail
      refine KF.out.mono ?_
      rintro e w2 ⟨rfl, hb2⟩
      have h2 := hb1.trans (hb2.mono hb1.size)
      go_wp2_with fail
      refine (cbegun_any _).mono ?_
      rintro e w3 ⟨rfl, hb3⟩
      go_wp2
      go_ret
      exact ⟨rfl, h2.trans (hb3.mono h2.size)⟩
end Go.Proofs.Ytkjiaeolodemlaf.ch
