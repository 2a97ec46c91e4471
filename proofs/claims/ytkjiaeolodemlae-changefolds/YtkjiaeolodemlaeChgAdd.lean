/- Check and Add, and the document's AddTo. -/
import Derived.Test.YtkjiaeolodemlaeChgOwn
import Derived.Test.YtkjiaeolodemlaeChgRCheck
namespace Go.Proofs.Ytkjiaeolodemlae.ch
open Go.ChangeShapes Go.WideShapes Go.ChangeAt Go.RowKit Go.Maps Go.WideMaps
open vl
set_option linter.unusedVariables false
set_option linter.unusedSimpArgs false

def errA (v : List Cnt) (r : List Cel) (n : Int) : Int :=
  if viewErr v ≠ 0 then viewErr v else if keyErr r ≠ 0 then keyErr r else if n < -1073741824 ∨ 1073741824 < n then 3 else addE (kvOf v) (encR r) n
theorem errA_view {v : List Cnt} {r : List Cel} {n : Int} (h : viewErr v ≠ 0) : errA v r n = viewErr v := by unfold errA; rw [if_pos h]
theorem errA_key {v : List Cnt} {r : List Cel} {n : Int} (h : viewErr v = 0) (h2 : keyErr r ≠ 0) : errA v r n = keyErr r := by unfold errA; rw [if_neg (by simpa using h), if_pos h2]
theorem errA_range {v : List Cnt} {r : List Cel} {n : Int} (h : viewErr v = 0) (h2 : keyErr r = 0) (h3 : n < -1073741824 ∨ 1073741824 < n) : errA v r n = 3 := by unfold errA; rw [if_neg (by simpa using h), if_neg (by simpa using h2), if_pos h3]
theorem errA_add {v : List Cnt} {r : List Cel} {n : Int} (h : viewErr v = 0) (h2 : keyErr r = 0) (h3 : -1073741824 ≤ n) (h4 : n ≤ 1073741824) : errA v r n = addE (kvOf v) (encR r) n := by unfold errA; rw [if_neg (by simpa using h), if_neg (by simpa using h2), if_neg (by omega)]
def addRes (v : List Cnt) (r : List Cel) (n : Int) (e : Ending) (w' : World) : Prop :=
  (errA v r n ≠ 0 ∧ e = .returned (.tuple #[.slice none 0 0, .int .i64 (errA v r n)])) ∨
  (errA v r n = 0 ∧ ∃ out ad cap, kvOf out = addV (kvOf v) (encR r) n ∧ viewOk out ∧ wfView out ∧ e = .returned (.tuple #[.slice ad out.length cap, .int .i64 0]) ∧ viewAt w' ad out)
theorem res_err {v : List Cnt} {r : List Cel} {n x : Int} {w' : World} (h : errA v r n = x) (hx : x ≠ 0) : addRes v r n (.returned (.tuple #[.slice none 0 0, .int .i64 x])) w' := .inl ⟨by rw [h]; exact hx, ret_more h.symm⟩

theorem check_any (a : Option Addr) (cap : Nat) (v : List Cnt) (w : World) (hv : viewAt w a v) (hw : wfView v) (hl : v.length ≤ 9223372036854775807) :
    Calls Try.prog 19 #[.slice a v.length cap] w fun e w' => e = .returned (.int .i64 (viewErr v)) ∧ Below w.heap.size w w' := by
  have KG := gather_any a cap v w hv hw hl
  obtain ⟨n, hn⟩ : ∃ n, v.length = n := ⟨_, rfl⟩
  rw [hn] at KG
  rw [hn]
  go_enter Try.func19, Try.ntmps19
  go_wp2_with fail
  refine KG.mono ?_
  rintro e w1 ⟨hres, hb⟩
  rcases hres with ⟨h1, _, B, rfl, _⟩ | ⟨_, rfl⟩
  · go_wp2
    go_ret
    exact ⟨ret_err h1.symm, hb⟩
  · go_wp2
    go_ret
    exact ⟨rfl, hb⟩

set_option maxRecDepth 100000 in
set_option maxHeartbeats 8000000 in
theorem add2_any (a c : Option Addr) (ca cc : Nat) (v : List Cnt) (r : List Cel) (n : Int) (w : World) (hv : viewAt w a v) (hwv : wfView v) (hlv : v.length ≤ 9223372036854775807) (hr : vl.rowAt w c r) (hwr : wfRow r) (hlr : r.length ≤ 9223372036854775807) (n1 : -9223372036854775808 ≤ n) (n2 : n ≤ 9223372036854775807) :
    Calls Try.prog 16 #[.slice a v.length ca, .slice c r.length cc, .int .i64 n] w fun e w' => addRes v r n e w' ∧ Below w.heap.size w w' := by
  have KG := gather_any a ca v w hv hwv hlv
  have KK : Hid (∀ w1, Below w.heap.size w w1 → Calls Try.prog 30 #[.slice c r.length cc] w1 fun e w' => e = .returned (.tuple #[.string (keyS r), .int .i64 (keyErr r)]) ∧ Below w1.heap.size w1 w') := fun w1 hb => key_any c cc r w1 (rowAt_below hr hb) hwr hlr
  clear hv hr
  obtain ⟨m, hm⟩ : ∃ m, v.length = m := ⟨_, rfl⟩
  have HM : Hid (v.length = m) := hm
  obtain ⟨rl, hrl⟩ : ∃ z, r.length = z := ⟨_, rfl⟩
  rw [hm] at KG
  rw [hrl] at KK
  rw [hm, hrl]
  clear hm hrl
  go_enter Try.func16, Try.ntmps16
  go_wp2_with fail
  refine KG.mono ?_
  rintro e w1 ⟨hres, hb1⟩
  rcases hres with ⟨hve, hvo, B, rfl, hB, hcm⟩ | ⟨hve, rfl⟩
  · have HVE : Hid (viewErr v = 0) := hve
    have HVO : Hid (viewOk v) := hvo
    have HCM : Hid (cmap w1 B v.length (kvOf v)) := hcm
    clear hve hvo hcm KG
    obtain ⟨ke, hke⟩ : ∃ z, keyErr r = z := ⟨_, rfl⟩
    have HKE : Hid (keyErr r = ke) := hke
    rw [hke] at KK
    go_wp2_with fail
    refine (KK.out w1 hb1).mono ?_
    rintro e w2 ⟨rfl, hb2⟩
    have hw2 : Below w.heap.size w w2 := hb1.trans (hb2.mono hb1.size)
    by_cases k0 : ke = 0
    · subst k0
      have HROK : Hid (rowOk r) := vl_rowOk hke hwr
      clear hke
      by_cases c1 : n < -1073741824
      · have HE : Hid (errA v r n = 3) := errA_range HVE.out HKE.out (.inl c1)
        go_wp2
        go_ret2
        exact ⟨res_err HE.out (by decide), hw2⟩
      · by_cases c2 : 1073741824 < n
        · have HE : Hid (errA v r n = 3) := errA_range HVE.out HKE.out (.inr c2)
          go_wp2
          go_ret2
          exact ⟨res_err HE.out (by decide), hw2⟩
        · have HE : Hid (errA v r n = addE (kvOf v) (encR r) n) := errA_add HVE.out HKE.out (by omega) (by omega)
          have HKS : Hid ((keyS r).data.toList = encR r) := keyS_ok HROK.out
          have HKL : Hid ((keyS r).size ≤ maxLen) := Nat.le_trans (keyS_len HROK.out) (by unfold maxLen; omega)
          obtain ⟨ks, hks⟩ : ∃ s, keyS r = s := ⟨_, rfl⟩
          rw [hks] at HKS HKL
          rw [hks]
          have HG : Hid (good (kvOf v)) := view_good hwv HVO.out
          have hgg := good_get HG.out (encR r)
          have hm4 : m ≤ 4096 := by rw [← HM.out]; exact HVO.out.1
          have KA : Hid (Calls Try.prog 31 #[.map (some B), .string ks, .int .i64 n] w2 fun e w' => e = .returned (.int .i64 (addE (kvOf v) (encR r) n)) ∧ cmap w' B (v.length + 1) (addV (kvOf v) (encR r) n) ∧ w2.grownBy w' (some B)) := by
            have h := add_any B v.length (kvOf v) ks n w2 (cmap_below HCM.out hb2) HKL.out (by rw [HM.out]; unfold maxLen; omega) (by rw [HKS.out]; omega) (by rw [HKS.out]; omega) (by omega) (by omega) (by rw [kvOf_len, HM.out]; omega)
            rw [HKS.out] at h
            exact h
          clear hks hgg
          obtain ⟨er, her⟩ : ∃ z, addE (kvOf v) (encR r) n = z := ⟨_, rfl⟩
          rw [her] at KA HE
          clear her
          by_cases e0 : er = 0
          · subst e0
            have HGN : Hid (good (addV (kvOf v) (encR r) n)) := good_add HG.out HROK.out n
            obtain ⟨out, ho1, ho2⟩ := keyed_out HGN.out.key
            have HO1 : Hid (kvOf out = addV (kvOf v) (encR r) n) := ho1
            have HVW : Hid (viewOk out ∧ wfView out) := good_view (by rw [ho1]; exact HGN.out) ho2
            have KV : Hid (∀ w3, cmap w3 B (v.length + 1) (addV (kvOf v) (encR r) n) → Calls Try.prog 32 #[.map (some B)] w3 fun e w' => (∃ ad cap, e = .returned (.slice ad out.length cap) ∧ viewAt w' ad out) ∧ Below w3.heap.size w3 w') := fun w3 h => view_any B (v.length + 1) out w3 (by rw [HO1.out]; exact h) (by rw [HO1.out]; exact HGN.out.up) ho2 (by have := HVW.out.1.1; omega)
            obtain ⟨ol, hol⟩ : ∃ z, out.length = z := ⟨_, rfl⟩
            have HOL : Hid (out.length = ol) := hol
            rw [hol] at KV
            clear ho1 ho2 hol
            go_wp2_with (first
              | (go_at_call 31; refine KA.out.mono ?_; rintro e w3 ⟨rfl, hcm3, hg3⟩)
              | (go_at_call 32; refine (KV.out _ hcm3).mono ?_; rintro e w4 ⟨⟨oa, oc, rfl, hva⟩, hb4⟩))
            go_ret2
            have hw3 := hw2.grown hg3 hw2.size (fun x hx => by cases hx; exact hB)
            exact ⟨.inr ⟨HE.out, out, oa, oc, HO1.out, HVW.out.1, HVW.out.2, ret_sl HOL.out.symm, hva⟩, hw3.trans (hb4.mono hw3.size)⟩
          · have e0' : (er == 0) = false := by simpa using e0
            go_wp2_with (go_at_call 31; refine KA.out.mono ?_; rintro e w3 ⟨rfl, hcm3, hg3⟩)
            go_ret2
            exact ⟨res_err HE.out e0, hw2.grown hg3 hw2.size (fun x hx => by cases hx; exact hB)⟩
    · have k0' : (ke == 0) = false := by simpa using k0
      have HE : Hid (errA v r n = ke) := (errA_key HVE.out (by rw [HKE.out]; exact k0)).trans HKE.out
      go_wp2
      go_ret2
      exact ⟨res_err HE.out k0, hw2⟩
  · obtain ⟨x, hx⟩ : ∃ z, viewErr v = z := ⟨_, rfl⟩
    have HE : Hid (errA v r n = x) := (errA_view hve).trans hx
    rw [hx] at hve ⊢
    have hve' : (x == 0) = false := by simpa using hve
    go_wp2
    go_ret2
    exact ⟨res_err HE.out hve, hb1⟩

set_option maxRecDepth 100000 in
set_option maxHeartbeats 8000000 in
theorem addTo_any (a c : Option Addr) (ca cc : Nat) (v : List Cnt) (r : List Cel) (n : Int) (w : World) (hv : viewAt w a v) (hwv : wfView v) (hlv : v.length ≤ 9223372036854775807) (hr : vl.rowAt w c r) (hwr : wfRow r) (hlr : r.length ≤ 9223372036854775807) (n1 : -9223372036854775808 ≤ n) (n2 : n ≤ 9223372036854775807) :
    Calls Try.prog 17 #[.slice a v.length ca, .slice c r.length cc, .int .i64 n] w fun e w' => addRes v r n e w' ∧ Below w.heap.size w w' := by
  have KG := checkView_any a ca v w hv hwv hlv
  have KK : Hid (∀ w1, Below w.heap.size w w1 → Calls Try.prog 33 #[.slice c r.length cc] w1 fun e w' => e = .returned (.int .i64 (keyErr r)) ∧ Below w1.heap.size w1 w') := fun w1 hb => keyError_any c cc r w1 (rowAt_below hr hb) hwr hlr
  have HV : Hid (viewAt w a v) := hv
  have HR : Hid (vl.rowAt w c r) := hr
  clear hv hr
  obtain ⟨m, hm⟩ : ∃ m, v.length = m := ⟨_, rfl⟩
  have HM : Hid (v.length = m) := hm
  obtain ⟨rl, hrl⟩ : ∃ z, r.length = z := ⟨_, rfl⟩
  have HRL : Hid (r.length = rl) := hrl
  obtain ⟨ve, hve⟩ : ∃ z, viewErr v = z := ⟨_, rfl⟩
  have HVE : Hid (viewErr v = ve) := hve
  obtain ⟨ke, hke⟩ : ∃ z, keyErr r = z := ⟨_, rfl⟩
  have HKE : Hid (keyErr r = ke) := hke
  rw [hm, hve] at KG
  rw [hrl, hke] at KK
  rw [hm, hrl]
  clear hm hrl hve hke
  go_enter Try.func17, Try.ntmps17
  go_wp2_with fail
  refine KG.mono ?_
  rintro e w1 ⟨rfl, hb1⟩
  by_cases v0 : ve = 0
  · subst v0
    have HVO : Hid (viewOk v) := by
      have h := HVE.out
      show viewOk v
      unfold viewErr at h
      split at h
      · cases h
      · split at h
        · assumption
        · cases h
    go_wp2_with fail
    refine (KK.out w1 hb1).mono ?_
    rintro e w2 ⟨rfl, hb2⟩
    have hw2 : Below w.heap.size w w2 := hb1.trans (hb2.mono hb1.size)
    by_cases k0 : ke = 0
    · subst k0
      have HROK : Hid (rowOk r) := vl_rowOk HKE.out hwr
      by_cases c1 : n < -1073741824
      · have HE : Hid (errA v r n = 3) := errA_range HVE.out HKE.out (.inl c1)
        go_wp2
        go_ret2
        exact ⟨res_err HE.out (by decide), hw2⟩
      · by_cases c2 : 1073741824 < n
        · have HE : Hid (errA v r n = 3) := errA_range HVE.out HKE.out (.inr c2)
          go_wp2
          go_ret2
          exact ⟨res_err HE.out (by decide), hw2⟩
        · have HE : Hid (errA v r n = addE (kvOf v) (encR r) n) := errA_add HVE.out HKE.out (by omega) (by omega)
          have KO : Hid (Calls Try.prog 35 #[.slice a m ca] w2 fun e w' => (∃ v' L, outOf L = v ∧ e = .returned v' ∧ MV w' w2.heap.size v' L) ∧ Below w2.heap.size w2 w') := by
            have h := own_any a ca v w2 (viewAt_below HV.out hw2) (view_rows hwv HVO.out) HVO.out.1
            rw [HM.out] at h; exact h
          go_wp2_with fail
          refine KO.out.mono ?_
          rintro e w3 ⟨⟨v3, L, hout, rfl, hmv⟩, hb3⟩
          have HOUT : Hid (outOf L = v) := hout
          have KM : Hid (Calls Try.prog 34 #[v3, .slice c rl cc, .int .i64 n] w3 fun e w' => moreRes w2.heap.size L r n e w' ∧ Below w2.heap.size w2 w') := by
            have h := rmore_any c cc w2 v3 L r n w3 hmv (by rw [hout]; exact HVO.out) (by rw [hout]; exact hwv) (rowAt_below HR.out hw2) hb3 HROK.out (by omega) (by omega)
            rw [HRL.out] at h; exact h
          clear hout hmv KO
          go_wp2_with fail
          refine KM.out.mono ?_
          rintro e w4 ⟨hres, hb4⟩
          have hw4 := hw2.trans (hb4.mono hw2.size)
          have hkv : kvP L = kvOf v := by unfold kvP; rw [HOUT.out]
          unfold moreRes at hres
          rw [hkv] at hres
          rcases hres with ⟨h1, v4, rfl⟩ | ⟨h1, v4, L4, h2, h3, rfl, h4⟩
          · obtain ⟨er, her⟩ : ∃ z, addE (kvOf v) (encR r) n = z := ⟨_, rfl⟩
            rw [her] at h1 HE ⊢
            have h1' : (er == 0) = false := by simpa using h1
            have H1 : Hid (er ≠ 0) := h1
            clear h1 her hkv
            go_wp2
            go_ret2
            exact ⟨res_err HE.out H1.out, hw4⟩
          · obtain ⟨oa, oc, hv4, _⟩ := MV_len h4
            subst hv4
            have hg4 : good (kvOf (outOf L4)) := by
              have e : kvOf (outOf L4) = addV (kvOf v) (encR r) n := h2
              rw [e]; exact good_add (view_good hwv HVO.out) HROK.out n
            have HVW : Hid (viewOk (outOf L4) ∧ wfView (outOf L4)) := good_view hg4 (fun c hc => by
              obtain ⟨p, hp, rfl⟩ := List.mem_map.1 hc
              exact h3 p hp)
            have HVA : Hid (viewAt w4 oa (outOf L4)) := MV_view h4
            have H2 : Hid (kvOf (outOf L4) = addV (kvOf v) (encR r) n) := h2
            have H1 : Hid (addE (kvOf v) (encR r) n = 0) := h1
            obtain ⟨ol, hol⟩ : ∃ z, L4.length = z := ⟨_, rfl⟩
            have HOL : Hid ((outOf L4).length = ol) := by show _ = _; rw [out_len]; exact hol
            rw [hol]
            clear h1 h2 h3 h4 hg4 hkv hol
            go_wp2
            go_ret2
            exact ⟨.inr ⟨by rw [HE.out]; exact H1.out, outOf L4, oa, oc, H2.out, HVW.out.1, HVW.out.2, ret_sl HOL.out.symm, HVA.out⟩, hw4⟩
    · have k0' : (ke == 0) = false := by simpa using k0
      have HE : Hid (errA v r n = ke) := (errA_key HVE.out (by rw [HKE.out]; exact k0)).trans HKE.out
      go_wp2
      go_ret2
      exact ⟨res_err HE.out k0, hw2⟩
  · have v0' : (ve == 0) = false := by simpa using v0
    have HE : Hid (errA v r n = ve) := (errA_view (by rw [HVE.out]; exact v0)).trans HVE.out
    go_wp2
    go_ret2
    exact ⟨res_err HE.out v0, hb1⟩
end Go.Proofs.Ytkjiaeolodemlae.ch
