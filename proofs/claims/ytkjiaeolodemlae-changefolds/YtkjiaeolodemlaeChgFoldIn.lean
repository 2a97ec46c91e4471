/- The document's FoldIn. -/
import Derived.Test.YtkjiaeolodemlaeChgAdd
import Derived.Test.YtkjiaeolodemlaeChgRForm
namespace Go.Proofs.Ytkjiaeolodemlae.ch
open Go.ChangeShapes Go.WideShapes Go.ChangeAt Go.RowKit Go.Maps Go.WideMaps
open vl
set_option linter.unusedVariables false
set_option linter.unusedSimpArgs false

set_option maxRecDepth 100000 in
set_option maxHeartbeats 8000000 in
theorem foldIn_any (a c : Option Addr) (ca cc : Nat) (v : List Cnt) (l : List Chg) (w : World) (hv : viewAt w a v) (hwv : wfView v) (hlv : v.length ≤ 9223372036854775807) (hc : chgsAt w c l) (hwl : wfChgs l) (hll : l.length ≤ 9223372036854775807) :
    Calls Try.prog 23 #[.slice a v.length ca, .slice c l.length cc] w fun e w' => foldRes v l e w' ∧ Below w.heap.size w w' := by
  have KG := checkView_any a ca v w hv hwv hlv
  have KF : Hid (∀ w1, Below w.heap.size w w1 → Calls Try.prog 25 #[.slice c l.length cc] w1 fun e w' => e = .returned (.int .i64 (formErr l)) ∧ Below w1.heap.size w1 w') := fun w1 hb => formOf_any c cc l w1 (chgsAt_below hc hb) hwl hll
  have HV : Hid (viewAt w a v) := hv
  have HC : Hid (chgsAt w c l) := hc
  clear hv hc
  obtain ⟨m, hm⟩ : ∃ m, v.length = m := ⟨_, rfl⟩
  have HM : Hid (v.length = m) := hm
  obtain ⟨n, hn⟩ : ∃ n, l.length = n := ⟨_, rfl⟩
  have HN : Hid (l.length = n) := hn
  obtain ⟨ve, hve⟩ : ∃ z, viewErr v = z := ⟨_, rfl⟩
  have HVE : Hid (viewErr v = ve) := hve
  obtain ⟨fe, hfe⟩ : ∃ z, formErr l = z := ⟨_, rfl⟩
  have HFE : Hid (formErr l = fe) := hfe
  rw [hm, hve] at KG
  rw [hn, hfe] at KF
  rw [hm, hn]
  clear hm hn hve hfe
  go_enter Try.func23, Try.ntmps23
  go_wp2_with fail
  refine KG.mono ?_
  rintro e w1 ⟨rfl, hb1⟩
  by_cases v0 : ve = 0
  · subst v0
    have HVO : Hid (viewOk v) := by
      have h := HVE.out
      show viewOk v
      unfold viewErr at h
      split at h
      · cases h
      · split at h
        · assumption
        · cases h
    go_wp2_with fail
    refine (KF.out w1 hb1).mono ?_
    rintro e w2 ⟨rfl, hb2⟩
    have hw2 : Below w.heap.size w w2 := hb1.trans (hb2.mono hb1.size)
    by_cases f0 : fe = 0
    · subst f0
      have HFO : Hid (formOk l) := form_ok HFE.out
      have hn4 : n ≤ 4096 := by rw [← HN.out]; exact HFO.out.1
      have HG : Hid (good (kvOf v)) := view_good hwv HVO.out
      have KO : Hid (Calls Try.prog 35 #[.slice a m ca] w2 fun e w' => (∃ v' L, outOf L = v ∧ e = .returned v' ∧ MV w' w2.heap.size v' L) ∧ Below w2.heap.size w2 w') := by
        have h := own_any a ca v w2 (viewAt_below HV.out hw2) (view_rows hwv HVO.out) HVO.out.1
        rw [HM.out] at h; exact h
      go_wp2_with fail
      refine KO.out.mono ?_
      rintro e w3 ⟨⟨v3, L0, hout, rfl, hmv⟩, hb3⟩
      have HMV0 : Hid (MV w3 w2.heap.size v3 L0) := hmv
      have HKV0 : Hid (kvP L0 = kvOf v) := by show _ = _; unfold kvP; rw [hout]
      have HRW0 : Hid (∀ p ∈ L0, rowOk p.2.r) := fun p hp => view_rows hwv HVO.out p.2 (by rw [← hout]; exact List.mem_map.2 ⟨p, hp, rfl⟩)
      clear hout hmv KO
      go_wp2
      go_loopw [9, 10] (fun x i wr => ∃ (k : Nat) (L : PL), k ≤ n ∧ i = .int .i64 k ∧ MV wr w2.heap.size x L ∧ kvP L = atK (kvOf v) l k ∧ (∀ p ∈ L, rowOk p.2.r) ∧ (∀ i, i < k → errK (kvOf v) l i = 0) ∧ Below w2.heap.size w2 wr) (fun _ i _ => n - (intOf i).toNat)
      case atStart => exact ⟨0, L0, Nat.zero_le _, rfl, HMV0.out, HKV0.out, HRW0.out, fun i hi => absurd hi (Nat.not_lt_zero i), hb3⟩
      case round =>
        obtain ⟨k, L, hk, rfl, hmv, hkv, hrw, hall, hmx⟩ := hrel
        have HMV : Hid (MV wr w2.heap.size u9 L) := hmv
        have HKV : Hid (kvP L = atK (kvOf v) l k) := hkv
        have HRW : Hid (∀ p ∈ L, rowOk p.2.r) := hrw
        have HA : Hid (∀ i, i < k → errK (kvOf v) l i = 0) := hall
        have HGK : Hid (good (kvOf (outOf L))) := by
          show good (kvP L)
          rw [hkv]; exact good_at HG.out hwl HFO.out k (by rw [HN.out]; exact hk)
        have HVW : Hid (viewOk (outOf L) ∧ wfView (outOf L)) := good_view HGK.out (fun c hc => by
          obtain ⟨p, hp, rfl⟩ := List.mem_map.1 hc
          exact hrw p hp)
        have hnx : Below w.heap.size w wr := hw2.trans (hmx.mono hw2.size)
        clear hmv hkv hrw hall
        by_cases hlt : k < n
        · have hkl : k < l.length := by rw [HN.out]; exact hlt
          obtain ⟨b, o, ra, rc, e, x1, x2, x3⟩ := HC.out k hkl
          subst e
          have HRK : Hid (rowOk (l.getD k default).r) := chg_row hwl HFO.out k hkl
          have HS : Hid (atK (kvOf v) l (k + 1) = addV (kvP L) (encR (l.getD k default).r) (moreOf (l.getD k default).k)) := by
            show _ = _
            rw [HKV.out]; exact atK_succ (kvOf v) l k hkl
          have HER : Hid (errK (kvOf v) l k = addE (kvP L) (encR (l.getD k default).r) (moreOf (l.getD k default).k)) := by
            show _ = _
            rw [HKV.out]; rfl
          have HR2 : Hid (vl.rowAt w2 ra (l.getD k default).r) := rowAt_below x3 hw2
          have q1 := cell_later hnx x1
          have q2 := cell_later hnx x2
          have d1 := cell_later hw2 x1
          have d2 := cell_later hw2 x2
          obtain ⟨⟨kd, r⟩, hcv⟩ : ∃ c, l.getD k default = c := ⟨_, rfl⟩
          rw [hcv] at q1 q2 d1 d2 HRK HS HER HR2
          dsimp only at q1 q2 d1 d2 HRK HS HER HR2
          obtain ⟨rl, hrl⟩ : ∃ z, r.length = z := ⟨_, rfl⟩
          have hml := more_le kd
          have KM : Hid (∀ ws, Below wr.heap.size wr ws → Calls Try.prog 34 #[u9, .slice ra rl rc, .int .i64 (moreOf kd)] ws fun e w' => moreRes w2.heap.size L r (moreOf kd) e w' ∧ Below w2.heap.size w2 w') := fun ws hbs => by
            have h := rmore_any ra rc w2 u9 L r (moreOf kd) ws (MV_below HMV.out hbs) HVW.out.1 HVW.out.2 HR2.out (hmx.trans (hbs.mono hmx.size)) HRK.out (by omega) (by omega)
            rw [hrl] at h; exact h
          rw [hrl] at q2 d2
          clear x1 x2 x3 hcv hrl hml
          obtain ⟨er, her⟩ : ∃ z, addE (kvP L) (encR r) (moreOf kd) = z := ⟨_, rfl⟩
          have HAE : Hid (addE (kvP L) (encR r) (moreOf kd) = er) := her
          rw [her] at HER
          clear her
          obtain ⟨mo, hmo⟩ : ∃ z, moreOf kd = z := ⟨_, rfl⟩
          have KS : Hid (∀ w1 : World, Calls Try.prog 42 #[.agg #[.int .i64 kd, .slice ra rl rc]] w1 fun e w' => e = .returned (.int .i64 mo) ∧ Below w1.heap.size w1 w') := fun w1 => by rw [← hmo]; exact sign_any kd ra rl rc w1
          rw [hmo] at KM HS HAE
          clear hmo
          have i1 : (0 : Int) ≤ (k : Int) := by omega
          have i2 : (k : Int) < (n : Int) := by omega
          have dr : Below wr.heap.size wr wr.drew := (Below.refl _ _).drew
          by_cases e0 : er = 0
          · subst e0
            have KM0 : Hid (∀ ws, Below wr.heap.size wr ws → Calls Try.prog 34 #[u9, .slice ra rl rc, .int .i64 mo] ws fun e w' => (∃ v' L', e = .returned (.tuple #[v', .int .i64 0]) ∧ kvP L' = atK (kvOf v) l (k + 1) ∧ (∀ p ∈ L', rowOk p.2.r) ∧ MV w' w2.heap.size v' L') ∧ Below w2.heap.size w2 w') := fun ws hbs => (KM.out ws hbs).mono (fun e w' ⟨hres, hb⟩ => by
              refine ⟨?_, hb⟩
              rcases hres with ⟨h1, _⟩ | ⟨_, v', L', h2, h3, h4, h5⟩
              · exact absurd HAE.out h1
              · exact ⟨v', L', h4, by rw [HS.out]; exact h2, h3, h5⟩)
            go_wp2
            go_region_held3 (fun w' => w'.cell? ⟨b, o + k * 2, none⟩ = some (.int .i64 kd) ∧ w'.cell? ⟨b, o + k * 2 + 1, none⟩ = some (.slice ra rl rc)) (first | exact ⟨cell_later hbm d1, cell_later hbm d2⟩ | exact ⟨cell_later hbs q1, cell_later hbs q2⟩ | exact ⟨q1, q2⟩)
              (first
                | (go_at_call 42; refine (KS.out wr.drew).mono ?_; rintro e ws ⟨rfl, hbs⟩)
                | (go_at_call 34; refine (KM0.out ws (dr.trans hbs)).mono ?_; rintro e w4 ⟨⟨v4, L4, rfl, hk4, hr4, hm4⟩, hbm⟩))
            all_goals
              go_wp2
              go_roundw
              case rel => exact ⟨k + 1, L4, by omega, by go_num, hm4, hk4, hr4, fun i hi => by
                rcases Nat.lt_or_ge i k with h | h
                · exact HA.out i h
                · rw [show i = k by omega]; exact HER.out, hbm⟩
              case measure => simp [intOf]; omega
          · have e0' : (er == 0) = false := by simpa using e0
            have KME : Hid (∀ ws, Below wr.heap.size wr ws → Calls Try.prog 34 #[u9, .slice ra rl rc, .int .i64 mo] ws fun e w' => (∃ v', e = .returned (.tuple #[v', .int .i64 er])) ∧ Below w2.heap.size w2 w') := fun ws hbs => (KM.out ws hbs).mono (fun e w' ⟨hres, hb⟩ => by
              refine ⟨?_, hb⟩
              rcases hres with ⟨h1, v', h2⟩ | ⟨h1, _⟩
              · exact ⟨v', by rw [h2]; exact ret_more HAE.out⟩
              · exact absurd (HAE.out.symm.trans h1) e0)
            go_wp2
            go_region_held3 (fun w' => w'.cell? ⟨b, o + k * 2, none⟩ = some (.int .i64 kd) ∧ w'.cell? ⟨b, o + k * 2 + 1, none⟩ = some (.slice ra rl rc)) (first | exact ⟨cell_later hbm d1, cell_later hbm d2⟩ | exact ⟨cell_later hbs q1, cell_later hbs q2⟩ | exact ⟨q1, q2⟩)
              (first
                | (go_at_call 42; refine (KS.out wr.drew).mono ?_; rintro e ws ⟨rfl, hbs⟩)
                | (go_at_call 34; refine (KME.out ws (dr.trans hbs)).mono ?_; rintro e w4 ⟨⟨v4, rfl⟩, hbm⟩))
            all_goals
              go_wp2
              go_ret3
              exact ⟨.inr (.inr (.inl ⟨HVE.out, HFE.out, k, hkl, HA.out, by rw [HER.out]; exact e0, ret3i rfl HER.out.symm⟩)), hw2.trans (hbm.mono hw2.size)⟩
        · have hkn : k = n := by omega
          obtain ⟨oa, oc, hv9, _⟩ := MV_len HMV.out
          subst hv9
          have HVA : Hid (viewAt wr oa (outOf L)) := MV_view HMV.out
          obtain ⟨ol, hol⟩ : ∃ z, L.length = z := ⟨_, rfl⟩
          have HOL : Hid ((outOf L).length = ol) := by show _ = _; rw [out_len]; exact hol
          rw [hol]
          clear hol
          go_wp2
          go_ret3
          exact ⟨.inr (.inr (.inr ⟨HVE.out, HFE.out, fun i hi => HA.out i (by rw [HN.out] at hi; omega), outOf L, oa, oc, by rw [HN.out, ← hkn]; exact HKV.out, HVW.out.1, HVW.out.2, ret_sl3 HOL.out.symm, HVA.out⟩)), hnx⟩
    · have f0' : (fe == 0) = false := by simpa using f0
      go_wp2
      go_ret3
      exact ⟨.inr (.inl ⟨HVE.out, by rw [HFE.out]; exact f0, ret3i rfl HFE.out.symm⟩), hw2⟩
  · have v0' : (ve == 0) = false := by simpa using v0
    go_wp2
    go_ret3
    exact ⟨.inl ⟨by rw [HVE.out]; exact v0, ret3i rfl HVE.out.symm⟩, hb1⟩
end Go.Proofs.Ytkjiaeolodemlae.ch
