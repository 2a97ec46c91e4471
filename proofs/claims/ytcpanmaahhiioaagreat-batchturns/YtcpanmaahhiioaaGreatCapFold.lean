/- Fold, over again: and no row of the answer is longer than its capacity. -/
import Derived.Test.YtcpanmaahhiioaaGreatMgChgD
import Derived.Test.YtcpanmaahhiioaaGreatCapMake
namespace Go.Proofs.YtcpanmaahhiioaaGreat.ch
open Go.ChangeShapes Go.WideShapes Go.ChangeAt Go.RowKit Go.Maps Go.WideMaps
open vl
set_option linter.unusedVariables false
set_option linter.unusedSimpArgs false
def foldResC (v : List Cnt) (l : List Chg) (e : Ending) (w' : World) : Prop :=
  (viewErr v ≠ 0 ∧ e = .returned (.tuple #[.slice none 0 0, .int .i64 0, .int .i64 (viewErr v)])) ∨
  (viewErr v = 0 ∧ formErr l ≠ 0 ∧ e = .returned (.tuple #[.slice none 0 0, .int .i64 0, .int .i64 (formErr l)])) ∨
  (viewErr v = 0 ∧ formErr l = 0 ∧ ∃ k : Nat, k < l.length ∧ (∀ i, i < k → errK (kvOf v) l i = 0) ∧ errK (kvOf v) l k ≠ 0 ∧ e = .returned (.tuple #[.slice none 0 0, .int .i64 k, .int .i64 (errK (kvOf v) l k)])) ∨
  (viewErr v = 0 ∧ formErr l = 0 ∧ (∀ i, i < l.length → errK (kvOf v) l i = 0) ∧ ∃ out ad cap, kvOf out = atK (kvOf v) l l.length ∧ viewOk out ∧ wfView out ∧ e = .returned (.tuple #[.slice ad out.length cap, .int .i64 0, .int .i64 0]) ∧ viewAtC w' ad out)
set_option maxRecDepth 100000 in
set_option maxHeartbeats 8000000 in
theorem fold_anyC (a c : Option Addr) (ca cc : Nat) (v : List Cnt) (l : List Chg) (w : World) (hv : viewAt w a v) (hwv : wfView v) (hlv : v.length ≤ 9223372036854775807) (hc : chgsAt w c l) (hwl : wfChgs l) (hll : l.length ≤ 9223372036854775807) :
    Calls Tryz.prog 22 #[.slice a v.length ca, .slice c l.length cc] w fun e w' => foldResC v l e w' ∧ Below w.heap.size w w' := by
  have KG := gather_any a ca v w hv hwv hlv
  have KK : Hid (∀ w1, Below w.heap.size w w1 → Calls Tryz.prog 64 #[.slice c l.length cc] w1 fun e w' => keysRes l e w' ∧ Below w1.heap.size w1 w') := fun w1 hb => keysOf_any c cc l w1 (chgsAt_below hc hb) hwl hll
  have HC : Hid (chgsAt w c l) := hc
  clear hc hv
  obtain ⟨m, hm⟩ : ∃ m, v.length = m := ⟨_, rfl⟩
  have HM : Hid (v.length = m) := hm
  obtain ⟨n, hn⟩ : ∃ n, l.length = n := ⟨_, rfl⟩
  have HN : Hid (l.length = n) := hn
  rw [hm] at KG
  rw [hn] at KK
  rw [hm, hn]
  clear hm hn
  go_enter Tryz.func22, Tryz.ntmps22
  go_wp2_with fail
  refine KG.mono ?_
  rintro e w1 ⟨hres, hb1⟩
  rcases hres with ⟨hve, hvo, B, rfl, hB, hcm⟩ | ⟨hve, rfl⟩
  · have HVE : Hid (viewErr v = 0) := hve
    have HVO : Hid (viewOk v) := hvo
    have HCM : Hid (cmap w1 B v.length (kvOf v)) := hcm
    clear hve hvo hcm
    go_wp2_with fail
    refine (KK.out w1 hb1).mono ?_
    rintro e w2 ⟨hres, hb2⟩
    have hw2 : Below w.heap.size w w2 := hb1.trans (hb2.mono hb1.size)
    rcases hres with ⟨hfe, hfo, ad, kc, rfl, hks⟩ | ⟨hfe, rfl⟩
    · have HFE : Hid (formErr l = 0) := hfe
      have HFO : Hid (formOk l) := hfo
      have HKS : Hid (keysAt w2 ad l) := hks
      have HC2 : Hid (cmap w2 B v.length (kvOf v)) := cmap_below HCM.out hb2
      have HG : Hid (good (kvOf v)) := view_good hwv HVO.out
      have hm4 : m ≤ 4096 := by rw [← HM.out]; exact HVO.out.1
      have hn4 : n ≤ 4096 := by rw [← HN.out]; exact HFO.out.1
      rw [HN.out]
      clear hfe hfo hks HCM KG
      go_wp2
      go_loopw [31] (fun i wr => ∃ k : Nat, k ≤ n ∧ i = .int .i64 k ∧ cmap wr B (m + k) (atK (kvOf v) l k) ∧ Below w.heap.size w wr ∧ keysAt wr ad l ∧ (∀ i, i < k → errK (kvOf v) l i = 0)) (fun i _ => n - (intOf i).toNat)
      case atStart => exact ⟨0, by omega, rfl, by rw [← HM.out]; exact HC2.out, hw2, HKS.out, fun i hi => absurd hi (Nat.not_lt_zero i)⟩
      case round =>
        obtain ⟨k, hk, rfl, hcm, hnx, hks, hall⟩ := hrel
        have HCM : Hid (cmap wr B (m + k) (atK (kvOf v) l k)) := hcm
        have HKR : Hid (keysAt wr ad l) := hks
        have HA : Hid (∀ i, i < k → errK (kvOf v) l i = 0) := hall
        clear hcm hks hall
        by_cases hlt : k < n
        · have hkl : k < l.length := by rw [HN.out]; exact hlt
          obtain ⟨b, o, ra, rc, e, x1, _, _⟩ := HC.out k hkl
          subst e
          have q1 := cell_later hnx x1
          obtain ⟨g, e, q2⟩ := HKR.out k hkl
          subst e
          have HRK : Hid (rowOk (l.getD k default).r) := chg_row hwl HFO.out k hkl
          have HGK : Hid (good (atK (kvOf v) l k)) := good_at HG.out hwl HFO.out k (by omega)
          have HS : Hid (atK (kvOf v) l (k + 1) = addV (atK (kvOf v) l k) (encR (l.getD k default).r) (moreOf (l.getD k default).k)) := atK_succ (kvOf v) l k hkl
          have HE : Hid (errK (kvOf v) l k = addE (atK (kvOf v) l k) (encR (l.getD k default).r) (moreOf (l.getD k default).k)) := rfl
          obtain ⟨⟨kd, r⟩, hcv⟩ : ∃ c, l.getD k default = c := ⟨_, rfl⟩
          rw [hcv] at q1 q2 HRK HS HE
          dsimp only at q1 q2 HRK HS HE
          clear x1 hcv
          obtain ⟨key, hkey⟩ : ∃ x, (⟨(encR r).toArray⟩ : ByteArray) = x := ⟨_, rfl⟩
          have HKE : Hid (encR r = key.data.toList) := by show encR r = key.data.toList; rw [← hkey]
          have HKL : Hid (key.size ≤ maxLen) := by
            show key.size ≤ maxLen
            rw [← list_len, ← HKE.out]; exact enc_len HRK.out
          rw [hkey] at q2
          rw [HKE.out] at HS HE
          clear hkey
          have i1 : (0 : Int) ≤ (k : Int) := by omega
          have i2 : (k : Int) < (n : Int) := by omega
          have hgg := good_get HGK.out key.data.toList
          have hml := more_le kd
          have hgl := HGK.out.len
          have KA : Hid (∀ w', cmap w' B (m + k) (atK (kvOf v) l k) → Calls Tryz.prog 65 #[.map (some B), .string key, .int .i64 (moreOf kd)] w' fun e w'' => e = .returned (.int .i64 (errK (kvOf v) l k)) ∧ cmap w'' B (m + k + 1) (atK (kvOf v) l (k + 1)) ∧ w'.grownBy w'' (some B)) := fun w' h => by
            rw [HS.out, HE.out]
            exact add_any B (m + k) _ key (moreOf kd) w' h HKL.out (by unfold maxLen; omega) (by omega) (by omega) (by omega) (by omega) (by omega)
          clear HS HE hgg hml hgl
          obtain ⟨er, her⟩ : ∃ x, errK (kvOf v) l k = x := ⟨_, rfl⟩
          rw [her] at KA
          have HER : Hid (errK (kvOf v) l k = er) := her
          clear her
          by_cases e0 : er = 0
          · subst e0
            go_wp2_with (first
              | (go_at_call 66; refine (more_any kd _).mono ?_; rintro e wa ⟨rfl, rfl⟩)
              | (go_at_call 65; refine (KA.out _ HCM.out).mono ?_; rintro e wb ⟨rfl, hcm2, hgr2⟩))
            go_roundw
            case rel => exact ⟨k + 1, by omega, by go_num, hcm2, hnx.grown hgr2 hnx.size (fun x hx => by cases hx; exact hB), keysAt_grown HKR.out HCM.out hgr2, fun i hi => by
              rcases Nat.lt_or_ge i k with h | h
              · exact HA.out i h
              · rw [show i = k by omega]; exact HER.out⟩
            case measure => simp [intOf]; omega
          · have e0' : (er == 0) = false := by simpa using e0
            go_wp2_with (first
              | (go_at_call 66; refine (more_any kd _).mono ?_; rintro e wa ⟨rfl, rfl⟩)
              | (go_at_call 65; refine (KA.out _ HCM.out).mono ?_; rintro e wb ⟨rfl, hcm2, hgr2⟩))
            go_ret3
            exact ⟨.inr (.inr (.inl ⟨HVE.out, HFE.out, k, hkl, HA.out, by rw [HER.out]; exact e0, ret3i rfl HER.out.symm⟩)), hnx.grown hgr2 hnx.size (fun x hx => by cases hx; exact hB)⟩
        · have hkn : k = n := by omega
          have HGK : Hid (good (atK (kvOf v) l k)) := good_at HG.out hwl HFO.out k (by rw [HN.out]; exact hk)
          obtain ⟨out, ho1, ho2⟩ := keyed_out HGK.out.key
          have HO1 : Hid (kvOf out = atK (kvOf v) l k) := ho1
          have HGO : Hid (good (kvOf out)) := by show good (kvOf out); rw [ho1]; exact HGK.out
          have hvw := good_view HGO.out ho2
          have hol := hvw.1.1
          have KV := view_anyC B (m + k) out wr (by rw [HO1.out]; exact HCM.out) HGO.out.up ho2 (by omega)
          have HVW : Hid (viewOk out ∧ wfView out) := hvw
          clear hvw ho1 ho2
          obtain ⟨ol, hol2⟩ : ∃ x, out.length = x := ⟨_, rfl⟩
          rw [hol2] at KV
          have HOL : Hid (out.length = ol) := hol2
          go_wp2_with (go_at_call 67; refine KV.mono ?_; rintro e w9 ⟨⟨oa, oc, rfl, hva⟩, hb9⟩)
          go_ret3
          exact ⟨.inr (.inr (.inr ⟨HVE.out, HFE.out, fun i hi => HA.out i (by rw [HN.out] at hi; omega), out, oa, oc, by rw [HO1.out, hkn, HN.out], HVW.out.1, HVW.out.2, ret_sl3 HOL.out.symm, hva⟩)), hnx.trans (hb9.mono hnx.size)⟩
    · have hfe' : (formErr l == 0) = false := by simpa using hfe
      have HFE : Hid (formErr l ≠ 0) := hfe
      clear hfe
      obtain ⟨x, hx⟩ : ∃ x, formErr l = x := ⟨_, rfl⟩
      have HX : Hid (formErr l = x) := hx
      rw [hx] at hfe' ⊢
      clear hx
      go_wp2
      go_ret3
      exact ⟨.inr (.inl ⟨HVE.out, HFE.out, ret3i rfl HX.out.symm⟩), hw2⟩
  · have hve' : (viewErr v == 0) = false := by simpa using hve
    have HVE : Hid (viewErr v ≠ 0) := hve
    clear hve
    obtain ⟨x, hx⟩ : ∃ x, viewErr v = x := ⟨_, rfl⟩
    have HX : Hid (viewErr v = x) := hx
    rw [hx] at hve' ⊢
    clear hx
    go_wp2
    go_ret3
    exact ⟨.inl ⟨HVE.out, ret3i rfl HX.out.symm⟩, hb1⟩
end Go.Proofs.YtcpanmaahhiioaaGreat.ch
