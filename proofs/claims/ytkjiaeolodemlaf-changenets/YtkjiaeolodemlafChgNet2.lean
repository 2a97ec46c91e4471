/- Net: what is left of changes. -/
import Derived.Test.YtkjiaeolodemlafChgNet
namespace Go.Proofs.Ytkjiaeolodemlaf.ch
open Go.ChangeShapes Go.WideShapes Go.ChangeAt Go.RowKit Go.Maps Go.WideMaps Go.Sort
open vl
set_option linter.unusedVariables false
set_option linter.unusedSimpArgs false

theorem ret_str2 {a b : Int} (h : a = b) : Ending.returned (.tuple #[.slice none 0 0, .int .i64 a]) = .returned (.tuple #[.slice none 0 0, .int .i64 b]) := by rw [h]
attribute [local go_sem ↓] Go.wp_at_zero Go.wp_at_succ
set_option maxRecDepth 100000 in
set_option maxHeartbeats 8000000 in
theorem net_any (c : Option Addr) (cc : Nat) (l : List Chg) (w : World) (hc : chgsAt w c l) (hwl : wfChgs l) (hll : l.length ≤ 9223372036854775807) :
    Calls Try.prog 12 #[.slice c l.length cc] w fun e w' => netRes l e w' ∧ Below w.heap.size w w' := by
  have KK := keysOf_any c cc l w hc hwl hll
  have HC : Hid (chgsAt w c l) := hc
  clear hc
  have hmm := make_map0
  obtain ⟨n, hn⟩ : ∃ n, l.length = n := ⟨_, rfl⟩
  have HN : Hid (l.length = n) := hn
  rw [hn] at KK
  rw [hn]
  clear hn
  go_enter Try.func12, Try.ntmps12
  go_wp2_with fail
  refine KK.mono ?_
  rintro e w2 ⟨hres, hb2⟩
  rcases hres with ⟨hfe, hfo, ad, kc, rfl, hks⟩ | ⟨hfe, rfl⟩
  · have HFE : Hid (formErr l = 0) := hfe
    have HFO : Hid (formOk l) := hfo
    have HKS : Hid (keysAt (w2.alloc (.map #[] 0)) ad l) := keysAt_below hks ((Below.refl _ _).alloc (Nat.le_refl _) _)
    have hn4 : n ≤ 4096 := by rw [← HN.out]; exact HFO.out.1
    have hbz := hb2.size
    rw [HN.out]
    clear hfe hfo hks KK
    go_wp2
    go_loopw [20] (fun i wr => ∃ k : Nat, k ≤ n ∧ i = .int .i64 k ∧ cmap wr w2.heap.size k (netK (l.take k)) ∧ Below w.heap.size w wr ∧ keysAt wr ad l) (fun i _ => n - (intOf i).toNat)
    case atStart => exact ⟨0, by omega, rfl, cmap_made w2, hb2.alloc hb2.size _, HKS.out⟩
    case round =>
      obtain ⟨k, hk, rfl, hcm, hnx, hks⟩ := hrel
      have HCM : Hid (cmap wr w2.heap.size k (netK (l.take k))) := hcm
      have HKR : Hid (keysAt wr ad l) := hks
      have HNK : Hid (net k (netK (l.take k))) := net_at hwl HFO.out k (by rw [HN.out]; exact hk)
      clear hcm hks
      by_cases hlt : k < n
      · have hkl : k < l.length := by rw [HN.out]; exact hlt
        obtain ⟨b, o, ra, rc, e, x1, _, _⟩ := HC.out k hkl
        subst e
        have q1 := cell_later hnx x1
        obtain ⟨g, e, q2⟩ := HKR.out k hkl
        subst e
        have HRK : Hid (rowOk (l.getD k default).r) := chg_row hwl HFO.out k hkl
        have HS : Hid (netK (l.take (k + 1)) = putK (netK (l.take k)) (encR (l.getD k default).r) (getK (netK (l.take k)) (encR (l.getD k default).r) + moreOf (l.getD k default).k)) := net_succ l k hkl
        obtain ⟨⟨kd, r⟩, hcv⟩ : ∃ c, l.getD k default = c := ⟨_, rfl⟩
        rw [hcv] at q1 q2 HRK HS
        dsimp only at q1 q2 HRK HS
        clear x1 hcv
        obtain ⟨key, hkey⟩ : ∃ x, (⟨(encR r).toArray⟩ : ByteArray) = x := ⟨_, rfl⟩
        have HKE : Hid (encR r = key.data.toList) := by show encR r = key.data.toList; rw [← hkey]
        have HKL : Hid (key.size ≤ maxLen) := by
          show key.size ≤ maxLen
          rw [← list_len, ← HKE.out]; exact enc_len HRK.out
        rw [hkey] at q2
        rw [HKE.out] at HS
        clear hkey
        have i1 : (0 : Int) ≤ (k : Int) := by omega
        have i2 : (k : Int) < (n : Int) := by omega
        have HCD : World.ownsMap wr.drew Try.prog 9 (plainElem (H := Unit) Try.prog 3) w2.heap.size k (toD (netK (l.take k))) := HCM.out
        obtain ⟨c0, hlook, hat, hwc⟩ := HCD.lookup_int law Try.underlying40 Try.underlying3 (zeroE _) (keyOf_string_mk Try.underlying9 HKL.out)
        have hc0 := cmap_at hat
        have hgg := net_get HNK.out key.data.toList
        have hml := more_le kd
        rw [← hc0] at hgg HS
        obtain ⟨w1, hupd, hown1, hgrow1⟩ := HCD.update law Try.underlying40 (by unfold maxLen; omega) (keyOf_string_mk Try.underlying9 HKL.out) (plainElem_int (H := Unit) (a := c0 + moreOf kd) Try.underlying3 (WalkArith.wf_i64 (by omega)))
        have hws : IntKind.i64.wrap (c0 + moreOf kd) = c0 + moreOf kd := by rw [wrap_is]; omega
        have HO1 : Hid (cmap w1 w2.heap.size (k + 1) (netK (l.take (k + 1)))) := by
          show cmap w1 w2.heap.size (k + 1) (netK (l.take (k + 1)))
          rw [HS.out]; exact cmap_put hown1
        have HG1 : Hid (wr.drew.grownBy w1 (some w2.heap.size)) := hgrow1
        clear hat hwc hc0 hown1 hgrow1
        obtain ⟨mo, hmo⟩ : ∃ x, moreOf kd = x := ⟨_, rfl⟩
        have KM : Hid (∀ w, Calls Try.prog 30 #[.int .i64 kd] w fun e w' => e = .returned (.int .i64 mo) ∧ w' = w) := by rw [← hmo]; exact more_any kd
        rw [hmo] at hupd hws
        clear hmo
        clear hgg HS HCD
        go_wp2
        go_region_law (first
          | (go_simp; go_at_call 30; refine (KM.out _).mono ?_; rintro e wa ⟨rfl, rfl⟩))
        all_goals
          go_wp2
          go_roundw
          case rel => exact ⟨k + 1, by omega, by go_num, HO1.out, hnx.drew.grown HG1.out hnx.size (fun x hx => by cases hx; exact hbz), keysAt_grown (w := wr.drew) HKR.out HCM.out HG1.out⟩
          case measure => simp [intOf]; omega
      · have hkn : k = n := by omega
        obtain ⟨out, ho1, ho2⟩ := keyed_out HNK.out.key
        have HT : Hid (l.take k = l) := List.take_of_length_le (by rw [HN.out]; omega)
        have HO1 : Hid (kvOf out = netK (l.take k)) := ho1
        have hol : out.length ≤ 4096 := by
          have := HNK.out.len
          rw [← ho1, kvOf_len] at this
          omega
        have hcn : ∀ c ∈ out, -(4096 : Int) ≤ c.n ∧ c.n ≤ 4096 := fun c hc => by
          have h := HNK.out.cnt
          rw [← ho1] at h
          have := h _ (kvOf_mem hc)
          dsimp only at this
          omega
        have hd9 : (dels out).length ≤ 100000000 := by
          have : (dels out).length ≤ out.length * 4096 := flat_le (fun c hc => by have := hcn c hc; rw [List.length_replicate]; omega)
          omega
        have hi9 : (inss out).length ≤ 100000000 := by
          have : (inss out).length ≤ out.length * 4096 := flat_le (fun c hc => by have := hcn c hc; rw [List.length_replicate]; omega)
          omega
        have KV := changes_any w2.heap.size k out wr (by rw [HO1.out]; exact HCM.out) (by rw [HO1.out]; exact HNK.out.up) ho2 (by omega) hd9 hi9
        have HOK : Hid (∀ c ∈ out, rowOk c.r) := ho2
        clear ho1 ho2 hd9 hi9 hcn
        obtain ⟨ol, hol2⟩ : ∃ x, (dels out ++ inss out).length = x := ⟨_, rfl⟩
        rw [hol2] at KV
        have HOL : Hid ((dels out ++ inss out).length = ol) := hol2
        clear hol2
        go_wp2_with (go_at_call 23; refine KV.mono ?_; rintro e w9 ⟨⟨oa, oc, rfl, hva⟩, hb9⟩)
        go_ret2
        exact ⟨.inr ⟨HFE.out, out, oa, oc, by rw [HO1.out, HT.out], HOK.out, ret_sl HOL.out.symm, hva⟩, hnx.trans (hb9.mono hnx.size)⟩
  · have hfe' : (formErr l == 0) = false := by simpa using hfe
    have HFE : Hid (formErr l ≠ 0) := hfe
    clear hfe
    obtain ⟨x, hx⟩ : ∃ x, formErr l = x := ⟨_, rfl⟩
    have HX : Hid (formErr l = x) := hx
    rw [hx] at hfe' ⊢
    clear hx
    go_wp2
    go_ret2
    exact ⟨.inl ⟨HFE.out, ret_str2 HX.out.symm⟩, hb2⟩
end Go.Proofs.Ytkjiaeolodemlaf.ch
