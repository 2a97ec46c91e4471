/- Pick, and KeyOf. -/
import Derived.Test.YtibjihdeknndoaaPlnRow2
namespace Go.Proofs.Ytibjihdeknndoaa.pl
open Go.ChangeShapes Go.WideShapes Go.ChangeAt Go.RowKit
open vl
set_option linter.unusedVariables false
set_option linter.unusedSimpArgs false
/-- the cells at these places -/
def pickR (r : List Cel) (l : List Int) : List Cel := l.map fun i => r.getD i.toNat default
theorem take_snocI (l : List Int) (k : Nat) (h : k < l.length) : l.take (k + 1) = l.take k ++ [l.getD k 0] := by
  rw [List.take_succ_eq_append_getElem h, getD_get h]
set_option maxRecDepth 10000 in
set_option maxHeartbeats 4000000 in
theorem pick_any (a ad : Option Addr) (ca cp : Nat) (r : List Cel) (l : List Int) (w : World) (hlr : r.length ≤ 9223372036854775807) (hll : l.length ≤ 1000) (ha : vl.rowAt w a r) (hl : intsAt w ad l) (hpl : ∀ x ∈ l, 0 ≤ x ∧ x < (r.length : Int)) :
    Calls Try.prog 39 #[.slice a r.length ca, .slice ad l.length cp] w fun e w' => (∃ ad' c', e = .returned (.slice ad' (pickR r l).length c') ∧ ownV w' w.heap.size (.slice ad' (pickR r l).length c') (pickR r l)) ∧ Below w.heap.size w w' := by
  have HA : Hid (vl.rowAt w a r) := ha
  have HL : Hid (intsAt w ad l) := hl
  have HP : Hid (∀ i, i < l.length → 0 ≤ l.getD i 0 ∧ l.getD i 0 < (r.length : Int)) := fun i hi => hpl _ (getD_mem hi)
  obtain ⟨m, hm⟩ : ∃ z, r.length = z := ⟨_, rfl⟩
  obtain ⟨n, hn⟩ : ∃ z, l.length = z := ⟨_, rfl⟩
  have HM : Hid (r.length = m) := hm
  have HN : Hid (l.length = n) := hn
  rw [hm] at hlr HP ⊢
  rw [hn] at hll HP ⊢
  clear hm hn ha hl hpl
  obtain ⟨i0, hi, hz0, hz1, hz2⟩ := info_parts Try.infoV
  obtain ⟨w0, hmk, hown0, hgrow0⟩ := run_make_own (P := Try.prog) w w.heap.size 34 60 i0 (.agg #[.int .i64 0, .int .i64 0, .string ⟨#[]⟩]) 3 Try.underlying34 hi hz0 hz1 .i64 .i64 n (by rw [hz2]; omega) (by unfold maxLen; omega) (Nat.le_refl _)
  have hb0 : Below w.heap.size w w0 := (Below.refl _ _).grown hgrow0 (Nat.le_refl _) (fun b hb => by cases hb)
  have HO0 : Hid (ownV w0 w.heap.size (.slice (some ⟨w.heap.size, 0, none⟩) 0 n) []) := hown0
  clear hi hz0 hz1 hz2 hown0 hgrow0
  have HPK : Hid (∀ k, k < n → pickR r (l.take (k + 1)) = pickR r (l.take k) ++ [r.getD (l.getD k 0).toNat default]) := fun k hk => by
    show pickR r (l.take (k + 1)) = _
    rw [take_snocI l k (by rw [HN.out]; exact hk)]; simp [pickR]
  have HPE : Hid (∀ k, n ≤ k → pickR r (l.take k) = pickR r l) := fun k hk => by
    show pickR r (l.take k) = _
    rw [List.take_of_length_le (by rw [HN.out]; exact hk)]
  have HPL : Hid (∀ k, (pickR r (l.take k)).length ≤ n) := fun k => by
    show (pickR r (l.take k)).length ≤ n
    have : (l.take k).length ≤ l.length := by rw [List.length_take]; omega
    unfold pickR; rw [List.length_map, ← HN.out]; exact this
  obtain ⟨pn, hpn⟩ : ∃ z, (pickR r l).length = z := ⟨_, rfl⟩
  have HPN : Hid ((pickR r l).length = pn) := hpn
  rw [hpn]
  clear hpn
  go_enter Try.func39, Try.ntmps39
  go_wp2
  go_loopw [5, 7, 13] (fun v _ i wr => ∃ k : Nat, k ≤ n ∧ i = .int .i64 k ∧ ownV wr w.heap.size v (pickR r (l.take k)) ∧ Below w.heap.size w wr) (fun _ _ i _ => n - (intOf i).toNat)
  case atStart => exact ⟨0, Nat.zero_le _, rfl, HO0.out, hb0⟩
  case round =>
    obtain ⟨k, hk, rfl, hov, hnx⟩ := hrel
    have HO : Hid (ownV wr w.heap.size u5 (pickR r (l.take k))) := hov
    have hsz := hnx.size
    clear hov hmk
    by_cases hlt : k < n
    · obtain ⟨b, o, e, xk⟩ := HL.out k (by rw [HN.out]; exact hlt)
      subst e
      have hpk := HP.out k hlt
      have HPKk := HPK.out k hlt
      obtain ⟨z, hz⟩ : ∃ z, l.getD k 0 = z := ⟨_, rfl⟩
      rw [hz] at xk hpk HPKk
      obtain ⟨zn, rfl⟩ := Int.eq_ofNat_of_zero_le hpk.1
      rw [Int.toNat_natCast] at HPKk
      obtain ⟨b1, o1, e1, x1, x2, x3⟩ := HA.out zn (by rw [HM.out]; omega)
      subst e1
      have qk := cell_later hnx xk
      have q1 := cell_later hnx x1
      have q2 := cell_later hnx x2
      have q3 := cell_later hnx x3
      obtain ⟨⟨kv, nv, sv⟩, hcv⟩ : ∃ z, r.getD zn default = z := ⟨_, rfl⟩
      rw [hcv] at q1 q2 q3 HPKk
      dsimp only at q1 q2 q3
      have HPK2 : Hid (pickR r (l.take (k + 1)) = pickR r (l.take k) ++ [⟨kv, nv, sv⟩]) := HPKk
      have i1 : (0 : Int) ≤ (k : Int) := by omega
      have i2 : (k : Int) < (n : Int) := by omega
      have i3 : (0 : Int) ≤ (zn : Int) := by omega
      have i4 : (zn : Int) < (m : Int) := by omega
      have hpl := HPL.out k
      obtain ⟨pr, hpr⟩ : ∃ z, pickR r (l.take k) = z := ⟨_, rfl⟩
      rw [hpr] at HO HPK2 hpl
      clear xk x1 x2 x3 hz hcv HPKk hpk hpr
      go_wp2_with (at_builtin; refine append_cell rfl (.tmp 17) (.tmp 22) rfl w.heap.size u5 pr rfl wr HO.out ⟨kv, nv, sv⟩ wr.heap.size rfl rfl (by omega) hsz ?_; intro v2 w3 hown3 hgrow3)
      obtain ⟨ad2, c2, hv, _⟩ := own_form hown3
      have hbn := below_appendV hnx hsz HO.out hgrow3
      subst hv
      go_roundw
      case rel => exact ⟨k + 1, by omega, by go_num, by rw [HPK2.out]; exact hown3, hbn⟩
      case measure => simp [intOf]; omega
    · have HPEk := HPE.out k (by omega)
      obtain ⟨ad2, c2, hv, _⟩ := own_form HO.out
      rw [HPEk] at HO hv
      rw [HPN.out] at hv
      subst hv
      clear HPEk HPE HPK HPL
      go_wp2
      go_ret
      exact ⟨⟨_, _, rfl, HO.out⟩, hnx⟩

/-- has one of these cells nothing? -/
def nullB (r : List Cel) : Bool := r.any fun c => c.k == 0
theorem nullB_yes {r : List Cel} {i : Nat} (hi : i < r.length) (h : (r.getD i default).k = 0) : nullB r = true := by
  unfold nullB
  rw [List.any_eq_true]
  exact ⟨_, getD_mem hi, by simpa using h⟩
theorem nullB_no {r : List Cel} (h : ∀ i, i < r.length → (r.getD i default).k ≠ 0) : nullB r = false := by
  unfold nullB
  rw [List.any_eq_false]
  intro c hc
  have := (all_getD (d := default) (Q := fun c : Cel => c.k ≠ 0)).1 h c hc
  simpa using this
/-- D3: a row's key cells -/
def keyRow (p : Pln) (side : Int) (r : List Cel) : List Cel := pickR r (keysOf p side)
def hasB (p : Pln) (side : Int) (r : List Cel) : Bool := decide (rowErr p side r = 0) && !nullB (keyRow p side r)
def keyOfS (p : Pln) (side : Int) (r : List Cel) : ByteArray := ⟨(if hasB p side r = true then encR (keyRow p side r) else []).toArray⟩
theorem rowErr_ok {p : Pln} {side : Int} {r : List Cel} (h : rowErr p side r = 0) : planErr p = 0 ∧ sideB side = true ∧ r.length = (colsOf p side).length ∧ errR r = 0 ∧ typedB r (colsOf p side) = true := by
  unfold rowErr at h
  by_cases h0 : planErr p = 0
  · rw [if_pos h0] at h
    unfold rErr at h
    cases h1 : sideB side with
    | false => rw [h1] at h; cases h
    | true =>
      rw [h1, if_neg (by decide)] at h
      by_cases h2 : r.length = (colsOf p side).length
      · rw [if_neg (by simp [h2])] at h
        by_cases h3 : errR r = 0
        · rw [if_neg (by simp [h3])] at h
          cases h4 : typedB r (colsOf p side) with
          | false => rw [h4] at h; cases h
          | true => exact ⟨h0, rfl, h2, h3, rfl⟩
        · rw [if_pos h3] at h; exact absurd h h3
      · rw [if_pos h2] at h; cases h
  · rw [if_neg h0] at h; exact absurd h h0
theorem keys_in {p : Pln} {side : Int} (h : planErr p = 0) : (∀ x ∈ keysOf p side, 0 ≤ x ∧ x < ((colsOf p side).length : Int)) ∧ (keysOf p side).length ≤ 4 := by
  obtain ⟨_, _, hm, _, hf⟩ := planErr_ok h
  have hl := many_len hm
  unfold keysOf colsOf
  split
  · exact ⟨hf.2.1.2.2.1.1, by omega⟩
  · exact ⟨hf.2.1.2.1.1, by omega⟩
theorem pick_ok {r : List Cel} {l : List Int} (hl : l.length ≤ 8) (hp : ∀ x ∈ l, 0 ≤ x ∧ x < (r.length : Int)) (he : errR r = 0) (hw : wfRow r) : rowOk (pickR r l) := by
  refine ⟨by unfold pickR; rw [List.length_map]; exact hl, fun c hc => ?_⟩
  obtain ⟨i, hi, rfl⟩ := List.mem_map.1 hc
  have := hp i hi
  have hm : r.getD i.toNat default ∈ r := getD_mem (by omega)
  exact ⟨all_ok he _ hm, hw _ hm⟩
theorem ret_three {s t : ByteArray} {a b : Bool} {x y : Int} (h1 : s = t) (h2 : a = b) (h3 : x = y) : Ending.returned (.tuple #[.string s, .bool a, .int .i64 x]) = .returned (.tuple #[.string t, .bool b, .int .i64 y]) := by rw [h1, h2, h3]
set_option maxRecDepth 10000 in
set_option maxHeartbeats 4000000 in
theorem keyOf_any (p : Pln) (x : PA) (side : Int) (ar : Option Addr) (cr : Nat) (r : List Cel) (w : World) (hw : wfPlan p) (hp : planAt w p x) (hr : vl.rowAt w ar r) (hwr : wfRow r) (hlr : r.length ≤ 9223372036854775807) :
    Calls Try.prog 13 #[planV p x, .int .i64 side, .slice ar r.length cr] w fun e w' => e = .returned (.tuple #[.string (keyOfS p side r), .bool (hasB p side r), .int .i64 (rowErr p side r)]) ∧ Below w.heap.size w w' := by
  have K1 : Hid (∀ w1, Below w.heap.size w w1 → Calls Try.prog 15 #[planV p x, .int .i64 side, .slice ar r.length cr] w1 fun e w' => e = .returned (.int .i64 (rowErr p side r)) ∧ Below w1.heap.size w1 w') := fun w1 hb => row_any p x side ar cr r w1 hw (planAt_below hp hb) (rowAt_below hr hb) hwr hlr
  have K2 : Hid (∀ w1, Calls Try.prog 40 #[planV p x, .int .i64 side] w1 fun e w' => e = .returned (.slice (kA x side) (keysOf p side).length (kC x side)) ∧ Below w1.heap.size w1 w') := fun w1 => keysOf_fn p x side w1
  have K3 : Hid (∀ w1, rowErr p side r = 0 → Below w.heap.size w w1 → Calls Try.prog 39 #[.slice ar r.length cr, .slice (kA x side) (keysOf p side).length (kC x side)] w1 fun e w' => (∃ ad' c', e = .returned (.slice ad' (keyRow p side r).length c') ∧ ownV w' w1.heap.size (.slice ad' (keyRow p side r).length c') (keyRow p side r)) ∧ Below w1.heap.size w1 w') := fun w1 h0 hb => by
    have h := rowErr_ok h0
    have hk := keys_in (side := side) h.1
    exact pick_any ar (kA x side) cr (kC x side) r (keysOf p side) w1 hlr (by omega) (rowAt_below hr hb) (intsAt_below (keysAt hp side) hb) (by rw [h.2.2.1]; exact hk.1)
  have HOK : Hid (rowErr p side r = 0 → rowOk (keyRow p side r)) := fun h0 => by
    have h := rowErr_ok h0
    have hk := keys_in (side := side) h.1
    exact pick_ok (by omega) (by rw [h.2.2.1]; exact hk.1) h.2.2.2.1 hwr
  have HHAS : Hid (hasB p side r = (decide (rowErr p side r = 0) && !nullB (keyRow p side r))) := rfl
  have HKS : Hid (keyOfS p side r = ⟨(if hasB p side r = true then encR (keyRow p side r) else []).toArray⟩) := rfl
  obtain ⟨re, hre⟩ : ∃ z, rowErr p side r = z := ⟨_, rfl⟩
  obtain ⟨kr, hkr⟩ : ∃ z, keyRow p side r = z := ⟨_, rfl⟩
  obtain ⟨hb, hhb⟩ : ∃ z, hasB p side r = z := ⟨_, rfl⟩
  obtain ⟨ks, hks⟩ : ∃ z, keyOfS p side r = z := ⟨_, rfl⟩
  obtain ⟨ca, hca⟩ : ∃ z, cA x side = z := ⟨_, rfl⟩
  obtain ⟨cc, hcc⟩ : ∃ z, cC x side = z := ⟨_, rfl⟩
  obtain ⟨ka, hka⟩ : ∃ z, kA x side = z := ⟨_, rfl⟩
  obtain ⟨kc, hkc⟩ : ∃ z, kC x side = z := ⟨_, rfl⟩
  obtain ⟨cn, hcn⟩ : ∃ z, (colsOf p side).length = z := ⟨_, rfl⟩
  obtain ⟨kn, hkn⟩ : ∃ z, (keysOf p side).length = z := ⟨_, rfl⟩
  obtain ⟨n, hn⟩ : ∃ z, r.length = z := ⟨_, rfl⟩
  rw [hre, hn] at K1
  rw [hka, hkc, hkn] at K2
  rw [hre, hka, hkc, hkn, hkr, hn] at K3
  rw [hre, hkr] at HOK
  rw [hre, hkr, hhb] at HHAS
  rw [hhb, hkr, hks] at HKS
  rw [hks, hhb, hre, hn]
  clear hre hkr hhb hks hca hcc hka hkc hcn hkn hn hp hw hr hwr hlr
  obtain ⟨q, hq⟩ : ∃ z, kr.length = z := ⟨_, rfl⟩
  have HQ : Hid (kr.length = q) := hq
  rw [hq] at K3
  clear hq
  obtain ⟨kind, mode, low, high, size, limit, left, right, lkeys, rkeys, grouped, group, aggs⟩ := p
  obtain ⟨l, lc, rr, rc, lk, lkc, rk, rkc, g, gc, a, ac⟩ := x
  unfold planV at K1 K2 ⊢
  dsimp only at K1 K2 ⊢
  obtain ⟨n6, h6⟩ : ∃ n, left.length = n := ⟨_, rfl⟩
  obtain ⟨n7, h7⟩ : ∃ n, right.length = n := ⟨_, rfl⟩
  obtain ⟨n8, h8⟩ : ∃ n, lkeys.length = n := ⟨_, rfl⟩
  obtain ⟨n9, h9⟩ : ∃ n, rkeys.length = n := ⟨_, rfl⟩
  obtain ⟨n11, h11⟩ : ∃ n, group.length = n := ⟨_, rfl⟩
  obtain ⟨n12, h12⟩ : ∃ n, aggs.length = n := ⟨_, rfl⟩
  rw [h6, h7, h8, h9, h11, h12] at K1 K2
  rw [h6, h7, h8, h9, h11, h12]
  clear h6 h7 h8 h9 h11 h12
  go_enter Try.func13, Try.ntmps13
  go_wp2_with fail
  refine (K1.out _ ((Below.refl _ _).alloc (Nat.le_refl _) _)).mono ?_
  rintro e w1 ⟨rfl, hb1⟩
  have hba := ((Below.refl _ _).alloc (Nat.le_refl _) _).trans (hb1.mono (by simp))
  obtain ⟨hc1, hf1⟩ := bcell hb1
  by_cases h0 : re = 0
  · subst h0
    have HKO : Hid (rowOk kr) := HOK.out rfl
    have HH : Hid (hb = !nullB kr) := HHAS.out
    clear HOK HHAS
    go_wp2_with fail
    refine (K2.out _).mono ?_
    rintro e w2 ⟨rfl, hb2⟩
    have hbb := hba.trans (hb2.mono hba.size)
    go_wp2_with fail
    refine (K3.out _ (by trivial) hbb).mono ?_
    rintro e w3 ⟨⟨ad', c', rfl, hov⟩, hb3⟩
    have hbc := hbb.trans (hb3.mono hbb.size)
    have HOV : Hid (vl.rowAt w3 ad' kr) := by
      have := ownV_row (r := kr) (cap := c') (ad := ad') (base := w2.heap.size) (w := w3) (by rw [HQ.out]; exact hov)
      exact this
    clear hc1 hf1 K1 K2 K3 hb1 hb2 hb3 hov hba hbb
    have hq8 : q ≤ 8 := by have := HKO.out.1; rw [HQ.out] at this; exact this
    go_wp2
    go_loopw [12, 29] (fun _ i wr => ∃ j : Nat, j ≤ q ∧ i = .int .i64 j ∧ Below w3.heap.size w3 wr ∧ ∀ i, i < j → (kr.getD i default).k ≠ 0) (fun _ i _ => q - (intOf i).toNat)
    case atStart => exact ⟨0, Nat.zero_le _, rfl, Below.refl _ _, fun i hi => absurd hi (Nat.not_lt_zero i)⟩
    case round =>
      obtain ⟨j, hj, rfl, hnx, hall⟩ := hrel
      have HAL : Hid (∀ i, i < j → (kr.getD i default).k ≠ 0) := hall
      have hsz := hnx.size
      have hbr := hbc.trans (hnx.mono hbc.size)
      clear hall
      by_cases hlt : j < q
      · obtain ⟨b1, o1, e1, x1, x2, x3⟩ := HOV.out j (by rw [HQ.out]; exact hlt)
        subst e1
        have q1 := cell_later hnx x1
        have q2 := cell_later hnx x2
        have q3 := cell_later hnx x3
        have HNY : Hid ((kr.getD j default).k = 0 → nullB kr = true) := fun h => nullB_yes (by rw [HQ.out]; exact hlt) h
        have HST : Hid ((kr.getD j default).k ≠ 0 → ∀ i, i < j + 1 → (kr.getD i default).k ≠ 0) := fun h i hi => by
          rcases Nat.lt_succ_iff_lt_or_eq.1 hi with h1 | h1
          · exact HAL.out i h1
          · rw [h1]; exact h
        obtain ⟨⟨kv, nv, sv⟩, hcv⟩ : ∃ z, kr.getD j default = z := ⟨_, rfl⟩
        rw [hcv] at q1 q2 q3 HNY HST
        dsimp only at q1 q2 q3 HNY HST
        have i1 : (0 : Int) ≤ (j : Int) := by omega
        have i2 : (j : Int) < (q : Int) := by omega
        clear hcv x1 x2 x3
        by_cases hk : kv = 0
        · subst hk
          have HX : Hid (hb = false) := by show hb = false; rw [HH.out, HNY.out rfl]; rfl
          have HY : Hid (ks = ⟨#[]⟩) := by show ks = _; rw [HKS.out, HX.out]; rfl
          go_wp2
          go_ret3
          exact ⟨ret_three HY.out.symm HX.out.symm rfl, hbr.alloc hbr.size _⟩
        · have hk' : (kv == 0) = false := by simpa using hk
          have HS2 := HST.out hk
          have HS3 : Hid (∀ i, i < j + 1 → (kr.getD i default).k ≠ 0) := HS2
          clear hk HS2 HST HNY
          go_wp2
          go_roundw
          case rel => exact ⟨j + 1, by omega, by go_num, hnx.alloc hsz _, HS3.out⟩
          case measure => simp [intOf]; omega
      · have HNN : Hid (nullB kr = false) := nullB_no (fun i hi => HAL.out i (by rw [HQ.out] at hi; omega))
        have HX : Hid (hb = true) := by show hb = true; rw [HH.out, HNN.out]; rfl
        have HY : Hid (ks = ⟨(encR kr).toArray⟩) := by show ks = _; rw [HKS.out, HX.out]; rfl
        have KK : Hid (Calls Try.prog 41 #[.slice ad' q c'] wr fun e w' => e = .returned (.tuple #[.string (keyS kr), .int .i64 0]) ∧ Below wr.heap.size wr w') := by
          have := vl.key_ok ad' c' kr wr (rowAt_below HOV.out hnx) HKO.out
          rwa [HQ.out] at this
        have HKY : Hid (keyS kr = ks) := by
          show keyS kr = ks
          rw [HY.out]
          apply str_eq
          rw [keyS_ok HKO.out]
        go_wp2_with fail
        refine KK.out.mono ?_
        rintro e w4 ⟨rfl, hb4⟩
        go_wp2
        go_ret3
        exact ⟨ret_three HKY.out HX.out.symm rfl, hbr.trans (hb4.mono hbr.size)⟩
  · have h0' : (re != 0) = true := by simpa using h0
    have HX : Hid (hb = false) := by show hb = false; rw [HHAS.out, decide_eq_false h0]; rfl
    have HY : Hid (ks = ⟨#[]⟩) := by show ks = _; rw [HKS.out, HX.out]; rfl
    clear h0
    go_wp2
    go_ret3
    exact ⟨ret_three HY.out.symm HX.out.symm rfl, hba⟩
end Go.Proofs.Ytibjihdeknndoaa.pl
