/- The document's KeyFor. -/
import Derived.Test.YtibjihdeknndoaaPlnPick
namespace Go.Proofs.Ytibjihdeknndoaa.pl
open Go.ChangeShapes Go.WideShapes Go.ChangeAt Go.RowKit
open vl
set_option linter.unusedVariables false
set_option linter.unusedSimpArgs false
theorem ret_sb {s t : ByteArray} {a b : Bool} (h1 : s = t) (h2 : a = b) : Ending.returned (.tuple #[.string s, .bool a]) = .returned (.tuple #[.string t, .bool b]) := by rw [h1, h2]
theorem pickR_at (r : List Cel) (l : List Int) (k : Nat) (h : k < l.length) : (pickR r l).getD k default = r.getD (l.getD k 0).toNat default := by
  unfold pickR
  simp [List.getD_eq_getElem?_getD, h]
set_option maxRecDepth 10000 in
set_option maxHeartbeats 4000000 in
theorem keyFor_any (p : Pln) (x : PA) (side : Int) (ar : Option Addr) (cr : Nat) (r : List Cel) (w : World) (hw : wfPlan p) (hp : planAt w p x) (h0 : rowErr p side r = 0) (hr : vl.rowAt w ar r) (hwr : wfRow r) (hlr : r.length ≤ 9223372036854775807) :
    Calls Try.prog 16 #[planV p x, .int .i64 side, .slice ar r.length cr] w fun e w' => e = .returned (.tuple #[.string (keyOfS p side r), .bool (hasB p side r)]) ∧ Below w.heap.size w w' := by
  have h := rowErr_ok h0
  have hk := keys_in (side := side) h.1
  have hkl := hk.2
  have HKO : Hid (rowOk (keyRow p side r)) := pick_ok (by omega) (by rw [h.2.2.1]; exact hk.1) h.2.2.2.1 hwr
  have HH : Hid (hasB p side r = !nullB (keyRow p side r)) := by show (decide (rowErr p side r = 0) && !nullB (keyRow p side r)) = _; rw [decide_eq_true h0]; rfl
  have HKS : Hid (keyOfS p side r = ⟨(if hasB p side r = true then encR (keyRow p side r) else []).toArray⟩) := rfl
  have HA : Hid (vl.rowAt w ar r) := hr
  have HL : Hid (intsAt w (kA x side) (keysOf p side)) := keysAt hp side
  have HP : Hid (∀ i, i < (keysOf p side).length → 0 ≤ (keysOf p side).getD i 0 ∧ (keysOf p side).getD i 0 < (r.length : Int)) := fun i hi => by rw [h.2.2.1]; exact hk.1 _ (getD_mem hi)
  have HPK : Hid (∀ k, k < (keysOf p side).length → pickR r ((keysOf p side).take (k + 1)) = pickR r ((keysOf p side).take k) ++ [r.getD ((keysOf p side).getD k 0).toNat default]) := fun k hk => by
    show pickR r ((keysOf p side).take (k + 1)) = _
    rw [take_snocI _ k hk]; simp [pickR]
  have HPE : Hid (∀ k, (keysOf p side).length ≤ k → pickR r ((keysOf p side).take k) = keyRow p side r) := fun k hk => by
    show pickR r ((keysOf p side).take k) = _
    rw [List.take_of_length_le hk]; rfl
  have HPL : Hid (∀ k, (pickR r ((keysOf p side).take k)).length ≤ (keysOf p side).length) := fun k => by
    show (pickR r ((keysOf p side).take k)).length ≤ _
    unfold pickR; rw [List.length_map, List.length_take]; omega
  have HKA : Hid (∀ k, k < (keysOf p side).length → (keyRow p side r).getD k default = r.getD ((keysOf p side).getD k 0).toNat default) := fun k hk => pickR_at r _ k hk
  have HQ : Hid ((keyRow p side r).length = (keysOf p side).length) := by show (keyRow p side r).length = _; unfold keyRow pickR; rw [List.length_map]
  have HNY : Hid (∀ j, j < (keysOf p side).length → ((keyRow p side r).getD j default).k = 0 → nullB (keyRow p side r) = true) := fun j hj h => nullB_yes (by rw [HQ.out]; exact hj) h
  have HNO : Hid ((∀ i, i < (keysOf p side).length → ((keyRow p side r).getD i default).k ≠ 0) → nullB (keyRow p side r) = false) := fun h => nullB_no (fun i hi => h i (by rw [HQ.out] at hi; exact hi))
  have H2 : Hid (side = 2 → kA x side = x.rk ∧ kC x side = x.rkc ∧ (keysOf p side).length = p.rkeys.length) := fun h => by show kA x side = x.rk ∧ kC x side = x.rkc ∧ _; unfold kA kC keysOf; simp only [if_pos h]; exact ⟨trivial, trivial, trivial⟩
  have H1 : Hid (¬ side = 2 → kA x side = x.lk ∧ kC x side = x.lkc ∧ (keysOf p side).length = p.lkeys.length) := fun h => by show kA x side = x.lk ∧ kC x side = x.lkc ∧ _; unfold kA kC keysOf; simp only [if_neg h]; exact ⟨trivial, trivial, trivial⟩
  obtain ⟨kr, hkr⟩ : ∃ z, keyRow p side r = z := ⟨_, rfl⟩
  obtain ⟨hb, hhb⟩ : ∃ z, hasB p side r = z := ⟨_, rfl⟩
  obtain ⟨ks, hks⟩ : ∃ z, keyOfS p side r = z := ⟨_, rfl⟩
  obtain ⟨ka, hka⟩ : ∃ z, kA x side = z := ⟨_, rfl⟩
  obtain ⟨kc, hkc⟩ : ∃ z, kC x side = z := ⟨_, rfl⟩
  obtain ⟨ky, hky⟩ : ∃ z, keysOf p side = z := ⟨_, rfl⟩
  rw [hkr] at HKO HH HKS HPE HKA HQ HNY HNO
  rw [hhb] at HH HKS ⊢
  rw [hks] at HKS ⊢
  rw [hka] at HL H1 H2
  rw [hkc] at H1 H2
  rw [hky] at HL HP HPK HPE HPL HKA HQ HNY HNO H1 H2 hkl
  obtain ⟨kn, hkn⟩ : ∃ z, ky.length = z := ⟨_, rfl⟩
  have HKN : Hid (ky.length = kn) := hkn
  rw [hkn] at HP HPK HPE HPL HKA HQ HNY HNO H1 H2 hkl
  obtain ⟨m, hm⟩ : ∃ z, r.length = z := ⟨_, rfl⟩
  have HM : Hid (r.length = m) := hm
  rw [hm] at HP hlr ⊢
  clear hkr hhb hks hka hkc hky hkn hm h hk h0 hp hw hr hwr
  obtain ⟨kind, mode, low, high, size, limit, left, right, lkeys, rkeys, grouped, group, aggs⟩ := p
  obtain ⟨l, lc, rr, rc, lk, lkc, rk, rkc, g, gc, a, ac⟩ := x
  unfold planV
  dsimp only at H1 H2 ⊢
  obtain ⟨n8, h8⟩ : ∃ n, lkeys.length = n := ⟨_, rfl⟩
  obtain ⟨n9, h9⟩ : ∃ n, rkeys.length = n := ⟨_, rfl⟩
  rw [h8] at H1 ⊢
  rw [h9] at H2 ⊢
  clear h8 h9
  by_cases s2 : side = 2
  · subst s2
    obtain ⟨rfl, rfl, rfl⟩ := H2.out rfl
    clear H1 H2
    go_enter Try.func16, Try.ntmps16
    go_wp2
    go_loopw [9, 10] (fun v i wr => ∃ k : Nat, k ≤ kn ∧ i = .int .i64 k ∧ ownV wr w.heap.size v (pickR r (ky.take k)) ∧ Below w.heap.size w wr ∧ ∀ i, i < k → (kr.getD i default).k ≠ 0) (fun _ i _ => kn - (intOf i).toNat)
    case atStart => exact ⟨0, Nat.zero_le _, rfl, World.ownsRow_nil _ _ _ _, (Below.refl _ _).alloc (Nat.le_refl _) _, fun i hi => absurd hi (Nat.not_lt_zero i)⟩
    case round =>
      obtain ⟨k, hk, rfl, hov, hnx, hall⟩ := hrel
      have HO : Hid (ownV wr w.heap.size u9 (pickR r (ky.take k))) := hov
      have HAL : Hid (∀ i, i < k → (kr.getD i default).k ≠ 0) := hall
      have hsz := hnx.size
      clear hov hall
      by_cases hlt : k < kn
      · obtain ⟨b, o, e, xk⟩ := HL.out k (by rw [HKN.out]; exact hlt)
        subst e
        have hpk := HP.out k hlt
        have HPKk := HPK.out k hlt
        have HAT := HKA.out k hlt
        obtain ⟨z, hz⟩ : ∃ z, ky.getD k 0 = z := ⟨_, rfl⟩
        rw [hz] at xk hpk HPKk HAT
        obtain ⟨zn, rfl⟩ := Int.eq_ofNat_of_zero_le hpk.1
        rw [Int.toNat_natCast] at HPKk HAT
        obtain ⟨b1, o1, e1, x1, x2, x3⟩ := HA.out zn (by rw [HM.out]; omega)
        subst e1
        have qk := cell_later hnx xk
        have q1 := cell_later hnx x1
        have q2 := cell_later hnx x2
        have q3 := cell_later hnx x3
        obtain ⟨⟨kv, nv, sv⟩, hcv⟩ : ∃ z, r.getD zn default = z := ⟨_, rfl⟩
        rw [hcv] at q1 q2 q3 HPKk HAT
        dsimp only at q1 q2 q3
        have HPK2 : Hid (pickR r (ky.take (k + 1)) = pickR r (ky.take k) ++ [⟨kv, nv, sv⟩]) := HPKk
        have HA2 : Hid (kr.getD k default = ⟨kv, nv, sv⟩) := HAT
        have i1 : (0 : Int) ≤ (k : Int) := by omega
        have i2 : (k : Int) < (kn : Int) := by omega
        have i3 : (0 : Int) ≤ (zn : Int) := by omega
        have i4 : (zn : Int) < (m : Int) := by omega
        have hpl := HPL.out k
        obtain ⟨pr, hpr⟩ : ∃ z, pickR r (ky.take k) = z := ⟨_, rfl⟩
        rw [hpr] at HO HPK2 hpl
        clear xk x1 x2 x3 hz hcv HPKk HAT hpk hpr
        by_cases hk0 : kv = 0
        · subst hk0
          have HX : Hid (hb = false) := by show hb = false; rw [HH.out, HNY.out k hlt (by rw [HA2.out])]; rfl
          have HY : Hid (ks = ⟨#[]⟩) := by show ks = _; rw [HKS.out, HX.out]; rfl
          go_wp2
          go_ret2
          exact ⟨ret_sb HY.out.symm HX.out.symm, hnx⟩
        · have hk' : (kv == 0) = false := by simpa using hk0
          have HS3 : Hid (∀ i, i < k + 1 → (kr.getD i default).k ≠ 0) := fun i hi => by
            rcases Nat.lt_succ_iff_lt_or_eq.1 hi with h1 | h1
            · exact HAL.out i h1
            · rw [h1, HA2.out]; exact hk0
          clear hk0
          go_wp2_with (at_builtin; refine append_cell rfl (.tmp 32) (.tmp 40) rfl w.heap.size u9 pr rfl wr HO.out ⟨kv, nv, sv⟩ wr.heap.size rfl rfl (by omega) hsz ?_; intro v2 w3 hown3 hgrow3)
          obtain ⟨ad2, c2, hv, _⟩ := own_form hown3
          have hbn := below_appendV hnx hsz HO.out hgrow3
          subst hv
          go_roundw
          case rel => exact ⟨k + 1, by omega, by go_num, by rw [HPK2.out]; exact hown3, hbn, HS3.out⟩
          case measure => simp [intOf]; omega
      · have HPEk := HPE.out k (by omega)
        have HNN : Hid (nullB kr = false) := HNO.out (fun i hi => HAL.out i (by omega))
        have HX : Hid (hb = true) := by show hb = true; rw [HH.out, HNN.out]; rfl
        have HY : Hid (ks = ⟨(encR kr).toArray⟩) := by show ks = _; rw [HKS.out, HX.out]; rfl
        obtain ⟨ad2, c2, hv, _⟩ := own_form HO.out
        rw [HPEk] at HO hv
        rw [HQ.out] at hv
        subst hv
        have HRW : Hid (vl.rowAt wr ad2 kr) := ownV_row (cap := c2) (base := w.heap.size) (by rw [HQ.out]; exact HO.out)
        have KK : Hid (Calls Try.prog 48 #[.slice ad2 kn c2] wr fun e w' => e = .returned (.string ⟨(encR kr).toArray⟩) ∧ Below wr.heap.size wr w') := by
          have := vl.rkey_any ad2 c2 kr wr HRW.out HKO.out
          rwa [HQ.out] at this
        obtain ⟨kb, hkb⟩ : ∃ z, (⟨(encR kr).toArray⟩ : ByteArray) = z := ⟨_, rfl⟩
        rw [hkb] at KK HY
        clear HPEk HPE HPK HPL hkb
        go_wp2_with fail
        refine KK.out.mono ?_
        rintro e w4 ⟨rfl, hb4⟩
        go_wp2
        go_ret2
        exact ⟨ret_sb HY.out.symm HX.out.symm, hnx.trans (hb4.mono hsz)⟩
  · obtain ⟨rfl, rfl, rfl⟩ := H1.out s2
    have s2' : (side == 2) = false := by simpa using s2
    clear H1 H2 s2
    go_enter Try.func16, Try.ntmps16
    go_wp2
    go_loopw [9, 10] (fun v i wr => ∃ k : Nat, k ≤ kn ∧ i = .int .i64 k ∧ ownV wr w.heap.size v (pickR r (ky.take k)) ∧ Below w.heap.size w wr ∧ ∀ i, i < k → (kr.getD i default).k ≠ 0) (fun _ i _ => kn - (intOf i).toNat)
    case atStart => exact ⟨0, Nat.zero_le _, rfl, World.ownsRow_nil _ _ _ _, (Below.refl _ _).alloc (Nat.le_refl _) _, fun i hi => absurd hi (Nat.not_lt_zero i)⟩
    case round =>
      obtain ⟨k, hk, rfl, hov, hnx, hall⟩ := hrel
      have HO : Hid (ownV wr w.heap.size u9 (pickR r (ky.take k))) := hov
      have HAL : Hid (∀ i, i < k → (kr.getD i default).k ≠ 0) := hall
      have hsz := hnx.size
      clear hov hall
      by_cases hlt : k < kn
      · obtain ⟨b, o, e, xk⟩ := HL.out k (by rw [HKN.out]; exact hlt)
        subst e
        have hpk := HP.out k hlt
        have HPKk := HPK.out k hlt
        have HAT := HKA.out k hlt
        obtain ⟨z, hz⟩ : ∃ z, ky.getD k 0 = z := ⟨_, rfl⟩
        rw [hz] at xk hpk HPKk HAT
        obtain ⟨zn, rfl⟩ := Int.eq_ofNat_of_zero_le hpk.1
        rw [Int.toNat_natCast] at HPKk HAT
        obtain ⟨b1, o1, e1, x1, x2, x3⟩ := HA.out zn (by rw [HM.out]; omega)
        subst e1
        have qk := cell_later hnx xk
        have q1 := cell_later hnx x1
        have q2 := cell_later hnx x2
        have q3 := cell_later hnx x3
        obtain ⟨⟨kv, nv, sv⟩, hcv⟩ : ∃ z, r.getD zn default = z := ⟨_, rfl⟩
        rw [hcv] at q1 q2 q3 HPKk HAT
        dsimp only at q1 q2 q3
        have HPK2 : Hid (pickR r (ky.take (k + 1)) = pickR r (ky.take k) ++ [⟨kv, nv, sv⟩]) := HPKk
        have HA2 : Hid (kr.getD k default = ⟨kv, nv, sv⟩) := HAT
        have i1 : (0 : Int) ≤ (k : Int) := by omega
        have i2 : (k : Int) < (kn : Int) := by omega
        have i3 : (0 : Int) ≤ (zn : Int) := by omega
        have i4 : (zn : Int) < (m : Int) := by omega
        have hpl := HPL.out k
        obtain ⟨pr, hpr⟩ : ∃ z, pickR r (ky.take k) = z := ⟨_, rfl⟩
        rw [hpr] at HO HPK2 hpl
        clear xk x1 x2 x3 hz hcv HPKk HAT hpk hpr
        by_cases hk0 : kv = 0
        · subst hk0
          have HX : Hid (hb = false) := by show hb = false; rw [HH.out, HNY.out k hlt (by rw [HA2.out])]; rfl
          have HY : Hid (ks = ⟨#[]⟩) := by show ks = _; rw [HKS.out, HX.out]; rfl
          go_wp2
          go_ret2
          exact ⟨ret_sb HY.out.symm HX.out.symm, hnx⟩
        · have hk' : (kv == 0) = false := by simpa using hk0
          have HS3 : Hid (∀ i, i < k + 1 → (kr.getD i default).k ≠ 0) := fun i hi => by
            rcases Nat.lt_succ_iff_lt_or_eq.1 hi with h1 | h1
            · exact HAL.out i h1
            · rw [h1, HA2.out]; exact hk0
          clear hk0
          go_wp2_with (at_builtin; refine append_cell rfl (.tmp 32) (.tmp 40) rfl w.heap.size u9 pr rfl wr HO.out ⟨kv, nv, sv⟩ wr.heap.size rfl rfl (by omega) hsz ?_; intro v2 w3 hown3 hgrow3)
          obtain ⟨ad2, c2, hv, _⟩ := own_form hown3
          have hbn := below_appendV hnx hsz HO.out hgrow3
          subst hv
          go_roundw
          case rel => exact ⟨k + 1, by omega, by go_num, by rw [HPK2.out]; exact hown3, hbn, HS3.out⟩
          case measure => simp [intOf]; omega
      · have HPEk := HPE.out k (by omega)
        have HNN : Hid (nullB kr = false) := HNO.out (fun i hi => HAL.out i (by omega))
        have HX : Hid (hb = true) := by show hb = true; rw [HH.out, HNN.out]; rfl
        have HY : Hid (ks = ⟨(encR kr).toArray⟩) := by show ks = _; rw [HKS.out, HX.out]; rfl
        obtain ⟨ad2, c2, hv, _⟩ := own_form HO.out
        rw [HPEk] at HO hv
        rw [HQ.out] at hv
        subst hv
        have HRW : Hid (vl.rowAt wr ad2 kr) := ownV_row (cap := c2) (base := w.heap.size) (by rw [HQ.out]; exact HO.out)
        have KK : Hid (Calls Try.prog 48 #[.slice ad2 kn c2] wr fun e w' => e = .returned (.string ⟨(encR kr).toArray⟩) ∧ Below wr.heap.size wr w') := by
          have := vl.rkey_any ad2 c2 kr wr HRW.out HKO.out
          rwa [HQ.out] at this
        obtain ⟨kb, hkb⟩ : ∃ z, (⟨(encR kr).toArray⟩ : ByteArray) = z := ⟨_, rfl⟩
        rw [hkb] at KK HY
        clear HPEk HPE HPK HPL hkb
        go_wp2_with fail
        refine KK.out.mono ?_
        rintro e w4 ⟨rfl, hb4⟩
        go_wp2
        go_ret2
        exact ⟨ret_sb HY.out.symm HX.out.symm, hnx.trans (hb4.mono hsz)⟩
end Go.Proofs.Ytibjihdeknndoaa.pl
