/- checkChanges: what keeps changes from being done to groups. -/
import Derived.Test.YtbfbgdinhiglaaaGreatGrpForm2
import Derived.Test.YtbfbgdinhiglaaaGreatMgChgB
import Derived.Test.YtbfbgdinhiglaaaGreatMgChgD
namespace Go.Proofs.YtbfbgdinhiglaaaGreat.gr
open Go.ChangeShapes Go.WideShapes Go.ChangeAt Go.RowKit
open vl pl bt
set_option linter.unusedVariables false
set_option linter.unusedSimpArgs false
attribute [local go_sem] Oper.semAt_some
theorem form3_any (a : Option Addr) (cap : Nat) (l : List ch.Chg) (w : World) (hv : ch.chgsAt w a l) (hw : ch.wfChgs l) (hl : l.length ≤ 9223372036854775807) :
    Calls Tryz.prog 19 #[.slice a l.length cap] w fun e w' => e = .returned (.int .i64 (ch.formErr l)) ∧ Below w.heap.size w w' := by
  have KK := ch.keysOf_any a cap l w hv hw hl
  obtain ⟨n, hn⟩ : ∃ n, l.length = n := ⟨_, rfl⟩
  rw [hn] at KK
  rw [hn]
  go_enter Tryz.func19, Tryz.ntmps19
  go_wp2_with fail
  refine KK.mono ?_
  rintro e w1 ⟨hres, hb⟩
  rcases hres with ⟨h1, _, ad, c, rfl, _⟩ | ⟨_, rfl⟩
  · go_wp2
    go_ret
    exact ⟨ch.ret_ferr h1.symm, hb⟩
  · go_wp2
    go_ret
    exact ⟨rfl, hb⟩
set_option maxRecDepth 100000 in
set_option maxHeartbeats 1000000 in
theorem rowRight_any (ra ca : Option Addr) (rc cc : Nat) (r : List Cel) (cs : List Int) (w : World) (hrl : r.length ≤ 9223372036854775807) (hcl : cs.length ≤ 1000) (hr : vl.rowAt w ra r) (hcs : intsAt w ca cs) :
    Calls Tryz.prog 80 #[.slice ra r.length rc, .slice ca cs.length cc] w fun e w' => e = .returned (.int .i64 (fErr cs r)) ∧ Below w.heap.size w w' := by
  have KT : Hid (∀ w1, Below w.heap.size w w1 → Calls Tryz.prog 75 #[.slice ra r.length rc, .slice ca cs.length cc] w1 fun e w' => e = .returned (.bool (typedB r cs)) ∧ Below w1.heap.size w1 w') := fun w1 hb => typed_any ra ca rc cc r cs w1 hrl (by omega) (vl.rowAt_below hr hb) (intsAt_below hcs hb)
  obtain ⟨R, hR⟩ : ∃ z, fErr cs r = z := ⟨_, rfl⟩
  have HR : Hid (fErr cs r = R) := hR
  unfold fErr at HR
  rw [hR]
  obtain ⟨n, hn⟩ : ∃ n, r.length = n := ⟨_, rfl⟩
  obtain ⟨m, hm⟩ : ∃ n, cs.length = n := ⟨_, rfl⟩
  obtain ⟨T, hT⟩ : ∃ n, typedB r cs = n := ⟨_, rfl⟩
  rw [hn, hm, hT] at HR KT
  rw [hn, hm]
  rw [hn] at hrl
  rw [hm] at hcl
  clear hR hn hm hT hr hcs
  go_enter Tryz.func80, Tryz.ntmps80
  by_cases h1 : n = m
  · subst h1
    have h1' : ((n : Int) != (n : Int)) = false := by simp
    cases T with
    | true =>
      have HE : Hid (0 = R) := by show _ = _; rw [← HR.out]; simp
      go_wp2_with (go_at_call 75; refine (KT.out _ (Below.refl _ _)).mono ?_; rintro e w1 ⟨rfl, hb1⟩)
      go_ret
      exact ⟨ret_int HE.out, hb1⟩
    | false =>
      have HE : Hid (5 = R) := by show _ = _; rw [← HR.out]; simp
      go_wp2_with (go_at_call 75; refine (KT.out _ (Below.refl _ _)).mono ?_; rintro e w1 ⟨rfl, hb1⟩)
      go_ret
      exact ⟨ret_int HE.out, hb1⟩
  · have h1' : ((n : Int) != (m : Int)) = true := by simp; omega
    have HE : Hid (2 = R) := by show _ = _; rw [← HR.out]; simp [h1]
    go_wp2
    go_ret
    exact ⟨ret_int HE.out, Below.refl _ _⟩
/-- what keeps changes from being done to a plan's groups -/
noncomputable def chgsErr (p : Pln) (l : List ch.Chg) : Int := if ch.formErr l ≠ 0 then ch.formErr l else ch.first (fun i => fErr (cols p) (l.getD i default).r) l.length
set_option maxRecDepth 100000 in
set_option maxHeartbeats 8000000 in
theorem checkChanges_any (p : Pln) (x : PA) (a : Option Addr) (cap : Nat) (l : List ch.Chg) (w : World) (h0 : planErr p = 0) (hp : planAt w p x) (hv : ch.chgsAt w a l) (hw : ch.wfChgs l) (hl : l.length ≤ 9223372036854775807) :
    Calls Tryz.prog 37 #[planV p x, .slice a l.length cap] w fun e w' => e = .returned (.int .i64 (chgsErr p l)) ∧ Below w.heap.size w w' := by
  have hf := few_ok h0
  have hcl : (cols p).length ≤ 800 := by unfold cols; rw [List.length_append]; omega
  have KF : Hid (∀ w1, Below w.heap.size w w1 → Calls Tryz.prog 19 #[.slice a l.length cap] w1 fun e w' => e = .returned (.int .i64 (ch.formErr l)) ∧ Below w1.heap.size w1 w') := fun w1 hb => form3_any a cap l w1 (ch.chgsAt_below hv hb) hw hl
  have KJ : Hid (∀ w1, Below w.heap.size w w1 → Calls Tryz.prog 72 #[planV p x] w1 fun e w' => (∃ ad cap, e = .returned (.slice ad (cols p).length cap) ∧ intsAt w' ad (cols p)) ∧ Below w1.heap.size w1 w') := fun w1 hb =>
    (joined_any p x w1 (planAt_below hp hb) hf.1.1 hf.2.1 (by omega) (by omega)).mono (fun e w' ⟨⟨ad, cp, h1, h2⟩, h3⟩ => ⟨⟨ad, cp, h1, (ownI_at h2).1⟩, h3⟩)
  have HC : Hid (∀ i, i < l.length → ∃ b off ra rc, a = some ⟨b, off, none⟩ ∧ w.cell? ⟨b, off + i * 2, none⟩ = some (.int .i64 (l.getD i default).k) ∧ w.cell? ⟨b, off + i * 2 + 1, none⟩ = some (.slice ra (l.getD i default).r.length rc) ∧ vl.rowAt w ra (l.getD i default).r ∧ (l.getD i default).r.length ≤ 9223372036854775807) := fun i hi => by
    obtain ⟨b, o, ra, rc, e, x1, x2, x3⟩ := hv i hi
    exact ⟨b, o, ra, rc, e, x1, x2, x3, (ch.wfc_at hw i hi).2.1⟩
  obtain ⟨R, hR⟩ : ∃ z, chgsErr p l = z := ⟨_, rfl⟩
  have HR : Hid (chgsErr p l = R) := hR
  unfold chgsErr at HR
  rw [hR]
  clear hR hw hv hf h0
  obtain ⟨FE, hFE⟩ : ∃ z, ch.formErr l = z := ⟨_, rfl⟩
  rw [hFE] at KF HR
  obtain ⟨CO, hCO⟩ : ∃ z, cols p = z := ⟨_, rfl⟩
  rw [hCO] at KJ HR hcl
  obtain ⟨cn, hcn⟩ : ∃ z, CO.length = z := ⟨_, rfl⟩
  have HCN : Hid (CO.length = cn) := hcn
  obtain ⟨n, hn⟩ : ∃ z, l.length = z := ⟨_, rfl⟩
  rw [hn] at KF HR HC hl ⊢
  rw [hcn] at KJ hcl
  clear hFE hCO hcn hn hp
  obtain ⟨kind, mode, low, high, size, limit, left, right, lkeys, rkeys, grouped, group, aggs⟩ := p
  obtain ⟨la, lc, rr, rc, lk, lkc, rk, rkc, ga, gc, ag, ac⟩ := x
  unfold planV at KJ ⊢
  dsimp only at KJ ⊢
  obtain ⟨n6, h6⟩ : ∃ n, left.length = n := ⟨_, rfl⟩
  obtain ⟨n7, h7⟩ : ∃ n, right.length = n := ⟨_, rfl⟩
  obtain ⟨n8, h8⟩ : ∃ n, lkeys.length = n := ⟨_, rfl⟩
  obtain ⟨n9, h9⟩ : ∃ n, rkeys.length = n := ⟨_, rfl⟩
  obtain ⟨n11, h11⟩ : ∃ n, group.length = n := ⟨_, rfl⟩
  obtain ⟨n12, h12⟩ : ∃ n, aggs.length = n := ⟨_, rfl⟩
  simp only [h6, h7, h8, h9, h11, h12] at KJ ⊢
  clear h6 h7 h8 h9 h11 h12
  go_enter Tryz.func37, Tryz.ntmps37
  go_wp2_with fail
  generalize hV : (World.alloc w _) = V
  have hb0 : Below w.heap.size w V := by rw [← hV]; exact (Below.refl _ _).alloc (Nat.le_refl _) _
  have v0 : V.cell? ⟨w.heap.size, 0, none⟩ = some (.int .i64 kind) := by subst hV; go_simp
  have v1 : V.cell? ⟨w.heap.size, 1, none⟩ = some (.int .i64 mode) := by subst hV; go_simp
  have v2 : V.cell? ⟨w.heap.size, 2, none⟩ = some (.int .i64 low) := by subst hV; go_simp
  have v3 : V.cell? ⟨w.heap.size, 3, none⟩ = some (.int .i64 high) := by subst hV; go_simp
  have v4 : V.cell? ⟨w.heap.size, 4, none⟩ = some (.int .i64 size) := by subst hV; go_simp
  have v5 : V.cell? ⟨w.heap.size, 5, none⟩ = some (.int .i64 limit) := by subst hV; go_simp
  have v6 : V.cell? ⟨w.heap.size, 6, none⟩ = some (.slice la n6 lc) := by subst hV; go_simp
  have v7 : V.cell? ⟨w.heap.size, 7, none⟩ = some (.slice rr n7 rc) := by subst hV; go_simp
  have v8 : V.cell? ⟨w.heap.size, 8, none⟩ = some (.slice lk n8 lkc) := by subst hV; go_simp
  have v9 : V.cell? ⟨w.heap.size, 9, none⟩ = some (.slice rk n9 rkc) := by subst hV; go_simp
  have v10 : V.cell? ⟨w.heap.size, 10, none⟩ = some (.bool grouped) := by subst hV; go_simp
  have v11 : V.cell? ⟨w.heap.size, 11, none⟩ = some (.slice ga n11 gc) := by subst hV; go_simp
  have v12 : V.cell? ⟨w.heap.size, 12, none⟩ = some (.slice ag n12 ac) := by subst hV; go_simp
  clear hV
  refine (KF.out _ hb0).mono ?_
  rintro e w1 ⟨rfl, hb1⟩
  have hbw : Below w.heap.size w w1 := hb0.trans (hb1.mono hb0.size)
  replace v0 := cell_later hb1 v0
  replace v1 := cell_later hb1 v1
  replace v2 := cell_later hb1 v2
  replace v3 := cell_later hb1 v3
  replace v4 := cell_later hb1 v4
  replace v5 := cell_later hb1 v5
  replace v6 := cell_later hb1 v6
  replace v7 := cell_later hb1 v7
  replace v8 := cell_later hb1 v8
  replace v9 := cell_later hb1 v9
  replace v10 := cell_later hb1 v10
  replace v11 := cell_later hb1 v11
  replace v12 := cell_later hb1 v12
  clear hb1 hb0 KF
  by_cases h0 : FE = 0
  · subst h0
    have HR2 : Hid (ch.first (fun i => fErr CO (l.getD i default).r) n = R) := by have := HR.out; rw [if_neg (by simp)] at this; exact this
    clear HR
    go_wp2_with (go_at_call 72; refine (KJ.out _ hbw).mono ?_; rintro e w2 ⟨⟨ca, cc, rfl, hci⟩, hb2⟩; have hbw2 := hbw.trans (hb2.mono hbw.size))
    have HCI : Hid (intsAt w2 ca CO) := hci
    clear hci KJ
    go_loopw [19] (fun t wr => ∃ k : Nat, k ≤ n ∧ t = .int .i64 k ∧ Below w2.heap.size w2 wr ∧ ∀ i, i < k → fErr CO (l.getD i default).r = 0) (fun t _ => n - (intOf t).toNat)
    case atStart => exact ⟨0, Nat.zero_le _, rfl, Below.refl _ _, fun i hi => absurd hi (Nat.not_lt_zero i)⟩
    case round =>
      obtain ⟨k, hk, rfl, hnx, hall⟩ := hrel
      have HA : Hid (∀ i, i < k → fErr CO (l.getD i default).r = 0) := hall
      clear hall
      have hbr : Below w.heap.size w wr := hbw2.trans (hnx.mono hbw2.size)
      by_cases hlt : k < n
      · obtain ⟨b, o, ra, rc', e, x1, x2, x3, x4⟩ := HC.out k hlt
        subst e
        have q1 := cell_later hbr x1
        have q2 := cell_later hbr x2
        have KR : Hid (∀ w1, Below wr.heap.size wr w1 → Calls Tryz.prog 80 #[.slice ra (l.getD k default).r.length rc', .slice ca cn cc] w1 fun e w' => e = .returned (.int .i64 (fErr CO (l.getD k default).r)) ∧ Below w1.heap.size w1 w') := fun w1 hb => by
          have := rowRight_any ra ca rc' cc (l.getD k default).r CO w1 x4 (by rw [HCN.out]; omega) (vl.rowAt_below x3 (hbr.trans (hb.mono hbr.size))) (intsAt_below HCI.out (hnx.trans (hb.mono hnx.size)))
          rw [HCN.out] at this
          exact this
        have i1 : (0 : Int) ≤ (k : Int) := by omega
        have i2 : (k : Int) < (n : Int) := by omega
        obtain ⟨E, hE⟩ : ∃ z, fErr CO (l.getD k default).r = z := ⟨_, rfl⟩
        have HE0 : Hid (fErr CO (l.getD k default).r = E) := hE
        rw [hE] at KR
        obtain ⟨kk, hkk⟩ : ∃ z, (l.getD k default).k = z := ⟨_, rfl⟩
        obtain ⟨rl, hrl⟩ : ∃ z, (l.getD k default).r.length = z := ⟨_, rfl⟩
        rw [hkk] at q1
        rw [hrl] at q2 KR
        clear x1 x2 x3 x4 hE hkk hrl
        have hsz := hnx.size
        by_cases hz : E = 0
        · subst hz
          go_wp2_with (go_at_call 80; refine (KR.out _ ((Below.refl _ _).alloc (Nat.le_refl _) _)).mono ?_; rintro e w5 ⟨rfl, hb5⟩; have hbx : Below w2.heap.size w2 w5 := (hnx.alloc hsz _).trans (hb5.mono (by simp; omega)))
          go_roundw
          case rel => exact ⟨k + 1, by omega, by go_num, hbx, fun i hi => by
            rcases Nat.lt_succ_iff_lt_or_eq.1 hi with h | h
            · exact HA.out i h
            · rw [h]; exact HE0.out⟩
          case measure => simp [intOf]; omega
        · have hz' : (E != 0) = true := by simpa using hz
          have HE : Hid (E = R) := by show _ = _; rw [← HR2.out, ch.first_is n HA.out (by rw [HE0.out]; exact hz) hlt, HE0.out]
          go_wp2_with (go_at_call 80; refine (KR.out _ ((Below.refl _ _).alloc (Nat.le_refl _) _)).mono ?_; rintro e w5 ⟨rfl, hb5⟩; have hbx : Below w2.heap.size w2 w5 := (hnx.alloc hsz _).trans (hb5.mono (by simp; omega)))
          go_ret
          exact ⟨ret_int HE.out, hbw2.trans (hbx.mono hbw2.size)⟩
      · have HE : Hid (0 = R) := by show _ = _; rw [← HR2.out, ch.first_zero (fun i hi => HA.out i (by omega))]
        go_wp2
        go_ret
        exact ⟨ret_int HE.out, hbr⟩
  · have h0' : (FE != 0) = true := by simpa using h0
    have HE : Hid (FE = R) := by show _ = _; rw [← HR.out, if_pos h0]
    go_wp2
    go_ret
    exact ⟨ret_int HE.out, hbw⟩
end Go.Proofs.YtbfbgdinhiglaaaGreat.gr
