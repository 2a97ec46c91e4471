/- The document's GroupError. -/
import Derived.Test.YtcpanmaahhiioaaGreatMgBatJ
import Derived.Test.YtcpanmaahhiioaaGreatMgChgH
namespace Go.Proofs.YtcpanmaahhiioaaGreat.bt
open Go.ChangeShapes Go.WideShapes Go.ChangeAt Go.RowKit
open vl pl
set_option linter.unusedVariables false
set_option linter.unusedSimpArgs false
def anyE (f : Nat → Int) (e : Int) (k : Nat) : Bool := (List.range k).any fun i => f i == e
theorem anyE_succ (f : Nat → Int) (e : Int) (k : Nat) : anyE f e (k + 1) = (anyE f e k || (f k == e)) := by
  unfold anyE; rw [List.range_succ, List.any_append]; simp
theorem anyE_iff (f : Nat → Int) (e : Int) (k : Nat) : anyE f e k = true ↔ ∃ i, i < k ∧ f i = e := by
  unfold anyE; simp [List.any_eq_true]
theorem many_any (p : Pln) (v : List ch.Cnt) : manyB p v = !(anyE (fun i => fErr (cols p) (v.getD i default).r) 2 v.length) := by
  rw [Bool.eq_iff_iff]
  unfold manyB
  rw [allB_iff, Bool.not_eq_true', ← Bool.not_eq_true, anyE_iff]
  constructor
  · rintro h ⟨i, hi, e⟩
    have := of_decide_eq_true (h i hi)
    unfold fErr at e
    rw [if_neg (fun h => h this)] at e
    split at e <;> cases e
  · intro h i hi
    refine decide_eq_true (Classical.byContradiction fun hne => h ⟨i, hi, ?_⟩)
    show fErr _ _ = 2
    unfold fErr
    rw [if_pos hne]
theorem typ_any (p : Pln) (v : List ch.Cnt) (h : manyB p v = true) : typB p v = !(anyE (fun i => fErr (cols p) (v.getD i default).r) 5 v.length) := by
  unfold manyB at h
  rw [allB_iff] at h
  rw [Bool.eq_iff_iff]
  unfold typB
  rw [allB_iff, Bool.not_eq_true', ← Bool.not_eq_true, anyE_iff]
  constructor
  · rintro h2 ⟨i, hi, e⟩
    have e : fErr (cols p) (v.getD i default).r = 5 := e
    unfold fErr at e
    rw [if_neg (fun h3 => h3 (of_decide_eq_true (h i hi))), if_neg (by rw [h2 i hi]; decide)] at e
    cases e
  · intro h2 i hi
    cases ht : typedB (v.getD i default).r (cols p) with
    | true => rfl
    | false =>
      refine absurd ⟨i, hi, ?_⟩ h2
      show fErr _ _ = 5
      unfold fErr
      rw [if_neg (fun h3 => h3 (of_decide_eq_true (h i hi))), if_pos ht]
set_option maxRecDepth 10000 in
set_option maxHeartbeats 4000000 in
theorem groupError_any (p : Pln) (x : PA) (a : Option Addr) (ca : Nat) (v : List ch.Cnt) (w : World) (hp : planAt w p x) (h0 : planErr p = 0) (hl : v.length ≤ 9223372036854775807) (hv : ch.viewAt w a v) (hwv : ch.wfView v) :
    Calls Tryz.prog 16 #[planV p x, .slice a v.length ca] w fun e w' => e = .returned (.int .i64 (groupErr p v)) ∧ Below w.heap.size w w' := by
  have hf := cols_few h0
  have hs : 1 ≤ p.left.length ∧ 1 ≤ p.right.length := ⟨(planErr_ok h0).2.2.1.1.1.1, (planErr_ok h0).2.2.1.1.2.1.1⟩
  have hcl : (cols p).length ≤ 9223372036854775807 := by unfold cols; rw [List.length_append]; omega
  have K1 : Hid (∀ w1, Below w.heap.size w w1 → Calls Tryz.prog 57 #[.slice a v.length ca] w1 fun e w' => e = .returned (.int .i64 (ch.viewErr v)) ∧ Below w1.heap.size w1 w') := fun w1 hb => ch.checkView_any a ca v w1 (ch.viewAt_below hv hb) hwv hl
  have K2 : Hid (∀ w1, Below w.heap.size w w1 → Calls Tryz.prog 55 #[planV p x] w1 fun e w' => (∃ ad cap, e = .returned (.slice ad (cols p).length cap) ∧ intsAt w' ad (cols p)) ∧ Below w1.heap.size w1 w') := fun w1 hb => by
    refine (rtypes_any p x w1 (planAt_below hp hb) (by omega) (by omega) (by omega) (by omega)).mono ?_
    rintro e w' ⟨⟨ad, cap, he, ho⟩, hb'⟩
    exact ⟨⟨ad, cap, he, (ownI_at ho).1⟩, hb'⟩
  have K3 : Hid (∀ w1 k ra rc ad cp, k < v.length → vl.rowAt w1 ra (v.getD k default).r → intsAt w1 ad (cols p) → Calls Tryz.prog 58 #[.slice ad (cols p).length cp, .slice ra (v.getD k default).r.length rc] w1 fun e w' => e = .returned (.int .i64 (fErr (cols p) (v.getD k default).r)) ∧ Below w1.heap.size w1 w') := fun w1 k ra rc ad cp hk hr hi => fitsTypes_any ra ad rc cp _ _ w1 (ch.wfv_at hwv k hk).2.1 hcl hr hi
  have HK : Hid (groupErr p v = if p.grouped = false then 1 else if ch.viewErr v ≠ 0 then ch.viewErr v else if anyE (fun i => fErr (cols p) (v.getD i default).r) 2 v.length = true then 2 else if anyE (fun i => fErr (cols p) (v.getD i default).r) 5 v.length = true then 5 else 0) := by
    show groupErr p v = _
    unfold groupErr
    rw [if_neg (fun h => h h0)]
    congr 1
    congr 1
    rw [many_any]
    cases hm : anyE (fun i => fErr (cols p) (v.getD i default).r) 2 v.length with
    | true => rfl
    | false =>
      rw [typ_any p v (by rw [many_any, hm]; rfl)]
      cases anyE (fun i => fErr (cols p) (v.getD i default).r) 5 v.length <;> rfl
  have HS : Hid (∀ e k, anyE (fun i => fErr (cols p) (v.getD i default).r) e (k + 1) = (anyE (fun i => fErr (cols p) (v.getD i default).r) e k || (fErr (cols p) (v.getD k default).r == e))) := fun e k => anyE_succ _ e k
  have HZ : Hid (∀ e, anyE (fun i => fErr (cols p) (v.getD i default).r) e 0 = false) := fun e => rfl
  have HV : Hid (ch.viewAt w a v) := hv
  obtain ⟨AE, q1⟩ : ∃ f : Int → Nat → Bool, ∀ e k, anyE (fun i => fErr (cols p) (v.getD i default).r) e k = f e k := ⟨_, fun _ _ => rfl⟩
  obtain ⟨FE, q2⟩ : ∃ f : Nat → Int, ∀ k, fErr (cols p) (v.getD k default).r = f k := ⟨_, fun _ => rfl⟩
  simp only [q1] at HK HS HZ
  simp only [q2] at K3 HS
  obtain ⟨be, q3⟩ : ∃ z, groupErr p v = z := ⟨_, rfl⟩
  obtain ⟨ve, q4⟩ : ∃ z, ch.viewErr v = z := ⟨_, rfl⟩
  obtain ⟨cn, q5⟩ : ∃ z, (cols p).length = z := ⟨_, rfl⟩
  obtain ⟨cs, q6⟩ : ∃ z, cols p = z := ⟨_, rfl⟩
  simp only [q3, q4, q5, q6] at HK K1 K2 K3 ⊢
  obtain ⟨n, hn⟩ : ∃ n, v.length = n := ⟨_, rfl⟩
  have HN : Hid (v.length = n) := hn
  rw [hn] at hl K1 K3 HK ⊢
  clear q1 q2 q3 q4 q5 q6 hn hp h0 hv hwv hf hs hcl
  obtain ⟨kind, mode, low, high, size, limit, left, right, lkeys, rkeys, grouped, group, aggs⟩ := p
  obtain ⟨la, lc, rr, rc, lk, lkc, rk, rkc, g, gc, ag, ac⟩ := x
  unfold planV at K2 ⊢
  dsimp only at K2 HK ⊢
  obtain ⟨n6, h6⟩ : ∃ n, left.length = n := ⟨_, rfl⟩
  obtain ⟨n7, h7⟩ : ∃ n, right.length = n := ⟨_, rfl⟩
  obtain ⟨n8, h8⟩ : ∃ n, lkeys.length = n := ⟨_, rfl⟩
  obtain ⟨n9, h9⟩ : ∃ n, rkeys.length = n := ⟨_, rfl⟩
  obtain ⟨n11, h11⟩ : ∃ n, group.length = n := ⟨_, rfl⟩
  obtain ⟨n12, h12⟩ : ∃ n, aggs.length = n := ⟨_, rfl⟩
  simp only [h6, h7, h8, h9, h11, h12] at K2 ⊢
  clear h6 h7 h8 h9 h11 h12
  go_enter Tryz.func16, Tryz.ntmps16
  cases grouped with
  | false =>
    have HX : Hid (be = 1) := by rw [HK.out, if_pos rfl]; rfl
    clear HK
    go_wp2
    go_ret
    exact ⟨ret_int HX.out.symm, (Below.refl _ _).alloc (Nat.le_refl _) _⟩
  | true =>
    go_wp2_with fail
    generalize hW0 : (World.alloc w _) = W0
    have hb0 : Below w.heap.size w W0 := by rw [← hW0]; exact (Below.refl _ _).alloc (Nat.le_refl _) _
    have s0 : W0.cell? ⟨w.heap.size, 0, none⟩ = some (.int .i64 kind) := by subst hW0; go_simp
    have s1 : W0.cell? ⟨w.heap.size, 1, none⟩ = some (.int .i64 mode) := by subst hW0; go_simp
    have s2 : W0.cell? ⟨w.heap.size, 2, none⟩ = some (.int .i64 low) := by subst hW0; go_simp
    have s3 : W0.cell? ⟨w.heap.size, 3, none⟩ = some (.int .i64 high) := by subst hW0; go_simp
    have s4 : W0.cell? ⟨w.heap.size, 4, none⟩ = some (.int .i64 size) := by subst hW0; go_simp
    have s5 : W0.cell? ⟨w.heap.size, 5, none⟩ = some (.int .i64 limit) := by subst hW0; go_simp
    have s6 : W0.cell? ⟨w.heap.size, 6, none⟩ = some (.slice la n6 lc) := by subst hW0; go_simp
    have s7 : W0.cell? ⟨w.heap.size, 7, none⟩ = some (.slice rr n7 rc) := by subst hW0; go_simp
    have s8 : W0.cell? ⟨w.heap.size, 8, none⟩ = some (.slice lk n8 lkc) := by subst hW0; go_simp
    have s9 : W0.cell? ⟨w.heap.size, 9, none⟩ = some (.slice rk n9 rkc) := by subst hW0; go_simp
    have s10 : W0.cell? ⟨w.heap.size, 10, none⟩ = some (.bool true) := by subst hW0; go_simp
    have s11 : W0.cell? ⟨w.heap.size, 11, none⟩ = some (.slice g n11 gc) := by subst hW0; go_simp
    have s12 : W0.cell? ⟨w.heap.size, 12, none⟩ = some (.slice ag n12 ac) := by subst hW0; go_simp
    clear hW0
    refine (K1.out _ hb0).mono ?_
    rintro e w1 ⟨rfl, hb1⟩
    have hbn := hb0.trans (hb1.mono hb0.size)
    replace s0 := cell_later hb1 s0
    replace s1 := cell_later hb1 s1
    replace s2 := cell_later hb1 s2
    replace s3 := cell_later hb1 s3
    replace s4 := cell_later hb1 s4
    replace s5 := cell_later hb1 s5
    replace s6 := cell_later hb1 s6
    replace s7 := cell_later hb1 s7
    replace s8 := cell_later hb1 s8
    replace s9 := cell_later hb1 s9
    replace s10 := cell_later hb1 s10
    replace s11 := cell_later hb1 s11
    replace s12 := cell_later hb1 s12
    by_cases hve : ve = 0
    case neg =>
      have hve' : (ve != 0) = true := by simpa using hve
      have HX : Hid (be = ve) := by rw [HK.out, if_neg (by decide), if_pos hve]; rfl
      clear HK hve
      go_wp2
      go_ret
      exact ⟨ret_int HX.out.symm, hbn⟩
    subst hve
    have HK2 : Hid (be = if AE 2 n = true then 2 else if AE 5 n = true then 5 else 0) := by rw [HK.out]; show (if _ then _ else _) = _; simp
    clear HK
    go_wp2_with fail
    refine (K2.out _ hbn).mono ?_
    rintro e W2 ⟨⟨cad, cc, rfl, hci⟩, hb2⟩
    have HCI : Hid (intsAt W2 cad cs) := hci
    have hbm := hbn.trans (hb2.mono hbn.size)
    clear hci
    go_wp2
    go_loopw [7, 8, 9] (fun m t i wr => ∃ k : Nat, k ≤ n ∧ i = .int .i64 k ∧ m = .bool (AE 2 k) ∧ t = .bool (AE 5 k) ∧ Below W2.heap.size W2 wr) (fun _ _ i _ => n - (intOf i).toNat)
    case atStart => exact ⟨0, Nat.zero_le _, rfl, by rw [HZ.out], by rw [HZ.out], Below.refl _ _⟩
    case round =>
      obtain ⟨k, hk, rfl, rfl, rfl, hnx⟩ := hrel
      have hbr := hbm.trans (hnx.mono hbm.size)
      by_cases hlt : k < n
      · obtain ⟨b, o, ra, rc2, e, x1, x2, x3⟩ := HV.out k (by rw [HN.out]; exact hlt)
        subst e
        have q1 := cell_later hbr x1
        have i1 : (0 : Int) ≤ (k : Int) := by omega
        have i2 : (k : Int) < (n : Int) := by omega
        have KF : Hid (Calls Tryz.prog 58 _ wr _) := K3.out wr k ra rc2 cad cc hlt (rowAt_below x2 hbr) (intsAt_below HCI.out hnx)
        have H2 : Hid (AE 2 (k + 1) = (AE 2 k || (FE k == 2))) := HS.out 2 k
        have H5 : Hid (AE 5 (k + 1) = (AE 5 k || (FE k == 5))) := HS.out 5 k
        obtain ⟨fe, hfe⟩ : ∃ z, FE k = z := ⟨_, rfl⟩
        obtain ⟨rl, hrl⟩ : ∃ z, (v.getD k default).r.length = z := ⟨_, rfl⟩
        rw [hfe] at KF H2 H5
        rw [hrl] at KF q1
        clear hfe hrl x1 x2 x3
        obtain ⟨m2, hm2⟩ : ∃ z, AE 2 k = z := ⟨_, rfl⟩
        obtain ⟨m5, hm5⟩ : ∃ z, AE 5 k = z := ⟨_, rfl⟩
        rw [hm2] at H2 ⊢
        rw [hm5] at H5 ⊢
        clear hm2 hm5
        cases m2 <;> cases m5
        all_goals
          go_wp2_with (go_at_call 58; refine KF.out.mono ?_; rintro e w3 ⟨rfl, hb3⟩)
          go_roundw
          case rel => exact ⟨k + 1, by omega, by go_num, by rw [H2.out]; first | rfl | simp, by rw [H5.out]; first | rfl | simp, hnx.trans (hb3.mono hnx.size)⟩
          case measure => simp [intOf]; omega
      · have hkn : k = n := by omega
        subst hkn
        cases ha : AE 2 k with
        | true =>
          have HX : Hid (be = 2) := by rw [HK2.out, ha]; rfl
          clear HK2
          go_wp2
          go_ret
          exact ⟨ret_int HX.out.symm, hbr⟩
        | false =>
          cases hb : AE 5 k with
          | true =>
            have HX : Hid (be = 5) := by rw [HK2.out, ha, hb]; rfl
            clear HK2
            go_wp2
            go_ret
            exact ⟨ret_int HX.out.symm, hbr⟩
          | false =>
            have HX : Hid (be = 0) := by rw [HK2.out, ha, hb]; rfl
            clear HK2
            go_wp2
            go_ret
            exact ⟨ret_int HX.out.symm, hbr⟩
end Go.Proofs.YtcpanmaahhiioaaGreat.bt
