/- Several texts in one: BatErr. -/
import Derived.Test.YtcpanmaahhiioaaGreatMgBatA
import Derived.Test.YtcpanmaahhiioaaGreatMgBatB
import Derived.Deep.RegionHeld3
/- The document's BatchError. -/
namespace Go.Proofs.YtcpanmaahhiioaaGreat.bt
open Go.ChangeShapes Go.WideShapes Go.ChangeAt Go.RowKit
open vl pl
set_option linter.unusedVariables false
set_option linter.unusedSimpArgs false
theorem fitsB_no {l : List Stm} {k : Nat} (hk : k < l.length) (h : tm.fitB (l.getD k default).t = false) : fitsB l = false := by
  unfold fitsB; exact allB_no hk h
theorem fitsB_yes {l : List Stm} (h : ∀ k, k < l.length → tm.fitB (l.getD k default).t = true) : fitsB l = true := by
  unfold fitsB; exact allB_iff.2 h
set_option maxRecDepth 100000 in
set_option maxHeartbeats 8000000 in
theorem batchError_any (p : Pln) (x : PA) (a1 a2 : Option Addr) (c1 c2 : Nat) (L R : List Stm) (w : World) (hw : wfPlan p) (hp : planAt w p x) (hl1 : L.length ≤ 9223372036854775807) (hl2 : R.length ≤ 9223372036854775807) (h1 : stmsAt w a1 L) (h2 : stmsAt w a2 R) (hL : wfStms L) (hR : wfStms R) :
    Calls Tryz.prog 10 #[planV p x, .slice a1 L.length c1, .slice a2 R.length c2] w fun e w' => e = .returned (.int .i64 (batchErr p L R)) ∧ Below w.heap.size w w' := by
  have K0 : Hid (∀ w1, Below w.heap.size w w1 → Calls Tryz.prog 15 #[planV p x] w1 fun e w' => e = .returned (.int .i64 (planErr p)) ∧ Below w1.heap.size w1 w') := fun w1 hb => checkPlan_any p x w1 hw (planAt_below hp hb)
  have K1 : Hid (planErr p = 0 → ∀ w1 k ra rc, k < L.length → Below w.heap.size w w1 → vl.rowAt w1 ra (L.getD k default).r → Calls Tryz.prog 32 #[planV p x, .int .i64 1, .slice ra (L.getD k default).r.length rc] w1 fun e w' => e = .returned (.int .i64 (rErr p 1 (L.getD k default).r)) ∧ Below w1.heap.size w1 w') := fun h0 w1 k ra rc hk hb hr => by
    have hh := wfs_at hL k hk
    exact rowError_any p x 1 ra rc _ w1 hw (planAt_below hp hb) h0 hr hh.1 hh.2.1
  have K2 : Hid (planErr p = 0 → ∀ w1 k ra rc, k < R.length → Below w.heap.size w w1 → vl.rowAt w1 ra (R.getD k default).r → Calls Tryz.prog 32 #[planV p x, .int .i64 2, .slice ra (R.getD k default).r.length rc] w1 fun e w' => e = .returned (.int .i64 (rErr p 2 (R.getD k default).r)) ∧ Below w1.heap.size w1 w') := fun h0 w1 k ra rc hk hb hr => by
    have hh := wfs_at hR k hk
    exact rowError_any p x 2 ra rc _ w1 hw (planAt_below hp hb) h0 hr hh.1 hh.2.1
  have HK : Hid (batchErr p L R = if planErr p ≠ 0 then planErr p else if 120 < L.length + R.length then 2 else if fitsB L = false ∨ fitsB R = false then 3 else if firstErr p 1 L ≠ 0 then firstErr p 1 L else firstErr p 2 R) := rfl
  have N1 : Hid (∀ k, k < L.length → tm.fitB (L.getD k default).t = false → fitsB L = false) := fun k hk h => fitsB_no hk h
  have N2 : Hid (∀ k, k < R.length → tm.fitB (R.getD k default).t = false → fitsB R = false) := fun k hk h => fitsB_no hk h
  have Y1 : Hid ((∀ k, k < L.length → tm.fitB (L.getD k default).t = true) → fitsB L = true) := fitsB_yes
  have Y2 : Hid ((∀ k, k < R.length → tm.fitB (R.getD k default).t = true) → fitsB R = true) := fitsB_yes
  have E1 : Hid (∀ k, k < L.length → (∀ i, i < k → rErr p 1 (L.getD i default).r = 0) → rErr p 1 (L.getD k default).r ≠ 0 → firstErr p 1 L = rErr p 1 (L.getD k default).r) := fun k hk h hne => firstErr_at hk h hne
  have E2 : Hid (∀ k, k < R.length → (∀ i, i < k → rErr p 2 (R.getD i default).r = 0) → rErr p 2 (R.getD k default).r ≠ 0 → firstErr p 2 R = rErr p 2 (R.getD k default).r) := fun k hk h hne => firstErr_at hk h hne
  have Z1 : Hid ((∀ i, i < L.length → rErr p 1 (L.getD i default).r = 0) → firstErr p 1 L = 0) := fun h => firstErr_end (Nat.le_refl _) h
  have Z2 : Hid ((∀ i, i < R.length → rErr p 2 (R.getD i default).r = 0) → firstErr p 2 R = 0) := fun h => firstErr_end (Nat.le_refl _) h
  have A1 : Hid (∀ i, i < L.length → ∃ b off ra rc, a1 = some ⟨b, off, none⟩ ∧ w.cell? ⟨b, off + i * 2, none⟩ = some (.int .i64 (L.getD i default).t) ∧ w.cell? ⟨b, off + i * 2 + 1, none⟩ = some (.slice ra (L.getD i default).r.length rc) ∧ vl.rowAt w ra (L.getD i default).r) := h1
  have A2 : Hid (∀ i, i < R.length → ∃ b off ra rc, a2 = some ⟨b, off, none⟩ ∧ w.cell? ⟨b, off + i * 2, none⟩ = some (.int .i64 (R.getD i default).t) ∧ w.cell? ⟨b, off + i * 2 + 1, none⟩ = some (.slice ra (R.getD i default).r.length rc) ∧ vl.rowAt w ra (R.getD i default).r) := h2
  obtain ⟨r1, e1⟩ : ∃ f : Nat → List Cel, ∀ k, (L.getD k default).r = f k := ⟨_, fun _ => rfl⟩
  obtain ⟨r2, e2⟩ : ∃ f : Nat → List Cel, ∀ k, (R.getD k default).r = f k := ⟨_, fun _ => rfl⟩
  obtain ⟨t1, e3⟩ : ∃ f : Nat → Int, ∀ k, (L.getD k default).t = f k := ⟨_, fun _ => rfl⟩
  obtain ⟨t2, e4⟩ : ∃ f : Nat → Int, ∀ k, (R.getD k default).t = f k := ⟨_, fun _ => rfl⟩
  simp only [e1, e2, e3, e4] at K1 K2 N1 N2 Y1 Y2 E1 E2 Z1 Z2 A1 A2
  obtain ⟨x1, e5⟩ : ∃ f : Nat → Int, ∀ k, rErr p 1 (r1 k) = f k := ⟨_, fun _ => rfl⟩
  obtain ⟨x2, e6⟩ : ∃ f : Nat → Int, ∀ k, rErr p 2 (r2 k) = f k := ⟨_, fun _ => rfl⟩
  simp only [e5, e6] at K1 K2 E1 E2 Z1 Z2
  obtain ⟨be, e7⟩ : ∃ z, batchErr p L R = z := ⟨_, rfl⟩
  obtain ⟨pe, e8⟩ : ∃ z, planErr p = z := ⟨_, rfl⟩
  obtain ⟨f1, e9⟩ : ∃ z, fitsB L = z := ⟨_, rfl⟩
  obtain ⟨f2, e10⟩ : ∃ z, fitsB R = z := ⟨_, rfl⟩
  obtain ⟨g1, e11⟩ : ∃ z, firstErr p 1 L = z := ⟨_, rfl⟩
  obtain ⟨g2, e12⟩ : ∃ z, firstErr p 2 R = z := ⟨_, rfl⟩
  simp only [e7, e8, e9, e10, e11, e12] at HK K0 K1 K2 N1 N2 Y1 Y2 E1 E2 Z1 Z2 ⊢
  obtain ⟨n1, e13⟩ : ∃ z, L.length = z := ⟨_, rfl⟩
  obtain ⟨n2, e14⟩ : ∃ z, R.length = z := ⟨_, rfl⟩
  simp only [e13, e14] at HK K1 K2 N1 N2 Y1 Y2 E1 E2 Z1 Z2 A1 A2 hl1 hl2 ⊢
  clear e1 e2 e3 e4 e5 e6 e7 e8 e9 e10 e11 e12 e13 e14 hw hp h1 h2 hL hR
  obtain ⟨kind, mode, low, high, size, limit, left, right, lkeys, rkeys, grouped, group, aggs⟩ := p
  obtain ⟨la, lc, rr, rc, lk, lkc, rk, rkc, g, gc, ag, ac⟩ := x
  unfold planV at K0 K1 K2 ⊢
  dsimp only at K0 K1 K2 ⊢
  obtain ⟨n6, h6⟩ : ∃ n, left.length = n := ⟨_, rfl⟩
  obtain ⟨n7, h7⟩ : ∃ n, right.length = n := ⟨_, rfl⟩
  obtain ⟨n8, h8⟩ : ∃ n, lkeys.length = n := ⟨_, rfl⟩
  obtain ⟨n9, h9⟩ : ∃ n, rkeys.length = n := ⟨_, rfl⟩
  obtain ⟨n11, h11⟩ : ∃ n, group.length = n := ⟨_, rfl⟩
  obtain ⟨n12, h12⟩ : ∃ n, aggs.length = n := ⟨_, rfl⟩
  simp only [h6, h7, h8, h9, h11, h12] at K0 K1 K2 ⊢
  clear h6 h7 h8 h9 h11 h12
  go_enter Tryz.func10, Tryz.ntmps10
  go_wp2_with fail
  generalize hW0 : (World.alloc w _) = W0
  have hb0 : Below w.heap.size w W0 := by rw [← hW0]; exact (Below.refl _ _).alloc (Nat.le_refl _) _
  have s0 : W0.cell? ⟨w.heap.size, 0, none⟩ = some (.int .i64 kind) := by subst hW0; go_simp
  have s1 : W0.cell? ⟨w.heap.size, 1, none⟩ = some (.int .i64 mode) := by subst hW0; go_simp
  have s2 : W0.cell? ⟨w.heap.size, 2, none⟩ = some (.int .i64 low) := by subst hW0; go_simp
  have s3 : W0.cell? ⟨w.heap.size, 3, none⟩ = some (.int .i64 high) := by subst hW0; go_simp
  have s4 : W0.cell? ⟨w.heap.size, 4, none⟩ = some (.int .i64 size) := by subst hW0; go_simp
  have s5 : W0.cell? ⟨w.heap.size, 5, none⟩ = some (.int .i64 limit) := by subst hW0; go_simp
  have s6 : W0.cell? ⟨w.heap.size, 6, none⟩ = some (.slice la n6 lc) := by subst hW0; go_simp
  have s7 : W0.cell? ⟨w.heap.size, 7, none⟩ = some (.slice rr n7 rc) := by subst hW0; go_simp
  have s8 : W0.cell? ⟨w.heap.size, 8, none⟩ = some (.slice lk n8 lkc) := by subst hW0; go_simp
  have s9 : W0.cell? ⟨w.heap.size, 9, none⟩ = some (.slice rk n9 rkc) := by subst hW0; go_simp
  have s10 : W0.cell? ⟨w.heap.size, 10, none⟩ = some (.bool grouped) := by subst hW0; go_simp
  have s11 : W0.cell? ⟨w.heap.size, 11, none⟩ = some (.slice g n11 gc) := by subst hW0; go_simp
  have s12 : W0.cell? ⟨w.heap.size, 12, none⟩ = some (.slice ag n12 ac) := by subst hW0; go_simp
  clear hW0
  refine (K0.out _ hb0).mono ?_
  rintro e W1 ⟨rfl, hc1⟩
  have hbn := hb0.trans (hc1.mono hb0.size)
  replace s0 := cell_later hc1 s0
  replace s1 := cell_later hc1 s1
  replace s2 := cell_later hc1 s2
  replace s3 := cell_later hc1 s3
  replace s4 := cell_later hc1 s4
  replace s5 := cell_later hc1 s5
  replace s6 := cell_later hc1 s6
  replace s7 := cell_later hc1 s7
  replace s8 := cell_later hc1 s8
  replace s9 := cell_later hc1 s9
  replace s10 := cell_later hc1 s10
  replace s11 := cell_later hc1 s11
  replace s12 := cell_later hc1 s12
  by_cases hpe : pe = 0
  case neg =>
    have hpe' : (pe != 0) = true := by simpa using hpe
    have HX : Hid (be = pe) := by rw [HK.out, if_pos hpe]; rfl
    clear hpe HK
    go_wp2
    go_ret
    exact ⟨ret_int HX.out.symm, hbn⟩
  subst hpe
  have HK1 : Hid (be = if 120 < n1 + n2 then 2 else if f1 = false ∨ f2 = false then 3 else if g1 ≠ 0 then g1 else g2) := by rw [HK.out]; show (if _ then _ else _) = _; simp
  replace K1 := K1.out rfl
  replace K2 := K2.out rfl
  have KA : Hid (∀ w1 k ra rc, k < n1 → Below w.heap.size w w1 → vl.rowAt w1 ra (r1 k) → _) := K1
  have KB : Hid (∀ w1 k ra rc, k < n2 → Below w.heap.size w w1 → vl.rowAt w1 ra (r2 k) → _) := K2
  clear HK K0 K1 K2
  by_cases hm1 : 120 < n1
  · have hm' : (120 : Int) < (n1 : Int) := by omega
    have HX : Hid (be = 2) := by rw [HK1.out, if_pos (by omega)]; rfl
    clear HK1
    go_wp2
    go_ret
    exact ⟨ret_int HX.out.symm, hbn⟩
  have hmn : ¬ (120 : Int) < (n1 : Int) := by omega
  have hws : IntKind.i64.wrap (120 - (n1 : Int)) = 120 - (n1 : Int) := by rw [wrapN]; omega
  by_cases hm2 : 120 < n1 + n2
  · have hm' : (120 : Int) - (n1 : Int) < (n2 : Int) := by omega
    have HX : Hid (be = 2) := by rw [HK1.out, if_pos hm2]; rfl
    clear HK1
    go_wp2
    go_ret
    exact ⟨ret_int HX.out.symm, hbn⟩
  have hm' : ¬ (120 : Int) - (n1 : Int) < (n2 : Int) := by omega
  have HK2 : Hid (be = if f1 = false ∨ f2 = false then 3 else if g1 ≠ 0 then g1 else g2) := by rw [HK1.out, if_neg hm2]; rfl
  clear HK1
  go_wp2
  clear hws hm'
  go_loopw [8, 9, 10, 11, 12] (fun i _ _ _ _ wr => ∃ t : Nat, t ≤ 2 ∧ i = .int .i64 t ∧ (1 ≤ t → f1 = true ∧ f2 = true) ∧ (2 ≤ t → g1 = 0 ∧ g2 = 0) ∧ Below W1.heap.size W1 wr) (fun i _ _ _ _ _ => 2 - (intOf i).toNat)
  case atStart => exact ⟨0, by omega, rfl, fun h => absurd h (by omega), fun h => absurd h (by omega), Below.refl _ _⟩
  case round =>
    obtain ⟨t, ht, rfl, hA, hB, hnx⟩ := hrel
    have HA : Hid (1 ≤ t → f1 = true ∧ f2 = true) := hA
    have HB : Hid (2 ≤ t → g1 = 0 ∧ g2 = 0) := hB
    clear hA hB
    have h3 : t = 0 ∨ t = 1 ∨ t = 2 := by omega
    rcases h3 with rfl | rfl | rfl
    · go_wp2
      go_loopw [9, 10, 11, 12] (fun i _ _ _ wy => ∃ s : Nat, 1 ≤ s ∧ s ≤ 3 ∧ i = .int .i64 s ∧ (2 ≤ s → f1 = true) ∧ (3 ≤ s → f2 = true) ∧ Below W1.heap.size W1 wy) (fun i _ _ _ _ => 3 - (intOf i).toNat)
      case atStart => exact ⟨1, by omega, by omega, rfl, fun h => absurd h (by omega), fun h => absurd h (by omega), hnx⟩
      case round =>
        rename World => wy
        obtain ⟨s, hs1, hs2, rfl, hC, hD, hny⟩ := hrel
        have HC : Hid (2 ≤ s → f1 = true) := hC
        have HD : Hid (3 ≤ s → f2 = true) := hD
        clear hC hD
        have h3 : s = 1 ∨ s = 2 ∨ s = 3 := by omega
        rcases h3 with rfl | rfl | rfl
        · go_wp2
          go_loopw [11, 12] (fun i _ wk => ∃ k : Nat, k ≤ n1 ∧ i = .int .i64 k ∧ (∀ i, i < k → tm.fitB (t1 i) = true) ∧ Below W1.heap.size W1 wk) (fun i _ _ => n1 - (intOf i).toNat)
          case atStart => exact ⟨0, Nat.zero_le _, rfl, fun i hi => absurd hi (Nat.not_lt_zero i), hny⟩
          case round =>
            rename World => wk
            obtain ⟨k, hk, rfl, hall, hnk⟩ := hrel
            have HAL : Hid (∀ i, i < k → tm.fitB (t1 i) = true) := hall
            have hbk := hbn.trans (hnk.mono hbn.size)
            clear hall
            have c0 := cell_later hnk s0
            have c1 := cell_later hnk s1
            have c2 := cell_later hnk s2
            have c3 := cell_later hnk s3
            have c4 := cell_later hnk s4
            have c5 := cell_later hnk s5
            have c6 := cell_later hnk s6
            have c7 := cell_later hnk s7
            have c8 := cell_later hnk s8
            have c9 := cell_later hnk s9
            have c10 := cell_later hnk s10
            have c11 := cell_later hnk s11
            have c12 := cell_later hnk s12
            by_cases hlt : k < n1
            · obtain ⟨b, o, ra, rc2, e, y1, y2, y3⟩ := A1.out k hlt
              subst e
              have q1 := cell_later hbk y1
              have q2 := cell_later hbk y2
              have i1 : (0 : Int) ≤ (k : Int) := by omega
              have i2 : (k : Int) < (n1 : Int) := by omega
              have KR : Hid (∀ w1, Below wk.heap.size wk w1 → _) := fun w1 hb => KA.out w1 k ra rc2 hlt (hbk.trans (hb.mono hbk.size)) (rowAt_below (rowAt_below y3 hbk) hb)
              have HNO : Hid (_) := N1.out k hlt
              obtain ⟨tv, htv⟩ : ∃ z, t1 k = z := ⟨_, rfl⟩
              obtain ⟨rl, hrl⟩ : ∃ z, (r1 k).length = z := ⟨_, rfl⟩
              obtain ⟨xv, hxv⟩ : ∃ z, x1 k = z := ⟨_, rfl⟩
              have HLAST : Hid (tm.fitB (t1 k) = true → ∀ i, i < k + 1 → tm.fitB (t1 i) = true) := fun h i hi => by
                rcases Nat.lt_succ_iff_lt_or_eq.1 hi with h1 | h1
                · exact HAL.out i h1
                · rw [h1]; exact h
              rw [htv] at q1 HNO HLAST
              rw [hrl] at q2 KR
              rw [hxv] at KR 
              clear htv hrl hxv y1 y2 y3
              have dr : Below wk.heap.size wk wk.drew := (Below.refl _ _).drew
              obtain ⟨fv, hfv⟩ : ∃ z, tm.fitB tv = z := ⟨_, rfl⟩
              rw [hfv] at HNO HLAST
              have KF : Hid (∀ w1, Calls Tryz.prog 31 #[.int .i64 tv] w1 fun e w' => e = .returned (.bool fv) ∧ w' = w1) := fun w1 => by rw [← hfv]; exact tm.rfits_any tv w1
              clear hfv
              cases fv with
              | false =>
                have hno := HNO.out rfl
                have HX : Hid (be = 3) := by rw [HK2.out, if_pos (by simp [hno])]; rfl
                clear HK2 hno HNO HLAST
                go_wp2_with (go_at_call 31; refine (KF.out _).mono ?_; rintro e w9 ⟨rfl, hw9⟩; subst hw9)
                go_ret
                exact ⟨ret_int HX.out.symm, hbk⟩
              | true =>
                have HL2 := HLAST.out rfl
                have HL3 : Hid (∀ i, i < k + 1 → tm.fitB (t1 i) = true) := HL2
                clear HL2 HNO HLAST
                go_wp2_with (go_at_call 31; refine (KF.out _).mono ?_; rintro e w9 ⟨rfl, hw9⟩; subst hw9)
                go_region_held3 (fun w' => w'.cell? ⟨w.heap.size, 0, none⟩ = some (.int .i64 kind) ∧ w'.cell? ⟨w.heap.size, 1, none⟩ = some (.int .i64 mode) ∧ w'.cell? ⟨w.heap.size, 2, none⟩ = some (.int .i64 low) ∧ w'.cell? ⟨w.heap.size, 3, none⟩ = some (.int .i64 high) ∧ w'.cell? ⟨w.heap.size, 4, none⟩ = some (.int .i64 size) ∧ w'.cell? ⟨w.heap.size, 5, none⟩ = some (.int .i64 limit) ∧ w'.cell? ⟨w.heap.size, 6, none⟩ = some (.slice la n6 lc) ∧ w'.cell? ⟨w.heap.size, 7, none⟩ = some (.slice rr n7 rc) ∧ w'.cell? ⟨w.heap.size, 8, none⟩ = some (.slice lk n8 lkc) ∧ w'.cell? ⟨w.heap.size, 9, none⟩ = some (.slice rk n9 rkc) ∧ w'.cell? ⟨w.heap.size, 10, none⟩ = some (.bool grouped) ∧ w'.cell? ⟨w.heap.size, 11, none⟩ = some (.slice g n11 gc) ∧ w'.cell? ⟨w.heap.size, 12, none⟩ = some (.slice ag n12 ac) ∧ w'.cell? ⟨b, o + k * 2 + 1, none⟩ = some (.slice ra rl rc2)) (first | go_keep | exact ⟨cell_later hb8 c0, cell_later hb8 c1, cell_later hb8 c2, cell_later hb8 c3, cell_later hb8 c4, cell_later hb8 c5, cell_later hb8 c6, cell_later hb8 c7, cell_later hb8 c8, cell_later hb8 c9, cell_later hb8 c10, cell_later hb8 c11, cell_later hb8 c12, cell_later hb8 q2⟩)
                  (first | (go_at_call 32; refine (KR.out _ dr).mono ?_; rintro e w8 ⟨rfl, hb80⟩; have hb8 := dr.trans hb80))
                all_goals
                  go_wp2
                  refine ⟨Exists.intro u6 ?_, ?measure⟩
                  (repeat apply Exists.intro)
                  refine ⟨?rel, rfl⟩
                  case rel => exact ⟨k + 1, by omega, by go_num, HL3.out, hnk.trans (hb8.mono hnk.size)⟩
                  case measure => simp [intOf]; omega
            · have HF : Hid (f1 = true) := Y1.out (fun i hi => HAL.out i (by omega))
              go_wp2
              go_roundw
              case rel => exact ⟨2, by omega, by omega, by go_num, fun _ => HF.out, fun h => absurd h (by omega), hnk⟩
              case measure => simp [intOf]
        · go_wp2
          go_loopw [11, 12] (fun i _ wk => ∃ k : Nat, k ≤ n2 ∧ i = .int .i64 k ∧ (∀ i, i < k → tm.fitB (t2 i) = true) ∧ Below W1.heap.size W1 wk) (fun i _ _ => n2 - (intOf i).toNat)
          case atStart => exact ⟨0, Nat.zero_le _, rfl, fun i hi => absurd hi (Nat.not_lt_zero i), hny⟩
          case round =>
            rename World => wk
            obtain ⟨k, hk, rfl, hall, hnk⟩ := hrel
            have HAL : Hid (∀ i, i < k → tm.fitB (t2 i) = true) := hall
            have hbk := hbn.trans (hnk.mono hbn.size)
            clear hall
            have c0 := cell_later hnk s0
            have c1 := cell_later hnk s1
            have c2 := cell_later hnk s2
            have c3 := cell_later hnk s3
            have c4 := cell_later hnk s4
            have c5 := cell_later hnk s5
            have c6 := cell_later hnk s6
            have c7 := cell_later hnk s7
            have c8 := cell_later hnk s8
            have c9 := cell_later hnk s9
            have c10 := cell_later hnk s10
            have c11 := cell_later hnk s11
            have c12 := cell_later hnk s12
            by_cases hlt : k < n2
            · obtain ⟨b, o, ra, rc2, e, y1, y2, y3⟩ := A2.out k hlt
              subst e
              have q1 := cell_later hbk y1
              have q2 := cell_later hbk y2
              have i1 : (0 : Int) ≤ (k : Int) := by omega
              have i2 : (k : Int) < (n2 : Int) := by omega
              have KR : Hid (∀ w1, Below wk.heap.size wk w1 → _) := fun w1 hb => KB.out w1 k ra rc2 hlt (hbk.trans (hb.mono hbk.size)) (rowAt_below (rowAt_below y3 hbk) hb)
              have HNO : Hid (_) := N2.out k hlt
              obtain ⟨tv, htv⟩ : ∃ z, t2 k = z := ⟨_, rfl⟩
              obtain ⟨rl, hrl⟩ : ∃ z, (r2 k).length = z := ⟨_, rfl⟩
              obtain ⟨xv, hxv⟩ : ∃ z, x2 k = z := ⟨_, rfl⟩
              have HLAST : Hid (tm.fitB (t2 k) = true → ∀ i, i < k + 1 → tm.fitB (t2 i) = true) := fun h i hi => by
                rcases Nat.lt_succ_iff_lt_or_eq.1 hi with h1 | h1
                · exact HAL.out i h1
                · rw [h1]; exact h
              rw [htv] at q1 HNO HLAST
              rw [hrl] at q2 KR
              rw [hxv] at KR 
              clear htv hrl hxv y1 y2 y3
              have dr : Below wk.heap.size wk wk.drew := (Below.refl _ _).drew
              obtain ⟨fv, hfv⟩ : ∃ z, tm.fitB tv = z := ⟨_, rfl⟩
              rw [hfv] at HNO HLAST
              have KF : Hid (∀ w1, Calls Tryz.prog 31 #[.int .i64 tv] w1 fun e w' => e = .returned (.bool fv) ∧ w' = w1) := fun w1 => by rw [← hfv]; exact tm.rfits_any tv w1
              clear hfv
              cases fv with
              | false =>
                have hno := HNO.out rfl
                have HX : Hid (be = 3) := by rw [HK2.out, if_pos (by simp [hno])]; rfl
                clear HK2 hno HNO HLAST
                go_wp2_with (go_at_call 31; refine (KF.out _).mono ?_; rintro e w9 ⟨rfl, hw9⟩; subst hw9)
                go_ret
                exact ⟨ret_int HX.out.symm, hbk⟩
              | true =>
                have HL2 := HLAST.out rfl
                have HL3 : Hid (∀ i, i < k + 1 → tm.fitB (t2 i) = true) := HL2
                clear HL2 HNO HLAST
                go_wp2_with (go_at_call 31; refine (KF.out _).mono ?_; rintro e w9 ⟨rfl, hw9⟩; subst hw9)
                go_region_held3 (fun w' => w'.cell? ⟨w.heap.size, 0, none⟩ = some (.int .i64 kind) ∧ w'.cell? ⟨w.heap.size, 1, none⟩ = some (.int .i64 mode) ∧ w'.cell? ⟨w.heap.size, 2, none⟩ = some (.int .i64 low) ∧ w'.cell? ⟨w.heap.size, 3, none⟩ = some (.int .i64 high) ∧ w'.cell? ⟨w.heap.size, 4, none⟩ = some (.int .i64 size) ∧ w'.cell? ⟨w.heap.size, 5, none⟩ = some (.int .i64 limit) ∧ w'.cell? ⟨w.heap.size, 6, none⟩ = some (.slice la n6 lc) ∧ w'.cell? ⟨w.heap.size, 7, none⟩ = some (.slice rr n7 rc) ∧ w'.cell? ⟨w.heap.size, 8, none⟩ = some (.slice lk n8 lkc) ∧ w'.cell? ⟨w.heap.size, 9, none⟩ = some (.slice rk n9 rkc) ∧ w'.cell? ⟨w.heap.size, 10, none⟩ = some (.bool grouped) ∧ w'.cell? ⟨w.heap.size, 11, none⟩ = some (.slice g n11 gc) ∧ w'.cell? ⟨w.heap.size, 12, none⟩ = some (.slice ag n12 ac) ∧ w'.cell? ⟨b, o + k * 2 + 1, none⟩ = some (.slice ra rl rc2)) (first | go_keep | exact ⟨cell_later hb8 c0, cell_later hb8 c1, cell_later hb8 c2, cell_later hb8 c3, cell_later hb8 c4, cell_later hb8 c5, cell_later hb8 c6, cell_later hb8 c7, cell_later hb8 c8, cell_later hb8 c9, cell_later hb8 c10, cell_later hb8 c11, cell_later hb8 c12, cell_later hb8 q2⟩)
                  (first | (go_at_call 32; refine (KR.out _ dr).mono ?_; rintro e w8 ⟨rfl, hb80⟩; have hb8 := dr.trans hb80))
                all_goals
                  go_wp2
                  refine ⟨Exists.intro u6 ?_, ?measure⟩
                  (repeat apply Exists.intro)
                  refine ⟨?rel, rfl⟩
                  case rel => exact ⟨k + 1, by omega, by go_num, HL3.out, hnk.trans (hb8.mono hnk.size)⟩
                  case measure => simp [intOf]; omega
            · have HF : Hid (f2 = true) := Y2.out (fun i hi => HAL.out i (by omega))
              go_wp2
              go_roundw
              case rel => exact ⟨3, by omega, by omega, by go_num, fun _ => HC.out (by omega), fun _ => HF.out, hnk⟩
              case measure => simp [intOf]
        · go_wp2
          go_roundw
          case rel => exact ⟨1, by omega, by go_num, fun _ => ⟨HC.out (by omega), HD.out (by omega)⟩, fun h => absurd h (by omega), hny⟩
          case measure => simp [intOf]
    · go_wp2
      go_loopw [9, 10, 11, 12] (fun i _ _ _ wy => ∃ s : Nat, 1 ≤ s ∧ s ≤ 3 ∧ i = .int .i64 s ∧ (2 ≤ s → g1 = 0) ∧ (3 ≤ s → g2 = 0) ∧ Below W1.heap.size W1 wy) (fun i _ _ _ _ => 3 - (intOf i).toNat)
      case atStart => exact ⟨1, by omega, by omega, rfl, fun h => absurd h (by omega), fun h => absurd h (by omega), hnx⟩
      case round =>
        rename World => wy
        obtain ⟨s, hs1, hs2, rfl, hC, hD, hny⟩ := hrel
        have HC : Hid (2 ≤ s → g1 = 0) := hC
        have HD : Hid (3 ≤ s → g2 = 0) := hD
        clear hC hD
        have h3 : s = 1 ∨ s = 2 ∨ s = 3 := by omega
        rcases h3 with rfl | rfl | rfl
        · go_wp2
          go_loopw [11, 12] (fun i _ wk => ∃ k : Nat, k ≤ n1 ∧ i = .int .i64 k ∧ (∀ i, i < k → x1 i = 0) ∧ Below W1.heap.size W1 wk) (fun i _ _ => n1 - (intOf i).toNat)
          case atStart => exact ⟨0, Nat.zero_le _, rfl, fun i hi => absurd hi (Nat.not_lt_zero i), hny⟩
          case round =>
            rename World => wk
            obtain ⟨k, hk, rfl, hall, hnk⟩ := hrel
            have HAL : Hid (∀ i, i < k → x1 i = 0) := hall
            have hbk := hbn.trans (hnk.mono hbn.size)
            clear hall
            have c0 := cell_later hnk s0
            have c1 := cell_later hnk s1
            have c2 := cell_later hnk s2
            have c3 := cell_later hnk s3
            have c4 := cell_later hnk s4
            have c5 := cell_later hnk s5
            have c6 := cell_later hnk s6
            have c7 := cell_later hnk s7
            have c8 := cell_later hnk s8
            have c9 := cell_later hnk s9
            have c10 := cell_later hnk s10
            have c11 := cell_later hnk s11
            have c12 := cell_later hnk s12
            by_cases hlt : k < n1
            · obtain ⟨b, o, ra, rc2, e, y1, y2, y3⟩ := A1.out k hlt
              subst e
              have q1 := cell_later hbk y1
              have q2 := cell_later hbk y2
              have i1 : (0 : Int) ≤ (k : Int) := by omega
              have i2 : (k : Int) < (n1 : Int) := by omega
              have KR : Hid (∀ w1, Below wk.heap.size wk w1 → _) := fun w1 hb => KA.out w1 k ra rc2 hlt (hbk.trans (hb.mono hbk.size)) (rowAt_below (rowAt_below y3 hbk) hb)
              have HNO : Hid (_) := E1.out k hlt HAL.out
              obtain ⟨tv, htv⟩ : ∃ z, t1 k = z := ⟨_, rfl⟩
              obtain ⟨rl, hrl⟩ : ∃ z, (r1 k).length = z := ⟨_, rfl⟩
              obtain ⟨xv, hxv⟩ : ∃ z, x1 k = z := ⟨_, rfl⟩
              have HLAST : Hid (x1 k = 0 → ∀ i, i < k + 1 → x1 i = 0) := fun h i hi => by
                rcases Nat.lt_succ_iff_lt_or_eq.1 hi with h1 | h1
                · exact HAL.out i h1
                · rw [h1]; exact h
              rw [htv] at q1 
              rw [hrl] at q2 KR
              rw [hxv] at KR HNO HLAST
              clear htv hrl hxv y1 y2 y3
              have dr : Below wk.heap.size wk wk.drew := (Below.refl _ _).drew
              by_cases hx0 : xv = 0
              · subst hx0
                have HL2 := HLAST.out rfl
                have HL3 : Hid (∀ i, i < k + 1 → x1 i = 0) := HL2
                clear HL2 HNO HLAST
                go_wp2
                go_region_held3 (fun w' => w'.cell? ⟨w.heap.size, 0, none⟩ = some (.int .i64 kind) ∧ w'.cell? ⟨w.heap.size, 1, none⟩ = some (.int .i64 mode) ∧ w'.cell? ⟨w.heap.size, 2, none⟩ = some (.int .i64 low) ∧ w'.cell? ⟨w.heap.size, 3, none⟩ = some (.int .i64 high) ∧ w'.cell? ⟨w.heap.size, 4, none⟩ = some (.int .i64 size) ∧ w'.cell? ⟨w.heap.size, 5, none⟩ = some (.int .i64 limit) ∧ w'.cell? ⟨w.heap.size, 6, none⟩ = some (.slice la n6 lc) ∧ w'.cell? ⟨w.heap.size, 7, none⟩ = some (.slice rr n7 rc) ∧ w'.cell? ⟨w.heap.size, 8, none⟩ = some (.slice lk n8 lkc) ∧ w'.cell? ⟨w.heap.size, 9, none⟩ = some (.slice rk n9 rkc) ∧ w'.cell? ⟨w.heap.size, 10, none⟩ = some (.bool grouped) ∧ w'.cell? ⟨w.heap.size, 11, none⟩ = some (.slice g n11 gc) ∧ w'.cell? ⟨w.heap.size, 12, none⟩ = some (.slice ag n12 ac) ∧ w'.cell? ⟨b, o + k * 2 + 1, none⟩ = some (.slice ra rl rc2)) (first | go_keep | exact ⟨cell_later hb8 c0, cell_later hb8 c1, cell_later hb8 c2, cell_later hb8 c3, cell_later hb8 c4, cell_later hb8 c5, cell_later hb8 c6, cell_later hb8 c7, cell_later hb8 c8, cell_later hb8 c9, cell_later hb8 c10, cell_later hb8 c11, cell_later hb8 c12, cell_later hb8 q2⟩)
                  (first | (go_at_call 32; refine (KR.out _ dr).mono ?_; rintro e w8 ⟨rfl, hb80⟩; have hb8 := dr.trans hb80))
                all_goals
                  go_wp2
                  refine ⟨Exists.intro u6 ?_, ?measure⟩
                  (repeat apply Exists.intro)
                  refine ⟨?rel, rfl⟩
                  case rel => exact ⟨k + 1, by omega, by go_num, HL3.out, hnk.trans (hb8.mono hnk.size)⟩
                  case measure => simp [intOf]; omega
              · have hx' : (xv != 0) = true := by simpa using hx0
                have hno := HNO.out hx0
                have HX : Hid (be = xv) := by
                  show be = xv
                  have hf := HA.out (by omega)
                  rw [HK2.out, hf.1, hf.2, hno]
                  simp [hx0]
                  
                clear HK2 hno HNO HLAST hx0
                go_wp2
                go_region_held3 (fun w' => w'.cell? ⟨w.heap.size, 0, none⟩ = some (.int .i64 kind) ∧ w'.cell? ⟨w.heap.size, 1, none⟩ = some (.int .i64 mode) ∧ w'.cell? ⟨w.heap.size, 2, none⟩ = some (.int .i64 low) ∧ w'.cell? ⟨w.heap.size, 3, none⟩ = some (.int .i64 high) ∧ w'.cell? ⟨w.heap.size, 4, none⟩ = some (.int .i64 size) ∧ w'.cell? ⟨w.heap.size, 5, none⟩ = some (.int .i64 limit) ∧ w'.cell? ⟨w.heap.size, 6, none⟩ = some (.slice la n6 lc) ∧ w'.cell? ⟨w.heap.size, 7, none⟩ = some (.slice rr n7 rc) ∧ w'.cell? ⟨w.heap.size, 8, none⟩ = some (.slice lk n8 lkc) ∧ w'.cell? ⟨w.heap.size, 9, none⟩ = some (.slice rk n9 rkc) ∧ w'.cell? ⟨w.heap.size, 10, none⟩ = some (.bool grouped) ∧ w'.cell? ⟨w.heap.size, 11, none⟩ = some (.slice g n11 gc) ∧ w'.cell? ⟨w.heap.size, 12, none⟩ = some (.slice ag n12 ac) ∧ w'.cell? ⟨b, o + k * 2 + 1, none⟩ = some (.slice ra rl rc2)) (first | go_keep | exact ⟨cell_later hb8 c0, cell_later hb8 c1, cell_later hb8 c2, cell_later hb8 c3, cell_later hb8 c4, cell_later hb8 c5, cell_later hb8 c6, cell_later hb8 c7, cell_later hb8 c8, cell_later hb8 c9, cell_later hb8 c10, cell_later hb8 c11, cell_later hb8 c12, cell_later hb8 q2⟩)
                  (first | (go_at_call 32; refine (KR.out _ dr).mono ?_; rintro e w8 ⟨rfl, hb80⟩; have hb8 := dr.trans hb80))
                all_goals
                  go_wp2
                  go_ret
                  exact ⟨ret_int HX.out.symm, hbk.trans (hb8.mono hbk.size)⟩
            · have HF : Hid (g1 = 0) := Z1.out (fun i hi => HAL.out i (by omega))
              go_wp2
              go_roundw
              case rel => exact ⟨2, by omega, by omega, by go_num, fun _ => HF.out, fun h => absurd h (by omega), hnk⟩
              case measure => simp [intOf]
        · go_wp2
          go_loopw [11, 12] (fun i _ wk => ∃ k : Nat, k ≤ n2 ∧ i = .int .i64 k ∧ (∀ i, i < k → x2 i = 0) ∧ Below W1.heap.size W1 wk) (fun i _ _ => n2 - (intOf i).toNat)
          case atStart => exact ⟨0, Nat.zero_le _, rfl, fun i hi => absurd hi (Nat.not_lt_zero i), hny⟩
          case round =>
            rename World => wk
            obtain ⟨k, hk, rfl, hall, hnk⟩ := hrel
            have HAL : Hid (∀ i, i < k → x2 i = 0) := hall
            have hbk := hbn.trans (hnk.mono hbn.size)
            clear hall
            have c0 := cell_later hnk s0
            have c1 := cell_later hnk s1
            have c2 := cell_later hnk s2
            have c3 := cell_later hnk s3
            have c4 := cell_later hnk s4
            have c5 := cell_later hnk s5
            have c6 := cell_later hnk s6
            have c7 := cell_later hnk s7
            have c8 := cell_later hnk s8
            have c9 := cell_later hnk s9
            have c10 := cell_later hnk s10
            have c11 := cell_later hnk s11
            have c12 := cell_later hnk s12
            by_cases hlt : k < n2
            · obtain ⟨b, o, ra, rc2, e, y1, y2, y3⟩ := A2.out k hlt
              subst e
              have q1 := cell_later hbk y1
              have q2 := cell_later hbk y2
              have i1 : (0 : Int) ≤ (k : Int) := by omega
              have i2 : (k : Int) < (n2 : Int) := by omega
              have KR : Hid (∀ w1, Below wk.heap.size wk w1 → _) := fun w1 hb => KB.out w1 k ra rc2 hlt (hbk.trans (hb.mono hbk.size)) (rowAt_below (rowAt_below y3 hbk) hb)
              have HNO : Hid (_) := E2.out k hlt HAL.out
              obtain ⟨tv, htv⟩ : ∃ z, t2 k = z := ⟨_, rfl⟩
              obtain ⟨rl, hrl⟩ : ∃ z, (r2 k).length = z := ⟨_, rfl⟩
              obtain ⟨xv, hxv⟩ : ∃ z, x2 k = z := ⟨_, rfl⟩
              have HLAST : Hid (x2 k = 0 → ∀ i, i < k + 1 → x2 i = 0) := fun h i hi => by
                rcases Nat.lt_succ_iff_lt_or_eq.1 hi with h1 | h1
                · exact HAL.out i h1
                · rw [h1]; exact h
              rw [htv] at q1 
              rw [hrl] at q2 KR
              rw [hxv] at KR HNO HLAST
              clear htv hrl hxv y1 y2 y3
              have dr : Below wk.heap.size wk wk.drew := (Below.refl _ _).drew
              by_cases hx0 : xv = 0
              · subst hx0
                have HL2 := HLAST.out rfl
                have HL3 : Hid (∀ i, i < k + 1 → x2 i = 0) := HL2
                clear HL2 HNO HLAST
                go_wp2
                go_region_held3 (fun w' => w'.cell? ⟨w.heap.size, 0, none⟩ = some (.int .i64 kind) ∧ w'.cell? ⟨w.heap.size, 1, none⟩ = some (.int .i64 mode) ∧ w'.cell? ⟨w.heap.size, 2, none⟩ = some (.int .i64 low) ∧ w'.cell? ⟨w.heap.size, 3, none⟩ = some (.int .i64 high) ∧ w'.cell? ⟨w.heap.size, 4, none⟩ = some (.int .i64 size) ∧ w'.cell? ⟨w.heap.size, 5, none⟩ = some (.int .i64 limit) ∧ w'.cell? ⟨w.heap.size, 6, none⟩ = some (.slice la n6 lc) ∧ w'.cell? ⟨w.heap.size, 7, none⟩ = some (.slice rr n7 rc) ∧ w'.cell? ⟨w.heap.size, 8, none⟩ = some (.slice lk n8 lkc) ∧ w'.cell? ⟨w.heap.size, 9, none⟩ = some (.slice rk n9 rkc) ∧ w'.cell? ⟨w.heap.size, 10, none⟩ = some (.bool grouped) ∧ w'.cell? ⟨w.heap.size, 11, none⟩ = some (.slice g n11 gc) ∧ w'.cell? ⟨w.heap.size, 12, none⟩ = some (.slice ag n12 ac) ∧ w'.cell? ⟨b, o + k * 2 + 1, none⟩ = some (.slice ra rl rc2)) (first | go_keep | exact ⟨cell_later hb8 c0, cell_later hb8 c1, cell_later hb8 c2, cell_later hb8 c3, cell_later hb8 c4, cell_later hb8 c5, cell_later hb8 c6, cell_later hb8 c7, cell_later hb8 c8, cell_later hb8 c9, cell_later hb8 c10, cell_later hb8 c11, cell_later hb8 c12, cell_later hb8 q2⟩)
                  (first | (go_at_call 32; refine (KR.out _ dr).mono ?_; rintro e w8 ⟨rfl, hb80⟩; have hb8 := dr.trans hb80))
                all_goals
                  go_wp2
                  refine ⟨Exists.intro u6 ?_, ?measure⟩
                  (repeat apply Exists.intro)
                  refine ⟨?rel, rfl⟩
                  case rel => exact ⟨k + 1, by omega, by go_num, HL3.out, hnk.trans (hb8.mono hnk.size)⟩
                  case measure => simp [intOf]; omega
              · have hx' : (xv != 0) = true := by simpa using hx0
                have hno := HNO.out hx0
                have HX : Hid (be = xv) := by
                  show be = xv
                  have hf := HA.out (by omega)
                  rw [HK2.out, hf.1, hf.2]
                  have hg := HC.out (by omega)
                  rw [hg, hno]; simp
                clear HK2 hno HNO HLAST hx0
                go_wp2
                go_region_held3 (fun w' => w'.cell? ⟨w.heap.size, 0, none⟩ = some (.int .i64 kind) ∧ w'.cell? ⟨w.heap.size, 1, none⟩ = some (.int .i64 mode) ∧ w'.cell? ⟨w.heap.size, 2, none⟩ = some (.int .i64 low) ∧ w'.cell? ⟨w.heap.size, 3, none⟩ = some (.int .i64 high) ∧ w'.cell? ⟨w.heap.size, 4, none⟩ = some (.int .i64 size) ∧ w'.cell? ⟨w.heap.size, 5, none⟩ = some (.int .i64 limit) ∧ w'.cell? ⟨w.heap.size, 6, none⟩ = some (.slice la n6 lc) ∧ w'.cell? ⟨w.heap.size, 7, none⟩ = some (.slice rr n7 rc) ∧ w'.cell? ⟨w.heap.size, 8, none⟩ = some (.slice lk n8 lkc) ∧ w'.cell? ⟨w.heap.size, 9, none⟩ = some (.slice rk n9 rkc) ∧ w'.cell? ⟨w.heap.size, 10, none⟩ = some (.bool grouped) ∧ w'.cell? ⟨w.heap.size, 11, none⟩ = some (.slice g n11 gc) ∧ w'.cell? ⟨w.heap.size, 12, none⟩ = some (.slice ag n12 ac) ∧ w'.cell? ⟨b, o + k * 2 + 1, none⟩ = some (.slice ra rl rc2)) (first | go_keep | exact ⟨cell_later hb8 c0, cell_later hb8 c1, cell_later hb8 c2, cell_later hb8 c3, cell_later hb8 c4, cell_later hb8 c5, cell_later hb8 c6, cell_later hb8 c7, cell_later hb8 c8, cell_later hb8 c9, cell_later hb8 c10, cell_later hb8 c11, cell_later hb8 c12, cell_later hb8 q2⟩)
                  (first | (go_at_call 32; refine (KR.out _ dr).mono ?_; rintro e w8 ⟨rfl, hb80⟩; have hb8 := dr.trans hb80))
                all_goals
                  go_wp2
                  go_ret
                  exact ⟨ret_int HX.out.symm, hbk.trans (hb8.mono hbk.size)⟩
            · have HF : Hid (g2 = 0) := Z2.out (fun i hi => HAL.out i (by omega))
              go_wp2
              go_roundw
              case rel => exact ⟨3, by omega, by omega, by go_num, fun _ => HC.out (by omega), fun _ => HF.out, hnk⟩
              case measure => simp [intOf]
        · go_wp2
          go_roundw
          case rel => exact ⟨2, by omega, by go_num, fun _ => HA.out (by omega), fun _ => ⟨HC.out (by omega), HD.out (by omega)⟩, hny⟩
          case measure => simp [intOf]
    · have hg := HB.out (by omega)
      have hf := HA.out (by omega)
      have HX : Hid (be = 0) := by rw [HK2.out, hf.1, hf.2, hg.1, hg.2]; rfl
      have hbr := hbn.trans (hnx.mono hbn.size)
      clear HK2 hg hf
      go_wp2
      go_ret
      exact ⟨ret_int HX.out.symm, hbr⟩
end Go.Proofs.YtcpanmaahhiioaaGreat.bt
