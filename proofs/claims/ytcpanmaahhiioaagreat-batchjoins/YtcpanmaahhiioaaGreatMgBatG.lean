/- Several texts in one: BatRef1, BatPair, BatRVers. -/
import Derived.Test.YtcpanmaahhiioaaGreatMgBatA
import Derived.Test.YtcpanmaahhiioaaGreatMgBatB
import Derived.Deep.RegionHeld3
import Derived.Test.YtcpanmaahhiioaaGreatMgBatC
/- The document's Nulls, Both, keepsLeft, keepsRight, Meet, pair. -/
namespace Go.Proofs.YtcpanmaahhiioaaGreat.bt
open Go.ChangeShapes Go.WideShapes Go.ChangeAt Go.RowKit
open vl pl
set_option linter.unusedVariables false
set_option linter.unusedSimpArgs false
set_option maxRecDepth 10000 in
set_option maxHeartbeats 1000000 in
theorem rnulls_any (n : Nat) (w : World) (h1 : 1 ≤ n) (h4 : n ≤ 4) :
    Calls Tryz.prog 42 #[.int .i64 (n : Int)] w fun e w' => (e = .returned (.slice (some ⟨w.heap.size, 0, none⟩) n n) ∧ vl.rowAt w' (some ⟨w.heap.size, 0, none⟩) (nullRow n)) ∧ Below w.heap.size w w' := by
  have hr := make_row n w (by omega)
  have HC : Hid (vl.rowAt (w.alloc (.cells (madeCells #[.int .i64 0, .int .i64 0, .string ⟨#[]⟩] (n * 3)) 62)) (some ⟨w.heap.size, 0, none⟩) (nullRow n)) := by
    have m1 : madeCells #[.int .i64 0, .int .i64 0, .string ⟨#[]⟩] (1 * 3) = #[.int .i64 0, .int .i64 0, .string ⟨#[]⟩] := by kernel_rfl
    have m2 : madeCells #[.int .i64 0, .int .i64 0, .string ⟨#[]⟩] (2 * 3) = #[.int .i64 0, .int .i64 0, .string ⟨#[]⟩, .int .i64 0, .int .i64 0, .string ⟨#[]⟩] := by kernel_rfl
    have m3 : madeCells #[.int .i64 0, .int .i64 0, .string ⟨#[]⟩] (3 * 3) = #[.int .i64 0, .int .i64 0, .string ⟨#[]⟩, .int .i64 0, .int .i64 0, .string ⟨#[]⟩, .int .i64 0, .int .i64 0, .string ⟨#[]⟩] := by kernel_rfl
    have m4 : madeCells #[.int .i64 0, .int .i64 0, .string ⟨#[]⟩] (4 * 3) = #[.int .i64 0, .int .i64 0, .string ⟨#[]⟩, .int .i64 0, .int .i64 0, .string ⟨#[]⟩, .int .i64 0, .int .i64 0, .string ⟨#[]⟩, .int .i64 0, .int .i64 0, .string ⟨#[]⟩] := by kernel_rfl
    clear hr
    have hn : n = 1 ∨ n = 2 ∨ n = 3 ∨ n = 4 := by omega
    show vl.rowAt _ _ _
    intro i hi
    have hi' : i < n := by simpa [nullRow] using hi
    refine ⟨_, _, rfl, ?_⟩
    have e : (nullRow n).getD i default = ⟨0, 0, ⟨#[]⟩⟩ := by simp [nullRow, List.getD_eq_getElem?_getD, hi']
    rw [e]
    have hj : i = 0 ∨ i = 1 ∨ i = 2 ∨ i = 3 := by omega
    rcases hn with rfl | rfl | rfl | rfl <;> rcases hj with rfl | rfl | rfl | rfl <;> first | (exact absurd hi' (by decide)) | ((first | rw [m1] | rw [m2] | rw [m3] | rw [m4]); clear m1 m2 m3 m4; refine ⟨?_, ?_, ?_⟩ <;> go_simp)
  clear h1 h4
  go_enter Tryz.func42, Tryz.ntmps42
  go_wp2
  go_ret
  exact ⟨⟨rfl, HC.out⟩, (Below.refl _ _).alloc (Nat.le_refl _) _⟩
set_option maxRecDepth 10000 in
set_option maxHeartbeats 1000000 in
theorem both_any (a1 a2 : Option Addr) (c1 c2 : Nat) (l1 l2 : List Cel) (w : World) (n2 : 0 < l2.length) (m1 : l1.length ≤ 400) (m2 : l2.length ≤ 400) (h1 : vl.rowAt w a1 l1) (h2 : vl.rowAt w a2 l2) :
    Calls Tryz.prog 21 #[.slice a1 l1.length c1, .slice a2 l2.length c2] w fun e w' => (∃ ad cap, e = .returned (.slice ad (l1 ++ l2).length cap) ∧ ownV w' w.heap.size (.slice ad (l1 ++ l2).length cap) (l1 ++ l2)) ∧ Below w.heap.size w w' := by
  obtain ⟨i0, hi, hz0, hz1, hz2⟩ := info_parts Tryz.infoV
  have HI : Hid (Tryz.prog.info? 62 = some i0 ∧ i0.zero = some (.agg #[.int .i64 0, .int .i64 0, .string ⟨#[]⟩]) ∧ i0.size = 3 ∧ i0.bytes = 32) := ⟨hi, hz0, hz1, hz2⟩
  clear hi hz0 hz1 hz2
  obtain ⟨b2, o2, rfl, _⟩ := h2 0 n2
  have HC2 : Hid (∀ w', Below w.heap.size w w' → ∀ j u, (celCells l2)[j]? = some u → w'.cell? ((⟨b2, o2, none⟩ : Addr).add j) = some u) := fun w' hb => ch.rowAt_cells (rowAt_below h2 hb)
  have hp2 : Hid ((celCells l2).length = l2.length * 3) := celCells_len l2
  have KC : Hid (Calls Tryz.prog 61 #[.slice a1 l1.length c1] w fun e w' => (∃ ad c, e = .returned (.slice ad l1.length c) ∧ ownV w' w.heap.size (.slice ad l1.length c) l1) ∧ Below w.heap.size w w') := ch.copy_any a1 c1 l1 w h1 (by omega)
  have HAP : Hid (∀ w' v, w'.ownsRow w.heap.size 62 3 v (l1.length + l2.length) (celCells l1 ++ celCells l2) → ownV w' w.heap.size v (l1 ++ l2)) := fun w' v h => by
    unfold ownV
    rw [List.length_append, celCells_app]; exact h
  clear h1 h2
  obtain ⟨k1, hk1⟩ : ∃ n, l1.length = n := ⟨_, rfl⟩
  obtain ⟨k2, hk2⟩ : ∃ n, l2.length = n := ⟨_, rfl⟩
  have HK1 : Hid (l1.length = k1) := hk1
  have HK2 : Hid (l2.length = k2) := hk2
  rw [hk1] at KC m1 HAP
  rw [hk2] at n2 m2 hp2 HAP
  rw [List.length_append, hk1, hk2]
  clear hk1 hk2
  go_enter Tryz.func21, Tryz.ntmps21
  go_wp2_with fail
  refine KC.out.mono ?_
  rintro e w1 ⟨⟨ad, c, rfl, ho⟩, hb1⟩
  have hsz := hb1.size
  have HO : Hid (w1.ownsRow w.heap.size 62 3 (.slice ad k1 c) k1 (celCells l1)) := by have h := ho; unfold ownV at h; rw [HK1.out] at h; exact h
  clear ho
  go_wp2_with (at_builtin; refine wpList_append_own _ rfl (.tmp 6) (.tmp 7) 43 rfl w.heap.size 62 i0 (.agg #[.int .i64 0, .int .i64 0, .string ⟨#[]⟩]) 3 32 Tryz.underlying43 HI.out.1 HI.out.2.1 HI.out.2.2.1 HI.out.2.2.2 rfl (by decide) _ _ _ rfl HO.out ⟨b2, o2, none⟩ k2 c2 (celCells l2) rfl (by rw [hp2.out]) (HC2.out _ hb1) (ch.celCells_one l2) (by unfold maxLen; omega) (by omega) hsz ?_; intro v2 w3 hown3 hgrow3 hnil3)
  obtain ⟨ad3, cp3, hv, _⟩ := own_form hown3
  subst hv
  have HF := HAP.out _ _ hown3
  have hbn := hb1.grown hgrow3 hsz (fun b hb => (World.ownsRow.lt HO.out b hb).1)
  go_ret
  exact ⟨⟨ad3, cp3, rfl, HF⟩, hbn⟩
set_option maxRecDepth 10000 in
theorem rkeepsL_any (p : Pln) (x : PA) (w : World) :
    Calls Tryz.prog 41 #[planV p x] w fun e w' => e = .returned (.bool (keepsL p)) ∧ Below w.heap.size w w' := by
  unfold keepsL
  obtain ⟨kind, mode, low, high, size, limit, left, right, lkeys, rkeys, grouped, group, aggs⟩ := p
  obtain ⟨la, lc, rr, rc, lk, lkc, rk, rkc, g, gc, ag, ac⟩ := x
  unfold planV
  dsimp only
  by_cases h2 : mode = 2
  · subst h2
    go_enter Tryz.func41, Tryz.ntmps41
    go_wp2
    go_ret
    exact ⟨rfl, (Below.refl _ _).alloc (Nat.le_refl _) _⟩
  · by_cases h4 : mode = 4
    · subst h4
      clear h2
      go_enter Tryz.func41, Tryz.ntmps41
      go_wp2
      go_ret
      exact ⟨rfl, (Below.refl _ _).alloc (Nat.le_refl _) _⟩
    · have HY : Hid (false = decide (mode = 2 ∨ mode = 4)) := by show false = _; simp [h2, h4]
      have k2 : (mode == 2) = false := by simpa using h2
      have k4 : (mode == 4) = false := by simpa using h4
      clear h2 h4
      go_enter Tryz.func41, Tryz.ntmps41
      go_wp2
      go_ret
      exact ⟨ret_bool HY.out, (Below.refl _ _).alloc (Nat.le_refl _) _⟩
set_option maxRecDepth 10000 in
theorem rkeepsR_any (p : Pln) (x : PA) (w : World) :
    Calls Tryz.prog 43 #[planV p x] w fun e w' => e = .returned (.bool (keepsR p)) ∧ Below w.heap.size w w' := by
  unfold keepsR
  obtain ⟨kind, mode, low, high, size, limit, left, right, lkeys, rkeys, grouped, group, aggs⟩ := p
  obtain ⟨la, lc, rr, rc, lk, lkc, rk, rkc, g, gc, ag, ac⟩ := x
  unfold planV
  dsimp only
  by_cases h2 : mode = 3
  · subst h2
    go_enter Tryz.func43, Tryz.ntmps43
    go_wp2
    go_ret
    exact ⟨rfl, (Below.refl _ _).alloc (Nat.le_refl _) _⟩
  · by_cases h4 : mode = 4
    · subst h4
      clear h2
      go_enter Tryz.func43, Tryz.ntmps43
      go_wp2
      go_ret
      exact ⟨rfl, (Below.refl _ _).alloc (Nat.le_refl _) _⟩
    · have HY : Hid (false = decide (mode = 3 ∨ mode = 4)) := by show false = _; simp [h2, h4]
      have k2 : (mode == 3) = false := by simpa using h2
      have k4 : (mode == 4) = false := by simpa using h4
      clear h2 h4
      go_enter Tryz.func43, Tryz.ntmps43
      go_wp2
      go_ret
      exact ⟨ret_bool HY.out, (Below.refl _ _).alloc (Nat.le_refl _) _⟩
set_option maxRecDepth 10000 in
set_option maxHeartbeats 1000000 in
theorem rmeet_any (p : Pln) (x : PA) (l r : Int) (w : World) (h0 : planErr p = 0) (hk : p.kind ≠ 3) (hl : tm.fitB l = true) (hr : tm.fitB r = true) :
    Calls Tryz.prog 82 #[planV p x, .int .i64 l, .int .i64 r] w fun e w' => e = .returned (.bool (meetT p l r)) ∧ Below w.heap.size w w' := by
  obtain ⟨k1, k2, _, _, k5⟩ := planErr_ok h0
  have b1 := (tm.fit_iff l).1 hl
  have b2 := (tm.fit_iff r).1 hr
  by_cases e1 : p.kind = 1
  · have hm : meetT p l r = tm.meetB l r p.low p.high := by unfold meetT; rw [if_pos e1]
    rw [hm]
    unfold tm.meetB
    clear hm k1 k2 k5 h0 hk hl hr
    obtain ⟨kind, mode, low, high, size, limit, left, right, lkeys, rkeys, grouped, group, aggs⟩ := p
    obtain ⟨la, lc, rr, rc, lk, lkc, rk, rkc, g, gc, ag, ac⟩ := x
    unfold planV
    dsimp only at e1 ⊢
    subst e1
    have hw : IntKind.i64.wrap (r - l) = r - l := by rw [wrapN]; omega
    by_cases c1 : low ≤ r - l
    · by_cases c2 : r - l ≤ high
      · have HX : Hid (decide (low ≤ r - l ∧ r - l ≤ high) = true) := decide_eq_true ⟨c1, c2⟩
        rw [HX.out]
        go_enter Tryz.func82, Tryz.ntmps82
        go_wp2
        go_ret
        exact ⟨rfl, (Below.refl _ _).alloc (Nat.le_refl _) _⟩
      · have HX : Hid (decide (low ≤ r - l ∧ r - l ≤ high) = false) := decide_eq_false (fun h => c2 h.2)
        rw [HX.out]
        go_enter Tryz.func82, Tryz.ntmps82
        go_wp2
        go_ret
        exact ⟨rfl, (Below.refl _ _).alloc (Nat.le_refl _) _⟩
    · have HX : Hid (decide (low ≤ r - l ∧ r - l ≤ high) = false) := decide_eq_false (fun h => c1 h.1)
      rw [HX.out]
      go_enter Tryz.func82, Tryz.ntmps82
      go_wp2
      go_ret
      exact ⟨rfl, (Below.refl _ _).alloc (Nat.le_refl _) _⟩
  · have hk2 : p.kind = 2 := by have := k1.1; omega
    have hm : meetT p l r = decide (tm.start l p.size = tm.start r p.size) := by unfold meetT; rw [if_neg e1]
    have f1 : 1 ≤ p.size ∧ p.size ≤ 1099511627776 := by have := k2.2.1; rw [if_pos hk2] at this; exact this
    have KL : Hid (∀ t w1, tm.fitB t = true → Calls Tryz.prog 117 #[.int .i64 t, .int .i64 p.size] w1 fun e w' => e = .returned (.int .i64 (tm.start t p.size)) ∧ w' = w1) := fun t w1 ht => tm.start_any t p.size w1 ((tm.fit_iff t).1 ht).1 ((tm.fit_iff t).1 ht).2 f1.1 f1.2
    have HL : Hid (tm.fitB l = true) := hl
    have HR : Hid (tm.fitB r = true) := hr
    rw [hm]
    clear hm f1 k1 k2 k5 h0 hk e1 hl hr b1 b2
    obtain ⟨Sf, hSf⟩ : ∃ f : Int → Int, ∀ t, tm.start t p.size = f t := ⟨_, fun _ => rfl⟩
    simp only [hSf] at KL ⊢
    clear hSf
    have hx : (Sf l == Sf r) = decide (Sf l = Sf r) := by by_cases h : Sf l = Sf r <;> simp [h]
    obtain ⟨z, hz⟩ : ∃ z, decide (Sf l = Sf r) = z := ⟨_, rfl⟩
    rw [hz] at hx ⊢
    clear hz
    obtain ⟨kind, mode, low, high, size, limit, left, right, lkeys, rkeys, grouped, group, aggs⟩ := p
    obtain ⟨la, lc, rr, rc, lk, lkc, rk, rkc, g, gc, ag, ac⟩ := x
    unfold planV
    dsimp only at hk2 KL ⊢
    subst hk2
    go_enter Tryz.func82, Tryz.ntmps82
    go_wp2
    go_region_held3 (fun w' => w'.cell? ⟨w.heap.size, 4, none⟩ = some (.int .i64 size)) (first | go_keep)
      (first | (go_at_call 117; refine (KL.out _ _ (by first | exact HL.out | exact HR.out)).mono ?_; rintro e w' ⟨rfl, rfl⟩))
    all_goals
      go_wp2
      go_ret
      exact ⟨rfl, by repeat (first | exact Below.refl _ _ | apply Below.drew | (refine Below.alloc ?_ (by simp <;> omega) _))⟩
end Go.Proofs.YtcpanmaahhiioaaGreat.bt

/- The document's pair: do two rows meet? -/
namespace Go.Proofs.YtcpanmaahhiioaaGreat.bt
open Go.ChangeShapes Go.WideShapes Go.ChangeAt Go.RowKit
open vl pl
set_option linter.unusedVariables false
set_option linter.unusedSimpArgs false
set_option maxRecDepth 10000 in
set_option maxHeartbeats 2000000 in
theorem pair_any (p : Pln) (x : PA) (l s : Stm) (ra rb : Option Addr) (ca cb : Nat) (w : World) (hw : wfPlan p) (hp : planAt w p x) (h0 : planErr p = 0) (hk : p.kind ≠ 3) (h1 : rErr p 1 l.r = 0) (h2 : rErr p 2 s.r = 0) (w1 : wfRow l.r) (w2 : wfRow s.r) (l1 : l.r.length ≤ 9223372036854775807) (l2 : s.r.length ≤ 9223372036854775807)
    (t1 : tm.fitB l.t = true) (t2 : tm.fitB s.t = true) (hr1 : vl.rowAt w ra l.r) (hr2 : vl.rowAt w rb s.r) :
    Calls Tryz.prog 40 #[planV p x, .agg #[.int .i64 l.t, .slice ra l.r.length ca], .agg #[.int .i64 s.t, .slice rb s.r.length cb]] w fun e w' => e = .returned (.bool (pairB p l s)) ∧ Below w.heap.size w w' := by
  have e1 : rowErr p 1 l.r = 0 := by unfold rowErr; rw [if_pos h0]; exact h1
  have e2 : rowErr p 2 s.r = 0 := by unfold rowErr; rw [if_pos h0]; exact h2
  have K1 : Hid (∀ w1, Below w.heap.size w w1 → Calls Tryz.prog 81 #[planV p x, .int .i64 1, .slice ra l.r.length ca] w1 fun e w' => e = .returned (.tuple #[.string (keyOfS p 1 l.r), .bool (hasB p 1 l.r)]) ∧ Below w1.heap.size w1 w') := fun w1' hb => keyFor_any p x 1 ra ca l.r w1' hw (planAt_below hp hb) e1 (rowAt_below hr1 hb) w1 l1
  have K2 : Hid (∀ w1, Below w.heap.size w w1 → Calls Tryz.prog 81 #[planV p x, .int .i64 2, .slice rb s.r.length cb] w1 fun e w' => e = .returned (.tuple #[.string (keyOfS p 2 s.r), .bool (hasB p 2 s.r)]) ∧ Below w1.heap.size w1 w') := fun w1' hb => keyFor_any p x 2 rb cb s.r w1' hw (planAt_below hp hb) e2 (rowAt_below hr2 hb) w2 l2
  have K3 : Hid (∀ w1, Calls Tryz.prog 82 #[planV p x, .int .i64 l.t, .int .i64 s.t] w1 fun e w' => e = .returned (.bool (meetT p l.t s.t)) ∧ Below w1.heap.size w1 w') := fun w1' => rmeet_any p x l.t s.t w1' h0 hk t1 t2
  have HX : Hid (pairB p l s = (hasB p 1 l.r && (hasB p 2 s.r && decide (keyOfS p 1 l.r = keyOfS p 2 s.r) && meetT p l.t s.t))) := by
    show pairB p l s = _
    unfold pairB sameKey
    congr 3
    rw [Bool.eq_iff_iff]
    simp only [decide_eq_true_eq]
    exact ⟨fun h => h.symm, fun h => h.symm⟩
  obtain ⟨pb, hpb⟩ : ∃ z, pairB p l s = z := ⟨_, rfl⟩
  rw [hpb] at HX ⊢
  obtain ⟨k1, hk1⟩ : ∃ z, keyOfS p 1 l.r = z := ⟨_, rfl⟩
  obtain ⟨k2, hk2⟩ : ∃ z, keyOfS p 2 s.r = z := ⟨_, rfl⟩
  obtain ⟨b1, hb1⟩ : ∃ z, hasB p 1 l.r = z := ⟨_, rfl⟩
  obtain ⟨b2, hb2⟩ : ∃ z, hasB p 2 s.r = z := ⟨_, rfl⟩
  obtain ⟨mt, hmt⟩ : ∃ z, meetT p l.t s.t = z := ⟨_, rfl⟩
  rw [hk1, hb1] at K1
  rw [hk2, hb2] at K2
  rw [hmt] at K3
  rw [hk1, hk2, hb1, hb2, hmt] at HX
  obtain ⟨lt, hlt⟩ : ∃ z, l.t = z := ⟨_, rfl⟩
  obtain ⟨st, hst⟩ : ∃ z, s.t = z := ⟨_, rfl⟩
  obtain ⟨ll, hll⟩ : ∃ z, l.r.length = z := ⟨_, rfl⟩
  obtain ⟨sl, hsl⟩ : ∃ z, s.r.length = z := ⟨_, rfl⟩
  rw [hlt, hst] at K3
  rw [hll] at K1
  rw [hsl] at K2
  rw [hlt, hst, hll, hsl]
  clear hpb hk1 hk2 hb1 hb2 hmt hlt hst hll hsl hw hp h0 hk h1 h2 w1 w2 l1 l2 t1 t2 hr1 hr2 e1 e2
  obtain ⟨kind, mode, low, high, size, limit, left, right, lkeys, rkeys, grouped, group, aggs⟩ := p
  obtain ⟨la, lc, rr, rc, lk, lkc, rk, rkc, g, gc, ag, ac⟩ := x
  unfold planV at K1 K2 K3 ⊢
  dsimp only at K1 K2 K3 ⊢
  obtain ⟨n6, h6⟩ : ∃ n, left.length = n := ⟨_, rfl⟩
  obtain ⟨n7, h7⟩ : ∃ n, right.length = n := ⟨_, rfl⟩
  obtain ⟨n8, h8⟩ : ∃ n, lkeys.length = n := ⟨_, rfl⟩
  obtain ⟨n9, h9⟩ : ∃ n, rkeys.length = n := ⟨_, rfl⟩
  obtain ⟨n11, h11⟩ : ∃ n, group.length = n := ⟨_, rfl⟩
  obtain ⟨n12, h12⟩ : ∃ n, aggs.length = n := ⟨_, rfl⟩
  simp only [h6, h7, h8, h9, h11, h12] at K1 K2 K3 ⊢
  clear h6 h7 h8 h9 h11 h12
  go_enter Tryz.func40, Tryz.ntmps40
  go_wp2_with fail
  generalize hW0 : (World.alloc (World.alloc (World.alloc w _) _) _) = W0
  have hb0 : Below w.heap.size w W0 := by rw [← hW0]; exact (((Below.refl _ _).alloc (Nat.le_refl _) _).alloc (by simp) _).alloc (by simp; omega) _
  have s0 : W0.cell? ⟨w.heap.size, 0, none⟩ = some (.int .i64 kind) := by subst hW0; go_simp
  have s1 : W0.cell? ⟨w.heap.size, 1, none⟩ = some (.int .i64 mode) := by subst hW0; go_simp
  have s2 : W0.cell? ⟨w.heap.size, 2, none⟩ = some (.int .i64 low) := by subst hW0; go_simp
  have s3 : W0.cell? ⟨w.heap.size, 3, none⟩ = some (.int .i64 high) := by subst hW0; go_simp
  have s4 : W0.cell? ⟨w.heap.size, 4, none⟩ = some (.int .i64 size) := by subst hW0; go_simp
  have s5 : W0.cell? ⟨w.heap.size, 5, none⟩ = some (.int .i64 limit) := by subst hW0; go_simp
  have s6 : W0.cell? ⟨w.heap.size, 6, none⟩ = some (.slice la n6 lc) := by subst hW0; go_simp
  have s7 : W0.cell? ⟨w.heap.size, 7, none⟩ = some (.slice rr n7 rc) := by subst hW0; go_simp
  have s8 : W0.cell? ⟨w.heap.size, 8, none⟩ = some (.slice lk n8 lkc) := by subst hW0; go_simp
  have s9 : W0.cell? ⟨w.heap.size, 9, none⟩ = some (.slice rk n9 rkc) := by subst hW0; go_simp
  have s10 : W0.cell? ⟨w.heap.size, 10, none⟩ = some (.bool grouped) := by subst hW0; go_simp
  have s11 : W0.cell? ⟨w.heap.size, 11, none⟩ = some (.slice g n11 gc) := by subst hW0; go_simp
  have s12 : W0.cell? ⟨w.heap.size, 12, none⟩ = some (.slice ag n12 ac) := by subst hW0; go_simp
  have u0 : W0.cell? ⟨w.heap.size + 1, 0, none⟩ = some (.int .i64 lt) := by subst hW0; go_simp
  have v0 : W0.cell? ⟨w.heap.size + 1 + 1, 0, none⟩ = some (.int .i64 st) := by subst hW0; go_simp
  have v1 : W0.cell? ⟨w.heap.size + 1 + 1, 1, none⟩ = some (.slice rb sl cb) := by subst hW0; go_simp
  clear hW0
  refine (K1.out _ hb0).mono ?_
  rintro e w1 ⟨rfl, hc1⟩
  have hbn := hb0.trans (hc1.mono hb0.size)
  replace s0 := cell_later hc1 s0
  replace s1 := cell_later hc1 s1
  replace s2 := cell_later hc1 s2
  replace s3 := cell_later hc1 s3
  replace s4 := cell_later hc1 s4
  replace s5 := cell_later hc1 s5
  replace s6 := cell_later hc1 s6
  replace s7 := cell_later hc1 s7
  replace s8 := cell_later hc1 s8
  replace s9 := cell_later hc1 s9
  replace s10 := cell_later hc1 s10
  replace s11 := cell_later hc1 s11
  replace s12 := cell_later hc1 s12
  replace u0 := cell_later hc1 u0
  replace v0 := cell_later hc1 v0
  replace v1 := cell_later hc1 v1
  go_wp2_with fail
  refine (K2.out _ hbn).mono ?_
  rintro e w2 ⟨rfl, hc2⟩
  have hbm := hbn.trans (hc2.mono hbn.size)
  replace s0 := cell_later hc2 s0
  replace s1 := cell_later hc2 s1
  replace s2 := cell_later hc2 s2
  replace s3 := cell_later hc2 s3
  replace s4 := cell_later hc2 s4
  replace s5 := cell_later hc2 s5
  replace s6 := cell_later hc2 s6
  replace s7 := cell_later hc2 s7
  replace s8 := cell_later hc2 s8
  replace s9 := cell_later hc2 s9
  replace s10 := cell_later hc2 s10
  replace s11 := cell_later hc2 s11
  replace s12 := cell_later hc2 s12
  replace u0 := cell_later hc2 u0
  replace v0 := cell_later hc2 v0
  cases b1 with
  | false =>
    have HX1 : Hid (pb = false) := by rw [HX.out]; rfl
    clear HX
    go_wp2
    go_ret
    exact ⟨ret_bool HX1.out.symm, hbm⟩
  | true =>
    cases b2 with
    | false =>
      have HX1 : Hid (pb = false) := by rw [HX.out]; rfl
      clear HX
      go_wp2
      go_ret
      exact ⟨ret_bool HX1.out.symm, hbm⟩
    | true =>
      by_cases hkk : k1 = k2
      · have HX1 : Hid (pb = mt) := by rw [HX.out, decide_eq_true hkk]; rfl
        subst hkk
        clear HX
        go_wp2_with (go_at_call 82; refine (K3.out _).mono ?_; rintro e w3 ⟨rfl, hc3⟩)
        go_ret
        exact ⟨ret_bool HX1.out.symm, hbm.trans (hc3.mono hbm.size)⟩
      · have HX1 : Hid (pb = false) := by rw [HX.out, decide_eq_false hkk]; rfl
        have hkn : (k1.toList == k2.toList) = false := by
          rw [beq_eq_false_iff_ne]
          intro h
          exact hkk (bytes_inj (by rw [← ByteArray.toList_eq, ← ByteArray.toList_eq]; exact h))
        clear HX hkk
        go_wp2
        go_ret
        exact ⟨ret_bool HX1.out.symm, hbm⟩
end Go.Proofs.YtcpanmaahhiioaaGreat.bt

/- The document's version: which right row is a left row's version? -/
namespace Go.Proofs.YtcpanmaahhiioaaGreat.bt
open Go.ChangeShapes Go.WideShapes Go.ChangeAt Go.RowKit
open vl pl
set_option linter.unusedVariables false
set_option linter.unusedSimpArgs false
def ivers : Option Nat → Int | none => -1 | some k => (k : Nat)
/-- the version behind i right rows -/
def VB (p : Pln) (l : Int) (R : List Stm) (key : ByteArray) (i : Nat) : Option Nat := ((List.range i).filter (atKey p R key)).foldl (vstep l R) none
theorem VB_succ (p : Pln) (l : Int) (R : List Stm) (key : ByteArray) (i : Nat) : VB p l R key (i + 1) = if atKey p R key i = true then vstep l R (VB p l R key i) i else VB p l R key i := by
  unfold VB
  rw [List.range_succ, List.filter_append, List.foldl_append]
  by_cases h : atKey p R key i = true <;> simp [h]
theorem VB_lt {p : Pln} {l : Int} {R : List Stm} {key : ByteArray} {i k : Nat} (h : VB p l R key i = some k) : k < i := by
  have h1 : k ∈ (List.range i).filter (atKey p R key) := version_mem (l := l) (R := R) h
  exact List.mem_range.1 (List.mem_filter.1 h1).1
set_option maxRecDepth 100000 in
set_option maxHeartbeats 4000000 in
theorem version_any (p : Pln) (x : PA) (l : Stm) (R : List Stm) (ra a2 : Option Addr) (ca c2 : Nat) (w : World) (hw : wfPlan p) (hp : planAt w p x) (h0 : planErr p = 0) (h1 : rErr p 1 l.r = 0) (h2 : firstErr p 2 R = 0) (w1 : wfRow l.r) (hwR : wfStms R) (l1 : l.r.length ≤ 9223372036854775807) (hl : R.length ≤ 1000000) (hr1 : vl.rowAt w ra l.r) (hR : stmsAt w a2 R) :
    Calls Tryz.prog 39 #[planV p x, .agg #[.int .i64 l.t, .slice ra l.r.length ca], .slice a2 R.length c2] w fun e w' => e = .returned (.int .i64 (ivers (if hasB p 1 l.r = true then versionOf l.t R (placesOf p R (keyOfS p 1 l.r)) else none))) ∧ Below w.heap.size w w' := by
  have e1 : rowErr p 1 l.r = 0 := by unfold rowErr; rw [if_pos h0]; exact h1
  have K1 : Hid (∀ w1, Below w.heap.size w w1 → Calls Tryz.prog 81 #[planV p x, .int .i64 1, .slice ra l.r.length ca] w1 fun e w' => e = .returned (.tuple #[.string (keyOfS p 1 l.r), .bool (hasB p 1 l.r)]) ∧ Below w1.heap.size w1 w') := fun w1' hb => keyFor_any p x 1 ra ca l.r w1' hw (planAt_below hp hb) e1 (rowAt_below hr1 hb) w1 l1
  have K2 : Hid (∀ w1 k rb cb, k < R.length → Below w.heap.size w w1 → vl.rowAt w1 rb (R.getD k default).r → Calls Tryz.prog 81 #[planV p x, .int .i64 2, .slice rb (R.getD k default).r.length cb] w1 fun e w' => e = .returned (.tuple #[.string (keyOfS p 2 (R.getD k default).r), .bool (hasB p 2 (R.getD k default).r)]) ∧ Below w1.heap.size w1 w') := fun w1' k rb cb hk hb hr => by
    have hh := wfs_at hwR k hk
    refine keyFor_any p x 2 rb cb _ w1' hw (planAt_below hp hb) ?_ hr hh.1 hh.2.1
    unfold rowErr
    rw [if_pos h0]
    exact firstErr_ok h2 _ (getD_mem hk)
  have HVS : Hid (∀ i, VB p l.t R (keyOfS p 1 l.r) (i + 1) = if hasB p 2 (R.getD i default).r = true ∧ keyOfS p 2 (R.getD i default).r = keyOfS p 1 l.r then vstep l.t R (VB p l.t R (keyOfS p 1 l.r) i) i else VB p l.t R (keyOfS p 1 l.r) i) := fun i => by
    rw [VB_succ]
    unfold atKey
    congr 1
    simp
  have HVE : Hid (VB p l.t R (keyOfS p 1 l.r) R.length = versionOf l.t R (placesOf p R (keyOfS p 1 l.r))) := rfl
  have HV0 : Hid (VB p l.t R (keyOfS p 1 l.r) 0 = none) := rfl
  have HVL : Hid (∀ i k, VB p l.t R (keyOfS p 1 l.r) i = some k → k < i) := fun i k h => VB_lt h
  have HVT : Hid (∀ b i, vstep l.t R b i = if l.t < (R.getD i default).t then b else match b with | none => some i | some c => if (R.getD c default).t ≤ (R.getD i default).t then some i else some c) := fun b i => rfl
  have HR : Hid (∀ i, i < R.length → ∃ b off ra rc, a2 = some ⟨b, off, none⟩ ∧ w.cell? ⟨b, off + i * 2, none⟩ = some (.int .i64 (R.getD i default).t) ∧ w.cell? ⟨b, off + i * 2 + 1, none⟩ = some (.slice ra (R.getD i default).r.length rc) ∧ vl.rowAt w ra (R.getD i default).r) := hR
  obtain ⟨V, q1⟩ : ∃ f : Nat → Option Nat, ∀ i, VB p l.t R (keyOfS p 1 l.r) i = f i := ⟨_, fun _ => rfl⟩
  obtain ⟨RRf, q2⟩ : ∃ f : Nat → List Cel, ∀ k, (R.getD k default).r = f k := ⟨_, fun _ => rfl⟩
  obtain ⟨tf, q3⟩ : ∃ f : Nat → Int, ∀ k, (R.getD k default).t = f k := ⟨_, fun _ => rfl⟩
  simp only [q1, q2, q3] at K2 HVS HVE HV0 HVL HVT HR
  obtain ⟨KSf, q4⟩ : ∃ f : Nat → ByteArray, ∀ k, keyOfS p 2 (RRf k) = f k := ⟨_, fun _ => rfl⟩
  obtain ⟨HBf, q5⟩ : ∃ f : Nat → Bool, ∀ k, hasB p 2 (RRf k) = f k := ⟨_, fun _ => rfl⟩
  simp only [q4, q5] at K2 HVS
  obtain ⟨vv, q6⟩ : ∃ z, versionOf l.t R (placesOf p R (keyOfS p 1 l.r)) = z := ⟨_, rfl⟩
  obtain ⟨k1, q7⟩ : ∃ z, keyOfS p 1 l.r = z := ⟨_, rfl⟩
  rw [q6] at HVE ⊢
  rw [q7] at K1 HVS
  obtain ⟨b1, q8⟩ : ∃ z, hasB p 1 l.r = z := ⟨_, rfl⟩
  rw [q8] at K1 ⊢
  obtain ⟨lt, q9⟩ : ∃ z, l.t = z := ⟨_, rfl⟩
  obtain ⟨ll, q10⟩ : ∃ z, l.r.length = z := ⟨_, rfl⟩
  rw [q9] at HVS HVT ⊢
  rw [q10] at K1 ⊢
  obtain ⟨n, hn⟩ : ∃ n, R.length = n := ⟨_, rfl⟩
  rw [hn] at K2 HVE HR hl ⊢
  have HIF : Hid (b1 = false → ivers (if b1 = true then vv else none) = -1) := fun h => by rw [h]; rfl
  have HIT : Hid (b1 = true → ivers (if b1 = true then vv else none) = ivers vv) := fun h => by rw [if_pos h]
  obtain ⟨iv, hivv⟩ : ∃ z, ivers (if b1 = true then vv else none) = z := ⟨_, rfl⟩
  rw [hivv] at HIF HIT ⊢
  clear hivv q1 q2 q3 q4 q5 q6 q7 q8 q9 q10 hn hw hp h0 h1 h2 w1 hwR l1 hr1 hR e1
  obtain ⟨kind, mode, low, high, size, limit, left, right, lkeys, rkeys, grouped, group, aggs⟩ := p
  obtain ⟨la, lc, rr, rc, lk, lkc, rk, rkc, g, gc, ag, ac⟩ := x
  unfold planV at K1 K2 ⊢
  dsimp only at K1 K2 ⊢
  obtain ⟨n6, h6⟩ : ∃ n, left.length = n := ⟨_, rfl⟩
  obtain ⟨n7, h7⟩ : ∃ n, right.length = n := ⟨_, rfl⟩
  obtain ⟨n8, h8⟩ : ∃ n, lkeys.length = n := ⟨_, rfl⟩
  obtain ⟨n9, h9⟩ : ∃ n, rkeys.length = n := ⟨_, rfl⟩
  obtain ⟨n11, h11⟩ : ∃ n, group.length = n := ⟨_, rfl⟩
  obtain ⟨n12, h12⟩ : ∃ n, aggs.length = n := ⟨_, rfl⟩
  simp only [h6, h7, h8, h9, h11, h12] at K1 K2 ⊢
  clear h6 h7 h8 h9 h11 h12
  go_enter Tryz.func39, Tryz.ntmps39
  go_wp2_with fail
  generalize hW0 : (World.alloc (World.alloc w _) _) = W0
  have hb0 : Below w.heap.size w W0 := by rw [← hW0]; exact ((Below.refl _ _).alloc (Nat.le_refl _) _).alloc (by simp) _
  have s0 : W0.cell? ⟨w.heap.size, 0, none⟩ = some (.int .i64 kind) := by subst hW0; go_simp
  have s1 : W0.cell? ⟨w.heap.size, 1, none⟩ = some (.int .i64 mode) := by subst hW0; go_simp
  have s2 : W0.cell? ⟨w.heap.size, 2, none⟩ = some (.int .i64 low) := by subst hW0; go_simp
  have s3 : W0.cell? ⟨w.heap.size, 3, none⟩ = some (.int .i64 high) := by subst hW0; go_simp
  have s4 : W0.cell? ⟨w.heap.size, 4, none⟩ = some (.int .i64 size) := by subst hW0; go_simp
  have s5 : W0.cell? ⟨w.heap.size, 5, none⟩ = some (.int .i64 limit) := by subst hW0; go_simp
  have s6 : W0.cell? ⟨w.heap.size, 6, none⟩ = some (.slice la n6 lc) := by subst hW0; go_simp
  have s7 : W0.cell? ⟨w.heap.size, 7, none⟩ = some (.slice rr n7 rc) := by subst hW0; go_simp
  have s8 : W0.cell? ⟨w.heap.size, 8, none⟩ = some (.slice lk n8 lkc) := by subst hW0; go_simp
  have s9 : W0.cell? ⟨w.heap.size, 9, none⟩ = some (.slice rk n9 rkc) := by subst hW0; go_simp
  have s10 : W0.cell? ⟨w.heap.size, 10, none⟩ = some (.bool grouped) := by subst hW0; go_simp
  have s11 : W0.cell? ⟨w.heap.size, 11, none⟩ = some (.slice g n11 gc) := by subst hW0; go_simp
  have s12 : W0.cell? ⟨w.heap.size, 12, none⟩ = some (.slice ag n12 ac) := by subst hW0; go_simp
  have u0 : W0.cell? ⟨w.heap.size + 1, 0, none⟩ = some (.int .i64 lt) := by subst hW0; go_simp
  clear hW0
  refine (K1.out _ hb0).mono ?_
  rintro e W1 ⟨rfl, hc1⟩
  have hbn := hb0.trans (hc1.mono hb0.size)
  replace s0 := cell_later hc1 s0
  replace s1 := cell_later hc1 s1
  replace s2 := cell_later hc1 s2
  replace s3 := cell_later hc1 s3
  replace s4 := cell_later hc1 s4
  replace s5 := cell_later hc1 s5
  replace s6 := cell_later hc1 s6
  replace s7 := cell_later hc1 s7
  replace s8 := cell_later hc1 s8
  replace s9 := cell_later hc1 s9
  replace s10 := cell_later hc1 s10
  replace s11 := cell_later hc1 s11
  replace s12 := cell_later hc1 s12
  replace u0 := cell_later hc1 u0
  cases b1 with
  | false =>
    have HZ : Hid (iv = -1) := HIF.out rfl
    clear HIF HIT
    by_cases hn0 : (0 : Int) < (n : Int)
    · go_wp2
      go_loopw [9, 10] (fun b i wr => b = .int .i64 (-1) ∧ i = .int .i64 0 ∧ wr = W1) (fun _ _ _ => 0)
      case atStart => exact ⟨rfl, rfl, rfl⟩
      case round =>
        obtain ⟨rfl, rfl, rfl⟩ := hrel
        go_wp2
        go_ret
        exact ⟨ret_int HZ.out.symm, hbn⟩
    · have hn1 : n = 0 := by omega
      subst hn1
      go_wp2
      go_loopw [9, 10] (fun b i wr => b = .int .i64 (-1) ∧ i = .int .i64 0 ∧ wr = W1) (fun _ _ _ => 0)
      case atStart => exact ⟨rfl, rfl, rfl⟩
      case round =>
        obtain ⟨rfl, rfl, rfl⟩ := hrel
        go_wp2
        go_ret
        exact ⟨ret_int HZ.out.symm, hbn⟩
  | true =>
    have HZ : Hid (iv = ivers vv) := HIT.out rfl
    clear HIF HIT
    go_wp2
    go_loopw [9, 10] (fun b i wr => ∃ k : Nat, k ≤ n ∧ i = .int .i64 k ∧ b = .int .i64 (ivers (V k)) ∧ Below W1.heap.size W1 wr) (fun _ i _ => n - (intOf i).toNat)
    case atStart => exact ⟨0, Nat.zero_le _, rfl, by rw [HV0.out]; rfl, Below.refl _ _⟩
    case round =>
      obtain ⟨k, hk, rfl, rfl, hnx⟩ := hrel
      have hbr := hbn.trans (hnx.mono hbn.size)
      have hsz := hnx.size
      have c0 := cell_later hnx s0
      have c1 := cell_later hnx s1
      have c2 := cell_later hnx s2
      have c3 := cell_later hnx s3
      have c4 := cell_later hnx s4
      have c5 := cell_later hnx s5
      have c6 := cell_later hnx s6
      have c7 := cell_later hnx s7
      have c8 := cell_later hnx s8
      have c9 := cell_later hnx s9
      have c10 := cell_later hnx s10
      have c11 := cell_later hnx s11
      have c12 := cell_later hnx s12
      have d0 := cell_later hnx u0
      by_cases hlt : k < n
      · obtain ⟨b2, o2, rb, rc2, e, x1, x2, x3⟩ := HR.out k hlt
        subst e
        have y1 := cell_later hbr x1
        have y2 := cell_later hbr x2
        have KK : Hid (∀ w1, Below wr.heap.size wr w1 → _) := fun w1 hb => K2.out w1 k rb rc2 hlt (hbr.trans (hb.mono hbr.size)) (rowAt_below (rowAt_below x3 hbr) hb)
        have HV1 : Hid (V (k + 1) = if HBf k = true ∧ KSf k = k1 then (if lt < tf k then V k else match V k with | none => some k | some c => if tf c ≤ tf k then some k else some c) else V k) := by rw [HVS.out k, HVT.out]; rfl
        have HBC : Hid (∀ c, V k = some c → c < n ∧ wr.cell? ⟨b2, o2 + c * 2, none⟩ = some (.int .i64 (tf c))) := fun c hc => by
          have hcn : c < n := by have := HVL.out k c hc; omega
          obtain ⟨b2', o2', _, _, e', x1', _, _⟩ := HR.out c hcn
          cases e'
          exact ⟨hcn, cell_later hbr x1'⟩
        have i1 : (0 : Int) ≤ (k : Int) := by omega
        have i2 : (k : Int) < (n : Int) := by omega
        obtain ⟨hb, hhb⟩ : ∃ z, HBf k = z := ⟨_, rfl⟩
        obtain ⟨k2, hk2⟩ : ∃ z, KSf k = z := ⟨_, rfl⟩
        obtain ⟨tv, htv⟩ : ∃ z, tf k = z := ⟨_, rfl⟩
        obtain ⟨rl, hrl⟩ : ∃ z, (RRf k).length = z := ⟨_, rfl⟩
        rw [hhb, hk2, htv] at HV1
        rw [hhb, hk2, hrl] at KK
        rw [htv] at y1
        rw [hrl] at y2
        clear hhb hk2 htv hrl x1 x2 x3
        have hlw : w.heap.size < wr.heap.size := World.block_lt_of_cell? _ _ c0
        have dr : Below wr.heap.size wr wr.drew := (Below.refl _ _).drew
        go_wp2
        go_region_held3 (fun w' => w'.cell? ⟨w.heap.size, 0, none⟩ = some (.int .i64 kind) ∧ w'.cell? ⟨w.heap.size, 1, none⟩ = some (.int .i64 mode) ∧ w'.cell? ⟨w.heap.size, 2, none⟩ = some (.int .i64 low) ∧ w'.cell? ⟨w.heap.size, 3, none⟩ = some (.int .i64 high) ∧ w'.cell? ⟨w.heap.size, 4, none⟩ = some (.int .i64 size) ∧ w'.cell? ⟨w.heap.size, 5, none⟩ = some (.int .i64 limit) ∧ w'.cell? ⟨w.heap.size, 6, none⟩ = some (.slice la n6 lc) ∧ w'.cell? ⟨w.heap.size, 7, none⟩ = some (.slice rr n7 rc) ∧ w'.cell? ⟨w.heap.size, 8, none⟩ = some (.slice lk n8 lkc) ∧ w'.cell? ⟨w.heap.size, 9, none⟩ = some (.slice rk n9 rkc) ∧ w'.cell? ⟨w.heap.size, 10, none⟩ = some (.bool grouped) ∧ w'.cell? ⟨w.heap.size, 11, none⟩ = some (.slice g n11 gc) ∧ w'.cell? ⟨w.heap.size, 12, none⟩ = some (.slice ag n12 ac) ∧ w'.cell? ⟨b2, o2 + k * 2 + 1, none⟩ = some (.slice rb rl rc2)) (first | go_keep | exact ⟨cell_later hbq c0, cell_later hbq c1, cell_later hbq c2, cell_later hbq c3, cell_later hbq c4, cell_later hbq c5, cell_later hbq c6, cell_later hbq c7, cell_later hbq c8, cell_later hbq c9, cell_later hbq c10, cell_later hbq c11, cell_later hbq c12, cell_later hbq y2⟩)
          (first | (go_at_call 81; refine (KK.out wr.drew dr).mono ?_; rintro e wq ⟨rfl, hbq0⟩; have hbq := dr.trans hbq0))
        all_goals
          have hnq := hnx.trans (hbq.mono hsz)
          have d1 := cell_later hbq d0
          have z1 := cell_later hbq y1
          cases hb with
          | false =>
            have HV2 : Hid (V (k + 1) = V k) := by rw [HV1.out, if_neg (fun h => by cases h.1)]; rfl
            clear HV1
            go_wp2
            go_quiet (fail)
            have hq := below_drewN (Below.refl wq.heap.size wq) nq
            generalize (wq.drewN nq) = W9 at hq ⊢
            have hnz := hnq.trans (hq.mono hnq.size)
            go_wp2
            go_roundw
            case rel => exact ⟨k + 1, by omega, by go_num, by rw [HV2.out], hnz⟩
            case measure => simp [intOf]; omega
          | true =>
            by_cases hkk : k2 = k1
            · subst hkk
              have HV3 : Hid (V (k + 1) = if lt < tv then V k else match V k with | none => some k | some c => if tf c ≤ tv then some k else some c) := by rw [HV1.out, if_pos ⟨rfl, rfl⟩]; rfl
              clear HV1
              by_cases hgt : lt < tv
              · have hd : decide (tv ≤ lt) = false := decide_eq_false (by omega)
                have HV2 : Hid (V (k + 1) = V k) := by rw [HV3.out, if_pos hgt]; rfl
                clear HV3
                go_wp2
                go_quiet (fail)
                have hq := below_drewN (Below.refl wq.heap.size wq) nq
                generalize (wq.drewN nq) = W9 at hq ⊢
                have hnz := hnq.trans (hq.mono hnq.size)
                go_wp2
                go_roundw
                case rel => exact ⟨k + 1, by omega, by go_num, by rw [HV2.out], hnz⟩
                case measure => simp [intOf]; omega
              · have hd : decide (tv ≤ lt) = true := decide_eq_true (by omega)
                cases hVk : V k with
                | none =>
                  have HV2 : Hid (V (k + 1) = some k) := by rw [HV3.out, if_neg hgt, hVk]; rfl
                  have hiv : ivers none = -1 := rfl
                  clear HV3
                  rw [hiv]
                  go_wp2
                  go_quiet (fail)
                  have hq := below_drewN (Below.refl wq.heap.size wq) nq
                  generalize (wq.drewN nq) = W9 at hq ⊢
                  have hnz := hnq.trans (hq.mono hnq.size)
                  go_wp2
                  go_roundw
                  case rel => exact ⟨k + 1, by omega, by go_num, by rw [HV2.out]; rfl, hnz⟩
                  case measure => simp [intOf]; omega
                | some c =>
                  obtain ⟨hcn, hcc⟩ := HBC.out c hVk
                  have z2 := cell_later hbq hcc
                  have hiv : ivers (some c) = (c : Int) := rfl
                  have c1' : decide ((c : Int) < 0) = false := decide_eq_false (by omega)
                  have c2' : (0 : Int) ≤ (c : Int) := by omega
                  have c3' : (c : Int) < (n : Int) := by omega
                  rw [hiv]
                  by_cases hle : tf c ≤ tv
                  · have HV2 : Hid (V (k + 1) = some k) := by rw [HV3.out, if_neg hgt, hVk]; exact if_pos hle
                    have hd2 : decide (tf c ≤ tv) = true := decide_eq_true hle
                    clear HV3
                    go_wp2
                    go_quiet (fail)
                    have hq := below_drewN (Below.refl wq.heap.size wq) nq
                    generalize (wq.drewN nq) = W9 at hq ⊢
                    have hnz := hnq.trans (hq.mono hnq.size)
                    go_wp2
                    go_roundw
                    case rel => exact ⟨k + 1, by omega, by go_num, by rw [HV2.out]; rfl, hnz⟩
                    case measure => simp [intOf]; omega
                  · have HV2 : Hid (V (k + 1) = some c) := by rw [HV3.out, if_neg hgt, hVk]; exact if_neg hle
                    have hd2 : decide (tf c ≤ tv) = false := decide_eq_false hle
                    clear HV3
                    go_wp2
                    go_quiet (fail)
                    have hq := below_drewN (Below.refl wq.heap.size wq) nq
                    generalize (wq.drewN nq) = W9 at hq ⊢
                    have hnz := hnq.trans (hq.mono hnq.size)
                    go_wp2
                    go_roundw
                    case rel => exact ⟨k + 1, by omega, by go_num, by rw [HV2.out]; rfl, hnz⟩
                    case measure => simp [intOf]; omega
            · have HV2 : Hid (V (k + 1) = V k) := by rw [HV1.out, if_neg (fun h => hkk h.2)]; rfl
              have hkn : (k2.toList == k1.toList) = false := by
                rw [beq_eq_false_iff_ne]
                intro h
                exact hkk (bytes_inj (by rw [← ByteArray.toList_eq, ← ByteArray.toList_eq]; exact h))
              clear HV1 hkk
              go_wp2
              go_quiet (fail)
              have hq := below_drewN (Below.refl wq.heap.size wq) nq
              generalize (wq.drewN nq) = W9 at hq ⊢
              have hnz := hnq.trans (hq.mono hnq.size)
              go_wp2
              go_roundw
              case rel => exact ⟨k + 1, by omega, by go_num, by rw [HV2.out], hnz⟩
              case measure => simp [intOf]; omega
      · have hkn : k = n := by omega
        subst hkn
        have HE1 : Hid (V k = vv) := HVE.out
        go_wp2
        go_ret
        exact ⟨ret_int (by rw [HE1.out]; exact HZ.out.symm), hbr⟩
end Go.Proofs.YtcpanmaahhiioaaGreat.bt
