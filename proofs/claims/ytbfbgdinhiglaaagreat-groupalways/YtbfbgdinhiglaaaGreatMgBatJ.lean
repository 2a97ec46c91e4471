import Derived.Test.YtbfbgdinhiglaaaGreatMgChgD
import Derived.Test.YtbfbgdinhiglaaaGreatS13
import Derived.Test.YtbfbgdinhiglaaaGreatMgPlnB
import Derived.Test.YtbfbgdinhiglaaaGreatMgBatI
/- Several texts in one: ChgChk, BatView, BatGrp, BatGOf. -/
/- Check, of a view. -/
namespace Go.Proofs.YtbfbgdinhiglaaaGreat.ch
open Go.ChangeShapes Go.WideShapes Go.ChangeAt Go.RowKit Go.Maps Go.WideMaps
open vl
set_option linter.unusedVariables false
set_option linter.unusedSimpArgs false

theorem check_any (a : Option Addr) (cap : Nat) (v : List Cnt) (w : World) (hv : viewAt w a v) (hw : wfView v) (hl : v.length ≤ 9223372036854775807) :
    Calls Tryz.prog 97 #[.slice a v.length cap] w fun e w' => e = .returned (.int .i64 (viewErr v)) ∧ Below w.heap.size w w' := by
  have KG := gather_any a cap v w hv hw hl
  obtain ⟨n, hn⟩ : ∃ n, v.length = n := ⟨_, rfl⟩
  rw [hn] at KG
  rw [hn]
  go_enter Tryz.func97, Tryz.ntmps97
  go_wp2_with fail
  refine KG.mono ?_
  rintro e w1 ⟨hres, hb⟩
  rcases hres with ⟨h1, _, B, rfl, _⟩ | ⟨_, rfl⟩
  · go_wp2
    go_ret
    exact ⟨by rw [h1]; rfl, hb⟩
  · go_wp2
    go_ret
    exact ⟨rfl, hb⟩

end Go.Proofs.YtbfbgdinhiglaaaGreat.ch

/- What keeps a view from being grouped: checkView. -/
namespace Go.Proofs.YtbfbgdinhiglaaaGreat.bt
open Go.ChangeShapes Go.WideShapes Go.ChangeAt Go.RowKit
open vl pl
set_option linter.unusedVariables false
set_option linter.unusedSimpArgs false
set_option maxHeartbeats 1000000 in
theorem everyCnt_any (fn : FuncId) (eg : ∀ args w, (callFunc fn args).run Tryz.prog w = .ok (.enter fn args) w) (caps : Array Value) (P : Nat → Bool) (a : Option Addr) (cap : Nat) (l : List ch.Cnt) (w : World) (hl : l.length ≤ 9223372036854775807) (ha : ch.viewAt w a l)
    (H : ∀ i w1 ra rc, i < l.length → Below w.heap.size w w1 → vl.rowAt w1 ra (l.getD i default).r → Calls Tryz.prog fn (#[.int .i64 (i : Nat), .agg #[.slice ra (l.getD i default).r.length rc, .int .i64 (l.getD i default).n]] ++ caps) w1 fun e w' => e = .returned (.bool (P i)) ∧ Below w1.heap.size w1 w') :
    Calls Tryz.prog 135 #[.slice a l.length cap, .func (.func fn) #[] caps] w fun e w' => e = .returned (.bool (allB l.length P)) ∧ Below w.heap.size w w' := by
  have HH : Hid (∀ i w1 ra rc, i < l.length → Below w.heap.size w w1 → vl.rowAt w1 ra (l.getD i default).r → Calls Tryz.prog fn (#[.int .i64 (i : Nat), .agg #[.slice ra (l.getD i default).r.length rc, .int .i64 (l.getD i default).n]] ++ caps) w1 fun e w' => e = .returned (.bool (P i)) ∧ Below w1.heap.size w1 w') := H
  clear H
  obtain ⟨n, hn⟩ : ∃ n, l.length = n := ⟨_, rfl⟩
  have HN : Hid (l.length = n) := hn
  rw [hn] at hl ⊢
  clear hn
  go_enter Tryz.func135, Tryz.ntmps135
  go_wp2
  go_loopw [9] (fun i wr => ∃ k : Nat, k ≤ n ∧ i = .int .i64 k ∧ Below w.heap.size w wr ∧ ∀ i, i < k → P i = true) (fun i _ => n - (intOf i).toNat)
  case atStart => exact ⟨0, Nat.zero_le _, rfl, Below.refl _ _, fun i hi => absurd hi (Nat.not_lt_zero i)⟩
  case round =>
    obtain ⟨k, hk, rfl, hnx, hall⟩ := hrel
    have HA : Hid (∀ i, i < k → P i = true) := hall
    clear hall
    by_cases hlt : k < n
    · obtain ⟨b, o, ra, rc, e, x1, x3, x2⟩ := ha k (by rw [HN.out]; exact hlt)
      subst e
      have q1 := cell_later hnx x1
      have q2 := cell_later hnx x2
      have i1 : (0 : Int) ≤ (k : Int) := by omega
      have i2 : (k : Int) < (n : Int) := by omega
      have KK : Hid (∀ w1, Below wr.heap.size wr w1 → Calls Tryz.prog fn (#[.int .i64 (k : Nat), .agg #[.slice ra (l.getD k default).r.length rc, .int .i64 (l.getD k default).n]] ++ caps) w1 fun e w' => e = .returned (.bool (P k)) ∧ Below w1.heap.size w1 w') := fun w1 hb => HH.out k w1 ra rc (by rw [HN.out]; exact hlt) (hnx.trans (hb.mono hnx.size)) (rowAt_below x3 (hnx.trans (hb.mono hnx.size)))
      clear x1 x2 x3 ha
      obtain ⟨z1, hz1⟩ : ∃ z, (l.getD k default).n = z := ⟨_, rfl⟩
      obtain ⟨z2, hz2⟩ : ∃ z, (l.getD k default).r.length = z := ⟨_, rfl⟩
      rw [hz1] at q2 KK
      rw [hz2] at q1 KK
      clear hz1 hz2
      have hsz := hnx.size
      cases hp : P k with
      | true =>
        rw [hp] at KK
        go_wp2_with (go_at_fn fn; refine (KK.out _ ((Below.refl _ _).alloc (Nat.le_refl _) _)).mono ?_; rintro e w1 ⟨rfl, hb1⟩; have hbx := (hnx.alloc hsz _).trans (hb1.mono (by simp; omega)))
        go_roundw
        case rel => exact ⟨k + 1, by omega, by go_num, hbx, fun i hi => by
          rcases Nat.lt_succ_iff_lt_or_eq.1 hi with h | h
          · exact HA.out i h
          · rw [h]; exact hp⟩
        case measure => simp [intOf]; omega
      | false =>
        have HE : Hid (allB n P = false) := allB_no hlt hp
        rw [hp] at KK
        go_wp2_with (go_at_fn fn; refine (KK.out _ ((Below.refl _ _).alloc (Nat.le_refl _) _)).mono ?_; rintro e w1 ⟨rfl, hb1⟩; have hbx := (hnx.alloc hsz _).trans (hb1.mono (by simp; omega)))
        go_ret
        exact ⟨ret_bool HE.out.symm, hbx⟩
    · have HE : Hid (allB n P = true) := allB_iff.2 (fun i hi => HA.out i (by omega))
      go_wp2
      go_ret
      exact ⟨ret_bool HE.out.symm, hnx⟩
/-- E4: what keeps a view from being grouped -/
def manyB (p : Pln) (v : List ch.Cnt) : Bool := allB v.length (fun i => decide ((v.getD i default).r.length = (cols p).length))
def typB (p : Pln) (v : List ch.Cnt) : Bool := allB v.length (fun i => typedB (v.getD i default).r (cols p))
def groupErr (p : Pln) (v : List ch.Cnt) : Int := if planErr p ≠ 0 then planErr p else if p.grouped = false then 1 else if ch.viewErr v ≠ 0 then ch.viewErr v else if manyB p v = false then 2 else if typB p v = false then 5 else 0
theorem cv1_any (i m : Int) (ra ca : Option Addr) (rl rc cn cc CB : Nat) (w : World) (hc : w.cell? ⟨CB, 0, none⟩ = some (.slice ca cn cc)) :
    Calls Tryz.prog 136 #[.int .i64 i, .agg #[.slice ra rl rc, .int .i64 m], .pointer (some ⟨CB, 0, none⟩)] w fun e w' => e = .returned (.bool (decide (rl = cn))) ∧ Below w.heap.size w w' := by
  have hlt : CB < w.heap.size := World.block_lt_of_cell? _ _ hc
  have HD : Hid (((rl : Int) == (cn : Int)) = decide (rl = cn)) := by
    show ((rl : Int) == (cn : Int)) = _
    rw [Bool.eq_iff_iff]; simp; omega
  go_enter Tryz.func136, Tryz.ntmps136
  go_wp2
  go_ret
  exact ⟨ret_bool HD.out, (Below.refl _ _).alloc (Nat.le_refl _) _⟩
theorem cv2_any (i m : Int) (ra ca : Option Addr) (rc cc CB : Nat) (r : List Cel) (cs : List Int) (w : World) (hc : w.cell? ⟨CB, 0, none⟩ = some (.slice ca cs.length cc)) (hr : vl.rowAt w ra r) (hrl : r.length ≤ 9223372036854775807) (hcs : intsAt w ca cs) (hcl : cs.length ≤ 9223372036854775807) :
    Calls Tryz.prog 137 #[.int .i64 i, .agg #[.slice ra r.length rc, .int .i64 m], .pointer (some ⟨CB, 0, none⟩)] w fun e w' => e = .returned (.bool (typedB r cs)) ∧ Below w.heap.size w w' := by
  have hlt : CB < w.heap.size := World.block_lt_of_cell? _ _ hc
  have K : Hid (∀ w1, Below w.heap.size w w1 → Calls Tryz.prog 75 #[.slice ra r.length rc, .slice ca cs.length cc] w1 fun e w' => e = .returned (.bool (typedB r cs)) ∧ Below w1.heap.size w1 w') := fun w1 hb => typed_any ra ca rc cc r cs w1 hrl hcl (rowAt_below hr hb) (intsAt_below hcs hb)
  obtain ⟨rl, e1⟩ : ∃ z, r.length = z := ⟨_, rfl⟩
  obtain ⟨cn, e2⟩ : ∃ z, cs.length = z := ⟨_, rfl⟩
  obtain ⟨tb, e3⟩ : ∃ z, typedB r cs = z := ⟨_, rfl⟩
  rw [e1, e2, e3] at K
  rw [e2] at hc
  rw [e1, e3]
  clear e1 e2 e3 hr hcs hrl hcl
  go_enter Tryz.func137, Tryz.ntmps137
  go_wp2_with (go_at_call 75; refine (K.out _ ((Below.refl _ _).alloc (Nat.le_refl _) _)).mono ?_; rintro e w1 ⟨rfl, hb1⟩)
  go_ret
  exact ⟨rfl, ((Below.refl _ _).alloc (Nat.le_refl _) _).trans (hb1.mono (by simp))⟩
/-- what keeps rows from being a view's of these columns -/
def manyC (cs : List Int) (v : List ch.Cnt) : Bool := allB v.length (fun i => decide ((v.getD i default).r.length = cs.length))
def typC (cs : List Int) (v : List ch.Cnt) : Bool := allB v.length (fun i => typedB (v.getD i default).r cs)
def viewC (cs : List Int) (v : List ch.Cnt) : Int := if manyC cs v = false then 2 else if typC cs v = false then 5 else 0
set_option maxRecDepth 10000 in
set_option maxHeartbeats 4000000 in
theorem cellsView_any (a cad : Option Addr) (ca cc : Nat) (v : List ch.Cnt) (cs : List Int) (w : World) (hl : v.length ≤ 9223372036854775807) (hv : ch.viewAt w a v) (hwv : ch.wfView v) (hcs : intsAt w cad cs) (hcl : cs.length ≤ 9223372036854775807) :
    Calls Tryz.prog 98 #[.slice a v.length ca, .slice cad cs.length cc] w fun e w' => e = .returned (.int .i64 (viewC cs v)) ∧ Below w.heap.size w w' := by
  have K3 : Hid (∀ CB w1, Below w.heap.size w w1 → w1.cell? ⟨CB, 0, none⟩ = some (.slice cad cs.length cc) → Calls Tryz.prog 135 #[.slice a v.length ca, .func (.func 136) #[] #[.pointer (some ⟨CB, 0, none⟩)]] w1 fun e w' => e = .returned (.bool (manyC cs v)) ∧ Below w1.heap.size w1 w') := fun CB w1 hb hc =>
    everyCnt_any 136 (enters_of Tryz.func136 (by kernel_rfl) rfl) #[.pointer (some ⟨CB, 0, none⟩)] (fun i => decide ((v.getD i default).r.length = cs.length)) a ca v w1 hl (ch.viewAt_below hv hb) (fun i w2 ra rc hi hb2 hr => cv1_any i _ ra cad _ rc _ cc CB w2 (cell_later hb2 hc))
  have K4 : Hid (∀ CB w1, Below w.heap.size w w1 → w1.cell? ⟨CB, 0, none⟩ = some (.slice cad cs.length cc) → Calls Tryz.prog 135 #[.slice a v.length ca, .func (.func 137) #[] #[.pointer (some ⟨CB, 0, none⟩)]] w1 fun e w' => e = .returned (.bool (typC cs v)) ∧ Below w1.heap.size w1 w') := fun CB w1 hb hc =>
    everyCnt_any 137 (enters_of Tryz.func137 (by kernel_rfl) rfl) #[.pointer (some ⟨CB, 0, none⟩)] (fun i => typedB (v.getD i default).r cs) a ca v w1 hl (ch.viewAt_below hv hb) (fun i w2 ra rc hi hb2 hr => cv2_any i _ ra cad rc cc CB _ _ w2 (cell_later hb2 hc) hr (ch.wfv_at hwv i hi).2.1 (intsAt_below (intsAt_below hcs hb) hb2) hcl)
  have HK : Hid (viewC cs v = if manyC cs v = false then 2 else if typC cs v = false then 5 else 0) := rfl
  obtain ⟨be, hbe⟩ : ∃ z, viewC cs v = z := ⟨_, rfl⟩
  obtain ⟨mb, hmb⟩ : ∃ z, manyC cs v = z := ⟨_, rfl⟩
  obtain ⟨tb, htb⟩ : ∃ z, typC cs v = z := ⟨_, rfl⟩
  obtain ⟨cn, hcn⟩ : ∃ z, cs.length = z := ⟨_, rfl⟩
  obtain ⟨n1, hn1⟩ : ∃ n, v.length = n := ⟨_, rfl⟩
  rw [hbe] at HK ⊢
  rw [hmb] at K3 HK
  rw [htb] at K4 HK
  rw [hcn, hn1] at K3 K4
  rw [hcn, hn1]
  clear hbe hmb htb hcn hn1 hl hv hwv hcs hcl
  go_enter Tryz.func98, Tryz.ntmps98
  go_wp2_with fail
  refine (K3.out _ _ ((Below.refl _ _).alloc (Nat.le_refl _) _) (by go_simp)).mono ?_
  rintro e w4 ⟨rfl, hb4⟩
  have hbd := ((Below.refl _ _).alloc (Nat.le_refl _) _).trans (hb4.mono (by simp))
  have t0 : w4.cell? ⟨w.heap.size, 0, none⟩ = some (.slice cad cn cc) := cell_later hb4 (by go_simp)
  cases mb with
  | false =>
    have HX : Hid (be = 2) := by rw [HK.out]; show (if _ then _ else _) = _; simp
    clear HK
    go_wp2
    go_ret
    exact ⟨ret_int HX.out.symm, hbd⟩
  | true =>
    have HK4 : Hid (be = if tb = false then 5 else 0) := by rw [HK.out]; show (if _ then _ else _) = _; simp
    clear HK
    go_wp2_with fail
    refine (K4.out _ _ hbd t0).mono ?_
    rintro e w5 ⟨rfl, hb5⟩
    have hbe := hbd.trans (hb5.mono hbd.size)
    cases tb with
    | false =>
      have HX : Hid (be = 5) := by rw [HK4.out]; show (if _ then _ else _) = _; simp
      clear HK4
      go_wp2
      go_ret
      exact ⟨ret_int HX.out.symm, hbe⟩
    | true =>
      have HX : Hid (be = 0) := by rw [HK4.out]; show (if _ then _ else _) = _; simp
      clear HK4
      go_wp2
      go_ret
      exact ⟨ret_int HX.out.symm, hbe⟩
set_option maxRecDepth 10000 in
set_option maxHeartbeats 4000000 in
theorem checkView_any (p : Pln) (x : PA) (a : Option Addr) (ca : Nat) (v : List ch.Cnt) (w : World) (hw : wfPlan p) (hp : planAt w p x) (hl : v.length ≤ 9223372036854775807) (hv : ch.viewAt w a v) (hwv : ch.wfView v) :
    Calls Tryz.prog 50 #[planV p x, .slice a v.length ca] w fun e w' => e = .returned (.int .i64 (groupErr p v)) ∧ Below w.heap.size w w' := by
  have K0 : Hid (∀ w1, Below w.heap.size w w1 → Calls Tryz.prog 32 #[planV p x] w1 fun e w' => e = .returned (.int .i64 (planErr p)) ∧ Below w1.heap.size w1 w') := fun w1 hb => planCheck_any p x w1 hw (planAt_below hp hb)
  have K1 : Hid (∀ w1, Below w.heap.size w w1 → Calls Tryz.prog 97 #[.slice a v.length ca] w1 fun e w' => e = .returned (.int .i64 (ch.viewErr v)) ∧ Below w1.heap.size w1 w') := fun w1 hb => ch.check_any a ca v w1 (ch.viewAt_below hv hb) hwv hl
  have K2 : Hid (∀ w1, planErr p = 0 → Below w.heap.size w w1 → Calls Tryz.prog 72 #[planV p x] w1 fun e w' => (∃ ad cap, e = .returned (.slice ad (cols p).length cap) ∧ intsAt w' ad (cols p)) ∧ Below w1.heap.size w1 w') := fun w1 h0 hb => by
    have hf := cols_few h0
    have hs : 1 ≤ p.left.length ∧ 1 ≤ p.right.length := ⟨(planErr_ok h0).2.2.1.1.1.1, (planErr_ok h0).2.2.1.1.2.1.1⟩
    refine (joined_any p x w1 (planAt_below hp hb) (by omega) (by omega) (by omega) (by omega)).mono ?_
    rintro e w' ⟨⟨ad, cap, he, ho⟩, hb'⟩
    exact ⟨⟨ad, cap, he, (ownI_at ho).1⟩, hb'⟩
  have K3 : Hid (∀ cad cc w1, planErr p = 0 → Below w.heap.size w w1 → intsAt w1 cad (cols p) → Calls Tryz.prog 98 #[.slice a v.length ca, .slice cad (cols p).length cc] w1 fun e w' => e = .returned (.int .i64 (viewC (cols p) v)) ∧ Below w1.heap.size w1 w') := fun cad cc w1 h0 hb hc =>
    cellsView_any a cad ca cc v (cols p) w1 hl (ch.viewAt_below hv hb) hwv hc (by have hf := cols_few h0; unfold cols; rw [List.length_append]; omega)
  have HK : Hid (groupErr p v = if planErr p ≠ 0 then planErr p else if p.grouped = false then 1 else if ch.viewErr v ≠ 0 then ch.viewErr v else viewC (cols p) v) := rfl
  obtain ⟨be, hbe⟩ : ∃ z, groupErr p v = z := ⟨_, rfl⟩
  obtain ⟨pe, hpe⟩ : ∃ z, planErr p = z := ⟨_, rfl⟩
  obtain ⟨ve, hve⟩ : ∃ z, ch.viewErr v = z := ⟨_, rfl⟩
  obtain ⟨vc, hvc⟩ : ∃ z, viewC (cols p) v = z := ⟨_, rfl⟩
  obtain ⟨cn, hcn⟩ : ∃ z, (cols p).length = z := ⟨_, rfl⟩
  obtain ⟨cs, hcs⟩ : ∃ z, cols p = z := ⟨_, rfl⟩
  rw [hbe] at HK ⊢
  rw [hpe] at K0 K2 K3 HK
  rw [hve] at K1 HK
  rw [hvc] at K3 HK
  rw [hcn] at K2 K3
  rw [hcs] at K2 K3
  obtain ⟨n1, hn1⟩ : ∃ n, v.length = n := ⟨_, rfl⟩
  rw [hn1] at K1 K3 ⊢
  clear hbe hpe hve hvc hcn hcs hn1 hw hp hl hv hwv
  obtain ⟨kind, mode, low, high, size, limit, left, right, lkeys, rkeys, grouped, group, aggs⟩ := p
  obtain ⟨la, lc, rr, rc, lk, lkc, rk, rkc, g, gc, ag, ac⟩ := x
  unfold planV at K0 K2 ⊢
  dsimp only at K0 K2 HK ⊢
  obtain ⟨n6, h6⟩ : ∃ n, left.length = n := ⟨_, rfl⟩
  obtain ⟨n7, h7⟩ : ∃ n, right.length = n := ⟨_, rfl⟩
  obtain ⟨n8, h8⟩ : ∃ n, lkeys.length = n := ⟨_, rfl⟩
  obtain ⟨n9, h9⟩ : ∃ n, rkeys.length = n := ⟨_, rfl⟩
  obtain ⟨n11, h11⟩ : ∃ n, group.length = n := ⟨_, rfl⟩
  obtain ⟨n12, h12⟩ : ∃ n, aggs.length = n := ⟨_, rfl⟩
  simp only [h6, h7, h8, h9, h11, h12] at K0 K2 ⊢
  clear h6 h7 h8 h9 h11 h12
  go_enter Tryz.func50, Tryz.ntmps50
  go_wp2_with fail
  generalize hW0 : (World.alloc w _) = W0
  have hb0 : Below w.heap.size w W0 := by rw [← hW0]; exact (Below.refl _ _).alloc (Nat.le_refl _) _
  have s0 : W0.cell? ⟨w.heap.size, 0, none⟩ = some (.int .i64 kind) := by subst hW0; go_simp
  have s1 : W0.cell? ⟨w.heap.size, 1, none⟩ = some (.int .i64 mode) := by subst hW0; go_simp
  have s2 : W0.cell? ⟨w.heap.size, 2, none⟩ = some (.int .i64 low) := by subst hW0; go_simp
  have s3 : W0.cell? ⟨w.heap.size, 3, none⟩ = some (.int .i64 high) := by subst hW0; go_simp
  have s4 : W0.cell? ⟨w.heap.size, 4, none⟩ = some (.int .i64 size) := by subst hW0; go_simp
  have s5 : W0.cell? ⟨w.heap.size, 5, none⟩ = some (.int .i64 limit) := by subst hW0; go_simp
  have s6 : W0.cell? ⟨w.heap.size, 6, none⟩ = some (.slice la n6 lc) := by subst hW0; go_simp
  have s7 : W0.cell? ⟨w.heap.size, 7, none⟩ = some (.slice rr n7 rc) := by subst hW0; go_simp
  have s8 : W0.cell? ⟨w.heap.size, 8, none⟩ = some (.slice lk n8 lkc) := by subst hW0; go_simp
  have s9 : W0.cell? ⟨w.heap.size, 9, none⟩ = some (.slice rk n9 rkc) := by subst hW0; go_simp
  have s10 : W0.cell? ⟨w.heap.size, 10, none⟩ = some (.bool grouped) := by subst hW0; go_simp
  have s11 : W0.cell? ⟨w.heap.size, 11, none⟩ = some (.slice g n11 gc) := by subst hW0; go_simp
  have s12 : W0.cell? ⟨w.heap.size, 12, none⟩ = some (.slice ag n12 ac) := by subst hW0; go_simp
  clear hW0
  refine (K0.out _ hb0).mono ?_
  rintro e w1 ⟨rfl, hb1⟩
  have hba : Below w.heap.size w w1 := hb0.trans (hb1.mono hb0.size)
  replace s0 := cell_later hb1 s0
  replace s1 := cell_later hb1 s1
  replace s2 := cell_later hb1 s2
  replace s3 := cell_later hb1 s3
  replace s4 := cell_later hb1 s4
  replace s5 := cell_later hb1 s5
  replace s6 := cell_later hb1 s6
  replace s7 := cell_later hb1 s7
  replace s8 := cell_later hb1 s8
  replace s9 := cell_later hb1 s9
  replace s10 := cell_later hb1 s10
  replace s11 := cell_later hb1 s11
  replace s12 := cell_later hb1 s12
  by_cases hpe : pe = 0
  case neg =>
    have hpe' : (pe != 0) = true := by simpa using hpe
    have HX : Hid (be = pe) := by rw [HK.out, if_pos hpe]; rfl
    clear hpe HK
    go_wp2
    go_ret
    exact ⟨ret_int HX.out.symm, hba⟩
  subst hpe
  cases grouped with
  | false =>
    have HX : Hid (be = 1) := by rw [HK.out]; show (if _ then _ else _) = _; simp
    clear HK
    go_wp2
    go_ret
    exact ⟨ret_int HX.out.symm, hba⟩
  | true =>
    have HK2 : Hid (be = if ve ≠ 0 then ve else vc) := by rw [HK.out]; show (if _ then _ else _) = _; simp
    clear HK
    go_wp2_with fail
    refine (K1.out _ hba).mono ?_
    rintro e w2 ⟨rfl, hb2⟩
    have hbb := hba.trans (hb2.mono hba.size)
    replace s0 := cell_later hb2 s0
    replace s1 := cell_later hb2 s1
    replace s2 := cell_later hb2 s2
    replace s3 := cell_later hb2 s3
    replace s4 := cell_later hb2 s4
    replace s5 := cell_later hb2 s5
    replace s6 := cell_later hb2 s6
    replace s7 := cell_later hb2 s7
    replace s8 := cell_later hb2 s8
    replace s9 := cell_later hb2 s9
    replace s10 := cell_later hb2 s10
    replace s11 := cell_later hb2 s11
    replace s12 := cell_later hb2 s12
    by_cases hve : ve = 0
    case neg =>
      have hve' : (ve != 0) = true := by simpa using hve
      have HX : Hid (be = ve) := by rw [HK2.out, if_pos hve]; rfl
      clear hve HK2
      go_wp2
      go_ret
      exact ⟨ret_int HX.out.symm, hbb⟩
    subst hve
    have HK3 : Hid (be = vc) := by rw [HK2.out]; show (if _ then _ else _) = _; simp
    clear HK2
    go_wp2_with fail
    refine (K2.out _ (by trivial) hbb).mono ?_
    rintro e w3 ⟨⟨cad, cc, rfl, hci⟩, hb3⟩
    have hbc : Below w.heap.size w w3 := hbb.trans (hb3.mono hbb.size)
    go_wp2_with fail
    refine (K3.out cad cc _ (by trivial) hbc hci).mono ?_
    rintro e w4 ⟨rfl, hb4⟩
    go_wp2
    go_ret
    exact ⟨ret_int HK3.out.symm, hbc.trans (hb4.mono hbc.size)⟩
end Go.Proofs.YtbfbgdinhiglaaaGreat.bt

/- E4: a view, grouped. No Go in sight. -/
namespace Go.Proofs.YtbfbgdinhiglaaaGreat.bt
open Go.RowKit
open vl pl
set_option linter.unusedVariables false
set_option linter.unusedSimpArgs false
/-- what is the same in a group's rows -/
def headG (p : Pln) (c : ch.Cnt) : List Cel := pickR c.r p.group
def keyG (p : Pln) (c : ch.Cnt) : List UInt8 := encR (headG p c)
/-- the keys of the groups, rising -/
def gkeys (p : Pln) (v : List ch.Cnt) : ch.KV := v.foldl (fun kv c => ch.putK kv (keyG p c) 1) []
def headR (p : Pln) (v : List ch.Cnt) (k : List UInt8) : List Cel := match ofKey (keyG p) v k with | [] => [] | c :: _ => headG p c
def figsR (p : Pln) (v : List ch.Cnt) (k : List UInt8) : List Cel := p.aggs.map (fun a => figC a (ofKey (keyG p) v k))
def groupRow (p : Pln) (v : List ch.Cnt) (k : List UInt8) : ch.Cnt := ⟨headR p v k ++ figsR p v k, 1⟩
/-- E4: what Group answers -/
def groupOut (p : Pln) (v : List ch.Cnt) : List ch.Cnt := (gkeys p v).map (fun q => groupRow p v q.1)
theorem gkeys_snoc (p : Pln) (v : List ch.Cnt) (c : ch.Cnt) : gkeys p (v ++ [c]) = ch.putK (gkeys p v) (keyG p c) 1 := by
  unfold gkeys; rw [List.foldl_append]; rfl
theorem snoc_ind {P : List ch.Cnt → Prop} (h0 : P []) (hs : ∀ v c, P v → P (v ++ [c])) (v : List ch.Cnt) : P v := by
  have : ∀ n, ∀ v : List ch.Cnt, v.length = n → P v := by
    intro n
    induction n with
    | zero => intro v h; rw [List.length_eq_zero_iff.1 h]; exact h0
    | succ n ih =>
      intro v h
      have hne : v ≠ [] := fun e => by rw [e] at h; cases h
      rw [← List.dropLast_concat_getLast hne]
      exact hs _ _ (ih _ (by rw [List.length_dropLast, h]; rfl))
  exact this v.length v rfl
theorem gkeys_up (p : Pln) (v : List ch.Cnt) : ch.rising (gkeys p v) := by
  refine snoc_ind (P := fun v => ch.rising (gkeys p v)) List.Pairwise.nil (fun v c h => ?_) v
  rw [gkeys_snoc]
  exact ch.rising_put h _ _
theorem gkeys_mem (p : Pln) (v : List ch.Cnt) (k : List UInt8) : (∃ q ∈ gkeys p v, q.1 = k) ↔ ∃ c ∈ v, keyG p c = k := by
  refine snoc_ind (P := fun v => (∃ q ∈ gkeys p v, q.1 = k) ↔ ∃ c ∈ v, keyG p c = k) ?_ (fun v c h => ?_) v
  · exact ⟨fun ⟨q, hq, _⟩ => (by cases hq), fun ⟨c, hc, _⟩ => (by cases hc)⟩
  · rw [gkeys_snoc]
    constructor
    · rintro ⟨q, hq, e⟩
      rcases ch.mem_put.1 hq with rfl | ⟨hq, _⟩
      · exact ⟨c, List.mem_append.2 (.inr (List.mem_singleton.2 rfl)), e⟩
      · obtain ⟨x, hx, ex⟩ := h.1 ⟨q, hq, e⟩
        exact ⟨x, List.mem_append.2 (.inl hx), ex⟩
    · rintro ⟨x, hx, e⟩
      by_cases ec : keyG p c = k
      · exact ⟨_, ch.mem_put.2 (.inl rfl), ec⟩
      · rcases List.mem_append.1 hx with hx | hx
        · obtain ⟨q, hq, eq⟩ := h.2 ⟨x, hx, e⟩
          exact ⟨q, ch.mem_put.2 (.inr ⟨hq, fun e2 => ec (by rw [← e2, eq])⟩), eq⟩
        · rw [List.mem_singleton.1 hx] at e; exact absurd e ec
/-- lists of keys that rise, with the same keys, are the same -/
theorem keys_ext {a b : ch.KV} (ha : ch.rising a) (hb : ch.rising b) (h : ∀ k, (∃ q ∈ a, q.1 = k) ↔ ∃ q ∈ b, q.1 = k) : a.map (·.1) = b.map (·.1) := by
  have one : ∀ (l : ch.KV), ch.rising l → ch.rising (l.map fun p => (p.1, (1 : Int))) := fun l hl => by
    unfold ch.rising
    rw [List.pairwise_map]
    exact hl
  have get : ∀ (l : ch.KV), ch.rising l → ∀ k, ch.getK (l.map fun p => (p.1, (1 : Int))) k = if (∃ q ∈ l, q.1 = k) then 1 else 0 := fun l hl k => by
    by_cases e : ∃ q ∈ l, q.1 = k
    · rw [if_pos e]
      obtain ⟨q, hq, rfl⟩ := e
      exact ch.getK_of (one l hl) (p := (q.1, 1)) (List.mem_map.2 ⟨q, hq, rfl⟩)
    · rw [if_neg e]
      refine ch.getK_none (fun p hp e2 => e ?_)
      obtain ⟨q, hq, rfl⟩ := List.mem_map.1 hp
      exact ⟨q, hq, e2⟩
  have nz : ∀ (l : ch.KV), ∀ p ∈ l.map (fun p => (p.1, (1 : Int))), p.2 ≠ 0 := fun l p hp => by
    obtain ⟨q, _, rfl⟩ := List.mem_map.1 hp
    show (1 : Int) ≠ 0
    decide
  have e := ch.kv_ext (one a ha) (one b hb) (nz a) (nz b) (fun k => by
    rw [get a ha k, get b hb k]
    by_cases e : ∃ q ∈ a, q.1 = k
    · rw [if_pos e, if_pos ((h k).1 e)]
    · rw [if_neg e, if_neg (fun e2 => e ((h k).2 e2))])
  have := congrArg (List.map (·.1)) e
  rw [List.map_map, List.map_map] at this
  exact this
theorem GS_keys {W0 wr : World} {base B nn : Nat} {p : Pln} {v : List ch.Cnt} {kv : ch.KV} (h : GS W0 base wr B nn (keyG p) v kv) : kv.map (·.1) = (gkeys p v).map (·.1) := by
  refine keys_ext h.up (gkeys_up p v) (fun k => ?_)
  rw [gkeys_mem]
  constructor
  · rintro ⟨q, hq, rfl⟩
    obtain ⟨_, _, _, _, h3⟩ := h.each q hq
    obtain ⟨c, hc⟩ := List.exists_mem_of_ne_nil _ h3
    unfold ofKey at hc
    have := List.mem_filter.1 hc
    exact ⟨c, this.1, by simpa using this.2⟩
  · rintro ⟨c, hc, rfl⟩
    obtain ⟨q, hq, e⟩ := h.all c hc
    exact ⟨q, hq, e⟩
structure groupOk (p : Pln) (v : List ch.Cnt) : Prop where
  plan : planErr p = 0
  grouped : p.grouped = true
  view : ch.viewOk v
  len : ∀ c ∈ v, c.r.length = (cols p).length
  typ : ∀ c ∈ v, typedB c.r (cols p) = true
theorem viewErr_zero {v : List ch.Cnt} (h : ch.viewErr v = 0) : ch.viewOk v := by
  unfold ch.viewErr at h
  split at h
  · cases h
  · split at h
    · rename_i h1; exact h1
    · cases h
theorem group_ok {p : Pln} {v : List ch.Cnt} (h : groupErr p v = 0) : groupOk p v := by
  unfold groupErr at h
  split at h
  · rename_i h0; exact absurd h h0
  · rename_i h0
    split at h
    · cases h
    · rename_i h1
      split at h
      · rename_i h2; exact absurd h h2
      · rename_i h2
        split at h
        · cases h
        · rename_i h3
          split at h
          · cases h
          · rename_i h4
            have h3' : manyB p v = true := by simpa using h3
            have h4' : typB p v = true := by simpa using h4
            refine ⟨Decidable.of_not_not h0, by simpa using h1, viewErr_zero (Decidable.of_not_not h2), fun c hc => ?_, fun c hc => ?_⟩
            · obtain ⟨i, hi, e⟩ := List.mem_iff_getElem.1 hc
              have := allB_iff.1 h3' i hi
              have e2 : v.getD i default = c := by rw [List.getD_eq_getElem?_getD, List.getElem?_eq_getElem hi]; exact e
              rw [e2] at this
              exact of_decide_eq_true this
            · obtain ⟨i, hi, e⟩ := List.mem_iff_getElem.1 hc
              have := allB_iff.1 h4' i hi
              have e2 : v.getD i default = c := by rw [List.getD_eq_getElem?_getD, List.getElem?_eq_getElem hi]; exact e
              rw [e2] at this
              exact this
theorem group_few {p : Pln} (h : planErr p = 0) (hg : p.grouped = true) : p.group.length + p.aggs.length ≤ 8 ∧ 1 ≤ p.aggs.length ∧ p.aggs.length ≤ 4 := by
  have hm := (planErr_ok h).2.2.1.2
  rw [if_pos hg] at hm
  exact ⟨hm.2, hm.1.1, hm.1.2⟩
theorem group_in {p : Pln} (h : planErr p = 0) : ∀ x ∈ p.group, 0 ≤ x ∧ x < ((cols p).length : Int) := (planErr_ok h).2.2.2.2.2.2.1.1
theorem head_ok {p : Pln} {v : List ch.Cnt} (h : groupOk p v) (hw : ch.wfView v) {c : ch.Cnt} (hc : c ∈ v) : rowOk (headG p c) := by
  have hr := ch.view_rows hw h.view c hc
  have hf := group_few h.plan h.grouped
  refine pick_ok (by omega) ?_ (errR_ok hr.2) (fun x hx => (hr.2 x hx).2)
  rw [h.len c hc]
  exact group_in h.plan
theorem headR_is {p : Pln} {v : List ch.Cnt} (h : groupOk p v) (hw : ch.wfView v) {k : List UInt8} (hk : ∃ c ∈ v, keyG p c = k) : rowOk (headR p v k) ∧ encR (headR p v k) = k := by
  obtain ⟨c, hc, e⟩ := hk
  unfold headR
  cases ho : ofKey (keyG p) v k with
  | nil =>
    have : c ∈ ofKey (keyG p) v k := by unfold ofKey; exact List.mem_filter.2 ⟨hc, by simpa using e⟩
    rw [ho] at this; cases this
  | cons d l =>
    have : d ∈ ofKey (keyG p) v k := by rw [ho]; exact List.mem_cons_self ..
    unfold ofKey at this
    have h1 := List.mem_filter.1 this
    have h2 : keyG p d = k := by simpa using h1.2
    exact ⟨head_ok h hw h1.1, h2⟩
theorem agg_in {p : Pln} (h : planErr p = 0) {a : Int × Int} (ha : a ∈ p.aggs) (hg : p.grouped = true) : (1 ≤ a.1 ∧ a.1 ≤ 4) ∧ (a.1 ≠ 1 → 0 ≤ a.2 ∧ a.2.toNat < (cols p).length) := by
  have h1 := (planErr_ok h).1.2.2 hg a ha
  have h2 := (planErr_ok h).2.2.2.2.2.2.2 a ha
  refine ⟨h1, fun hne => ?_⟩
  unfold aggOk at h2
  rw [if_neg hne] at h2
  exact ⟨h2.1.1, by omega⟩
theorem agg_col {p : Pln} (h : planErr p = 0) {a : Int × Int} (ha : a ∈ p.aggs) : 0 ≤ a.2 ∧ a.2.toNat < (cols p).length := by
  have h2 := (planErr_ok h).2.2.2.2.2.2.2 a ha
  have h3 : 1 ≤ p.left.length := (planErr_ok h).2.2.1.1.1.1
  have h4 : (cols p).length = p.left.length + p.right.length := by unfold cols; rw [List.length_append]
  unfold aggOk at h2
  split at h2
  · rw [h2]; exact ⟨Int.le_refl _, by show 0 < _; omega⟩
  · exact ⟨h2.1.1, by omega⟩
end Go.Proofs.YtbfbgdinhiglaaaGreat.bt

/- groupOf: a joined row's values in Group (the document's). -/
namespace Go.Proofs.YtbfbgdinhiglaaaGreat.bt
open Go.ChangeShapes Go.WideShapes Go.ChangeAt Go.RowKit
open vl pl
set_option linter.unusedVariables false
set_option linter.unusedSimpArgs false
end Go.Proofs.YtbfbgdinhiglaaaGreat.bt
