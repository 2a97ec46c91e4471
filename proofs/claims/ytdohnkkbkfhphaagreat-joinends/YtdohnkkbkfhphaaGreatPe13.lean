import Derived.Test.YtdohnkkbkfhphaaGreatPe12
import Derived.Deep.QuietTactic
import Derived.BigQuiet
import Derived.Test.YtdohnkkbkfhphaaGreatPe11
namespace Go.Proofs.YtdohnkkbkfhphaaGreat.pl
open Go.ChangeShapes Go.WideShapes Go.ChangeAt Go.RowKit
open vl
set_option linter.unusedVariables false
set_option linter.unusedSimpArgs false
def goodK (p : Pln) (j : Nat) : Prop := (0 ≤ p.lkeys.getD j 0 ∧ p.lkeys.getD j 0 < (p.left.length : Int)) ∧ (0 ≤ p.rkeys.getD j 0 ∧ p.rkeys.getD j 0 < (p.right.length : Int)) ∧ p.left.getD (p.lkeys.getD j 0).toNat 0 = p.right.getD (p.rkeys.getD j 0).toNat 0
theorem form_mk {p : Pln} (h1 : p.low ≤ p.high) (h2 : p.lkeys.length = p.rkeys.length) (o1 : onceB p.lkeys = true) (o2 : onceB p.rkeys = true) (o3 : onceB p.group = true) (hk : ∀ j, j < p.lkeys.length → goodK p j)
 (hg : ∀ j, j < p.group.length → 0 ≤ p.group.getD j 0 ∧ p.group.getD j 0 < ((cols p).length : Int)) (ha : ∀ j, j < p.aggs.length → aggOk (cols p) (p.aggs.getD j (0, 0))) : formOk p := by
 refine ⟨h1, ⟨h2, ⟨?_, of_decide_eq_true o1⟩, ⟨?_, of_decide_eq_true o2⟩, fun i hi => (hk i hi).2.2⟩, ⟨?_, of_decide_eq_true o3⟩, ?_⟩
 ·exact (all_getD (d := 0) (Q := fun x : Int => 0 ≤ x ∧ x < (p.left.length : Int))).1 (fun i hi => (hk i hi).1)
 ·exact (all_getD (d := 0) (Q := fun x : Int => 0 ≤ x ∧ x < (p.right.length : Int))).1 (fun i hi => (hk i (by omega)).2.1)
 ·exact (all_getD (d := 0) (Q := fun x : Int => 0 ≤ x ∧ x < ((cols p).length : Int))).1 hg
 ·exact (all_getD (d := (0, 0)) (Q := fun a : Int × Int => aggOk (cols p) a)).1 ha
theorem form_once {p : Pln} (h : formOk p) : onceB p.lkeys = true ∧ onceB p.rkeys = true ∧ onceB p.group = true :=
 ⟨decide_eq_true h.2.1.2.1.2, decide_eq_true h.2.1.2.2.1.2, decide_eq_true h.2.2.1.2⟩
theorem form_k {p : Pln} (h : formOk p) (j : Nat) (hj : j < p.lkeys.length) : goodK p j := by
 obtain ⟨h1, ⟨h2, h3, h4, h5⟩, h6, h7⟩ := h
 exact ⟨h3.1 _ (getD_mem hj), h4.1 _ (getD_mem (by omega)), h5 j hj⟩
theorem form_g {p : Pln} (h : formOk p) (j : Nat) (hj : j < p.group.length) : 0 ≤ p.group.getD j 0 ∧ p.group.getD j 0 < ((cols p).length : Int) := h.2.2.1.1 _ (getD_mem hj)
theorem form_a {p : Pln} (h : formOk p) (j : Nat) (hj : j < p.aggs.length) : aggOk (cols p) (p.aggs.getD j (0, 0)) := h.2.2.2 _ (getD_mem hj)
theorem below_dn {B : Nat} {a w : World} (h : Below B a w) (q : Nat) : Below B a (w.drewN q) := ⟨h.os, h.tape, h.output, h.size, h.block⟩
set_option maxRecDepth 100000 in
set_option maxHeartbeats 16000000 in
theorem wrongForm_any (p : Pln) (x : PA) (w : World) (hw : wfPlan p) (hp : planAt w p x) (n1 : 0 < p.left.length) (n2 : 0 < p.right.length) (m1 : p.left.length ≤ 400) (m2 : p.right.length ≤ 400) :
 Calls Tryz.prog 34 #[planV p x] w fun e w' => e = .returned (.bool (!decide (formOk p))) ∧ Below w.heap.size w w' := by
 have HT : Hid (¬ formOk p → (!decide (formOk p)) = true) := fun h => by show (!decide (formOk p)) = true; rw [decide_eq_false h]; rfl
 have HF : Hid (formOk p → (!decide (formOk p)) = false) := fun h => by show (!decide (formOk p)) = false; rw [decide_eq_true h]; rfl
 obtain ⟨res, hres⟩ : ∃ z, (!decide (formOk p)) = z := ⟨_, rfl⟩
 rw [hres] at HT HF ⊢
 clear hres
 have hcl : (cols p).length = p.left.length + p.right.length := by unfold cols; rw [List.length_append]
 have K1 := hIz (fun (w1 : World) (hb : Below w.heap.size w w1) => once_any x.lk x.lkc p.lkeys w1 hw.lk (intsAt_below hp.lk hb))
 have K2 := hIz (fun (w1 : World) (hb : Below w.heap.size w w1) => once_any x.rk x.rkc p.rkeys w1 hw.rk (intsAt_below hp.rk hb))
 have K3 := hIz (fun (w1 : World) (hb : Below w.heap.size w w1) => once_any x.g x.gc p.group w1 hw.g (intsAt_below hp.g hb))
 have K4 := hIz (fun (w1 : World) (hb : Below w.heap.size w w1) => rtypes_any p x w1 (planAt_below hp hb) n1 n2 m1 m2)
 have HMK : Hid (p.low ≤ p.high → p.lkeys.length = p.rkeys.length → onceB p.lkeys = true → onceB p.rkeys = true → onceB p.group = true → (∀ j, j < p.lkeys.length → goodK p j) → (∀ j, j < p.group.length → 0 ≤ p.group.getD j 0 ∧ p.group.getD j 0 < ((cols p).length : Int)) → (∀ j, j < p.aggs.length → aggOk (cols p) (p.aggs.getD j (0, 0))) → formOk p) := form_mk
 have HO : Hid (formOk p → onceB p.lkeys = true ∧ onceB p.rkeys = true ∧ onceB p.group = true) := form_once
 have HKK : Hid (formOk p → ∀ j, j < p.lkeys.length → goodK p j) := form_k
 have HKG : Hid (formOk p → ∀ j, j < p.group.length → 0 ≤ p.group.getD j 0 ∧ p.group.getD j 0 < ((cols p).length : Int)) := form_g
 have HKA : Hid (formOk p → ∀ j, j < p.aggs.length → aggOk (cols p) (p.aggs.getD j (0, 0))) := form_a
 have HLH : Hid (formOk p → p.low ≤ p.high ∧ p.lkeys.length = p.rkeys.length) := fun h => ⟨h.1, h.2.1.1⟩
 have HGD : Hid (∀ j, goodK p j ↔ (0 ≤ p.lkeys.getD j 0 ∧ p.lkeys.getD j 0 < (p.left.length : Int)) ∧ (0 ≤ p.rkeys.getD j 0 ∧ p.rkeys.getD j 0 < (p.right.length : Int)) ∧ p.left.getD (p.lkeys.getD j 0).toNat 0 = p.right.getD (p.rkeys.getD j 0).toNat 0) := fun j => Iff.rfl
 have HP : planAt w p x := hp
 obtain ⟨G, hG⟩ : ∃ z, goodK p = z := ⟨_, rfl⟩
 rw [hG] at HMK HKK HGD
 obtain ⟨FO, hFO⟩ : ∃ z, formOk p = z := ⟨_, rfl⟩
 rw [hFO] at HT HF HMK HO HKK HKG HKA HLH
 obtain ⟨q1, hq1⟩ : ∃ z, onceB p.lkeys = z := ⟨_, rfl⟩
 obtain ⟨q2, hq2⟩ : ∃ z, onceB p.rkeys = z := ⟨_, rfl⟩
 obtain ⟨q3, hq3⟩ : ∃ z, onceB p.group = z := ⟨_, rfl⟩
 rw [hq1] at K1 HMK HO
 rw [hq2] at K2 HMK HO
 rw [hq3] at K3 HMK HO
 obtain ⟨cs, hcs⟩ : ∃ z, cols p = z := ⟨_, rfl⟩
 rw [hcs] at K4 HMK HKG HKA hcl
 clear hG hFO hq1 hq2 hq3 hcs hp
 obtain ⟨hpl, hpr, hplk, hprk, hpg, hpa⟩ := HP
 obtain ⟨hw2, hw3, hw6, hw7, hw8, hw9, hw11, hw12⟩ := hw
 obtain ⟨kind, mode, low, high, size, limit, left, right, lkeys, rkeys, grouped, group, aggs⟩ := p
 obtain ⟨l, lc, r, rc, lk, lkc, rk, rkc, g, gc, a, ac⟩ := x
 unfold planV at K4 ⊢
 dsimp only at K1 K2 K3 K4 HMK HO HKK HKG HKA HLH HGD hcl n1 n2 m1 m2 hpl hpr hplk hprk hpg hpa hw6 hw7 hw8 hw9 hw11 hw12 ⊢
 have HPL : Hid (intsAt w l left) := hpl
 have HPR : Hid (intsAt w r right) := hpr
 have HPLK : Hid (intsAt w lk lkeys) := hplk
 have HPRK : Hid (intsAt w rk rkeys) := hprk
 have HPG : Hid (intsAt w g group) := hpg
 have HPA : Hid (aggsAt w a aggs) := hpa
 clear hpl hpr hplk hprk hpg hpa hw2 hw3
 obtain ⟨n6, h6⟩ : ∃ n, left.length = n := ⟨_, rfl⟩
 obtain ⟨n7, h7⟩ : ∃ n, right.length = n := ⟨_, rfl⟩
 obtain ⟨n8, h8⟩ : ∃ n, lkeys.length = n := ⟨_, rfl⟩
 obtain ⟨n9, h9⟩ : ∃ n, rkeys.length = n := ⟨_, rfl⟩
 obtain ⟨n11, h11⟩ : ∃ n, group.length = n := ⟨_, rfl⟩
 obtain ⟨n12, h12⟩ : ∃ n, aggs.length = n := ⟨_, rfl⟩
 obtain ⟨cn, hcn⟩ : ∃ n, cs.length = n := ⟨_, rfl⟩
 have H6 : Hid (left.length = n6) := h6
 have H7 : Hid (right.length = n7) := h7
 have H8 : Hid (lkeys.length = n8) := h8
 have H9 : Hid (rkeys.length = n9) := h9
 have H11 : Hid (group.length = n11) := h11
 have H12 : Hid (aggs.length = n12) := h12
 have HCN : Hid (cs.length = cn) := hcn
 rw [h8] at K1 HMK HLH HKK hw8
 rw [h9] at K2 HMK HLH hw9
 rw [h11] at K3 HMK HKG hw11
 rw [h12] at HMK HKA hw12
 rw [hcn] at HMK HKG hcl
 rw [h6, h7, h8, h9, h11, h12, hcn] at K4
 rw [h6] at n1 m1 HGD hw6 hcl
 rw [h7] at n2 m2 HGD hw7 hcl
 rw [h6, h7, h8, h9, h11, h12]
 have hcn1 : 0 < cn := by omega
 have hcn2 : cn ≤ 800 := by omega
 clear h6 h7 h8 h9 h11 h12 hcn hcl
 by_cases hlh : low ≤ high
 ·have hlh' : ¬ high < low := by omega
  by_cases hln : n8 = n9
  ·subst hln
   have hl8 : ((n8 : Int) != n8) = false := by simp
   cases q1
   ·have HX : Hid (res = true) := HT.out (fun h => absurd (HO.out h).1 (by decide))
    go_enter Tryz.func34, Tryz.ntmps34
    go_wp2_with fail
    refine (K1.out _ (bR.alloc nR _)).mono ?_
    rintro e w1 ⟨rfl, hb1⟩
    go_wp2
    go_ret
    exact ⟨ret_bool HX.out.symm, (bR.alloc nR _).trans (hb1.mono (by simp))⟩
   go_enter Tryz.func34, Tryz.ntmps34
   go_wp2_with fail
   refine (K1.out _ (bR.alloc nR _)).mono ?_
   rintro e w1 ⟨rfl, hb1⟩
   have hba := (bR.alloc nR _).trans (hb1.mono (by simp))
   obtain ⟨hc1, hf1⟩ := bcell hb1
   have hz1 : w.heap.size < w1.heap.size := (by have := hb1.size; simp at this; omega)
   go_wp2_with fail
   refine (K2.out _ hba).mono ?_
   rintro e w2 ⟨rfl, hb2⟩
   have hbb := hba.trans (hb2.mono hba.size)
   obtain ⟨hc2, hf2⟩ := bcell hb2
   have hz2 : w.heap.size < w2.heap.size := (by have := hb2.size; omega)
   cases q2
   ·have HX : Hid (res = true) := HT.out (fun h => absurd (HO.out h).2.1 (by decide))
    go_wp2
    go_ret
    exact ⟨ret_bool HX.out.symm, hbb⟩
   go_wp2_with fail
   refine (K3.out _ hbb).mono ?_
   rintro e w3 ⟨rfl, hb3⟩
   have hbc := hbb.trans (hb3.mono hbb.size)
   have hz3 : w.heap.size < w3.heap.size := (by have := hb3.size; omega)
   obtain ⟨hc3, hf3⟩ := bcell hb3
   cases q3
   ·have HX : Hid (res = true) := HT.out (fun h => absurd (HO.out h).2.2 (by decide))
    go_wp2
    go_ret
    exact ⟨ret_bool HX.out.symm, hbc⟩
   have s0 : w3.cell? ⟨w.heap.size, 0, none⟩ = some (.int .i64 kind) := by rw [hc3 _ _ hz2, hc2 _ _ hz1, hc1 _ _ (by simp)]; go_simp
   have s1 : w3.cell? ⟨w.heap.size, 1, none⟩ = some (.int .i64 mode) := by rw [hc3 _ _ hz2, hc2 _ _ hz1, hc1 _ _ (by simp)]; go_simp
   have s2 : w3.cell? ⟨w.heap.size, 2, none⟩ = some (.int .i64 low) := by rw [hc3 _ _ hz2, hc2 _ _ hz1, hc1 _ _ (by simp)]; go_simp
   have s3 : w3.cell? ⟨w.heap.size, 3, none⟩ = some (.int .i64 high) := by rw [hc3 _ _ hz2, hc2 _ _ hz1, hc1 _ _ (by simp)]; go_simp
   have s4 : w3.cell? ⟨w.heap.size, 4, none⟩ = some (.int .i64 size) := by rw [hc3 _ _ hz2, hc2 _ _ hz1, hc1 _ _ (by simp)]; go_simp
   have s5 : w3.cell? ⟨w.heap.size, 5, none⟩ = some (.int .i64 limit) := by rw [hc3 _ _ hz2, hc2 _ _ hz1, hc1 _ _ (by simp)]; go_simp
   have s6 : w3.cell? ⟨w.heap.size, 6, none⟩ = some (.slice l n6 lc) := by rw [hc3 _ _ hz2, hc2 _ _ hz1, hc1 _ _ (by simp)]; go_simp
   have s7 : w3.cell? ⟨w.heap.size, 7, none⟩ = some (.slice r n7 rc) := by rw [hc3 _ _ hz2, hc2 _ _ hz1, hc1 _ _ (by simp)]; go_simp
   have s8 : w3.cell? ⟨w.heap.size, 8, none⟩ = some (.slice lk n8 lkc) := by rw [hc3 _ _ hz2, hc2 _ _ hz1, hc1 _ _ (by simp)]; go_simp
   have s9 : w3.cell? ⟨w.heap.size, 9, none⟩ = some (.slice rk n8 rkc) := by rw [hc3 _ _ hz2, hc2 _ _ hz1, hc1 _ _ (by simp)]; go_simp
   have s10 : w3.cell? ⟨w.heap.size, 10, none⟩ = some (.bool grouped) := by rw [hc3 _ _ hz2, hc2 _ _ hz1, hc1 _ _ (by simp)]; go_simp
   have s11 : w3.cell? ⟨w.heap.size, 11, none⟩ = some (.slice g n11 gc) := by rw [hc3 _ _ hz2, hc2 _ _ hz1, hc1 _ _ (by simp)]; go_simp
   have s12 : w3.cell? ⟨w.heap.size, 12, none⟩ = some (.slice a n12 ac) := by rw [hc3 _ _ hz2, hc2 _ _ hz1, hc1 _ _ (by simp)]; go_simp
   clear hc1 hf1 hc2 hf2 hc3 hf3 hb1 hb2 hb3 hba hbb K1 K2 K3 HO
   have HGO : Hid ((∀ j, j < n8 → G j) → (∀ j, j < n11 → 0 ≤ group.getD j 0 ∧ group.getD j 0 < (cn : Int)) → (∀ j, j < n12 → aggOk cs (aggs.getD j (0, 0))) → FO) := fun h1 h2 h3 => HMK.out (by trivial) (by trivial) (by trivial) (by trivial) (by trivial) h1 h2 h3
   clear HMK
   go_wp2
   go_loopw [3, 4, 5] (fun i _ _ wr => ∃ k : Nat, k ≤ n8 ∧ i = .int .i64 k ∧ Below w3.heap.size w3 wr ∧ ∀ j, j < k → G j) (fun i _ _ _ => n8 - (intOf i).toNat)
   case atStart => exact ⟨0, Nat.zero_le _, rfl, bR, fun i hi => absurd hi (Nat.not_lt_zero i)⟩
   case round =>
    obtain ⟨k, hk, rfl, hnx, hall⟩ := hrel
    have HA : Hid (∀ j, j < k → G j) := hall
    clear hall
    have c0 := cLz hnx s0
    have c1 := cLz hnx s1
    have c2 := cLz hnx s2
    have c3 := cLz hnx s3
    have c4 := cLz hnx s4
    have c5 := cLz hnx s5
    have c6 := cLz hnx s6
    have c7 := cLz hnx s7
    have c8 := cLz hnx s8
    have c9 := cLz hnx s9
    have c10 := cLz hnx s10
    have c11 := cLz hnx s11
    have c12 := cLz hnx s12
    have hbr := hbc.trans (hnx.mono hbc.size)
    have hszr := hbr.size
    by_cases hlt : k < n8
    ·obtain ⟨bk, ok, ek, xk⟩ := HPLK.out k (by rw [H8.out]; exact hlt)
     obtain ⟨bq, oq, eq, xq⟩ := HPRK.out k (by rw [H9.out]; exact hlt)
     subst ek eq
     have yk := cLz hbr xk
     have yq := cLz hbr xq
     have i1 : (0 : Int) ≤ (k : Int) := by omega
     have i2 : (k : Int) < (n8 : Int) := by omega
     have HGK := HGD.out k
     obtain ⟨av, hav⟩ : ∃ z, lkeys.getD k 0 = z := ⟨_, rfl⟩
     obtain ⟨bv, hbv⟩ : ∃ z, rkeys.getD k 0 = z := ⟨_, rfl⟩
     rw [hav] at yk HGK
     rw [hbv] at yq HGK
     have HG2 : Hid (G k ↔ (0 ≤ av ∧ av < (n6 : Int)) ∧ (0 ≤ bv ∧ bv < (n7 : Int)) ∧ left.getD av.toNat 0 = right.getD bv.toNat 0) := HGK
     have HBK : Hid (¬ G k → res = true) := fun h => HT.out (fun hf => h (HKK.out hf k hlt))
     clear hav hbv HGK xk xq
     go_wp2
     go_quiet (fail)
     have hnq := below_dn hnx nq
     have hbq := below_dn hbr nq
     have hzq : (wr.drewN nq).heap.size = wr.heap.size := rfl
     obtain ⟨wq, hwq⟩ : ∃ x, wr.drewN nq = x := ⟨_, rfl⟩
     have d6 : wq.cell? ⟨w.heap.size, 6, none⟩ = some (.slice l n6 lc) := by rw [← hwq]; exact c6
     have d7 : wq.cell? ⟨w.heap.size, 7, none⟩ = some (.slice r n7 rc) := by rw [← hwq]; exact c7
     rw [hwq] at hnq hbq hzq ⊢
     clear hwq
     cases pa : betw av 0 ((n6 : Int) - 1) with
     | false =>
      have HX : Hid (res = true) := HBK.out (fun h => (betw_no _ _ _).1 pa ⟨(HG2.out.1 h).1.1, by have := (HG2.out.1 h).1.2; omega⟩)
      go_wp2
      go_quiet (
       (go_at_call 29; exact Calls.quiet_of_same (within_any _ _ _ _))
       )
      go_wp2
      go_ret
      exact ⟨ret_bool HX.out.symm, below_dn hbq _⟩
     | true =>
      cases pb : betw bv 0 ((n7 : Int) - 1) with
      | false =>
       have HX : Hid (res = true) := HBK.out (fun h => (betw_no _ _ _).1 pb ⟨(HG2.out.1 h).2.1.1, by have := (HG2.out.1 h).2.1.2; omega⟩)
       go_wp2
       go_quiet (
        (go_at_call 29; exact Calls.quiet_of_same (within_any _ _ _ _))
        )
       go_wp2
       go_ret
       exact ⟨ret_bool HX.out.symm, below_dn hbq _⟩
      | true =>
       obtain ⟨a1, a2⟩ := (betw_iff _ _ _).1 pa
       obtain ⟨b1, b2⟩ := (betw_iff _ _ _).1 pb
       obtain ⟨ma, rfl⟩ := Int.eq_ofNat_of_zero_le a1
       obtain ⟨mb, rfl⟩ := Int.eq_ofNat_of_zero_le b1
       obtain ⟨bl, ol, el, xl⟩ := HPL.out ma (by rw [H6.out]; omega)
       obtain ⟨br, orr, er, xr⟩ := HPR.out mb (by rw [H7.out]; omega)
       subst el er
       have yl := cLz hbq xl
       have yr := cLz hbq xr
       have HG3 : Hid (G k ↔ left.getD ma 0 = right.getD mb 0) := by
        show G k ↔ _
        rw [HG2.out, Int.toNat_natCast, Int.toNat_natCast]
        constructor
        ·exact fun h => h.2.2
        ·exact fun h => ⟨⟨by omega, by omega⟩, ⟨by omega, by omega⟩, h⟩
       obtain ⟨vl, hvl⟩ : ∃ z, left.getD ma 0 = z := ⟨_, rfl⟩
       obtain ⟨vr, hvr⟩ : ∃ z, right.getD mb 0 = z := ⟨_, rfl⟩
       rw [hvl] at yl HG3
       rw [hvr] at yr HG3
       have a3 : (ma : Int) < (n6 : Int) := by omega
       have b3 : (mb : Int) < (n7 : Int) := by omega
       clear hvl hvr xl xr HG2
       by_cases he : vl = vr
       ·have HGK : Hid (G k) := HG3.out.2 he
        have hne : (vl != vr) = false := by simpa using he
        clear he
        go_wp2
        go_quiet (
         (go_at_call 29; exact Calls.quiet_of_same (within_any _ _ _ _))
         )
        go_wp2
        go_roundw
        case rel => exact ⟨k + 1, by omega, by go_num, below_dn hnq _, fun j hj => by
         rcases Nat.lt_succ_iff_lt_or_eq.1 hj with h | h
         ·exact HA.out j h
         ·rw [h]; exact HGK.out⟩
        case measure => simp [intOf]; omega
       ·have HX : Hid (res = true) := HBK.out (fun h => he (HG3.out.1 h))
        have hne : (vl != vr) = true := by simpa using he
        clear he
        go_wp2
        go_quiet (
         (go_at_call 29; exact Calls.quiet_of_same (within_any _ _ _ _))
         )
        go_wp2
        go_ret
        exact ⟨ret_bool HX.out.symm, below_dn hbq _⟩
    ·have HAL : Hid (∀ j, j < n8 → G j) := fun j hj => HA.out j (by omega)
     clear HKK HGD HA
     go_wp2_with fail
     refine (K4.out _ hbr).mono ?_
     rintro e w4 ⟨⟨ad, cap, rfl, ho⟩, hb4⟩
     have HIC : Hid (intsAt w4 ad cs) := (ownI_at ho).1
     have hbd := hbr.trans (hb4.mono hbr.size)
     have e0 := cLz hb4 c0
     have e1 := cLz hb4 c1
     have e2 := cLz hb4 c2
     have e3 := cLz hb4 c3
     have e4 := cLz hb4 c4
     have e5 := cLz hb4 c5
     have e6 := cLz hb4 c6
     have e7 := cLz hb4 c7
     have e8 := cLz hb4 c8
     have e9 := cLz hb4 c9
     have e10 := cLz hb4 c10
     have e11 := cLz hb4 c11
     have e12 := cLz hb4 c12
     clear ho hb4 hnx hbr hszr K4 c0 c1 c2 c3 c4 c5 c6 c7 c8 c9 c10 c11 c12 s0 s1 s2 s3 s4 s5 s6 s7 s8 s9 s10 s11 s12
     go_wp2
     go_loopw [7] (fun i wr2 => ∃ m : Nat, m ≤ n11 ∧ i = .int .i64 m ∧ Below w4.heap.size w4 wr2 ∧ ∀ j, j < m → 0 ≤ group.getD j 0 ∧ group.getD j 0 < (cn : Int)) (fun i _ => n11 - (intOf i).toNat)
     case atStart => exact ⟨0, Nat.zero_le _, rfl, bR, fun i hi => absurd hi (Nat.not_lt_zero i)⟩
     case round =>
      obtain ⟨m, hm, rfl, hnx2, hall2⟩ := hrel
      have HA2 : Hid (∀ j, j < m → 0 ≤ group.getD j 0 ∧ group.getD j 0 < (cn : Int)) := hall2
      clear hall2
      have f10 := cLz hnx2 e10
      have f11 := cLz hnx2 e11
      have f12 := cLz hnx2 e12
      have hbs := hbd.trans (hnx2.mono hbd.size)
      by_cases hlt2 : m < n11
      ·obtain ⟨bg, og, eg, xg⟩ := HPG.out m (by rw [H11.out]; exact hlt2)
       subst eg
       have yg := cLz hbs xg
       have i1 : (0 : Int) ≤ (m : Int) := by omega
       have i2 : (m : Int) < (n11 : Int) := by omega
       have HBG : Hid (¬ (0 ≤ group.getD m 0 ∧ group.getD m 0 < (cn : Int)) → res = true) := fun h => HT.out (fun hf => h (HKG.out hf m hlt2))
       obtain ⟨gv, hgv⟩ : ∃ z, group.getD m 0 = z := ⟨_, rfl⟩
       have HGV : Hid (group.getD m 0 = gv) := hgv
       rw [hgv] at yg HBG
       clear hgv xg
       cases pg : betw gv 0 ((cn : Int) - 1) with
       | false =>
        have HX : Hid (res = true) := HBG.out (fun h => (betw_no _ _ _).1 pg ⟨h.1, by omega⟩)
        go_wp2_with
         (go_at_call 29; refine (within_any _ _ _ _).mono ?_; rintro e w' ⟨rfl, hw⟩; subst hw)
        go_ret
        exact ⟨ret_bool HX.out.symm, hbs⟩
       | true =>
        have HY : Hid (0 ≤ group.getD m 0 ∧ group.getD m 0 < (cn : Int)) := by
         show 0 ≤ group.getD m 0 ∧ group.getD m 0 < (cn : Int)
         have := (betw_iff _ _ _).1 pg
         rw [HGV.out]; omega
        go_wp2_with
         (go_at_call 29; refine (within_any _ _ _ _).mono ?_; rintro e w' ⟨rfl, hw⟩; subst hw)
        go_roundw
        case rel => exact ⟨m + 1, by omega, by go_num, hnx2, fun j hj => by
         rcases Nat.lt_succ_iff_lt_or_eq.1 hj with h | h
         ·exact HA2.out j h
         ·rw [h]; exact HY.out⟩
        case measure => simp [intOf]; omega
      ·have HAG : Hid (∀ j, j < n11 → 0 ≤ group.getD j 0 ∧ group.getD j 0 < (cn : Int)) := fun j hj => HA2.out j (by omega)
       obtain ⟨W2, rfl⟩ : ∃ x, x = wr := ⟨_, rfl⟩
       have HIC2 : Hid (intsAt W2 ad cs) := intsAt_below HIC.out hnx2
       clear HA2 HKG HIC hnx2 hbd e0 e1 e2 e3 e4 e5 e6 e7 e8 e9 e10 e11 e12
       go_wp2
       go_loopw [8, 9] (fun i _ wr3 => ∃ m : Nat, m ≤ n12 ∧ i = .int .i64 m ∧ Below W2.heap.size W2 wr3 ∧ ∀ j, j < m → aggOk cs (aggs.getD j (0, 0))) (fun i _ _ => n12 - (intOf i).toNat)
       case atStart => exact ⟨0, Nat.zero_le _, rfl, bR, fun i hi => absurd hi (Nat.not_lt_zero i)⟩
       case round =>
        obtain ⟨q, hq, rfl, hnx3, hall3⟩ := hrel
        have HA3 : Hid (∀ j, j < q → aggOk cs (aggs.getD j (0, 0))) := hall3
        clear hall3
        have g12 := cLz hnx3 f12
        have hbt := hbs.trans (hnx3.mono hbs.size)
        have hs3 := hnx3.size
        by_cases hlt3 : q < n12
        ·obtain ⟨ba, oa, ea, xa, xb⟩ := HPA.out q (by rw [H12.out]; exact hlt3)
         subst ea
         have ya := cLz hbt xa
         have yb := cLz hbt xb
         have i1 : (0 : Int) ≤ (q : Int) := by omega
         have i2 : (q : Int) < (n12 : Int) := by omega
         have HBA : Hid (¬ aggOk cs (aggs.getD q (0, 0)) → res = true) := fun h => HT.out (fun hf => h (HKA.out hf q hlt3))
         have HST : Hid (aggOk cs (aggs.getD q (0, 0)) → ∀ j, j < q + 1 → aggOk cs (aggs.getD j (0, 0))) := fun h j hj => by
          rcases Nat.lt_succ_iff_lt_or_eq.1 hj with h1 | h1
          ·exact HA3.out j h1
          ·rw [h1]; exact h
         have HDE : Hid (aggOk cs (aggs.getD q (0, 0)) ↔ if (aggs.getD q (0, 0)).1 = 1 then (aggs.getD q (0, 0)).2 = 0 else (0 ≤ (aggs.getD q (0, 0)).2 ∧ (aggs.getD q (0, 0)).2 < (cn : Int)) ∧ ((aggs.getD q (0, 0)).1 = 2 → cs.getD (aggs.getD q (0, 0)).2.toNat 0 = 2)) := by
          show aggOk cs (aggs.getD q (0, 0)) ↔ _
          rw [← HCN.out]; exact Iff.rfl
         obtain ⟨AO, hAO⟩ : ∃ z, aggOk cs (aggs.getD q (0, 0)) = z := ⟨_, rfl⟩
         rw [hAO] at HBA HST HDE
         obtain ⟨⟨fv, cv⟩, hfc⟩ : ∃ z, aggs.getD q (0, 0) = z := ⟨_, rfl⟩
         rw [hfc] at ya yb HDE
         dsimp only at ya yb HDE
         clear hfc hAO xa xb
         by_cases f1 : fv = 1
         ·subst f1
          rw [if_pos rfl] at HDE
          by_cases k0 : cv = 0
          ·subst k0
           have HOK : Hid AO := HDE.out.2 rfl
           go_wp2_with
            (go_at_call 29; refine (within_any _ _ _ _).mono ?_; rintro e w' ⟨rfl, hw⟩; subst hw)
           go_roundw
           case rel => exact ⟨q + 1, by omega, by go_num, (hnx3.alloc hs3 _), HST.out HOK.out⟩
           case measure => simp [intOf]; omega
          ·have k0' : (cv != 0) = true := by simpa using k0
           have HX : Hid (res = true) := HBA.out (fun h => k0 (HDE.out.1 h))
           clear k0
           go_wp2_with
            (go_at_call 29; refine (within_any _ _ _ _).mono ?_; rintro e w' ⟨rfl, hw⟩; subst hw)
           go_ret
           exact ⟨ret_bool HX.out.symm, hbt.alloc hbt.size _⟩
         ·rw [if_neg f1] at HDE
          have f1' : (fv == 1) = false := by simpa using f1
          have f1'' : (fv != 1) = true := by simpa using f1
          clear f1
          cases pc : betw cv 0 ((cn : Int) - 1) with
          | false =>
           have HX : Hid (res = true) := HBA.out (fun h => (betw_no _ _ _).1 pc ⟨(HDE.out.1 h).1.1, by have := (HDE.out.1 h).1.2; omega⟩)
           go_wp2_with
            (go_at_call 29; refine (within_any _ _ _ _).mono ?_; rintro e w' ⟨rfl, hw⟩; subst hw)
           go_ret
           exact ⟨ret_bool HX.out.symm, hbt.alloc hbt.size _⟩
          | true =>
           obtain ⟨y1, y2⟩ := (betw_iff _ _ _).1 pc
           by_cases f2 : fv = 2
           ·subst f2
            obtain ⟨mc, rfl⟩ := Int.eq_ofNat_of_zero_le y1
            obtain ⟨bc, oc, ec, xc⟩ := HIC2.out mc (by rw [HCN.out]; omega)
            subst ec
            have yc := cLz hnx3 xc
            have hyc := World.block_lt_of_cell? _ _ yc
            have hyc' : bc < wr.heap.size := hyc
            have y3 : (mc : Int) < (cn : Int) := by omega
            have HD2 : Hid (AO ↔ cs.getD mc 0 = 2) := by
             show AO ↔ _
             rw [HDE.out, Int.toNat_natCast]
             exact ⟨fun h => h.2 rfl, fun h => ⟨⟨by omega, by omega⟩, fun _ => h⟩⟩
            obtain ⟨vc, hvc⟩ : ∃ z, cs.getD mc 0 = z := ⟨_, rfl⟩
            rw [hvc] at yc HD2
            clear hvc xc HDE hyc
            by_cases v2 : vc = 2
            ·subst v2
             have HOK : Hid AO := HD2.out.2 rfl
             go_wp2_with
              (go_at_call 29; refine (within_any _ _ _ _).mono ?_; rintro e w' ⟨rfl, hw⟩; subst hw)
             go_roundw
             case rel => exact ⟨q + 1, by omega, by go_num, (hnx3.alloc hs3 _), HST.out HOK.out⟩
             case measure => simp [intOf]; omega
            ·have v2' : (vc != 2) = true := by simpa using v2
             have HX : Hid (res = true) := HBA.out (fun h => v2 (HD2.out.1 h))
             clear v2
             go_wp2_with
              (go_at_call 29; refine (within_any _ _ _ _).mono ?_; rintro e w' ⟨rfl, hw⟩; subst hw)
             go_ret
             exact ⟨ret_bool HX.out.symm, hbt.alloc hbt.size _⟩
           ·have f2' : (fv == 2) = false := by simpa using f2
            have HOK : Hid AO := HDE.out.2 ⟨⟨y1, by omega⟩, fun h => absurd h f2⟩
            clear f2
            go_wp2_with
             (go_at_call 29; refine (within_any _ _ _ _).mono ?_; rintro e w' ⟨rfl, hw⟩; subst hw)
            go_roundw
            case rel => exact ⟨q + 1, by omega, by go_num, (hnx3.alloc hs3 _), HST.out HOK.out⟩
            case measure => simp [intOf]; omega
        ·have HX : Hid (res = false) := HF.out (HGO.out HAL.out HAG.out (fun j hj => HA3.out j (by omega)))
         go_wp2
         go_ret
         exact ⟨ret_bool HX.out.symm, hbt⟩
  ·have HX : Hid (res = true) := HT.out (fun h => hln (HLH.out h).2)
   have hl8 : ((n8 : Int) != n9) = true := by simp; omega
   go_enter Tryz.func34, Tryz.ntmps34
   go_wp2
   go_ret
   exact ⟨ret_bool HX.out.symm, bR.alloc nR _⟩
 ·have HX : Hid (res = true) := HT.out (fun h => hlh (HLH.out h).1)
  have hlh' : high < low := by omega
  go_enter Tryz.func34, Tryz.ntmps34
  go_wp2
  go_ret
  exact ⟨ret_bool HX.out.symm, bR.alloc nR _⟩
set_option maxRecDepth 100000 in
set_option maxHeartbeats 8000000 in
theorem formRight_any (p : Pln) (x : PA) (w : World) (hw : wfPlan p) (hp : planAt w p x) (n1 : 0 < p.left.length) (n2 : 0 < p.right.length) (m1 : p.left.length ≤ 400) (m2 : p.right.length ≤ 400) :
 Calls Tryz.prog 64 #[planV p x] w fun e w' => e = .returned (.bool (decide (formOk p))) ∧ Below w.heap.size w w' := by
 have hcl : (cols p).length ≤ 800 := by unfold cols; rw [List.length_append]; omega
 have K1 := hIz (fun (w1 : World) (hb : Below w.heap.size w w1) => keysRight_any p x w1 hw (planAt_below hp hb))
 have K2 := hIz (fun (w1 : World) (hb : Below w.heap.size w w1) => joined_any p x w1 (planAt_below hp hb) n1 n2 m1 m2)
 have K3 := hIz (fun ad cap (w1 : World) (hb : Below w.heap.size w w1) => placesRight_any x.g ad x.gc cap (cols p).length p.group w1 hw.g (by omega) (intsAt_below hp.g hb))
 have K4 := hIz (fun ad cap (w1 : World) (hb : Below w.heap.size w w1) (hi : intsAt w1 ad (cols p)) => aggsRight_any x.a ad x.ac cap p.aggs (cols p) w1 hw.a (by omega) (aggsAt_below hp.a hb) hi)
 have HK : Hid (decide (formOk p) = (decide (p.low ≤ p.high) && decide (keysOk p) && decide (placesOk p.group (cols p).length) && decide (aggsOk (cols p) p.aggs))) := by
  refine (dec_bool ?_).symm
  unfold formOk
  simp only [Bool.and_eq_true, decide_eq_true_eq, and_assoc]
  exact Iff.rfl
 obtain ⟨q1, hq1⟩ : ∃ z, decide (keysOk p) = z := ⟨_, rfl⟩
 obtain ⟨q2, hq2⟩ : ∃ z, decide (placesOk p.group (cols p).length) = z := ⟨_, rfl⟩
 obtain ⟨q3, hq3⟩ : ∃ z, decide (aggsOk (cols p) p.aggs) = z := ⟨_, rfl⟩
 rw [hq1] at K1 HK
 rw [hq2] at K3 HK
 rw [hq3] at K4 HK
 obtain ⟨cn, hcn⟩ : ∃ z, (cols p).length = z := ⟨_, rfl⟩
 rw [hcn] at K2 K3 K4
 obtain ⟨cs, hcs⟩ : ∃ z, cols p = z := ⟨_, rfl⟩
 rw [hcs] at K2 K4
 clear hq1 hq2 hq3 hcn hcs hcl hw hp n1 n2 m1 m2
 obtain ⟨kind, mode, low, high, size, limit, left, right, lkeys, rkeys, grouped, group, aggs⟩ := p
 obtain ⟨l, lc, r, rc, lk, lkc, rk, rkc, g, gc, a, ac⟩ := x
 unfold planV at K1 K2 ⊢
 dsimp only at K1 K2 K3 K4 HK ⊢
 obtain ⟨n6, h6⟩ : ∃ n, left.length = n := ⟨_, rfl⟩
 obtain ⟨n7, h7⟩ : ∃ n, right.length = n := ⟨_, rfl⟩
 obtain ⟨n8, h8⟩ : ∃ n, lkeys.length = n := ⟨_, rfl⟩
 obtain ⟨n9, h9⟩ : ∃ n, rkeys.length = n := ⟨_, rfl⟩
 obtain ⟨n11, h11⟩ : ∃ n, group.length = n := ⟨_, rfl⟩
 obtain ⟨n12, h12⟩ : ∃ n, aggs.length = n := ⟨_, rfl⟩
 rw [h6, h7, h8, h9, h11, h12] at K1 K2
 rw [h11] at K3
 rw [h12] at K4
 rw [h6, h7, h8, h9, h11, h12]
 clear h6 h7 h8 h9 h11 h12
 by_cases hlh : low ≤ high
 ·have t0 := leq_is (x := low) (y := high) true (decide_eq_true hlh)
  rw [decide_eq_true hlh] at HK
  clear hlh
  cases q1
  ·clear K2 K3 K4
   go_enter Tryz.func64, Tryz.ntmps64
   go_wp2
   refine wp_region_held_drew (S := (fun w' => w'.cell? ⟨w.heap.size, 0, none⟩ = some (.int .i64 kind) ∧ w'.cell? ⟨w.heap.size, 1, none⟩ = some (.int .i64 mode) ∧ w'.cell? ⟨w.heap.size, 2, none⟩ = some (.int .i64 low) ∧ w'.cell? ⟨w.heap.size, 3, none⟩ = some (.int .i64 high) ∧ w'.cell? ⟨w.heap.size, 4, none⟩ = some (.int .i64 size) ∧ w'.cell? ⟨w.heap.size, 5, none⟩ = some (.int .i64 limit) ∧ w'.cell? ⟨w.heap.size, 6, none⟩ = some (.slice l n6 lc) ∧ w'.cell? ⟨w.heap.size, 7, none⟩ = some (.slice r n7 rc) ∧ w'.cell? ⟨w.heap.size, 8, none⟩ = some (.slice lk n8 lkc) ∧ w'.cell? ⟨w.heap.size, 9, none⟩ = some (.slice rk n9 rkc) ∧ w'.cell? ⟨w.heap.size, 10, none⟩ = some (.bool grouped) ∧ w'.cell? ⟨w.heap.size, 11, none⟩ = some (.slice g n11 gc) ∧ w'.cell? ⟨w.heap.size, 12, none⟩ = some (.slice a n12 ac))) (by kernel_rfl) ⟨by go_simp, by go_simp, by go_simp, by go_simp, by go_simp, by go_simp, by go_simp, by go_simp, by go_simp, by go_simp, by go_simp, by go_simp, by go_simp⟩ (fun hHz => ?_)
   refine tkz 0 3 hHz ?_; refine tkz 1 4 hHz ?_; refine tkz 2 5 hHz ?_; refine tkz 3 6 hHz ?_; refine tkz 4 7 hHz ?_; refine tkz 5 8 hHz ?_; refine tkz 6 9 hHz ?_
   refine wpAnyH_ready (rs := [7]) (by kernel_rfl) (by simp) ?_
   refine AllReadyH.cons rfl (fun K hK => ?_) AllReadyH.nil
   go_simp
   refine (K1.out _ (by first | exact (bR.alloc nR _).drew | exact bR.alloc nR _)).mono ?_; rintro e wa ⟨rfl, hba⟩; have hb1 : Below w.heap.size w wa := (by first | exact ((bR.alloc nR _).drew).trans (hba.mono (by simp)) | exact (bR.alloc nR _).trans (hba.mono (by simp)))
   go_wp2_with fail
   refine hK.out _ _ (by obtain ⟨a0, a1, a2, a3, a4, a5, a6, a7, a8, a9, a10, a11, a12⟩ := hHz; exact ⟨cLz hba a0, cLz hba a1, cLz hba a2, cLz hba a3, cLz hba a4, cLz hba a5, cLz hba a6, cLz hba a7, cLz hba a8, cLz hba a9, cLz hba a10, cLz hba a11, cLz hba a12⟩) (fun hHz => ?_)
   clear hK K
   try simp only [Act.put, sI, sZ, sS]
   refine tkz 8 11 hHz ?_; refine tkz 9 12 hHz ?_; refine sk 10 13 hHz ?_; refine sk 11 14 hHz ?_; refine sk 12 15 hHz ?_; refine sk 13 16 hHz ?_; refine sk 14 17 hHz ?_; refine tkz 15 18 hHz ?_; refine tkz 16 19 hHz ?_; refine sk 17 20 hHz ?_; refine sk 18 21 hHz ?_; refine sk 19 22 hHz ?_; refine sk 20 23 hHz ?_; refine sk 21 24 hHz ?_; refine tkz 22 25 hHz ?_; refine tkz 23 2 hHz ?_
   refine wpAnyH_done (by kernel_rfl) ?_ _
   go_wp2
   go_ret
   exact ⟨ret_bool (by rw [HK.out]; first | rfl | simp), by first | exact hb1 | exact ((bR.alloc nR _).drew) | exact bR.alloc nR _⟩
  ·cases q2
   ·clear K4
    go_enter Tryz.func64, Tryz.ntmps64
    go_wp2
    refine wp_region_held_drew (S := (fun w' => w'.cell? ⟨w.heap.size, 0, none⟩ = some (.int .i64 kind) ∧ w'.cell? ⟨w.heap.size, 1, none⟩ = some (.int .i64 mode) ∧ w'.cell? ⟨w.heap.size, 2, none⟩ = some (.int .i64 low) ∧ w'.cell? ⟨w.heap.size, 3, none⟩ = some (.int .i64 high) ∧ w'.cell? ⟨w.heap.size, 4, none⟩ = some (.int .i64 size) ∧ w'.cell? ⟨w.heap.size, 5, none⟩ = some (.int .i64 limit) ∧ w'.cell? ⟨w.heap.size, 6, none⟩ = some (.slice l n6 lc) ∧ w'.cell? ⟨w.heap.size, 7, none⟩ = some (.slice r n7 rc) ∧ w'.cell? ⟨w.heap.size, 8, none⟩ = some (.slice lk n8 lkc) ∧ w'.cell? ⟨w.heap.size, 9, none⟩ = some (.slice rk n9 rkc) ∧ w'.cell? ⟨w.heap.size, 10, none⟩ = some (.bool grouped) ∧ w'.cell? ⟨w.heap.size, 11, none⟩ = some (.slice g n11 gc) ∧ w'.cell? ⟨w.heap.size, 12, none⟩ = some (.slice a n12 ac))) (by kernel_rfl) ⟨by go_simp, by go_simp, by go_simp, by go_simp, by go_simp, by go_simp, by go_simp, by go_simp, by go_simp, by go_simp, by go_simp, by go_simp, by go_simp⟩ (fun hHz => ?_)
    refine tkz 0 3 hHz ?_; refine tkz 1 4 hHz ?_; refine tkz 2 5 hHz ?_; refine tkz 3 6 hHz ?_; refine tkz 4 7 hHz ?_; refine tkz 5 8 hHz ?_; refine tkz 6 9 hHz ?_
    refine wpAnyH_ready (rs := [7]) (by kernel_rfl) (by simp) ?_
    refine AllReadyH.cons rfl (fun K hK => ?_) AllReadyH.nil
    go_simp
    refine (K1.out _ (by first | exact (bR.alloc nR _).drew | exact bR.alloc nR _)).mono ?_; rintro e wa ⟨rfl, hba⟩; have hb1 : Below w.heap.size w wa := (by first | exact ((bR.alloc nR _).drew).trans (hba.mono (by simp)) | exact (bR.alloc nR _).trans (hba.mono (by simp)))
    go_wp2_with fail
    refine hK.out _ _ (by obtain ⟨a0, a1, a2, a3, a4, a5, a6, a7, a8, a9, a10, a11, a12⟩ := hHz; exact ⟨cLz hba a0, cLz hba a1, cLz hba a2, cLz hba a3, cLz hba a4, cLz hba a5, cLz hba a6, cLz hba a7, cLz hba a8, cLz hba a9, cLz hba a10, cLz hba a11, cLz hba a12⟩) (fun hHz => ?_)
    clear hK K
    try simp only [Act.put, sI, sZ, sS]
    refine tkz 8 11 hHz ?_; refine tkz 9 12 hHz ?_; refine tkz 10 13 hHz ?_; refine tkz 11 14 hHz ?_; refine tkz 12 15 hHz ?_
    refine wpAnyH_ready (rs := [13]) (by kernel_rfl) (by simp) ?_
    refine AllReadyH.cons rfl (fun K hK => ?_) AllReadyH.nil
    go_simp
    refine (K2.out _ hb1).mono ?_; rintro e wb ⟨⟨ad, cap, rfl, ho⟩, hbb⟩; have hb2 := hb1.trans (hbb.mono hb1.size)
    go_wp2_with fail
    refine hK.out _ _ (by obtain ⟨a0, a1, a2, a3, a4, a5, a6, a7, a8, a9, a10, a11, a12⟩ := hHz; exact ⟨cLz hbb a0, cLz hbb a1, cLz hbb a2, cLz hbb a3, cLz hbb a4, cLz hbb a5, cLz hbb a6, cLz hbb a7, cLz hbb a8, cLz hbb a9, cLz hbb a10, cLz hbb a11, cLz hbb a12⟩) (fun hHz => ?_)
    clear hK K
    try simp only [Act.put, sI, sZ, sS]
    refine wpAnyH_ready (rs := [14]) (by kernel_rfl) (by simp) ?_
    refine AllReadyH.cons rfl (fun K hK => ?_) AllReadyH.nil
    go_simp
    refine (K3.out _ _ _ hb2).mono ?_; rintro e wc ⟨rfl, hbc⟩; have hb3 := hb2.trans (hbc.mono hb2.size)
    go_wp2_with fail
    refine hK.out _ _ (by obtain ⟨a0, a1, a2, a3, a4, a5, a6, a7, a8, a9, a10, a11, a12⟩ := hHz; exact ⟨cLz hbc a0, cLz hbc a1, cLz hbc a2, cLz hbc a3, cLz hbc a4, cLz hbc a5, cLz hbc a6, cLz hbc a7, cLz hbc a8, cLz hbc a9, cLz hbc a10, cLz hbc a11, cLz hbc a12⟩) (fun hHz => ?_)
    clear hK K
    try simp only [Act.put, sI, sZ, sS]
    refine tkz 15 18 hHz ?_; refine tkz 16 19 hHz ?_; refine sk 17 20 hHz ?_; refine sk 18 21 hHz ?_; refine sk 19 22 hHz ?_; refine sk 20 23 hHz ?_; refine sk 21 24 hHz ?_; refine tkz 22 25 hHz ?_; refine tkz 23 2 hHz ?_
    refine wpAnyH_done (by kernel_rfl) ?_ _
    go_wp2
    go_ret
    exact ⟨ret_bool (by rw [HK.out]; first | rfl | simp), by first | exact hb3 | exact ((bR.alloc nR _).drew) | exact bR.alloc nR _⟩
   ·cases q3
    all_goals
     go_enter Tryz.func64, Tryz.ntmps64
     go_wp2
     refine wp_region_held_drew (S := (fun w' => w'.cell? ⟨w.heap.size, 0, none⟩ = some (.int .i64 kind) ∧ w'.cell? ⟨w.heap.size, 1, none⟩ = some (.int .i64 mode) ∧ w'.cell? ⟨w.heap.size, 2, none⟩ = some (.int .i64 low) ∧ w'.cell? ⟨w.heap.size, 3, none⟩ = some (.int .i64 high) ∧ w'.cell? ⟨w.heap.size, 4, none⟩ = some (.int .i64 size) ∧ w'.cell? ⟨w.heap.size, 5, none⟩ = some (.int .i64 limit) ∧ w'.cell? ⟨w.heap.size, 6, none⟩ = some (.slice l n6 lc) ∧ w'.cell? ⟨w.heap.size, 7, none⟩ = some (.slice r n7 rc) ∧ w'.cell? ⟨w.heap.size, 8, none⟩ = some (.slice lk n8 lkc) ∧ w'.cell? ⟨w.heap.size, 9, none⟩ = some (.slice rk n9 rkc) ∧ w'.cell? ⟨w.heap.size, 10, none⟩ = some (.bool grouped) ∧ w'.cell? ⟨w.heap.size, 11, none⟩ = some (.slice g n11 gc) ∧ w'.cell? ⟨w.heap.size, 12, none⟩ = some (.slice a n12 ac))) (by kernel_rfl) ⟨by go_simp, by go_simp, by go_simp, by go_simp, by go_simp, by go_simp, by go_simp, by go_simp, by go_simp, by go_simp, by go_simp, by go_simp, by go_simp⟩ (fun hHz => ?_)
     refine tkz 0 3 hHz ?_; refine tkz 1 4 hHz ?_; refine tkz 2 5 hHz ?_; refine tkz 3 6 hHz ?_; refine tkz 4 7 hHz ?_; refine tkz 5 8 hHz ?_; refine tkz 6 9 hHz ?_
     refine wpAnyH_ready (rs := [7]) (by kernel_rfl) (by simp) ?_
     refine AllReadyH.cons rfl (fun K hK => ?_) AllReadyH.nil
     go_simp
     refine (K1.out _ (by first | exact (bR.alloc nR _).drew | exact bR.alloc nR _)).mono ?_; rintro e wa ⟨rfl, hba⟩; have hb1 : Below w.heap.size w wa := (by first | exact ((bR.alloc nR _).drew).trans (hba.mono (by simp)) | exact (bR.alloc nR _).trans (hba.mono (by simp)))
     go_wp2_with fail
     refine hK.out _ _ (by obtain ⟨a0, a1, a2, a3, a4, a5, a6, a7, a8, a9, a10, a11, a12⟩ := hHz; exact ⟨cLz hba a0, cLz hba a1, cLz hba a2, cLz hba a3, cLz hba a4, cLz hba a5, cLz hba a6, cLz hba a7, cLz hba a8, cLz hba a9, cLz hba a10, cLz hba a11, cLz hba a12⟩) (fun hHz => ?_)
     clear hK K
     try simp only [Act.put, sI, sZ, sS]
     refine tkz 8 11 hHz ?_; refine tkz 9 12 hHz ?_; refine tkz 10 13 hHz ?_; refine tkz 11 14 hHz ?_; refine tkz 12 15 hHz ?_
     refine wpAnyH_ready (rs := [13]) (by kernel_rfl) (by simp) ?_
     refine AllReadyH.cons rfl (fun K hK => ?_) AllReadyH.nil
     go_simp
     refine (K2.out _ hb1).mono ?_; rintro e wb ⟨⟨ad, cap, rfl, ho⟩, hbb⟩; have hb2 := hb1.trans (hbb.mono hb1.size)
     go_wp2_with fail
     refine hK.out _ _ (by obtain ⟨a0, a1, a2, a3, a4, a5, a6, a7, a8, a9, a10, a11, a12⟩ := hHz; exact ⟨cLz hbb a0, cLz hbb a1, cLz hbb a2, cLz hbb a3, cLz hbb a4, cLz hbb a5, cLz hbb a6, cLz hbb a7, cLz hbb a8, cLz hbb a9, cLz hbb a10, cLz hbb a11, cLz hbb a12⟩) (fun hHz => ?_)
     clear hK K
     try simp only [Act.put, sI, sZ, sS]
     refine wpAnyH_ready (rs := [14]) (by kernel_rfl) (by simp) ?_
     refine AllReadyH.cons rfl (fun K hK => ?_) AllReadyH.nil
     go_simp
     refine (K3.out _ _ _ hb2).mono ?_; rintro e wc ⟨rfl, hbc⟩; have hb3 := hb2.trans (hbc.mono hb2.size)
     go_wp2_with fail
     refine hK.out _ _ (by obtain ⟨a0, a1, a2, a3, a4, a5, a6, a7, a8, a9, a10, a11, a12⟩ := hHz; exact ⟨cLz hbc a0, cLz hbc a1, cLz hbc a2, cLz hbc a3, cLz hbc a4, cLz hbc a5, cLz hbc a6, cLz hbc a7, cLz hbc a8, cLz hbc a9, cLz hbc a10, cLz hbc a11, cLz hbc a12⟩) (fun hHz => ?_)
     clear hK K
     try simp only [Act.put, sI, sZ, sS]
     refine tkz 15 18 hHz ?_; refine tkz 16 19 hHz ?_; refine tkz 17 20 hHz ?_; refine tkz 18 21 hHz ?_; refine tkz 19 22 hHz ?_
     refine wpAnyH_ready (rs := [20]) (by kernel_rfl) (by simp) ?_
     refine AllReadyH.cons rfl (fun K hK => ?_) AllReadyH.nil
     go_simp
     refine (K2.out _ hb3).mono ?_; rintro e wd ⟨⟨ad2, cap2, rfl, ho2⟩, hbd⟩; have hb4 := hb3.trans (hbd.mono hb3.size)
     go_wp2_with fail
     refine hK.out _ _ (by obtain ⟨a0, a1, a2, a3, a4, a5, a6, a7, a8, a9, a10, a11, a12⟩ := hHz; exact ⟨cLz hbd a0, cLz hbd a1, cLz hbd a2, cLz hbd a3, cLz hbd a4, cLz hbd a5, cLz hbd a6, cLz hbd a7, cLz hbd a8, cLz hbd a9, cLz hbd a10, cLz hbd a11, cLz hbd a12⟩) (fun hHz => ?_)
     clear hK K
     try simp only [Act.put, sI, sZ, sS]
     refine wpAnyH_ready (rs := [21]) (by kernel_rfl) (by simp) ?_
     refine AllReadyH.cons rfl (fun K hK => ?_) AllReadyH.nil
     go_simp
     refine (K4.out _ _ _ hb4 (ownI_at ho2).1).mono ?_; rintro e we ⟨rfl, hbe⟩; have hb5 := hb4.trans (hbe.mono hb4.size)
     go_wp2_with fail
     refine hK.out _ _ (by obtain ⟨a0, a1, a2, a3, a4, a5, a6, a7, a8, a9, a10, a11, a12⟩ := hHz; exact ⟨cLz hbe a0, cLz hbe a1, cLz hbe a2, cLz hbe a3, cLz hbe a4, cLz hbe a5, cLz hbe a6, cLz hbe a7, cLz hbe a8, cLz hbe a9, cLz hbe a10, cLz hbe a11, cLz hbe a12⟩) (fun hHz => ?_)
     clear hK K
     try simp only [Act.put, sI, sZ, sS]
     refine tkz 22 25 hHz ?_; refine tkz 23 2 hHz ?_
     refine wpAnyH_done (by kernel_rfl) ?_ _
     go_wp2
     go_ret
     exact ⟨ret_bool (by rw [HK.out]; first | rfl | simp), by first | exact hb5 | exact ((bR.alloc nR _).drew) | exact bR.alloc nR _⟩
 ·have t0 := leq_is (x := low) (y := high) false (decide_eq_false hlh)
  rw [decide_eq_false hlh] at HK
  clear hlh K1 K2 K3 K4
  go_enter Tryz.func64, Tryz.ntmps64
  go_wp2
  refine wp_region_held_drew (S := (fun w' => w'.cell? ⟨w.heap.size, 0, none⟩ = some (.int .i64 kind) ∧ w'.cell? ⟨w.heap.size, 1, none⟩ = some (.int .i64 mode) ∧ w'.cell? ⟨w.heap.size, 2, none⟩ = some (.int .i64 low) ∧ w'.cell? ⟨w.heap.size, 3, none⟩ = some (.int .i64 high) ∧ w'.cell? ⟨w.heap.size, 4, none⟩ = some (.int .i64 size) ∧ w'.cell? ⟨w.heap.size, 5, none⟩ = some (.int .i64 limit) ∧ w'.cell? ⟨w.heap.size, 6, none⟩ = some (.slice l n6 lc) ∧ w'.cell? ⟨w.heap.size, 7, none⟩ = some (.slice r n7 rc) ∧ w'.cell? ⟨w.heap.size, 8, none⟩ = some (.slice lk n8 lkc) ∧ w'.cell? ⟨w.heap.size, 9, none⟩ = some (.slice rk n9 rkc) ∧ w'.cell? ⟨w.heap.size, 10, none⟩ = some (.bool grouped) ∧ w'.cell? ⟨w.heap.size, 11, none⟩ = some (.slice g n11 gc) ∧ w'.cell? ⟨w.heap.size, 12, none⟩ = some (.slice a n12 ac))) (by kernel_rfl) ⟨by go_simp, by go_simp, by go_simp, by go_simp, by go_simp, by go_simp, by go_simp, by go_simp, by go_simp, by go_simp, by go_simp, by go_simp, by go_simp⟩ (fun hHz => ?_)
  refine tkz 0 3 hHz ?_; refine tkz 1 4 hHz ?_; refine tkz 2 5 hHz ?_; refine tkz 3 6 hHz ?_; refine tkz 4 7 hHz ?_; refine tkz 5 8 hHz ?_; refine sk 6 9 hHz ?_; refine sk 7 10 hHz ?_; refine tkz 8 11 hHz ?_; refine tkz 9 12 hHz ?_; refine sk 10 13 hHz ?_; refine sk 11 14 hHz ?_; refine sk 12 15 hHz ?_; refine sk 13 16 hHz ?_; refine sk 14 17 hHz ?_; refine tkz 15 18 hHz ?_; refine tkz 16 19 hHz ?_; refine sk 17 20 hHz ?_; refine sk 18 21 hHz ?_; refine sk 19 22 hHz ?_; refine sk 20 23 hHz ?_; refine sk 21 24 hHz ?_; refine tkz 22 25 hHz ?_; refine tkz 23 2 hHz ?_
  refine wpAnyH_done (by kernel_rfl) ?_ _
  go_wp2
  go_ret
  exact ⟨ret_bool (by rw [HK.out]; first | rfl | simp), by first | exact hb1 | exact ((bR.alloc nR _).drew) | exact bR.alloc nR _⟩
def err5 (a b c d e : Bool) : Int := if a = false then 4 else if b = false then 3 else if c = false then 2 else if d = false then 5 else if e = false then 1 else 0
theorem planErr_5 (p : Pln) : planErr p = err5 (decide (kindsOk p)) (decide (rangesOk p)) (decide (manyOk p)) (decide (typesOk p)) (decide (formOk p)) := by
 unfold planErr err5
 simp only [decide_eq_false_iff_not]
theorem many_len {p : Pln} (h : manyOk p) : (0 < p.left.length ∧ p.left.length ≤ 4) ∧ (0 < p.right.length ∧ p.right.length ≤ 4) ∧ (0 < p.lkeys.length ∧ p.lkeys.length ≤ 4) ∧ (0 < p.rkeys.length ∧ p.rkeys.length ≤ 4) ∧ p.aggs.length ≤ 4 ∧ p.group.length ≤ 8 := by
 obtain ⟨⟨h1, h2, h3, h4⟩, h5⟩ := h
 unfold len14 at h1 h2 h3 h4 h5
 split at h5
 ·omega
 ·omega
set_option maxRecDepth 10000 in
set_option maxHeartbeats 4000000 in
theorem planCheck_any (p : Pln) (x : PA) (w : World) (hw : wfPlan p) (hp : planAt w p x) :
 Calls Tryz.prog 27 #[planV p x] w fun e w' => e = .returned (.int .i64 (planErr p)) ∧ Below w.heap.size w w' := by
 have K1 := hIz (fun (w1 : World) (hb : Below w.heap.size w w1) => kindsRight_any p x w1 (planAt_below hp hb) hw)
 have K2 := hIz (fun (w1 : World) (hb : Below w.heap.size w w1) => rangesRight_any p x w1)
 have K3 := hIz (fun (w1 : World) (hb : Below w.heap.size w w1) => countsRight_any p x w1 hw)
 have K4 : Hid (∀ w1, Below w.heap.size w w1 → yes (decide (manyOk p)) (Calls Tryz.prog 63 #[planV p x] w1 fun e w' => e = .returned (.bool (decide (typesOk p))) ∧ Below w1.heap.size w1 w')) := fun w1 hb hm => by
  have hm' := many_len (of_decide_eq_true hm)
  exact typesRight_any p x w1 (planAt_below hp hb) (by omega) (by omega) (by omega) (by omega)
 have K5 : Hid (∀ w1, Below w.heap.size w w1 → yes (decide (manyOk p)) (Calls Tryz.prog 64 #[planV p x] w1 fun e w' => e = .returned (.bool (decide (formOk p))) ∧ Below w1.heap.size w1 w')) := fun w1 hb hm => by
  have hm' := many_len (of_decide_eq_true hm)
  exact formRight_any p x w1 hw (planAt_below hp hb) (by omega) (by omega) (by omega) (by omega)
 have HK : Hid (planErr p = err5 (decide (kindsOk p)) (decide (rangesOk p)) (decide (manyOk p)) (decide (typesOk p)) (decide (formOk p))) := planErr_5 p
 obtain ⟨q1, hq1⟩ : ∃ z, decide (kindsOk p) = z := ⟨_, rfl⟩
 obtain ⟨q2, hq2⟩ : ∃ z, decide (rangesOk p) = z := ⟨_, rfl⟩
 obtain ⟨q3, hq3⟩ : ∃ z, decide (manyOk p) = z := ⟨_, rfl⟩
 obtain ⟨q4, hq4⟩ : ∃ z, decide (typesOk p) = z := ⟨_, rfl⟩
 obtain ⟨q5, hq5⟩ : ∃ z, decide (formOk p) = z := ⟨_, rfl⟩
 rw [hq1] at K1 HK
 rw [hq2] at K2 HK
 rw [hq3] at K3 K4 K5 HK
 rw [hq4] at K4 HK
 rw [hq5] at K5 HK
 clear hq1 hq2 hq3 hq4 hq5 hw hp
 obtain ⟨kind, mode, low, high, size, limit, left, right, lkeys, rkeys, grouped, group, aggs⟩ := p
 obtain ⟨l, lc, r, rc, lk, lkc, rk, rkc, g, gc, a, ac⟩ := x
 unfold planV at K1 K2 K3 K4 K5 ⊢
 dsimp only at K1 K2 K3 K4 K5 ⊢
 obtain ⟨n6, h6⟩ : ∃ n, left.length = n := ⟨_, rfl⟩
 obtain ⟨n7, h7⟩ : ∃ n, right.length = n := ⟨_, rfl⟩
 obtain ⟨n8, h8⟩ : ∃ n, lkeys.length = n := ⟨_, rfl⟩
 obtain ⟨n9, h9⟩ : ∃ n, rkeys.length = n := ⟨_, rfl⟩
 obtain ⟨n11, h11⟩ : ∃ n, group.length = n := ⟨_, rfl⟩
 obtain ⟨n12, h12⟩ : ∃ n, aggs.length = n := ⟨_, rfl⟩
 rw [h6, h7, h8, h9, h11, h12] at K1 K2 K3 K4 K5
 rw [h6, h7, h8, h9, h11, h12]
 clear h6 h7 h8 h9 h11 h12
 obtain ⟨pe, hpe⟩ : ∃ z, planErr ⟨kind, mode, low, high, size, limit, left, right, lkeys, rkeys, grouped, group, aggs⟩ = z := ⟨_, rfl⟩
 rw [hpe] at HK ⊢
 clear hpe
 go_enter Tryz.func27, Tryz.ntmps27
 go_wp2_with fail
 refine (K1.out _ (bR.alloc nR _)).mono ?_
 rintro e w1 ⟨rfl, hb1⟩
 have hba := (bR.alloc nR _).trans (hb1.mono (by simp))
 obtain ⟨hc1, hf1⟩ := bcell hb1
 have hz1 : w.heap.size < w1.heap.size := (by have := hb1.size; simp at this; omega)
 cases q1
 ·go_wp2
  go_ret
  exact ⟨ret_int HK.out.symm, hba⟩
 go_wp2_with fail
 refine (K2.out _ hba).mono ?_
 rintro e w2 ⟨rfl, hb2⟩
 have hbb := hba.trans (hb2.mono hba.size)
 obtain ⟨hc2, hf2⟩ := bcell hb2
 have hz2 : w.heap.size < w2.heap.size := (by have := hb2.size; omega)
 cases q2
 ·go_wp2
  go_ret
  exact ⟨ret_int HK.out.symm, hbb⟩
 go_wp2_with fail
 refine (K3.out _ hbb).mono ?_
 rintro e w3 ⟨rfl, hb3⟩
 have hbc := hbb.trans (hb3.mono hbb.size)
 obtain ⟨hc3, hf3⟩ := bcell hb3
 have hz3 : w.heap.size < w3.heap.size := (by have := hb3.size; omega)
 cases q3
 ·go_wp2
  go_ret
  exact ⟨ret_int HK.out.symm, hbc⟩
 go_wp2_with fail
 refine (K4.out _ hbc rfl).mono ?_
 rintro e w4 ⟨rfl, hb4⟩
 have hbd := hbc.trans (hb4.mono hbc.size)
 obtain ⟨hc4, hf4⟩ := bcell hb4
 have hz4 : w.heap.size < w4.heap.size := (by have := hb4.size; omega)
 cases q4
 ·go_wp2
  go_ret
  exact ⟨ret_int HK.out.symm, hbd⟩
 go_wp2_with fail
 refine (K5.out _ hbd rfl).mono ?_
 rintro e w5 ⟨rfl, hb5⟩
 have hbe := hbd.trans (hb5.mono hbd.size)
 cases q5
 all_goals
  go_wp2
  go_ret
  exact ⟨ret_int HK.out.symm, hbe⟩
end Go.Proofs.YtdohnkkbkfhphaaGreat.pl
