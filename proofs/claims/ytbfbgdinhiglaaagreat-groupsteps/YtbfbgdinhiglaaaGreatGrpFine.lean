import Derived.Test.YtbfbgdinhiglaaaGreatS16
import Derived.Test.YtbfbgdinhiglaaaGreatMgPlnD
import Derived.Test.YtbfbgdinhiglaaaGreatS17
import Derived.Test.YtbfbgdinhiglaaaGreatMgPlnB
namespace Go.Proofs.YtbfbgdinhiglaaaGreat.gr
open Go.ChangeShapes Go.WideShapes Go.ChangeAt Go.RowKit
open vl pl bt
set_option linter.unusedVariables false
set_option linter.unusedSimpArgs false
attribute [local go_sem] Oper.semAt_some
set_option maxRecDepth 100000 in
set_option maxHeartbeats 64000000 in
theorem bagFine_any (p : Pln) (x : PA) (a : Int × Int) (n : Int) (ta : Option Addr) (tc : Nat) (l : List Tal) (w : World) (hp : planAt w p x) (n1 : 0 < p.left.length) (n2 : 0 < p.right.length) (m1 : p.left.length ≤ 400) (m2 : p.right.length ≤ 400)
 (hcol : 0 ≤ a.2 ∧ a.2.toNat < (cols p).length) (hl : l.length ≤ 9223372036854775807) (ha : bagAt w ta l) (hn : i64 n) (hw : ∀ t ∈ l, t.1.s.size ≤ maxLen ∧ i64 t.1.n ∧ i64 t.2) :
 Calls Tryz.prog 27 #[planV p x, .agg #[.int .i64 a.1, .int .i64 a.2], .int .i64 n, .slice ta l.length tc] w fun e w' => e = .returned (.bool (bagB (cols p) a n l)) ∧ Below w.heap.size w w' := by
 have HA : Hid (bagAt w ta l) := ha
 have HW : Hid (∀ k, k < l.length → (l.getD k default).1.s.size ≤ maxLen ∧ i64 (l.getD k default).2) := fun k hk => by
  have := hw (l.getD k default) (by rw [List.getD_eq_getElem?_getD, List.getElem?_eq_getElem hk]; exact List.getElem_mem hk)
  exact ⟨this.1, this.2.2⟩
 have KT : Hid (∀ w1, Below w.heap.size w w1 → Calls Tryz.prog 22 #[planV p x] w1 fun e w' => (∃ ad cp, e = .returned (.slice ad (cols p).length cp) ∧ intsAt w' ad (cols p)) ∧ Below w1.heap.size w1 w') := fun w1 hb =>
  (rtypes_any p x w1 (planAt_below hp hb) n1 n2 m1 m2).mono (fun e w' ⟨⟨ad, cp, h1, h2⟩, h3⟩ => ⟨⟨ad, cp, h1, (ownI_at h2).1⟩, h3⟩)
 obtain ⟨R, hR⟩ : ∃ z, bagB (cols p) a n l = z := ⟨_, rfl⟩
 have HR : Hid (bagB (cols p) a n l = R) := hR
 unfold bagB at HR
 rw [hR]
 have hcl : (cols p).length ≤ 800 := by unfold cols; rw [List.length_append]; omega
 clear hR ha hw hp n1 n2 m1 m2
 obtain ⟨fn, col⟩ := a
 obtain ⟨hc0, hc1⟩ := hcol
 dsimp only at hc0 hc1 HR ⊢
 obtain ⟨cl, rfl⟩ := Int.eq_ofNat_of_zero_le hc0
 simp only [Int.toNat_natCast] at HR hc1
 have HCL : Hid (cl < (cols p).length) := hc1
 obtain ⟨CO, hCO⟩ : ∃ z, cols p = z := ⟨_, rfl⟩
 rw [hCO] at KT HR HCL hcl hc1
 obtain ⟨cv, hcv⟩ : ∃ z, CO.getD cl 0 = z := ⟨_, rfl⟩
 have HCV : Hid (CO.getD cl 0 = cv) := hcv
 rw [hcv] at HR
 obtain ⟨cn, hcn⟩ : ∃ z, CO.length = z := ⟨_, rfl⟩
 rw [hcn] at KT hcl hc1
 clear hCO hcv hcn hc0
 have jc1 : (0 : Int) ≤ (cl : Int) := by omega
 have jc2 : (cl : Int) < (cn : Int) := by omega
 obtain ⟨kind, mode, low, high, size, limit, left, right, lkeys, rkeys, grouped, group, aggs⟩ := p
 obtain ⟨la, lc, rr, rc, lk, lkc, rk, rkc, pga, gc, pag, ac⟩ := x
 unfold planV at KT ⊢
 dsimp only at KT ⊢
 obtain ⟨n6, h6⟩ : ∃ n, left.length = n := ⟨_, rfl⟩
 obtain ⟨n7, h7⟩ : ∃ n, right.length = n := ⟨_, rfl⟩
 obtain ⟨n8, h8⟩ : ∃ n, lkeys.length = n := ⟨_, rfl⟩
 obtain ⟨n9, h9⟩ : ∃ n, rkeys.length = n := ⟨_, rfl⟩
 obtain ⟨n11, h11⟩ : ∃ n, group.length = n := ⟨_, rfl⟩
 obtain ⟨n12, h12⟩ : ∃ n, aggs.length = n := ⟨_, rfl⟩
 simp only [h6, h7, h8, h9, h11, h12] at KT ⊢
 clear h6 h7 h8 h9 h11 h12
 obtain ⟨ln, hln⟩ : ∃ z, l.length = z := ⟨_, rfl⟩
 have HN : Hid (l.length = ln) := hln
 rw [hln] at hl HR ⊢
 clear hln
 obtain ⟨hn1, hn2⟩ := hn
 have hb0 : Below w.heap.size w ((w.alloc (.cells #[.int .i64 kind, .int .i64 mode, .int .i64 low, .int .i64 high, .int .i64 size, .int .i64 limit, .slice la n6 lc, .slice rr n7 rc, .slice lk n8 lkc, .slice rk n9 rkc, .bool grouped, .slice pga n11 gc, .slice pag n12 ac] 25)).alloc (.cells #[.int .i64 fn, .int .i64 (cl : Int)] 60)) := by
  repeat (first | exact bR | (refine Below.alloc ?_ (by simp <;> omega) _))
 by_cases h1 : fn = 1
 ·subst h1
  by_cases h9 : ln = 0
  ·subst h9
   have HE : Hid (true = R) := by show _ = _; rw [← HR.out, if_pos rfl]; rfl
   go_enter Tryz.func27, Tryz.ntmps27
   go_wp2
   go_ret
   exact ⟨ret_bool HE.out, hb0⟩
  ·have HE : Hid (false = R) := by show _ = _; rw [← HR.out, if_pos rfl]; simp [h9]
   have h9' : ((ln : Int) == 0) = false := by simp; omega
   go_enter Tryz.func27, Tryz.ntmps27
   go_wp2
   go_ret
   exact ⟨ret_bool (by rw [← HE.out]), hb0⟩
 ·have h1' : (fn == 1) = false := by simpa using h1
  have HR0 : Hid (talsB cv n (prevOf l 0) (l.drop 0) = R) := by show talsB cv n none l = R; rw [← HR.out, if_neg h1]
  clear HR
  go_enter Tryz.func27, Tryz.ntmps27
  go_wp2
  generalize hV : ((World.alloc w _).alloc _) = W0 at *
  have v0 : W0.cell? ⟨w.heap.size, 0, none⟩ = some (.int .i64 kind) := by subst hV; go_simp
  have v1 : W0.cell? ⟨w.heap.size, 1, none⟩ = some (.int .i64 mode) := by subst hV; go_simp
  have v2 : W0.cell? ⟨w.heap.size, 2, none⟩ = some (.int .i64 low) := by subst hV; go_simp
  have v3 : W0.cell? ⟨w.heap.size, 3, none⟩ = some (.int .i64 high) := by subst hV; go_simp
  have v4 : W0.cell? ⟨w.heap.size, 4, none⟩ = some (.int .i64 size) := by subst hV; go_simp
  have v5 : W0.cell? ⟨w.heap.size, 5, none⟩ = some (.int .i64 limit) := by subst hV; go_simp
  have v6 : W0.cell? ⟨w.heap.size, 6, none⟩ = some (.slice la n6 lc) := by subst hV; go_simp
  have v7 : W0.cell? ⟨w.heap.size, 7, none⟩ = some (.slice rr n7 rc) := by subst hV; go_simp
  have v8 : W0.cell? ⟨w.heap.size, 8, none⟩ = some (.slice lk n8 lkc) := by subst hV; go_simp
  have v9 : W0.cell? ⟨w.heap.size, 9, none⟩ = some (.slice rk n9 rkc) := by subst hV; go_simp
  have v10 : W0.cell? ⟨w.heap.size, 10, none⟩ = some (.bool grouped) := by subst hV; go_simp
  have v11 : W0.cell? ⟨w.heap.size, 11, none⟩ = some (.slice pga n11 gc) := by subst hV; go_simp
  have v12 : W0.cell? ⟨w.heap.size, 12, none⟩ = some (.slice pag n12 ac) := by subst hV; go_simp
  have va : W0.cell? ⟨w.heap.size + 1, 1, none⟩ = some (.int .i64 (cl : Int)) := by subst hV; go_simp
  have lv : w.heap.size + 1 < W0.heap.size := World.block_lt_of_cell? _ _ va
  clear hV
  go_loopw [9, 10] (fun rr t wr => ∃ (k : Nat) (r : Int), k ≤ ln ∧ t = .int .i64 k ∧ rr = .int .i64 r ∧ i64 r ∧ talsB cv r (prevOf l k) (l.drop k) = R ∧ Below W0.heap.size W0 wr) (fun _ t _ => ln - (intOf t).toNat)
  case atStart => exact ⟨0, n, Nat.zero_le _, rfl, rfl, ⟨hn1, hn2⟩, HR0.out, bR⟩
  case round =>
   obtain ⟨k, r, hk, rfl, rfl, hr, hst, hnx⟩ := hrel
   have HST : Hid (talsB cv r (prevOf l k) (l.drop k) = R) := hst
   obtain ⟨hr1, hr2⟩ := hr
   have hbr : Below w.heap.size w wr := hb0.trans (hnx.mono hb0.size)
   clear hst
   have c0 := cL hnx v0
   have c1 := cL hnx v1
   have c2 := cL hnx v2
   have c3 := cL hnx v3
   have c4 := cL hnx v4
   have c5 := cL hnx v5
   have c6 := cL hnx v6
   have c7 := cL hnx v7
   have c8 := cL hnx v8
   have c9 := cL hnx v9
   have c10 := cL hnx v10
   have c11 := cL hnx v11
   have c12 := cL hnx v12
   have ca := cL hnx va
   have lw1 : w.heap.size + 1 < wr.heap.size := World.block_lt_of_cell? _ _ ca
   have lw0 : w.heap.size < wr.heap.size := by omega
   by_cases hlt : k < ln
   ·have hk2 : k < l.length := by rw [HN.out]; exact hlt
    obtain ⟨b3, o3, e3, m1, m2, m3, m4⟩ := HA.out k hk2
    have HPV : Hid (∀ j, k = j + 1 → ∃ b o, ta = some ⟨b, o, none⟩ ∧ wr.cell? ⟨b, o + j * 4, none⟩ = some (.int .i64 (l.getD j default).1.k) ∧ wr.cell? ⟨b, o + j * 4 + 1, none⟩ = some (.int .i64 (l.getD j default).1.n) ∧ wr.cell? ⟨b, o + j * 4 + 2, none⟩ = some (.string (l.getD j default).1.s)) := fun j hj => by
     obtain ⟨b, o, e, x1, x2, x3, x4⟩ := HA.out j (by omega)
     exact ⟨b, o, e, cL hbr x1, cL hbr x2, cL hbr x3⟩
    obtain ⟨hw1, hw2, hw3⟩ := HW.out k hk2
    subst e3
    have p1 := cL hbr m1
    have p2 := cL hbr m2
    have p3 := cL hbr m3
    have p4 := cL hbr m4
    have lb3 : b3 < wr.heap.size := World.block_lt_of_cell? _ _ p1
    have i1 : (0 : Int) ≤ (k : Int) := by omega
    have i2 : (k : Int) < (ln : Int) := by omega
    have HNO : Hid (talB cv r (prevOf l k) (l.getD k default) = false → false = R) := fun h => by rw [← HST.out]; exact (talsB_no hk2 h).symm
    have HYES : Hid (talB cv r (prevOf l k) (l.getD k default) = true → talsB cv (r - (l.getD k default).2) (prevOf l (k + 1)) (l.drop (k + 1)) = R) := fun h => by rw [← HST.out]; exact (talsB_yes hk2 h).symm
    have KV : Hid (∀ w1, Calls Tryz.prog 62 #[.agg #[.int .i64 (l.getD k default).1.k, .int .i64 (l.getD k default).1.n, .string (l.getD k default).1.s]] w1 fun e w' => e = .returned (.int .i64 (chk (l.getD k default).1.k (l.getD k default).1.n (l.getD k default).1.s)) ∧ Below w1.heap.size w1 w') := fun w1 => vl.rcheck_any _ _ _ w1 hw1
    obtain ⟨⟨⟨xk, xn, xs⟩, xm⟩, hx⟩ : ∃ z, l.getD k default = z := ⟨_, rfl⟩
    rw [hx] at p1 p2 p3 p4 HNO HYES KV hw2 hw3
    dsimp only at p1 p2 p3 p4 KV HYES hw2 hw3
    obtain ⟨E, hE⟩ : ∃ z, chk xk xn xs = z := ⟨_, rfl⟩
    have HE0 : Hid (chk xk xn xs = E) := hE
    rw [hE] at KV
    have hbX : Below w.heap.size w (wr.alloc (.cells #[.int .i64 xk, .int .i64 xn, .string xs] 68)) := hbr.alloc hbr.size _
    have hzX : Below W0.heap.size W0 (wr.alloc (.cells #[.int .i64 xk, .int .i64 xn, .string xs] 68)) := hnx.alloc hnx.size _
    clear hx m1 m2 m3 m4 hE hw1
    by_cases h0 : E = 0
    ·subst h0
     by_cases h2 : xk = 0
     ·have N2 := neq_is (x := xk) (y := 0) false (by simpa using h2)
      have HVB : Hid (valB ⟨xk, xn, xs⟩ cv = true) := by show _ = _; unfold valB; dsimp only; rw [HE0.out]; simp [h2]
      clear h2
      by_cases h4 : xm < 1
      ·have HE : Hid (false = R) := HNO.out (by unfold talB; simp; intros; omega)
       have N4 := lss_is (x := xm) (y := 1) true (by simpa using h4)
       go_wp2
       refine beginH (S := (fun w' => w'.cell? ⟨w.heap.size, 0, none⟩ = some (.int .i64 kind) ∧ w'.cell? ⟨w.heap.size, 1, none⟩ = some (.int .i64 mode) ∧ w'.cell? ⟨w.heap.size, 2, none⟩ = some (.int .i64 low) ∧ w'.cell? ⟨w.heap.size, 3, none⟩ = some (.int .i64 high) ∧ w'.cell? ⟨w.heap.size, 4, none⟩ = some (.int .i64 size) ∧ w'.cell? ⟨w.heap.size, 5, none⟩ = some (.int .i64 limit) ∧ w'.cell? ⟨w.heap.size, 6, none⟩ = some (.slice la n6 lc) ∧ w'.cell? ⟨w.heap.size, 7, none⟩ = some (.slice rr n7 rc) ∧ w'.cell? ⟨w.heap.size, 8, none⟩ = some (.slice lk n8 lkc) ∧ w'.cell? ⟨w.heap.size, 9, none⟩ = some (.slice rk n9 rkc) ∧ w'.cell? ⟨w.heap.size, 10, none⟩ = some (.bool grouped) ∧ w'.cell? ⟨w.heap.size, 11, none⟩ = some (.slice pga n11 gc) ∧ w'.cell? ⟨w.heap.size, 12, none⟩ = some (.slice pag n12 ac) ∧ w'.cell? ⟨w.heap.size + 1, 1, none⟩ = some (.int .i64 (cl : Int)) ∧ w'.cell? ⟨wr.heap.size, 0, none⟩ = some (.int .i64 xk) ∧ w'.cell? ⟨wr.heap.size, 1, none⟩ = some (.int .i64 xn) ∧ w'.cell? ⟨wr.heap.size, 2, none⟩ = some (.string xs) ∧ w'.cell? ⟨b3, o3 + k * 4 + 3, none⟩ = some (.int .i64 xm))) 51 rfl (by kernel_rfl) ⟨by go_simp, by go_simp, by go_simp, by go_simp, by go_simp, by go_simp, by go_simp, by go_simp, by go_simp, by go_simp, by go_simp, by go_simp, by go_simp, by go_simp, by go_simp, by go_simp, by go_simp, by go_simp⟩ (fun hH => ?_)
       refine tk 0 30 hH ?_
       refine wpAnyH_ready (rs := [1]) (by kernel_rfl) (by simp) ?_
       refine AllReadyH.cons rfl (fun K hK => ?_) AllReadyH.nil
       go_simp
       refine (KV.out _).mono ?_
       rintro e y1 ⟨rfl, hy1⟩
       have hq1 : Below w.heap.size w y1 := hbX.drew.trans (hy1.mono hbX.drew.size)
       have hz1 : Below W0.heap.size W0 y1 := hzX.drew.trans (hy1.mono hzX.drew.size)
       go_wp2_with fail
       refine hK.out _ _ ⟨cL hy1 hH.1, cL hy1 hH.2.1, cL hy1 hH.2.2.1, cL hy1 hH.2.2.2.1, cL hy1 hH.2.2.2.2.1, cL hy1 hH.2.2.2.2.2.1, cL hy1 hH.2.2.2.2.2.2.1, cL hy1 hH.2.2.2.2.2.2.2.1, cL hy1 hH.2.2.2.2.2.2.2.2.1, cL hy1 hH.2.2.2.2.2.2.2.2.2.1, cL hy1 hH.2.2.2.2.2.2.2.2.2.2.1, cL hy1 hH.2.2.2.2.2.2.2.2.2.2.2.1, cL hy1 hH.2.2.2.2.2.2.2.2.2.2.2.2.1, cL hy1 hH.2.2.2.2.2.2.2.2.2.2.2.2.2.1, cL hy1 hH.2.2.2.2.2.2.2.2.2.2.2.2.2.2.1, cL hy1 hH.2.2.2.2.2.2.2.2.2.2.2.2.2.2.2.1, cL hy1 hH.2.2.2.2.2.2.2.2.2.2.2.2.2.2.2.2.1, cL hy1 hH.2.2.2.2.2.2.2.2.2.2.2.2.2.2.2.2.2⟩ (fun hH => ?_)
       clear hK K
       try simp only [Act.put, sI, sZ, sS]
       refine tk 2 32 hH ?_; refine tk 3 33 hH ?_; refine tk 4 34 hH ?_; refine tk 5 35 hH ?_; refine tk 6 36 hH ?_; refine tk 7 37 hH ?_; refine sk 8 38 hH ?_; refine sk 9 39 hH ?_; refine sk 10 40 hH ?_; refine sk 12 42 hH ?_; refine sk 13 43 hH ?_; refine sk 11 41 hH ?_; refine sk 14 44 hH ?_; refine sk 15 45 hH ?_; refine sk 16 46 hH ?_; refine tk 17 47 hH ?_; refine tk 18 48 hH ?_; refine tk 19 49 hH ?_; refine tk 20 50 hH ?_; refine tk 21 51 hH ?_; refine tk 22 52 hH ?_; refine tk 23 53 hH ?_; refine tk 24 54 hH ?_; refine tk 25 55 hH ?_; refine tk 26 56 hH ?_; refine tk 27 57 hH ?_; refine sk 28 58 hH ?_; refine sk 29 59 hH ?_; refine sk 30 60 hH ?_; refine sk 31 61 hH ?_; refine sk 32 62 hH ?_; refine sk 33 63 hH ?_; refine sk 34 64 hH ?_; refine tk 35 65 hH ?_; refine tk 36 66 hH ?_; refine sk 37 67 hH ?_; refine sk 38 68 hH ?_; refine sk 39 69 hH ?_; refine sk 40 70 hH ?_; refine sk 41 71 hH ?_; refine sk 42 72 hH ?_; refine sk 43 73 hH ?_; refine sk 44 74 hH ?_; refine sk 45 75 hH ?_; refine sk 46 76 hH ?_; refine sk 47 77 hH ?_; refine sk 48 78 hH ?_; refine sk 49 79 hH ?_; refine tk 50 80 hH ?_
       refine wpAnyH_done (by kernel_rfl) ?_ _
       go_wp2
       go_ret
       exact ⟨ret_bool HE.out, hq1⟩
      ·have N4 := lss_is (x := xm) (y := 1) false (by simpa using h4)
       by_cases h5 : xm > r
       ·have HE : Hid (false = R) := HNO.out (by unfold talB; simp; intros; omega)
        have N5 := gtr_is (x := xm) (y := r) true (by simpa using h5)
        go_wp2
        refine beginH (S := (fun w' => w'.cell? ⟨w.heap.size, 0, none⟩ = some (.int .i64 kind) ∧ w'.cell? ⟨w.heap.size, 1, none⟩ = some (.int .i64 mode) ∧ w'.cell? ⟨w.heap.size, 2, none⟩ = some (.int .i64 low) ∧ w'.cell? ⟨w.heap.size, 3, none⟩ = some (.int .i64 high) ∧ w'.cell? ⟨w.heap.size, 4, none⟩ = some (.int .i64 size) ∧ w'.cell? ⟨w.heap.size, 5, none⟩ = some (.int .i64 limit) ∧ w'.cell? ⟨w.heap.size, 6, none⟩ = some (.slice la n6 lc) ∧ w'.cell? ⟨w.heap.size, 7, none⟩ = some (.slice rr n7 rc) ∧ w'.cell? ⟨w.heap.size, 8, none⟩ = some (.slice lk n8 lkc) ∧ w'.cell? ⟨w.heap.size, 9, none⟩ = some (.slice rk n9 rkc) ∧ w'.cell? ⟨w.heap.size, 10, none⟩ = some (.bool grouped) ∧ w'.cell? ⟨w.heap.size, 11, none⟩ = some (.slice pga n11 gc) ∧ w'.cell? ⟨w.heap.size, 12, none⟩ = some (.slice pag n12 ac) ∧ w'.cell? ⟨w.heap.size + 1, 1, none⟩ = some (.int .i64 (cl : Int)) ∧ w'.cell? ⟨wr.heap.size, 0, none⟩ = some (.int .i64 xk) ∧ w'.cell? ⟨wr.heap.size, 1, none⟩ = some (.int .i64 xn) ∧ w'.cell? ⟨wr.heap.size, 2, none⟩ = some (.string xs) ∧ w'.cell? ⟨b3, o3 + k * 4 + 3, none⟩ = some (.int .i64 xm))) 51 rfl (by kernel_rfl) ⟨by go_simp, by go_simp, by go_simp, by go_simp, by go_simp, by go_simp, by go_simp, by go_simp, by go_simp, by go_simp, by go_simp, by go_simp, by go_simp, by go_simp, by go_simp, by go_simp, by go_simp, by go_simp⟩ (fun hH => ?_)
        refine tk 0 30 hH ?_
        refine wpAnyH_ready (rs := [1]) (by kernel_rfl) (by simp) ?_
        refine AllReadyH.cons rfl (fun K hK => ?_) AllReadyH.nil
        go_simp
        refine (KV.out _).mono ?_
        rintro e y1 ⟨rfl, hy1⟩
        have hq1 : Below w.heap.size w y1 := hbX.drew.trans (hy1.mono hbX.drew.size)
        have hz1 : Below W0.heap.size W0 y1 := hzX.drew.trans (hy1.mono hzX.drew.size)
        go_wp2_with fail
        refine hK.out _ _ ⟨cL hy1 hH.1, cL hy1 hH.2.1, cL hy1 hH.2.2.1, cL hy1 hH.2.2.2.1, cL hy1 hH.2.2.2.2.1, cL hy1 hH.2.2.2.2.2.1, cL hy1 hH.2.2.2.2.2.2.1, cL hy1 hH.2.2.2.2.2.2.2.1, cL hy1 hH.2.2.2.2.2.2.2.2.1, cL hy1 hH.2.2.2.2.2.2.2.2.2.1, cL hy1 hH.2.2.2.2.2.2.2.2.2.2.1, cL hy1 hH.2.2.2.2.2.2.2.2.2.2.2.1, cL hy1 hH.2.2.2.2.2.2.2.2.2.2.2.2.1, cL hy1 hH.2.2.2.2.2.2.2.2.2.2.2.2.2.1, cL hy1 hH.2.2.2.2.2.2.2.2.2.2.2.2.2.2.1, cL hy1 hH.2.2.2.2.2.2.2.2.2.2.2.2.2.2.2.1, cL hy1 hH.2.2.2.2.2.2.2.2.2.2.2.2.2.2.2.2.1, cL hy1 hH.2.2.2.2.2.2.2.2.2.2.2.2.2.2.2.2.2⟩ (fun hH => ?_)
        clear hK K
        try simp only [Act.put, sI, sZ, sS]
        refine tk 2 32 hH ?_; refine tk 3 33 hH ?_; refine tk 4 34 hH ?_; refine tk 5 35 hH ?_; refine tk 6 36 hH ?_; refine tk 7 37 hH ?_; refine sk 8 38 hH ?_; refine sk 9 39 hH ?_; refine sk 10 40 hH ?_; refine sk 12 42 hH ?_; refine sk 13 43 hH ?_; refine sk 11 41 hH ?_; refine sk 14 44 hH ?_; refine sk 15 45 hH ?_; refine sk 16 46 hH ?_; refine tk 17 47 hH ?_; refine tk 18 48 hH ?_; refine tk 19 49 hH ?_; refine tk 20 50 hH ?_; refine tk 21 51 hH ?_; refine tk 22 52 hH ?_; refine tk 23 53 hH ?_; refine tk 24 54 hH ?_; refine tk 25 55 hH ?_; refine tk 26 56 hH ?_; refine tk 27 57 hH ?_; refine tk 28 58 hH ?_; refine tk 29 59 hH ?_; refine tk 30 60 hH ?_; refine tk 31 61 hH ?_; refine tk 32 62 hH ?_; refine tk 33 63 hH ?_; refine tk 34 64 hH ?_; refine tk 35 65 hH ?_; refine tk 36 66 hH ?_; refine sk 37 67 hH ?_; refine sk 38 68 hH ?_; refine sk 39 69 hH ?_; refine sk 40 70 hH ?_; refine sk 41 71 hH ?_; refine sk 42 72 hH ?_; refine sk 43 73 hH ?_; refine sk 44 74 hH ?_; refine sk 45 75 hH ?_; refine sk 46 76 hH ?_; refine sk 47 77 hH ?_; refine sk 48 78 hH ?_; refine sk 49 79 hH ?_; refine tk 50 80 hH ?_
        refine wpAnyH_done (by kernel_rfl) ?_ _
        go_wp2
        go_ret
        exact ⟨ret_bool HE.out, hq1⟩
       ·have N5 := gtr_is (x := xm) (y := r) false (by simpa using h5)
        have hw4 : IntKind.i64.wrap (r - xm) = r - xm := by rw [IntKind.wrap_i64]; omega
        have HW5 : Hid (i64 (r - xm)) := ⟨by omega, by omega⟩
        by_cases hk0 : k = 0
        ·have HY : Hid (talsB cv (r - xm) (prevOf l (k + 1)) (l.drop (k + 1)) = R) := HYES.out (by unfold talB; rw [HVB.out, show prevOf l k = none from if_pos hk0]; simp; omega)
         have N6 := gtr_is (x := (k : Int)) (y := 0) false (by simp; omega)
         clear hk0
         go_wp2
         refine beginH (S := (fun w' => w'.cell? ⟨w.heap.size, 0, none⟩ = some (.int .i64 kind) ∧ w'.cell? ⟨w.heap.size, 1, none⟩ = some (.int .i64 mode) ∧ w'.cell? ⟨w.heap.size, 2, none⟩ = some (.int .i64 low) ∧ w'.cell? ⟨w.heap.size, 3, none⟩ = some (.int .i64 high) ∧ w'.cell? ⟨w.heap.size, 4, none⟩ = some (.int .i64 size) ∧ w'.cell? ⟨w.heap.size, 5, none⟩ = some (.int .i64 limit) ∧ w'.cell? ⟨w.heap.size, 6, none⟩ = some (.slice la n6 lc) ∧ w'.cell? ⟨w.heap.size, 7, none⟩ = some (.slice rr n7 rc) ∧ w'.cell? ⟨w.heap.size, 8, none⟩ = some (.slice lk n8 lkc) ∧ w'.cell? ⟨w.heap.size, 9, none⟩ = some (.slice rk n9 rkc) ∧ w'.cell? ⟨w.heap.size, 10, none⟩ = some (.bool grouped) ∧ w'.cell? ⟨w.heap.size, 11, none⟩ = some (.slice pga n11 gc) ∧ w'.cell? ⟨w.heap.size, 12, none⟩ = some (.slice pag n12 ac) ∧ w'.cell? ⟨w.heap.size + 1, 1, none⟩ = some (.int .i64 (cl : Int)) ∧ w'.cell? ⟨wr.heap.size, 0, none⟩ = some (.int .i64 xk) ∧ w'.cell? ⟨wr.heap.size, 1, none⟩ = some (.int .i64 xn) ∧ w'.cell? ⟨wr.heap.size, 2, none⟩ = some (.string xs) ∧ w'.cell? ⟨b3, o3 + k * 4 + 3, none⟩ = some (.int .i64 xm))) 51 rfl (by kernel_rfl) ⟨by go_simp, by go_simp, by go_simp, by go_simp, by go_simp, by go_simp, by go_simp, by go_simp, by go_simp, by go_simp, by go_simp, by go_simp, by go_simp, by go_simp, by go_simp, by go_simp, by go_simp, by go_simp⟩ (fun hH => ?_)
         refine tk 0 30 hH ?_
         refine wpAnyH_ready (rs := [1]) (by kernel_rfl) (by simp) ?_
         refine AllReadyH.cons rfl (fun K hK => ?_) AllReadyH.nil
         go_simp
         refine (KV.out _).mono ?_
         rintro e y1 ⟨rfl, hy1⟩
         have hq1 : Below w.heap.size w y1 := hbX.drew.trans (hy1.mono hbX.drew.size)
         have hz1 : Below W0.heap.size W0 y1 := hzX.drew.trans (hy1.mono hzX.drew.size)
         go_wp2_with fail
         refine hK.out _ _ ⟨cL hy1 hH.1, cL hy1 hH.2.1, cL hy1 hH.2.2.1, cL hy1 hH.2.2.2.1, cL hy1 hH.2.2.2.2.1, cL hy1 hH.2.2.2.2.2.1, cL hy1 hH.2.2.2.2.2.2.1, cL hy1 hH.2.2.2.2.2.2.2.1, cL hy1 hH.2.2.2.2.2.2.2.2.1, cL hy1 hH.2.2.2.2.2.2.2.2.2.1, cL hy1 hH.2.2.2.2.2.2.2.2.2.2.1, cL hy1 hH.2.2.2.2.2.2.2.2.2.2.2.1, cL hy1 hH.2.2.2.2.2.2.2.2.2.2.2.2.1, cL hy1 hH.2.2.2.2.2.2.2.2.2.2.2.2.2.1, cL hy1 hH.2.2.2.2.2.2.2.2.2.2.2.2.2.2.1, cL hy1 hH.2.2.2.2.2.2.2.2.2.2.2.2.2.2.2.1, cL hy1 hH.2.2.2.2.2.2.2.2.2.2.2.2.2.2.2.2.1, cL hy1 hH.2.2.2.2.2.2.2.2.2.2.2.2.2.2.2.2.2⟩ (fun hH => ?_)
         clear hK K
         try simp only [Act.put, sI, sZ, sS]
         refine tk 2 32 hH ?_; refine tk 3 33 hH ?_; refine tk 4 34 hH ?_; refine tk 5 35 hH ?_; refine tk 6 36 hH ?_; refine tk 7 37 hH ?_; refine sk 8 38 hH ?_; refine sk 9 39 hH ?_; refine sk 10 40 hH ?_; refine sk 12 42 hH ?_; refine sk 13 43 hH ?_; refine sk 11 41 hH ?_; refine sk 14 44 hH ?_; refine sk 15 45 hH ?_; refine sk 16 46 hH ?_; refine tk 17 47 hH ?_; refine tk 18 48 hH ?_; refine tk 19 49 hH ?_; refine tk 20 50 hH ?_; refine tk 21 51 hH ?_; refine tk 22 52 hH ?_; refine tk 23 53 hH ?_; refine tk 24 54 hH ?_; refine tk 25 55 hH ?_; refine tk 26 56 hH ?_; refine tk 27 57 hH ?_; refine tk 28 58 hH ?_; refine tk 29 59 hH ?_; refine tk 30 60 hH ?_; refine tk 31 61 hH ?_; refine tk 32 62 hH ?_; refine tk 33 63 hH ?_; refine tk 34 64 hH ?_; refine tk 35 65 hH ?_; refine tk 36 66 hH ?_; refine tk 37 67 hH ?_; refine tk 38 68 hH ?_; refine tk 39 69 hH ?_; refine sk 40 70 hH ?_; refine sk 41 71 hH ?_; refine sk 42 72 hH ?_; refine sk 43 73 hH ?_; refine sk 44 74 hH ?_; refine sk 45 75 hH ?_; refine sk 46 76 hH ?_; refine sk 47 77 hH ?_; refine sk 48 78 hH ?_; refine tk 49 79 hH ?_; refine tk 50 80 hH ?_
         refine wpAnyH_done (by kernel_rfl) ?_ _
         have tm := hH.2.2.2.2.2.2.2.2.2.2.2.2.2.2.2.2.2
         go_wp2
         go_roundw
         case rel => exact ⟨k + 1, r - xm, by omega, by go_num, rfl, HW5.out, HY.out, hz1⟩
         case measure => simp [intOf]; omega
        ·obtain ⟨j, hj⟩ : ∃ j, k = j + 1 := ⟨k - 1, by omega⟩
         obtain ⟨b4, o4, e4, z1, z2, z3⟩ := HPV.out j hj
         injection e4 with e4
         injection e4 with e5 e6
         subst e5 e6
         have N6 := gtr_is (x := (k : Int)) (y := 0) true (by simp; omega)
         have i7 : IntKind.i64.wrap ((k : Int) - 1) = (j : Int) := by rw [IntKind.wrap_i64]; omega
         have i8 : (0 : Int) ≤ (j : Int) := by omega
         have i9 : (j : Int) < (ln : Int) := by omega
         have HPJ : Hid (prevOf l k = some (l.getD j default).1) := by show _ = _; rw [hj]; rfl
         obtain ⟨⟨qk, qn, qs⟩, hq0⟩ : ∃ z, (l.getD j default).1 = z := ⟨_, rfl⟩
         rw [hq0] at z1 z2 z3 HPJ
         dsimp only at z1 z2 z3
         have KC : Hid (∀ w1, Calls Tryz.prog 63 #[.agg #[.int .i64 qk, .int .i64 qn, .string qs], .agg #[.int .i64 xk, .int .i64 xn, .string xs]] w1 fun e w' => e = .returned (.int .i64 (cmpC ⟨qk, qn, qs⟩ ⟨xk, xn, xs⟩)) ∧ Below w1.heap.size w1 w') := fun w1 => vl.rcompare_any qk qn qs xk xn xs w1
         obtain ⟨CV, hCV⟩ : ∃ z, cmpC ⟨qk, qn, qs⟩ ⟨xk, xn, xs⟩ = z := ⟨_, rfl⟩
         have HCC : Hid (cmpC ⟨qk, qn, qs⟩ ⟨xk, xn, xs⟩ = CV) := hCV
         rw [hCV] at KC
         clear hCV hq0 hj hk0 HPV
         by_cases h6 : CV ≥ 0
         ·have HE : Hid (false = R) := HNO.out (by unfold talB; rw [HPJ.out]; simp [HCC.out]; intros; omega)
          have N7 := geq_is (x := CV) (y := 0) true (by simpa using h6)
          go_wp2
          refine beginH (S := (fun w' => w'.cell? ⟨w.heap.size, 0, none⟩ = some (.int .i64 kind) ∧ w'.cell? ⟨w.heap.size, 1, none⟩ = some (.int .i64 mode) ∧ w'.cell? ⟨w.heap.size, 2, none⟩ = some (.int .i64 low) ∧ w'.cell? ⟨w.heap.size, 3, none⟩ = some (.int .i64 high) ∧ w'.cell? ⟨w.heap.size, 4, none⟩ = some (.int .i64 size) ∧ w'.cell? ⟨w.heap.size, 5, none⟩ = some (.int .i64 limit) ∧ w'.cell? ⟨w.heap.size, 6, none⟩ = some (.slice la n6 lc) ∧ w'.cell? ⟨w.heap.size, 7, none⟩ = some (.slice rr n7 rc) ∧ w'.cell? ⟨w.heap.size, 8, none⟩ = some (.slice lk n8 lkc) ∧ w'.cell? ⟨w.heap.size, 9, none⟩ = some (.slice rk n9 rkc) ∧ w'.cell? ⟨w.heap.size, 10, none⟩ = some (.bool grouped) ∧ w'.cell? ⟨w.heap.size, 11, none⟩ = some (.slice pga n11 gc) ∧ w'.cell? ⟨w.heap.size, 12, none⟩ = some (.slice pag n12 ac) ∧ w'.cell? ⟨w.heap.size + 1, 1, none⟩ = some (.int .i64 (cl : Int)) ∧ w'.cell? ⟨wr.heap.size, 0, none⟩ = some (.int .i64 xk) ∧ w'.cell? ⟨wr.heap.size, 1, none⟩ = some (.int .i64 xn) ∧ w'.cell? ⟨wr.heap.size, 2, none⟩ = some (.string xs) ∧ w'.cell? ⟨b3, o3 + k * 4 + 3, none⟩ = some (.int .i64 xm) ∧ w'.cell? ⟨b3, o3 + j * 4, none⟩ = some (.int .i64 qk) ∧ w'.cell? ⟨b3, o3 + j * 4 + 1, none⟩ = some (.int .i64 qn) ∧ w'.cell? ⟨b3, o3 + j * 4 + 2, none⟩ = some (.string qs))) 51 rfl (by kernel_rfl) ⟨by go_simp, by go_simp, by go_simp, by go_simp, by go_simp, by go_simp, by go_simp, by go_simp, by go_simp, by go_simp, by go_simp, by go_simp, by go_simp, by go_simp, by go_simp, by go_simp, by go_simp, by go_simp, by go_simp, by go_simp, by go_simp⟩ (fun hH => ?_)
          refine tk 0 30 hH ?_
          refine wpAnyH_ready (rs := [1]) (by kernel_rfl) (by simp) ?_
          refine AllReadyH.cons rfl (fun K hK => ?_) AllReadyH.nil
          go_simp
          refine (KV.out _).mono ?_
          rintro e y1 ⟨rfl, hy1⟩
          have hq1 : Below w.heap.size w y1 := hbX.drew.trans (hy1.mono hbX.drew.size)
          have hz1 : Below W0.heap.size W0 y1 := hzX.drew.trans (hy1.mono hzX.drew.size)
          go_wp2_with fail
          refine hK.out _ _ ⟨cL hy1 hH.1, cL hy1 hH.2.1, cL hy1 hH.2.2.1, cL hy1 hH.2.2.2.1, cL hy1 hH.2.2.2.2.1, cL hy1 hH.2.2.2.2.2.1, cL hy1 hH.2.2.2.2.2.2.1, cL hy1 hH.2.2.2.2.2.2.2.1, cL hy1 hH.2.2.2.2.2.2.2.2.1, cL hy1 hH.2.2.2.2.2.2.2.2.2.1, cL hy1 hH.2.2.2.2.2.2.2.2.2.2.1, cL hy1 hH.2.2.2.2.2.2.2.2.2.2.2.1, cL hy1 hH.2.2.2.2.2.2.2.2.2.2.2.2.1, cL hy1 hH.2.2.2.2.2.2.2.2.2.2.2.2.2.1, cL hy1 hH.2.2.2.2.2.2.2.2.2.2.2.2.2.2.1, cL hy1 hH.2.2.2.2.2.2.2.2.2.2.2.2.2.2.2.1, cL hy1 hH.2.2.2.2.2.2.2.2.2.2.2.2.2.2.2.2.1, cL hy1 hH.2.2.2.2.2.2.2.2.2.2.2.2.2.2.2.2.2.1, cL hy1 hH.2.2.2.2.2.2.2.2.2.2.2.2.2.2.2.2.2.2.1, cL hy1 hH.2.2.2.2.2.2.2.2.2.2.2.2.2.2.2.2.2.2.2.1, cL hy1 hH.2.2.2.2.2.2.2.2.2.2.2.2.2.2.2.2.2.2.2.2⟩ (fun hH => ?_)
          clear hK K
          try simp only [Act.put, sI, sZ, sS]
          refine tk 2 32 hH ?_; refine tk 3 33 hH ?_; refine tk 4 34 hH ?_; refine tk 5 35 hH ?_; refine tk 6 36 hH ?_; refine tk 7 37 hH ?_; refine sk 8 38 hH ?_; refine sk 9 39 hH ?_; refine sk 10 40 hH ?_; refine sk 12 42 hH ?_; refine sk 13 43 hH ?_; refine sk 11 41 hH ?_; refine sk 14 44 hH ?_; refine sk 15 45 hH ?_; refine sk 16 46 hH ?_; refine tk 17 47 hH ?_; refine tk 18 48 hH ?_; refine tk 19 49 hH ?_; refine tk 20 50 hH ?_; refine tk 21 51 hH ?_; refine tk 22 52 hH ?_; refine tk 23 53 hH ?_; refine tk 24 54 hH ?_; refine tk 25 55 hH ?_; refine tk 26 56 hH ?_; refine tk 27 57 hH ?_; refine tk 28 58 hH ?_; refine tk 29 59 hH ?_; refine tk 30 60 hH ?_; refine tk 31 61 hH ?_; refine tk 32 62 hH ?_; refine tk 33 63 hH ?_; refine tk 34 64 hH ?_; refine tk 35 65 hH ?_; refine tk 36 66 hH ?_; refine tk 37 67 hH ?_; refine tk 38 68 hH ?_; refine tk 39 69 hH ?_; refine tk 40 70 hH ?_; refine tk 41 71 hH ?_; refine tk 42 72 hH ?_; refine tk 43 73 hH ?_; refine tk 44 74 hH ?_; refine tk 45 75 hH ?_; refine tk 46 76 hH ?_
          refine wpAnyH_ready (rs := [47]) (by kernel_rfl) (by simp) ?_
          refine AllReadyH.cons rfl (fun K hK => ?_) AllReadyH.nil
          go_simp
          refine (KC.out _).mono ?_
          rintro e y2 ⟨rfl, hy2⟩
          have hq2 : Below w.heap.size w y2 := hq1.trans (hy2.mono hq1.size)
          have hz2 : Below W0.heap.size W0 y2 := hz1.trans (hy2.mono hz1.size)
          go_wp2_with fail
          refine hK.out _ _ ⟨cL hy2 hH.1, cL hy2 hH.2.1, cL hy2 hH.2.2.1, cL hy2 hH.2.2.2.1, cL hy2 hH.2.2.2.2.1, cL hy2 hH.2.2.2.2.2.1, cL hy2 hH.2.2.2.2.2.2.1, cL hy2 hH.2.2.2.2.2.2.2.1, cL hy2 hH.2.2.2.2.2.2.2.2.1, cL hy2 hH.2.2.2.2.2.2.2.2.2.1, cL hy2 hH.2.2.2.2.2.2.2.2.2.2.1, cL hy2 hH.2.2.2.2.2.2.2.2.2.2.2.1, cL hy2 hH.2.2.2.2.2.2.2.2.2.2.2.2.1, cL hy2 hH.2.2.2.2.2.2.2.2.2.2.2.2.2.1, cL hy2 hH.2.2.2.2.2.2.2.2.2.2.2.2.2.2.1, cL hy2 hH.2.2.2.2.2.2.2.2.2.2.2.2.2.2.2.1, cL hy2 hH.2.2.2.2.2.2.2.2.2.2.2.2.2.2.2.2.1, cL hy2 hH.2.2.2.2.2.2.2.2.2.2.2.2.2.2.2.2.2.1, cL hy2 hH.2.2.2.2.2.2.2.2.2.2.2.2.2.2.2.2.2.2.1, cL hy2 hH.2.2.2.2.2.2.2.2.2.2.2.2.2.2.2.2.2.2.2.1, cL hy2 hH.2.2.2.2.2.2.2.2.2.2.2.2.2.2.2.2.2.2.2.2⟩ (fun hH => ?_)
          clear hK K
          try simp only [Act.put, sI, sZ, sS]
          refine tk 48 78 hH ?_; refine tk 49 79 hH ?_; refine tk 50 80 hH ?_
          refine wpAnyH_done (by kernel_rfl) ?_ _
          go_wp2
          go_ret
          exact ⟨ret_bool HE.out, hq2⟩
         ·have HY : Hid (talsB cv (r - xm) (prevOf l (k + 1)) (l.drop (k + 1)) = R) := HYES.out (by unfold talB; rw [HVB.out, HPJ.out]; simp [HCC.out]; omega)
          have N7 := geq_is (x := CV) (y := 0) false (by simpa using h6)
          go_wp2
          refine beginH (S := (fun w' => w'.cell? ⟨w.heap.size, 0, none⟩ = some (.int .i64 kind) ∧ w'.cell? ⟨w.heap.size, 1, none⟩ = some (.int .i64 mode) ∧ w'.cell? ⟨w.heap.size, 2, none⟩ = some (.int .i64 low) ∧ w'.cell? ⟨w.heap.size, 3, none⟩ = some (.int .i64 high) ∧ w'.cell? ⟨w.heap.size, 4, none⟩ = some (.int .i64 size) ∧ w'.cell? ⟨w.heap.size, 5, none⟩ = some (.int .i64 limit) ∧ w'.cell? ⟨w.heap.size, 6, none⟩ = some (.slice la n6 lc) ∧ w'.cell? ⟨w.heap.size, 7, none⟩ = some (.slice rr n7 rc) ∧ w'.cell? ⟨w.heap.size, 8, none⟩ = some (.slice lk n8 lkc) ∧ w'.cell? ⟨w.heap.size, 9, none⟩ = some (.slice rk n9 rkc) ∧ w'.cell? ⟨w.heap.size, 10, none⟩ = some (.bool grouped) ∧ w'.cell? ⟨w.heap.size, 11, none⟩ = some (.slice pga n11 gc) ∧ w'.cell? ⟨w.heap.size, 12, none⟩ = some (.slice pag n12 ac) ∧ w'.cell? ⟨w.heap.size + 1, 1, none⟩ = some (.int .i64 (cl : Int)) ∧ w'.cell? ⟨wr.heap.size, 0, none⟩ = some (.int .i64 xk) ∧ w'.cell? ⟨wr.heap.size, 1, none⟩ = some (.int .i64 xn) ∧ w'.cell? ⟨wr.heap.size, 2, none⟩ = some (.string xs) ∧ w'.cell? ⟨b3, o3 + k * 4 + 3, none⟩ = some (.int .i64 xm) ∧ w'.cell? ⟨b3, o3 + j * 4, none⟩ = some (.int .i64 qk) ∧ w'.cell? ⟨b3, o3 + j * 4 + 1, none⟩ = some (.int .i64 qn) ∧ w'.cell? ⟨b3, o3 + j * 4 + 2, none⟩ = some (.string qs))) 51 rfl (by kernel_rfl) ⟨by go_simp, by go_simp, by go_simp, by go_simp, by go_simp, by go_simp, by go_simp, by go_simp, by go_simp, by go_simp, by go_simp, by go_simp, by go_simp, by go_simp, by go_simp, by go_simp, by go_simp, by go_simp, by go_simp, by go_simp, by go_simp⟩ (fun hH => ?_)
          refine tk 0 30 hH ?_
          refine wpAnyH_ready (rs := [1]) (by kernel_rfl) (by simp) ?_
          refine AllReadyH.cons rfl (fun K hK => ?_) AllReadyH.nil
          go_simp
          refine (KV.out _).mono ?_
          rintro e y1 ⟨rfl, hy1⟩
          have hq1 : Below w.heap.size w y1 := hbX.drew.trans (hy1.mono hbX.drew.size)
          have hz1 : Below W0.heap.size W0 y1 := hzX.drew.trans (hy1.mono hzX.drew.size)
          go_wp2_with fail
          refine hK.out _ _ ⟨cL hy1 hH.1, cL hy1 hH.2.1, cL hy1 hH.2.2.1, cL hy1 hH.2.2.2.1, cL hy1 hH.2.2.2.2.1, cL hy1 hH.2.2.2.2.2.1, cL hy1 hH.2.2.2.2.2.2.1, cL hy1 hH.2.2.2.2.2.2.2.1, cL hy1 hH.2.2.2.2.2.2.2.2.1, cL hy1 hH.2.2.2.2.2.2.2.2.2.1, cL hy1 hH.2.2.2.2.2.2.2.2.2.2.1, cL hy1 hH.2.2.2.2.2.2.2.2.2.2.2.1, cL hy1 hH.2.2.2.2.2.2.2.2.2.2.2.2.1, cL hy1 hH.2.2.2.2.2.2.2.2.2.2.2.2.2.1, cL hy1 hH.2.2.2.2.2.2.2.2.2.2.2.2.2.2.1, cL hy1 hH.2.2.2.2.2.2.2.2.2.2.2.2.2.2.2.1, cL hy1 hH.2.2.2.2.2.2.2.2.2.2.2.2.2.2.2.2.1, cL hy1 hH.2.2.2.2.2.2.2.2.2.2.2.2.2.2.2.2.2.1, cL hy1 hH.2.2.2.2.2.2.2.2.2.2.2.2.2.2.2.2.2.2.1, cL hy1 hH.2.2.2.2.2.2.2.2.2.2.2.2.2.2.2.2.2.2.2.1, cL hy1 hH.2.2.2.2.2.2.2.2.2.2.2.2.2.2.2.2.2.2.2.2⟩ (fun hH => ?_)
          clear hK K
          try simp only [Act.put, sI, sZ, sS]
          refine tk 2 32 hH ?_; refine tk 3 33 hH ?_; refine tk 4 34 hH ?_; refine tk 5 35 hH ?_; refine tk 6 36 hH ?_; refine tk 7 37 hH ?_; refine sk 8 38 hH ?_; refine sk 9 39 hH ?_; refine sk 10 40 hH ?_; refine sk 12 42 hH ?_; refine sk 13 43 hH ?_; refine sk 11 41 hH ?_; refine sk 14 44 hH ?_; refine sk 15 45 hH ?_; refine sk 16 46 hH ?_; refine tk 17 47 hH ?_; refine tk 18 48 hH ?_; refine tk 19 49 hH ?_; refine tk 20 50 hH ?_; refine tk 21 51 hH ?_; refine tk 22 52 hH ?_; refine tk 23 53 hH ?_; refine tk 24 54 hH ?_; refine tk 25 55 hH ?_; refine tk 26 56 hH ?_; refine tk 27 57 hH ?_; refine tk 28 58 hH ?_; refine tk 29 59 hH ?_; refine tk 30 60 hH ?_; refine tk 31 61 hH ?_; refine tk 32 62 hH ?_; refine tk 33 63 hH ?_; refine tk 34 64 hH ?_; refine tk 35 65 hH ?_; refine tk 36 66 hH ?_; refine tk 37 67 hH ?_; refine tk 38 68 hH ?_; refine tk 39 69 hH ?_; refine tk 40 70 hH ?_; refine tk 41 71 hH ?_; refine tk 42 72 hH ?_; refine tk 43 73 hH ?_; refine tk 44 74 hH ?_; refine tk 45 75 hH ?_; refine tk 46 76 hH ?_
          refine wpAnyH_ready (rs := [47]) (by kernel_rfl) (by simp) ?_
          refine AllReadyH.cons rfl (fun K hK => ?_) AllReadyH.nil
          go_simp
          refine (KC.out _).mono ?_
          rintro e y2 ⟨rfl, hy2⟩
          have hq2 : Below w.heap.size w y2 := hq1.trans (hy2.mono hq1.size)
          have hz2 : Below W0.heap.size W0 y2 := hz1.trans (hy2.mono hz1.size)
          go_wp2_with fail
          refine hK.out _ _ ⟨cL hy2 hH.1, cL hy2 hH.2.1, cL hy2 hH.2.2.1, cL hy2 hH.2.2.2.1, cL hy2 hH.2.2.2.2.1, cL hy2 hH.2.2.2.2.2.1, cL hy2 hH.2.2.2.2.2.2.1, cL hy2 hH.2.2.2.2.2.2.2.1, cL hy2 hH.2.2.2.2.2.2.2.2.1, cL hy2 hH.2.2.2.2.2.2.2.2.2.1, cL hy2 hH.2.2.2.2.2.2.2.2.2.2.1, cL hy2 hH.2.2.2.2.2.2.2.2.2.2.2.1, cL hy2 hH.2.2.2.2.2.2.2.2.2.2.2.2.1, cL hy2 hH.2.2.2.2.2.2.2.2.2.2.2.2.2.1, cL hy2 hH.2.2.2.2.2.2.2.2.2.2.2.2.2.2.1, cL hy2 hH.2.2.2.2.2.2.2.2.2.2.2.2.2.2.2.1, cL hy2 hH.2.2.2.2.2.2.2.2.2.2.2.2.2.2.2.2.1, cL hy2 hH.2.2.2.2.2.2.2.2.2.2.2.2.2.2.2.2.2.1, cL hy2 hH.2.2.2.2.2.2.2.2.2.2.2.2.2.2.2.2.2.2.1, cL hy2 hH.2.2.2.2.2.2.2.2.2.2.2.2.2.2.2.2.2.2.2.1, cL hy2 hH.2.2.2.2.2.2.2.2.2.2.2.2.2.2.2.2.2.2.2.2⟩ (fun hH => ?_)
          clear hK K
          try simp only [Act.put, sI, sZ, sS]
          refine tk 48 78 hH ?_; refine tk 49 79 hH ?_; refine tk 50 80 hH ?_
          refine wpAnyH_done (by kernel_rfl) ?_ _
          have tm := hH.2.2.2.2.2.2.2.2.2.2.2.2.2.2.2.2.2.1
          go_wp2
          go_roundw
          case rel => exact ⟨k + 1, r - xm, by omega, by go_num, rfl, HW5.out, HY.out, hz2⟩
          case measure => simp [intOf]; omega
     ·have N2 := neq_is (x := xk) (y := 0) true (by simpa using h2)
      by_cases h3 : xk = cv
      ·have N3 := neq_is (x := xk) (y := cv) false (by simpa using h3)
       have HVB : Hid (valB ⟨xk, xn, xs⟩ cv = true) := by show _ = _; unfold valB; dsimp only; rw [HE0.out]; simp [h2, h3]
       clear h3
       by_cases h4 : xm < 1
       ·have HE : Hid (false = R) := HNO.out (by unfold talB; simp; intros; omega)
        have N4 := lss_is (x := xm) (y := 1) true (by simpa using h4)
        go_wp2
        refine beginH (S := (fun w' => w'.cell? ⟨w.heap.size, 0, none⟩ = some (.int .i64 kind) ∧ w'.cell? ⟨w.heap.size, 1, none⟩ = some (.int .i64 mode) ∧ w'.cell? ⟨w.heap.size, 2, none⟩ = some (.int .i64 low) ∧ w'.cell? ⟨w.heap.size, 3, none⟩ = some (.int .i64 high) ∧ w'.cell? ⟨w.heap.size, 4, none⟩ = some (.int .i64 size) ∧ w'.cell? ⟨w.heap.size, 5, none⟩ = some (.int .i64 limit) ∧ w'.cell? ⟨w.heap.size, 6, none⟩ = some (.slice la n6 lc) ∧ w'.cell? ⟨w.heap.size, 7, none⟩ = some (.slice rr n7 rc) ∧ w'.cell? ⟨w.heap.size, 8, none⟩ = some (.slice lk n8 lkc) ∧ w'.cell? ⟨w.heap.size, 9, none⟩ = some (.slice rk n9 rkc) ∧ w'.cell? ⟨w.heap.size, 10, none⟩ = some (.bool grouped) ∧ w'.cell? ⟨w.heap.size, 11, none⟩ = some (.slice pga n11 gc) ∧ w'.cell? ⟨w.heap.size, 12, none⟩ = some (.slice pag n12 ac) ∧ w'.cell? ⟨w.heap.size + 1, 1, none⟩ = some (.int .i64 (cl : Int)) ∧ w'.cell? ⟨wr.heap.size, 0, none⟩ = some (.int .i64 xk) ∧ w'.cell? ⟨wr.heap.size, 1, none⟩ = some (.int .i64 xn) ∧ w'.cell? ⟨wr.heap.size, 2, none⟩ = some (.string xs) ∧ w'.cell? ⟨b3, o3 + k * 4 + 3, none⟩ = some (.int .i64 xm))) 51 rfl (by kernel_rfl) ⟨by go_simp, by go_simp, by go_simp, by go_simp, by go_simp, by go_simp, by go_simp, by go_simp, by go_simp, by go_simp, by go_simp, by go_simp, by go_simp, by go_simp, by go_simp, by go_simp, by go_simp, by go_simp⟩ (fun hH => ?_)
        refine tk 0 30 hH ?_
        refine wpAnyH_ready (rs := [1]) (by kernel_rfl) (by simp) ?_
        refine AllReadyH.cons rfl (fun K hK => ?_) AllReadyH.nil
        go_simp
        refine (KV.out _).mono ?_
        rintro e y1 ⟨rfl, hy1⟩
        have hq1 : Below w.heap.size w y1 := hbX.drew.trans (hy1.mono hbX.drew.size)
        have hz1 : Below W0.heap.size W0 y1 := hzX.drew.trans (hy1.mono hzX.drew.size)
        go_wp2_with fail
        refine hK.out _ _ ⟨cL hy1 hH.1, cL hy1 hH.2.1, cL hy1 hH.2.2.1, cL hy1 hH.2.2.2.1, cL hy1 hH.2.2.2.2.1, cL hy1 hH.2.2.2.2.2.1, cL hy1 hH.2.2.2.2.2.2.1, cL hy1 hH.2.2.2.2.2.2.2.1, cL hy1 hH.2.2.2.2.2.2.2.2.1, cL hy1 hH.2.2.2.2.2.2.2.2.2.1, cL hy1 hH.2.2.2.2.2.2.2.2.2.2.1, cL hy1 hH.2.2.2.2.2.2.2.2.2.2.2.1, cL hy1 hH.2.2.2.2.2.2.2.2.2.2.2.2.1, cL hy1 hH.2.2.2.2.2.2.2.2.2.2.2.2.2.1, cL hy1 hH.2.2.2.2.2.2.2.2.2.2.2.2.2.2.1, cL hy1 hH.2.2.2.2.2.2.2.2.2.2.2.2.2.2.2.1, cL hy1 hH.2.2.2.2.2.2.2.2.2.2.2.2.2.2.2.2.1, cL hy1 hH.2.2.2.2.2.2.2.2.2.2.2.2.2.2.2.2.2⟩ (fun hH => ?_)
        clear hK K
        try simp only [Act.put, sI, sZ, sS]
        refine tk 2 32 hH ?_; refine tk 3 33 hH ?_; refine tk 4 34 hH ?_; refine tk 5 35 hH ?_; refine tk 6 36 hH ?_; refine tk 7 37 hH ?_; refine tk 8 38 hH ?_; refine tk 9 39 hH ?_; refine tk 10 40 hH ?_; refine tk 12 42 hH ?_; refine tk 13 43 hH ?_
        refine wpAnyH_ready (rs := [11]) (by kernel_rfl) (by simp) ?_
        refine AllReadyH.cons rfl (fun K hK => ?_) AllReadyH.nil
        go_simp
        refine (KT.out _ hq1).mono ?_
        rintro e y2 ⟨⟨tad, tcp, rfl, hti⟩, hy2⟩
        have hq2 : Below w.heap.size w y2 := hq1.trans (hy2.mono hq1.size)
        have hz2 : Below W0.heap.size W0 y2 := hz1.trans (hy2.mono hz1.size)
        obtain ⟨tb, to, et, tz⟩ := hti cl HCL.out
        subst et
        rw [HCV.out] at tz
        clear hti
        go_wp2_with fail
        refine hK.out _ _ ⟨cL hy2 hH.1, cL hy2 hH.2.1, cL hy2 hH.2.2.1, cL hy2 hH.2.2.2.1, cL hy2 hH.2.2.2.2.1, cL hy2 hH.2.2.2.2.2.1, cL hy2 hH.2.2.2.2.2.2.1, cL hy2 hH.2.2.2.2.2.2.2.1, cL hy2 hH.2.2.2.2.2.2.2.2.1, cL hy2 hH.2.2.2.2.2.2.2.2.2.1, cL hy2 hH.2.2.2.2.2.2.2.2.2.2.1, cL hy2 hH.2.2.2.2.2.2.2.2.2.2.2.1, cL hy2 hH.2.2.2.2.2.2.2.2.2.2.2.2.1, cL hy2 hH.2.2.2.2.2.2.2.2.2.2.2.2.2.1, cL hy2 hH.2.2.2.2.2.2.2.2.2.2.2.2.2.2.1, cL hy2 hH.2.2.2.2.2.2.2.2.2.2.2.2.2.2.2.1, cL hy2 hH.2.2.2.2.2.2.2.2.2.2.2.2.2.2.2.2.1, cL hy2 hH.2.2.2.2.2.2.2.2.2.2.2.2.2.2.2.2.2⟩ (fun hH => ?_)
        clear hK K
        try simp only [Act.put, sI, sZ, sS]
        refine tk 14 44 hH ?_
        refine wpAnyH_ready (rs := [15]) (by kernel_rfl) (by simp) ?_
        refine AllReadyH.cons rfl (fun K hK => ?_) AllReadyH.nil
        go_simp
        refine hK.out _ _ hH (fun hH => ?_)
        clear hK K
        try simp only [Act.put, sI, sZ, sS]
        refine tk 16 46 hH ?_; refine tk 17 47 hH ?_; refine tk 18 48 hH ?_; refine tk 19 49 hH ?_; refine tk 20 50 hH ?_; refine tk 21 51 hH ?_; refine tk 22 52 hH ?_; refine tk 23 53 hH ?_; refine tk 24 54 hH ?_; refine tk 25 55 hH ?_; refine tk 26 56 hH ?_; refine tk 27 57 hH ?_; refine sk 28 58 hH ?_; refine sk 29 59 hH ?_; refine sk 30 60 hH ?_; refine sk 31 61 hH ?_; refine sk 32 62 hH ?_; refine sk 33 63 hH ?_; refine sk 34 64 hH ?_; refine tk 35 65 hH ?_; refine tk 36 66 hH ?_; refine sk 37 67 hH ?_; refine sk 38 68 hH ?_; refine sk 39 69 hH ?_; refine sk 40 70 hH ?_; refine sk 41 71 hH ?_; refine sk 42 72 hH ?_; refine sk 43 73 hH ?_; refine sk 44 74 hH ?_; refine sk 45 75 hH ?_; refine sk 46 76 hH ?_; refine sk 47 77 hH ?_; refine sk 48 78 hH ?_; refine sk 49 79 hH ?_; refine tk 50 80 hH ?_
        refine wpAnyH_done (by kernel_rfl) ?_ _
        go_wp2
        go_ret
        exact ⟨ret_bool HE.out, hq2⟩
       ·have N4 := lss_is (x := xm) (y := 1) false (by simpa using h4)
        by_cases h5 : xm > r
        ·have HE : Hid (false = R) := HNO.out (by unfold talB; simp; intros; omega)
         have N5 := gtr_is (x := xm) (y := r) true (by simpa using h5)
         go_wp2
         refine beginH (S := (fun w' => w'.cell? ⟨w.heap.size, 0, none⟩ = some (.int .i64 kind) ∧ w'.cell? ⟨w.heap.size, 1, none⟩ = some (.int .i64 mode) ∧ w'.cell? ⟨w.heap.size, 2, none⟩ = some (.int .i64 low) ∧ w'.cell? ⟨w.heap.size, 3, none⟩ = some (.int .i64 high) ∧ w'.cell? ⟨w.heap.size, 4, none⟩ = some (.int .i64 size) ∧ w'.cell? ⟨w.heap.size, 5, none⟩ = some (.int .i64 limit) ∧ w'.cell? ⟨w.heap.size, 6, none⟩ = some (.slice la n6 lc) ∧ w'.cell? ⟨w.heap.size, 7, none⟩ = some (.slice rr n7 rc) ∧ w'.cell? ⟨w.heap.size, 8, none⟩ = some (.slice lk n8 lkc) ∧ w'.cell? ⟨w.heap.size, 9, none⟩ = some (.slice rk n9 rkc) ∧ w'.cell? ⟨w.heap.size, 10, none⟩ = some (.bool grouped) ∧ w'.cell? ⟨w.heap.size, 11, none⟩ = some (.slice pga n11 gc) ∧ w'.cell? ⟨w.heap.size, 12, none⟩ = some (.slice pag n12 ac) ∧ w'.cell? ⟨w.heap.size + 1, 1, none⟩ = some (.int .i64 (cl : Int)) ∧ w'.cell? ⟨wr.heap.size, 0, none⟩ = some (.int .i64 xk) ∧ w'.cell? ⟨wr.heap.size, 1, none⟩ = some (.int .i64 xn) ∧ w'.cell? ⟨wr.heap.size, 2, none⟩ = some (.string xs) ∧ w'.cell? ⟨b3, o3 + k * 4 + 3, none⟩ = some (.int .i64 xm))) 51 rfl (by kernel_rfl) ⟨by go_simp, by go_simp, by go_simp, by go_simp, by go_simp, by go_simp, by go_simp, by go_simp, by go_simp, by go_simp, by go_simp, by go_simp, by go_simp, by go_simp, by go_simp, by go_simp, by go_simp, by go_simp⟩ (fun hH => ?_)
         refine tk 0 30 hH ?_
         refine wpAnyH_ready (rs := [1]) (by kernel_rfl) (by simp) ?_
         refine AllReadyH.cons rfl (fun K hK => ?_) AllReadyH.nil
         go_simp
         refine (KV.out _).mono ?_
         rintro e y1 ⟨rfl, hy1⟩
         have hq1 : Below w.heap.size w y1 := hbX.drew.trans (hy1.mono hbX.drew.size)
         have hz1 : Below W0.heap.size W0 y1 := hzX.drew.trans (hy1.mono hzX.drew.size)
         go_wp2_with fail
         refine hK.out _ _ ⟨cL hy1 hH.1, cL hy1 hH.2.1, cL hy1 hH.2.2.1, cL hy1 hH.2.2.2.1, cL hy1 hH.2.2.2.2.1, cL hy1 hH.2.2.2.2.2.1, cL hy1 hH.2.2.2.2.2.2.1, cL hy1 hH.2.2.2.2.2.2.2.1, cL hy1 hH.2.2.2.2.2.2.2.2.1, cL hy1 hH.2.2.2.2.2.2.2.2.2.1, cL hy1 hH.2.2.2.2.2.2.2.2.2.2.1, cL hy1 hH.2.2.2.2.2.2.2.2.2.2.2.1, cL hy1 hH.2.2.2.2.2.2.2.2.2.2.2.2.1, cL hy1 hH.2.2.2.2.2.2.2.2.2.2.2.2.2.1, cL hy1 hH.2.2.2.2.2.2.2.2.2.2.2.2.2.2.1, cL hy1 hH.2.2.2.2.2.2.2.2.2.2.2.2.2.2.2.1, cL hy1 hH.2.2.2.2.2.2.2.2.2.2.2.2.2.2.2.2.1, cL hy1 hH.2.2.2.2.2.2.2.2.2.2.2.2.2.2.2.2.2⟩ (fun hH => ?_)
         clear hK K
         try simp only [Act.put, sI, sZ, sS]
         refine tk 2 32 hH ?_; refine tk 3 33 hH ?_; refine tk 4 34 hH ?_; refine tk 5 35 hH ?_; refine tk 6 36 hH ?_; refine tk 7 37 hH ?_; refine tk 8 38 hH ?_; refine tk 9 39 hH ?_; refine tk 10 40 hH ?_; refine tk 12 42 hH ?_; refine tk 13 43 hH ?_
         refine wpAnyH_ready (rs := [11]) (by kernel_rfl) (by simp) ?_
         refine AllReadyH.cons rfl (fun K hK => ?_) AllReadyH.nil
         go_simp
         refine (KT.out _ hq1).mono ?_
         rintro e y2 ⟨⟨tad, tcp, rfl, hti⟩, hy2⟩
         have hq2 : Below w.heap.size w y2 := hq1.trans (hy2.mono hq1.size)
         have hz2 : Below W0.heap.size W0 y2 := hz1.trans (hy2.mono hz1.size)
         obtain ⟨tb, to, et, tz⟩ := hti cl HCL.out
         subst et
         rw [HCV.out] at tz
         clear hti
         go_wp2_with fail
         refine hK.out _ _ ⟨cL hy2 hH.1, cL hy2 hH.2.1, cL hy2 hH.2.2.1, cL hy2 hH.2.2.2.1, cL hy2 hH.2.2.2.2.1, cL hy2 hH.2.2.2.2.2.1, cL hy2 hH.2.2.2.2.2.2.1, cL hy2 hH.2.2.2.2.2.2.2.1, cL hy2 hH.2.2.2.2.2.2.2.2.1, cL hy2 hH.2.2.2.2.2.2.2.2.2.1, cL hy2 hH.2.2.2.2.2.2.2.2.2.2.1, cL hy2 hH.2.2.2.2.2.2.2.2.2.2.2.1, cL hy2 hH.2.2.2.2.2.2.2.2.2.2.2.2.1, cL hy2 hH.2.2.2.2.2.2.2.2.2.2.2.2.2.1, cL hy2 hH.2.2.2.2.2.2.2.2.2.2.2.2.2.2.1, cL hy2 hH.2.2.2.2.2.2.2.2.2.2.2.2.2.2.2.1, cL hy2 hH.2.2.2.2.2.2.2.2.2.2.2.2.2.2.2.2.1, cL hy2 hH.2.2.2.2.2.2.2.2.2.2.2.2.2.2.2.2.2⟩ (fun hH => ?_)
         clear hK K
         try simp only [Act.put, sI, sZ, sS]
         refine tk 14 44 hH ?_
         refine wpAnyH_ready (rs := [15]) (by kernel_rfl) (by simp) ?_
         refine AllReadyH.cons rfl (fun K hK => ?_) AllReadyH.nil
         go_simp
         refine hK.out _ _ hH (fun hH => ?_)
         clear hK K
         try simp only [Act.put, sI, sZ, sS]
         refine tk 16 46 hH ?_; refine tk 17 47 hH ?_; refine tk 18 48 hH ?_; refine tk 19 49 hH ?_; refine tk 20 50 hH ?_; refine tk 21 51 hH ?_; refine tk 22 52 hH ?_; refine tk 23 53 hH ?_; refine tk 24 54 hH ?_; refine tk 25 55 hH ?_; refine tk 26 56 hH ?_; refine tk 27 57 hH ?_; refine tk 28 58 hH ?_; refine tk 29 59 hH ?_; refine tk 30 60 hH ?_; refine tk 31 61 hH ?_; refine tk 32 62 hH ?_; refine tk 33 63 hH ?_; refine tk 34 64 hH ?_; refine tk 35 65 hH ?_; refine tk 36 66 hH ?_; refine sk 37 67 hH ?_; refine sk 38 68 hH ?_; refine sk 39 69 hH ?_; refine sk 40 70 hH ?_; refine sk 41 71 hH ?_; refine sk 42 72 hH ?_; refine sk 43 73 hH ?_; refine sk 44 74 hH ?_; refine sk 45 75 hH ?_; refine sk 46 76 hH ?_; refine sk 47 77 hH ?_; refine sk 48 78 hH ?_; refine sk 49 79 hH ?_; refine tk 50 80 hH ?_
         refine wpAnyH_done (by kernel_rfl) ?_ _
         go_wp2
         go_ret
         exact ⟨ret_bool HE.out, hq2⟩
        ·have N5 := gtr_is (x := xm) (y := r) false (by simpa using h5)
         have hw4 : IntKind.i64.wrap (r - xm) = r - xm := by rw [IntKind.wrap_i64]; omega
         have HW5 : Hid (i64 (r - xm)) := ⟨by omega, by omega⟩
         by_cases hk0 : k = 0
         ·have HY : Hid (talsB cv (r - xm) (prevOf l (k + 1)) (l.drop (k + 1)) = R) := HYES.out (by unfold talB; rw [HVB.out, show prevOf l k = none from if_pos hk0]; simp; omega)
          have N6 := gtr_is (x := (k : Int)) (y := 0) false (by simp; omega)
          clear hk0
          go_wp2
          refine beginH (S := (fun w' => w'.cell? ⟨w.heap.size, 0, none⟩ = some (.int .i64 kind) ∧ w'.cell? ⟨w.heap.size, 1, none⟩ = some (.int .i64 mode) ∧ w'.cell? ⟨w.heap.size, 2, none⟩ = some (.int .i64 low) ∧ w'.cell? ⟨w.heap.size, 3, none⟩ = some (.int .i64 high) ∧ w'.cell? ⟨w.heap.size, 4, none⟩ = some (.int .i64 size) ∧ w'.cell? ⟨w.heap.size, 5, none⟩ = some (.int .i64 limit) ∧ w'.cell? ⟨w.heap.size, 6, none⟩ = some (.slice la n6 lc) ∧ w'.cell? ⟨w.heap.size, 7, none⟩ = some (.slice rr n7 rc) ∧ w'.cell? ⟨w.heap.size, 8, none⟩ = some (.slice lk n8 lkc) ∧ w'.cell? ⟨w.heap.size, 9, none⟩ = some (.slice rk n9 rkc) ∧ w'.cell? ⟨w.heap.size, 10, none⟩ = some (.bool grouped) ∧ w'.cell? ⟨w.heap.size, 11, none⟩ = some (.slice pga n11 gc) ∧ w'.cell? ⟨w.heap.size, 12, none⟩ = some (.slice pag n12 ac) ∧ w'.cell? ⟨w.heap.size + 1, 1, none⟩ = some (.int .i64 (cl : Int)) ∧ w'.cell? ⟨wr.heap.size, 0, none⟩ = some (.int .i64 xk) ∧ w'.cell? ⟨wr.heap.size, 1, none⟩ = some (.int .i64 xn) ∧ w'.cell? ⟨wr.heap.size, 2, none⟩ = some (.string xs) ∧ w'.cell? ⟨b3, o3 + k * 4 + 3, none⟩ = some (.int .i64 xm))) 51 rfl (by kernel_rfl) ⟨by go_simp, by go_simp, by go_simp, by go_simp, by go_simp, by go_simp, by go_simp, by go_simp, by go_simp, by go_simp, by go_simp, by go_simp, by go_simp, by go_simp, by go_simp, by go_simp, by go_simp, by go_simp⟩ (fun hH => ?_)
          refine tk 0 30 hH ?_
          refine wpAnyH_ready (rs := [1]) (by kernel_rfl) (by simp) ?_
          refine AllReadyH.cons rfl (fun K hK => ?_) AllReadyH.nil
          go_simp
          refine (KV.out _).mono ?_
          rintro e y1 ⟨rfl, hy1⟩
          have hq1 : Below w.heap.size w y1 := hbX.drew.trans (hy1.mono hbX.drew.size)
          have hz1 : Below W0.heap.size W0 y1 := hzX.drew.trans (hy1.mono hzX.drew.size)
          go_wp2_with fail
          refine hK.out _ _ ⟨cL hy1 hH.1, cL hy1 hH.2.1, cL hy1 hH.2.2.1, cL hy1 hH.2.2.2.1, cL hy1 hH.2.2.2.2.1, cL hy1 hH.2.2.2.2.2.1, cL hy1 hH.2.2.2.2.2.2.1, cL hy1 hH.2.2.2.2.2.2.2.1, cL hy1 hH.2.2.2.2.2.2.2.2.1, cL hy1 hH.2.2.2.2.2.2.2.2.2.1, cL hy1 hH.2.2.2.2.2.2.2.2.2.2.1, cL hy1 hH.2.2.2.2.2.2.2.2.2.2.2.1, cL hy1 hH.2.2.2.2.2.2.2.2.2.2.2.2.1, cL hy1 hH.2.2.2.2.2.2.2.2.2.2.2.2.2.1, cL hy1 hH.2.2.2.2.2.2.2.2.2.2.2.2.2.2.1, cL hy1 hH.2.2.2.2.2.2.2.2.2.2.2.2.2.2.2.1, cL hy1 hH.2.2.2.2.2.2.2.2.2.2.2.2.2.2.2.2.1, cL hy1 hH.2.2.2.2.2.2.2.2.2.2.2.2.2.2.2.2.2⟩ (fun hH => ?_)
          clear hK K
          try simp only [Act.put, sI, sZ, sS]
          refine tk 2 32 hH ?_; refine tk 3 33 hH ?_; refine tk 4 34 hH ?_; refine tk 5 35 hH ?_; refine tk 6 36 hH ?_; refine tk 7 37 hH ?_; refine tk 8 38 hH ?_; refine tk 9 39 hH ?_; refine tk 10 40 hH ?_; refine tk 12 42 hH ?_; refine tk 13 43 hH ?_
          refine wpAnyH_ready (rs := [11]) (by kernel_rfl) (by simp) ?_
          refine AllReadyH.cons rfl (fun K hK => ?_) AllReadyH.nil
          go_simp
          refine (KT.out _ hq1).mono ?_
          rintro e y2 ⟨⟨tad, tcp, rfl, hti⟩, hy2⟩
          have hq2 : Below w.heap.size w y2 := hq1.trans (hy2.mono hq1.size)
          have hz2 : Below W0.heap.size W0 y2 := hz1.trans (hy2.mono hz1.size)
          obtain ⟨tb, to, et, tz⟩ := hti cl HCL.out
          subst et
          rw [HCV.out] at tz
          clear hti
          go_wp2_with fail
          refine hK.out _ _ ⟨cL hy2 hH.1, cL hy2 hH.2.1, cL hy2 hH.2.2.1, cL hy2 hH.2.2.2.1, cL hy2 hH.2.2.2.2.1, cL hy2 hH.2.2.2.2.2.1, cL hy2 hH.2.2.2.2.2.2.1, cL hy2 hH.2.2.2.2.2.2.2.1, cL hy2 hH.2.2.2.2.2.2.2.2.1, cL hy2 hH.2.2.2.2.2.2.2.2.2.1, cL hy2 hH.2.2.2.2.2.2.2.2.2.2.1, cL hy2 hH.2.2.2.2.2.2.2.2.2.2.2.1, cL hy2 hH.2.2.2.2.2.2.2.2.2.2.2.2.1, cL hy2 hH.2.2.2.2.2.2.2.2.2.2.2.2.2.1, cL hy2 hH.2.2.2.2.2.2.2.2.2.2.2.2.2.2.1, cL hy2 hH.2.2.2.2.2.2.2.2.2.2.2.2.2.2.2.1, cL hy2 hH.2.2.2.2.2.2.2.2.2.2.2.2.2.2.2.2.1, cL hy2 hH.2.2.2.2.2.2.2.2.2.2.2.2.2.2.2.2.2⟩ (fun hH => ?_)
          clear hK K
          try simp only [Act.put, sI, sZ, sS]
          refine tk 14 44 hH ?_
          refine wpAnyH_ready (rs := [15]) (by kernel_rfl) (by simp) ?_
          refine AllReadyH.cons rfl (fun K hK => ?_) AllReadyH.nil
          go_simp
          refine hK.out _ _ hH (fun hH => ?_)
          clear hK K
          try simp only [Act.put, sI, sZ, sS]
          refine tk 16 46 hH ?_; refine tk 17 47 hH ?_; refine tk 18 48 hH ?_; refine tk 19 49 hH ?_; refine tk 20 50 hH ?_; refine tk 21 51 hH ?_; refine tk 22 52 hH ?_; refine tk 23 53 hH ?_; refine tk 24 54 hH ?_; refine tk 25 55 hH ?_; refine tk 26 56 hH ?_; refine tk 27 57 hH ?_; refine tk 28 58 hH ?_; refine tk 29 59 hH ?_; refine tk 30 60 hH ?_; refine tk 31 61 hH ?_; refine tk 32 62 hH ?_; refine tk 33 63 hH ?_; refine tk 34 64 hH ?_; refine tk 35 65 hH ?_; refine tk 36 66 hH ?_; refine tk 37 67 hH ?_; refine tk 38 68 hH ?_; refine tk 39 69 hH ?_; refine sk 40 70 hH ?_; refine sk 41 71 hH ?_; refine sk 42 72 hH ?_; refine sk 43 73 hH ?_; refine sk 44 74 hH ?_; refine sk 45 75 hH ?_; refine sk 46 76 hH ?_; refine sk 47 77 hH ?_; refine sk 48 78 hH ?_; refine tk 49 79 hH ?_; refine tk 50 80 hH ?_
          refine wpAnyH_done (by kernel_rfl) ?_ _
          have tm := hH.2.2.2.2.2.2.2.2.2.2.2.2.2.2.2.2.2
          go_wp2
          go_roundw
          case rel => exact ⟨k + 1, r - xm, by omega, by go_num, rfl, HW5.out, HY.out, hz2⟩
          case measure => simp [intOf]; omega
         ·obtain ⟨j, hj⟩ : ∃ j, k = j + 1 := ⟨k - 1, by omega⟩
          obtain ⟨b4, o4, e4, z1, z2, z3⟩ := HPV.out j hj
          injection e4 with e4
          injection e4 with e5 e6
          subst e5 e6
          have N6 := gtr_is (x := (k : Int)) (y := 0) true (by simp; omega)
          have i7 : IntKind.i64.wrap ((k : Int) - 1) = (j : Int) := by rw [IntKind.wrap_i64]; omega
          have i8 : (0 : Int) ≤ (j : Int) := by omega
          have i9 : (j : Int) < (ln : Int) := by omega
          have HPJ : Hid (prevOf l k = some (l.getD j default).1) := by show _ = _; rw [hj]; rfl
          obtain ⟨⟨qk, qn, qs⟩, hq0⟩ : ∃ z, (l.getD j default).1 = z := ⟨_, rfl⟩
          rw [hq0] at z1 z2 z3 HPJ
          dsimp only at z1 z2 z3
          have KC : Hid (∀ w1, Calls Tryz.prog 63 #[.agg #[.int .i64 qk, .int .i64 qn, .string qs], .agg #[.int .i64 xk, .int .i64 xn, .string xs]] w1 fun e w' => e = .returned (.int .i64 (cmpC ⟨qk, qn, qs⟩ ⟨xk, xn, xs⟩)) ∧ Below w1.heap.size w1 w') := fun w1 => vl.rcompare_any qk qn qs xk xn xs w1
          obtain ⟨CV, hCV⟩ : ∃ z, cmpC ⟨qk, qn, qs⟩ ⟨xk, xn, xs⟩ = z := ⟨_, rfl⟩
          have HCC : Hid (cmpC ⟨qk, qn, qs⟩ ⟨xk, xn, xs⟩ = CV) := hCV
          rw [hCV] at KC
          clear hCV hq0 hj hk0 HPV
          by_cases h6 : CV ≥ 0
          ·have HE : Hid (false = R) := HNO.out (by unfold talB; rw [HPJ.out]; simp [HCC.out]; intros; omega)
           have N7 := geq_is (x := CV) (y := 0) true (by simpa using h6)
           go_wp2
           refine beginH (S := (fun w' => w'.cell? ⟨w.heap.size, 0, none⟩ = some (.int .i64 kind) ∧ w'.cell? ⟨w.heap.size, 1, none⟩ = some (.int .i64 mode) ∧ w'.cell? ⟨w.heap.size, 2, none⟩ = some (.int .i64 low) ∧ w'.cell? ⟨w.heap.size, 3, none⟩ = some (.int .i64 high) ∧ w'.cell? ⟨w.heap.size, 4, none⟩ = some (.int .i64 size) ∧ w'.cell? ⟨w.heap.size, 5, none⟩ = some (.int .i64 limit) ∧ w'.cell? ⟨w.heap.size, 6, none⟩ = some (.slice la n6 lc) ∧ w'.cell? ⟨w.heap.size, 7, none⟩ = some (.slice rr n7 rc) ∧ w'.cell? ⟨w.heap.size, 8, none⟩ = some (.slice lk n8 lkc) ∧ w'.cell? ⟨w.heap.size, 9, none⟩ = some (.slice rk n9 rkc) ∧ w'.cell? ⟨w.heap.size, 10, none⟩ = some (.bool grouped) ∧ w'.cell? ⟨w.heap.size, 11, none⟩ = some (.slice pga n11 gc) ∧ w'.cell? ⟨w.heap.size, 12, none⟩ = some (.slice pag n12 ac) ∧ w'.cell? ⟨w.heap.size + 1, 1, none⟩ = some (.int .i64 (cl : Int)) ∧ w'.cell? ⟨wr.heap.size, 0, none⟩ = some (.int .i64 xk) ∧ w'.cell? ⟨wr.heap.size, 1, none⟩ = some (.int .i64 xn) ∧ w'.cell? ⟨wr.heap.size, 2, none⟩ = some (.string xs) ∧ w'.cell? ⟨b3, o3 + k * 4 + 3, none⟩ = some (.int .i64 xm) ∧ w'.cell? ⟨b3, o3 + j * 4, none⟩ = some (.int .i64 qk) ∧ w'.cell? ⟨b3, o3 + j * 4 + 1, none⟩ = some (.int .i64 qn) ∧ w'.cell? ⟨b3, o3 + j * 4 + 2, none⟩ = some (.string qs))) 51 rfl (by kernel_rfl) ⟨by go_simp, by go_simp, by go_simp, by go_simp, by go_simp, by go_simp, by go_simp, by go_simp, by go_simp, by go_simp, by go_simp, by go_simp, by go_simp, by go_simp, by go_simp, by go_simp, by go_simp, by go_simp, by go_simp, by go_simp, by go_simp⟩ (fun hH => ?_)
           refine tk 0 30 hH ?_
           refine wpAnyH_ready (rs := [1]) (by kernel_rfl) (by simp) ?_
           refine AllReadyH.cons rfl (fun K hK => ?_) AllReadyH.nil
           go_simp
           refine (KV.out _).mono ?_
           rintro e y1 ⟨rfl, hy1⟩
           have hq1 : Below w.heap.size w y1 := hbX.drew.trans (hy1.mono hbX.drew.size)
           have hz1 : Below W0.heap.size W0 y1 := hzX.drew.trans (hy1.mono hzX.drew.size)
           go_wp2_with fail
           refine hK.out _ _ ⟨cL hy1 hH.1, cL hy1 hH.2.1, cL hy1 hH.2.2.1, cL hy1 hH.2.2.2.1, cL hy1 hH.2.2.2.2.1, cL hy1 hH.2.2.2.2.2.1, cL hy1 hH.2.2.2.2.2.2.1, cL hy1 hH.2.2.2.2.2.2.2.1, cL hy1 hH.2.2.2.2.2.2.2.2.1, cL hy1 hH.2.2.2.2.2.2.2.2.2.1, cL hy1 hH.2.2.2.2.2.2.2.2.2.2.1, cL hy1 hH.2.2.2.2.2.2.2.2.2.2.2.1, cL hy1 hH.2.2.2.2.2.2.2.2.2.2.2.2.1, cL hy1 hH.2.2.2.2.2.2.2.2.2.2.2.2.2.1, cL hy1 hH.2.2.2.2.2.2.2.2.2.2.2.2.2.2.1, cL hy1 hH.2.2.2.2.2.2.2.2.2.2.2.2.2.2.2.1, cL hy1 hH.2.2.2.2.2.2.2.2.2.2.2.2.2.2.2.2.1, cL hy1 hH.2.2.2.2.2.2.2.2.2.2.2.2.2.2.2.2.2.1, cL hy1 hH.2.2.2.2.2.2.2.2.2.2.2.2.2.2.2.2.2.2.1, cL hy1 hH.2.2.2.2.2.2.2.2.2.2.2.2.2.2.2.2.2.2.2.1, cL hy1 hH.2.2.2.2.2.2.2.2.2.2.2.2.2.2.2.2.2.2.2.2⟩ (fun hH => ?_)
           clear hK K
           try simp only [Act.put, sI, sZ, sS]
           refine tk 2 32 hH ?_; refine tk 3 33 hH ?_; refine tk 4 34 hH ?_; refine tk 5 35 hH ?_; refine tk 6 36 hH ?_; refine tk 7 37 hH ?_; refine tk 8 38 hH ?_; refine tk 9 39 hH ?_; refine tk 10 40 hH ?_; refine tk 12 42 hH ?_; refine tk 13 43 hH ?_
           refine wpAnyH_ready (rs := [11]) (by kernel_rfl) (by simp) ?_
           refine AllReadyH.cons rfl (fun K hK => ?_) AllReadyH.nil
           go_simp
           refine (KT.out _ hq1).mono ?_
           rintro e y2 ⟨⟨tad, tcp, rfl, hti⟩, hy2⟩
           have hq2 : Below w.heap.size w y2 := hq1.trans (hy2.mono hq1.size)
           have hz2 : Below W0.heap.size W0 y2 := hz1.trans (hy2.mono hz1.size)
           obtain ⟨tb, to, et, tz⟩ := hti cl HCL.out
           subst et
           rw [HCV.out] at tz
           clear hti
           go_wp2_with fail
           refine hK.out _ _ ⟨cL hy2 hH.1, cL hy2 hH.2.1, cL hy2 hH.2.2.1, cL hy2 hH.2.2.2.1, cL hy2 hH.2.2.2.2.1, cL hy2 hH.2.2.2.2.2.1, cL hy2 hH.2.2.2.2.2.2.1, cL hy2 hH.2.2.2.2.2.2.2.1, cL hy2 hH.2.2.2.2.2.2.2.2.1, cL hy2 hH.2.2.2.2.2.2.2.2.2.1, cL hy2 hH.2.2.2.2.2.2.2.2.2.2.1, cL hy2 hH.2.2.2.2.2.2.2.2.2.2.2.1, cL hy2 hH.2.2.2.2.2.2.2.2.2.2.2.2.1, cL hy2 hH.2.2.2.2.2.2.2.2.2.2.2.2.2.1, cL hy2 hH.2.2.2.2.2.2.2.2.2.2.2.2.2.2.1, cL hy2 hH.2.2.2.2.2.2.2.2.2.2.2.2.2.2.2.1, cL hy2 hH.2.2.2.2.2.2.2.2.2.2.2.2.2.2.2.2.1, cL hy2 hH.2.2.2.2.2.2.2.2.2.2.2.2.2.2.2.2.2.1, cL hy2 hH.2.2.2.2.2.2.2.2.2.2.2.2.2.2.2.2.2.2.1, cL hy2 hH.2.2.2.2.2.2.2.2.2.2.2.2.2.2.2.2.2.2.2.1, cL hy2 hH.2.2.2.2.2.2.2.2.2.2.2.2.2.2.2.2.2.2.2.2⟩ (fun hH => ?_)
           clear hK K
           try simp only [Act.put, sI, sZ, sS]
           refine tk 14 44 hH ?_
           refine wpAnyH_ready (rs := [15]) (by kernel_rfl) (by simp) ?_
           refine AllReadyH.cons rfl (fun K hK => ?_) AllReadyH.nil
           go_simp
           refine hK.out _ _ hH (fun hH => ?_)
           clear hK K
           try simp only [Act.put, sI, sZ, sS]
           refine tk 16 46 hH ?_; refine tk 17 47 hH ?_; refine tk 18 48 hH ?_; refine tk 19 49 hH ?_; refine tk 20 50 hH ?_; refine tk 21 51 hH ?_; refine tk 22 52 hH ?_; refine tk 23 53 hH ?_; refine tk 24 54 hH ?_; refine tk 25 55 hH ?_; refine tk 26 56 hH ?_; refine tk 27 57 hH ?_; refine tk 28 58 hH ?_; refine tk 29 59 hH ?_; refine tk 30 60 hH ?_; refine tk 31 61 hH ?_; refine tk 32 62 hH ?_; refine tk 33 63 hH ?_; refine tk 34 64 hH ?_; refine tk 35 65 hH ?_; refine tk 36 66 hH ?_; refine tk 37 67 hH ?_; refine tk 38 68 hH ?_; refine tk 39 69 hH ?_; refine tk 40 70 hH ?_; refine tk 41 71 hH ?_; refine tk 42 72 hH ?_; refine tk 43 73 hH ?_; refine tk 44 74 hH ?_; refine tk 45 75 hH ?_; refine tk 46 76 hH ?_
           refine wpAnyH_ready (rs := [47]) (by kernel_rfl) (by simp) ?_
           refine AllReadyH.cons rfl (fun K hK => ?_) AllReadyH.nil
           go_simp
           refine (KC.out _).mono ?_
           rintro e y3 ⟨rfl, hy3⟩
           have hq3 : Below w.heap.size w y3 := hq2.trans (hy3.mono hq2.size)
           have hz3 : Below W0.heap.size W0 y3 := hz2.trans (hy3.mono hz2.size)
           go_wp2_with fail
           refine hK.out _ _ ⟨cL hy3 hH.1, cL hy3 hH.2.1, cL hy3 hH.2.2.1, cL hy3 hH.2.2.2.1, cL hy3 hH.2.2.2.2.1, cL hy3 hH.2.2.2.2.2.1, cL hy3 hH.2.2.2.2.2.2.1, cL hy3 hH.2.2.2.2.2.2.2.1, cL hy3 hH.2.2.2.2.2.2.2.2.1, cL hy3 hH.2.2.2.2.2.2.2.2.2.1, cL hy3 hH.2.2.2.2.2.2.2.2.2.2.1, cL hy3 hH.2.2.2.2.2.2.2.2.2.2.2.1, cL hy3 hH.2.2.2.2.2.2.2.2.2.2.2.2.1, cL hy3 hH.2.2.2.2.2.2.2.2.2.2.2.2.2.1, cL hy3 hH.2.2.2.2.2.2.2.2.2.2.2.2.2.2.1, cL hy3 hH.2.2.2.2.2.2.2.2.2.2.2.2.2.2.2.1, cL hy3 hH.2.2.2.2.2.2.2.2.2.2.2.2.2.2.2.2.1, cL hy3 hH.2.2.2.2.2.2.2.2.2.2.2.2.2.2.2.2.2.1, cL hy3 hH.2.2.2.2.2.2.2.2.2.2.2.2.2.2.2.2.2.2.1, cL hy3 hH.2.2.2.2.2.2.2.2.2.2.2.2.2.2.2.2.2.2.2.1, cL hy3 hH.2.2.2.2.2.2.2.2.2.2.2.2.2.2.2.2.2.2.2.2⟩ (fun hH => ?_)
           clear hK K
           try simp only [Act.put, sI, sZ, sS]
           refine tk 48 78 hH ?_; refine tk 49 79 hH ?_; refine tk 50 80 hH ?_
           refine wpAnyH_done (by kernel_rfl) ?_ _
           go_wp2
           go_ret
           exact ⟨ret_bool HE.out, hq3⟩
          ·have HY : Hid (talsB cv (r - xm) (prevOf l (k + 1)) (l.drop (k + 1)) = R) := HYES.out (by unfold talB; rw [HVB.out, HPJ.out]; simp [HCC.out]; omega)
           have N7 := geq_is (x := CV) (y := 0) false (by simpa using h6)
           go_wp2
           refine beginH (S := (fun w' => w'.cell? ⟨w.heap.size, 0, none⟩ = some (.int .i64 kind) ∧ w'.cell? ⟨w.heap.size, 1, none⟩ = some (.int .i64 mode) ∧ w'.cell? ⟨w.heap.size, 2, none⟩ = some (.int .i64 low) ∧ w'.cell? ⟨w.heap.size, 3, none⟩ = some (.int .i64 high) ∧ w'.cell? ⟨w.heap.size, 4, none⟩ = some (.int .i64 size) ∧ w'.cell? ⟨w.heap.size, 5, none⟩ = some (.int .i64 limit) ∧ w'.cell? ⟨w.heap.size, 6, none⟩ = some (.slice la n6 lc) ∧ w'.cell? ⟨w.heap.size, 7, none⟩ = some (.slice rr n7 rc) ∧ w'.cell? ⟨w.heap.size, 8, none⟩ = some (.slice lk n8 lkc) ∧ w'.cell? ⟨w.heap.size, 9, none⟩ = some (.slice rk n9 rkc) ∧ w'.cell? ⟨w.heap.size, 10, none⟩ = some (.bool grouped) ∧ w'.cell? ⟨w.heap.size, 11, none⟩ = some (.slice pga n11 gc) ∧ w'.cell? ⟨w.heap.size, 12, none⟩ = some (.slice pag n12 ac) ∧ w'.cell? ⟨w.heap.size + 1, 1, none⟩ = some (.int .i64 (cl : Int)) ∧ w'.cell? ⟨wr.heap.size, 0, none⟩ = some (.int .i64 xk) ∧ w'.cell? ⟨wr.heap.size, 1, none⟩ = some (.int .i64 xn) ∧ w'.cell? ⟨wr.heap.size, 2, none⟩ = some (.string xs) ∧ w'.cell? ⟨b3, o3 + k * 4 + 3, none⟩ = some (.int .i64 xm) ∧ w'.cell? ⟨b3, o3 + j * 4, none⟩ = some (.int .i64 qk) ∧ w'.cell? ⟨b3, o3 + j * 4 + 1, none⟩ = some (.int .i64 qn) ∧ w'.cell? ⟨b3, o3 + j * 4 + 2, none⟩ = some (.string qs))) 51 rfl (by kernel_rfl) ⟨by go_simp, by go_simp, by go_simp, by go_simp, by go_simp, by go_simp, by go_simp, by go_simp, by go_simp, by go_simp, by go_simp, by go_simp, by go_simp, by go_simp, by go_simp, by go_simp, by go_simp, by go_simp, by go_simp, by go_simp, by go_simp⟩ (fun hH => ?_)
           refine tk 0 30 hH ?_
           refine wpAnyH_ready (rs := [1]) (by kernel_rfl) (by simp) ?_
           refine AllReadyH.cons rfl (fun K hK => ?_) AllReadyH.nil
           go_simp
           refine (KV.out _).mono ?_
           rintro e y1 ⟨rfl, hy1⟩
           have hq1 : Below w.heap.size w y1 := hbX.drew.trans (hy1.mono hbX.drew.size)
           have hz1 : Below W0.heap.size W0 y1 := hzX.drew.trans (hy1.mono hzX.drew.size)
           go_wp2_with fail
           refine hK.out _ _ ⟨cL hy1 hH.1, cL hy1 hH.2.1, cL hy1 hH.2.2.1, cL hy1 hH.2.2.2.1, cL hy1 hH.2.2.2.2.1, cL hy1 hH.2.2.2.2.2.1, cL hy1 hH.2.2.2.2.2.2.1, cL hy1 hH.2.2.2.2.2.2.2.1, cL hy1 hH.2.2.2.2.2.2.2.2.1, cL hy1 hH.2.2.2.2.2.2.2.2.2.1, cL hy1 hH.2.2.2.2.2.2.2.2.2.2.1, cL hy1 hH.2.2.2.2.2.2.2.2.2.2.2.1, cL hy1 hH.2.2.2.2.2.2.2.2.2.2.2.2.1, cL hy1 hH.2.2.2.2.2.2.2.2.2.2.2.2.2.1, cL hy1 hH.2.2.2.2.2.2.2.2.2.2.2.2.2.2.1, cL hy1 hH.2.2.2.2.2.2.2.2.2.2.2.2.2.2.2.1, cL hy1 hH.2.2.2.2.2.2.2.2.2.2.2.2.2.2.2.2.1, cL hy1 hH.2.2.2.2.2.2.2.2.2.2.2.2.2.2.2.2.2.1, cL hy1 hH.2.2.2.2.2.2.2.2.2.2.2.2.2.2.2.2.2.2.1, cL hy1 hH.2.2.2.2.2.2.2.2.2.2.2.2.2.2.2.2.2.2.2.1, cL hy1 hH.2.2.2.2.2.2.2.2.2.2.2.2.2.2.2.2.2.2.2.2⟩ (fun hH => ?_)
           clear hK K
           try simp only [Act.put, sI, sZ, sS]
           refine tk 2 32 hH ?_; refine tk 3 33 hH ?_; refine tk 4 34 hH ?_; refine tk 5 35 hH ?_; refine tk 6 36 hH ?_; refine tk 7 37 hH ?_; refine tk 8 38 hH ?_; refine tk 9 39 hH ?_; refine tk 10 40 hH ?_; refine tk 12 42 hH ?_; refine tk 13 43 hH ?_
           refine wpAnyH_ready (rs := [11]) (by kernel_rfl) (by simp) ?_
           refine AllReadyH.cons rfl (fun K hK => ?_) AllReadyH.nil
           go_simp
           refine (KT.out _ hq1).mono ?_
           rintro e y2 ⟨⟨tad, tcp, rfl, hti⟩, hy2⟩
           have hq2 : Below w.heap.size w y2 := hq1.trans (hy2.mono hq1.size)
           have hz2 : Below W0.heap.size W0 y2 := hz1.trans (hy2.mono hz1.size)
           obtain ⟨tb, to, et, tz⟩ := hti cl HCL.out
           subst et
           rw [HCV.out] at tz
           clear hti
           go_wp2_with fail
           refine hK.out _ _ ⟨cL hy2 hH.1, cL hy2 hH.2.1, cL hy2 hH.2.2.1, cL hy2 hH.2.2.2.1, cL hy2 hH.2.2.2.2.1, cL hy2 hH.2.2.2.2.2.1, cL hy2 hH.2.2.2.2.2.2.1, cL hy2 hH.2.2.2.2.2.2.2.1, cL hy2 hH.2.2.2.2.2.2.2.2.1, cL hy2 hH.2.2.2.2.2.2.2.2.2.1, cL hy2 hH.2.2.2.2.2.2.2.2.2.2.1, cL hy2 hH.2.2.2.2.2.2.2.2.2.2.2.1, cL hy2 hH.2.2.2.2.2.2.2.2.2.2.2.2.1, cL hy2 hH.2.2.2.2.2.2.2.2.2.2.2.2.2.1, cL hy2 hH.2.2.2.2.2.2.2.2.2.2.2.2.2.2.1, cL hy2 hH.2.2.2.2.2.2.2.2.2.2.2.2.2.2.2.1, cL hy2 hH.2.2.2.2.2.2.2.2.2.2.2.2.2.2.2.2.1, cL hy2 hH.2.2.2.2.2.2.2.2.2.2.2.2.2.2.2.2.2.1, cL hy2 hH.2.2.2.2.2.2.2.2.2.2.2.2.2.2.2.2.2.2.1, cL hy2 hH.2.2.2.2.2.2.2.2.2.2.2.2.2.2.2.2.2.2.2.1, cL hy2 hH.2.2.2.2.2.2.2.2.2.2.2.2.2.2.2.2.2.2.2.2⟩ (fun hH => ?_)
           clear hK K
           try simp only [Act.put, sI, sZ, sS]
           refine tk 14 44 hH ?_
           refine wpAnyH_ready (rs := [15]) (by kernel_rfl) (by simp) ?_
           refine AllReadyH.cons rfl (fun K hK => ?_) AllReadyH.nil
           go_simp
           refine hK.out _ _ hH (fun hH => ?_)
           clear hK K
           try simp only [Act.put, sI, sZ, sS]
           refine tk 16 46 hH ?_; refine tk 17 47 hH ?_; refine tk 18 48 hH ?_; refine tk 19 49 hH ?_; refine tk 20 50 hH ?_; refine tk 21 51 hH ?_; refine tk 22 52 hH ?_; refine tk 23 53 hH ?_; refine tk 24 54 hH ?_; refine tk 25 55 hH ?_; refine tk 26 56 hH ?_; refine tk 27 57 hH ?_; refine tk 28 58 hH ?_; refine tk 29 59 hH ?_; refine tk 30 60 hH ?_; refine tk 31 61 hH ?_; refine tk 32 62 hH ?_; refine tk 33 63 hH ?_; refine tk 34 64 hH ?_; refine tk 35 65 hH ?_; refine tk 36 66 hH ?_; refine tk 37 67 hH ?_; refine tk 38 68 hH ?_; refine tk 39 69 hH ?_; refine tk 40 70 hH ?_; refine tk 41 71 hH ?_; refine tk 42 72 hH ?_; refine tk 43 73 hH ?_; refine tk 44 74 hH ?_; refine tk 45 75 hH ?_; refine tk 46 76 hH ?_
           refine wpAnyH_ready (rs := [47]) (by kernel_rfl) (by simp) ?_
           refine AllReadyH.cons rfl (fun K hK => ?_) AllReadyH.nil
           go_simp
           refine (KC.out _).mono ?_
           rintro e y3 ⟨rfl, hy3⟩
           have hq3 : Below w.heap.size w y3 := hq2.trans (hy3.mono hq2.size)
           have hz3 : Below W0.heap.size W0 y3 := hz2.trans (hy3.mono hz2.size)
           go_wp2_with fail
           refine hK.out _ _ ⟨cL hy3 hH.1, cL hy3 hH.2.1, cL hy3 hH.2.2.1, cL hy3 hH.2.2.2.1, cL hy3 hH.2.2.2.2.1, cL hy3 hH.2.2.2.2.2.1, cL hy3 hH.2.2.2.2.2.2.1, cL hy3 hH.2.2.2.2.2.2.2.1, cL hy3 hH.2.2.2.2.2.2.2.2.1, cL hy3 hH.2.2.2.2.2.2.2.2.2.1, cL hy3 hH.2.2.2.2.2.2.2.2.2.2.1, cL hy3 hH.2.2.2.2.2.2.2.2.2.2.2.1, cL hy3 hH.2.2.2.2.2.2.2.2.2.2.2.2.1, cL hy3 hH.2.2.2.2.2.2.2.2.2.2.2.2.2.1, cL hy3 hH.2.2.2.2.2.2.2.2.2.2.2.2.2.2.1, cL hy3 hH.2.2.2.2.2.2.2.2.2.2.2.2.2.2.2.1, cL hy3 hH.2.2.2.2.2.2.2.2.2.2.2.2.2.2.2.2.1, cL hy3 hH.2.2.2.2.2.2.2.2.2.2.2.2.2.2.2.2.2.1, cL hy3 hH.2.2.2.2.2.2.2.2.2.2.2.2.2.2.2.2.2.2.1, cL hy3 hH.2.2.2.2.2.2.2.2.2.2.2.2.2.2.2.2.2.2.2.1, cL hy3 hH.2.2.2.2.2.2.2.2.2.2.2.2.2.2.2.2.2.2.2.2⟩ (fun hH => ?_)
           clear hK K
           try simp only [Act.put, sI, sZ, sS]
           refine tk 48 78 hH ?_; refine tk 49 79 hH ?_; refine tk 50 80 hH ?_
           refine wpAnyH_done (by kernel_rfl) ?_ _
           have tm := hH.2.2.2.2.2.2.2.2.2.2.2.2.2.2.2.2.2.1
           go_wp2
           go_roundw
           case rel => exact ⟨k + 1, r - xm, by omega, by go_num, rfl, HW5.out, HY.out, hz3⟩
           case measure => simp [intOf]; omega
      ·have N3 := neq_is (x := xk) (y := cv) true (by simpa using h3)
       have HE : Hid (false = R) := HNO.out (by unfold talB valB; simp [h2, h3])
       go_wp2
       refine beginH (S := (fun w' => w'.cell? ⟨w.heap.size, 0, none⟩ = some (.int .i64 kind) ∧ w'.cell? ⟨w.heap.size, 1, none⟩ = some (.int .i64 mode) ∧ w'.cell? ⟨w.heap.size, 2, none⟩ = some (.int .i64 low) ∧ w'.cell? ⟨w.heap.size, 3, none⟩ = some (.int .i64 high) ∧ w'.cell? ⟨w.heap.size, 4, none⟩ = some (.int .i64 size) ∧ w'.cell? ⟨w.heap.size, 5, none⟩ = some (.int .i64 limit) ∧ w'.cell? ⟨w.heap.size, 6, none⟩ = some (.slice la n6 lc) ∧ w'.cell? ⟨w.heap.size, 7, none⟩ = some (.slice rr n7 rc) ∧ w'.cell? ⟨w.heap.size, 8, none⟩ = some (.slice lk n8 lkc) ∧ w'.cell? ⟨w.heap.size, 9, none⟩ = some (.slice rk n9 rkc) ∧ w'.cell? ⟨w.heap.size, 10, none⟩ = some (.bool grouped) ∧ w'.cell? ⟨w.heap.size, 11, none⟩ = some (.slice pga n11 gc) ∧ w'.cell? ⟨w.heap.size, 12, none⟩ = some (.slice pag n12 ac) ∧ w'.cell? ⟨w.heap.size + 1, 1, none⟩ = some (.int .i64 (cl : Int)) ∧ w'.cell? ⟨wr.heap.size, 0, none⟩ = some (.int .i64 xk) ∧ w'.cell? ⟨wr.heap.size, 1, none⟩ = some (.int .i64 xn) ∧ w'.cell? ⟨wr.heap.size, 2, none⟩ = some (.string xs) ∧ w'.cell? ⟨b3, o3 + k * 4 + 3, none⟩ = some (.int .i64 xm))) 51 rfl (by kernel_rfl) ⟨by go_simp, by go_simp, by go_simp, by go_simp, by go_simp, by go_simp, by go_simp, by go_simp, by go_simp, by go_simp, by go_simp, by go_simp, by go_simp, by go_simp, by go_simp, by go_simp, by go_simp, by go_simp⟩ (fun hH => ?_)
       refine tk 0 30 hH ?_
       refine wpAnyH_ready (rs := [1]) (by kernel_rfl) (by simp) ?_
       refine AllReadyH.cons rfl (fun K hK => ?_) AllReadyH.nil
       go_simp
       refine (KV.out _).mono ?_
       rintro e y1 ⟨rfl, hy1⟩
       have hq1 : Below w.heap.size w y1 := hbX.drew.trans (hy1.mono hbX.drew.size)
       have hz1 : Below W0.heap.size W0 y1 := hzX.drew.trans (hy1.mono hzX.drew.size)
       go_wp2_with fail
       refine hK.out _ _ ⟨cL hy1 hH.1, cL hy1 hH.2.1, cL hy1 hH.2.2.1, cL hy1 hH.2.2.2.1, cL hy1 hH.2.2.2.2.1, cL hy1 hH.2.2.2.2.2.1, cL hy1 hH.2.2.2.2.2.2.1, cL hy1 hH.2.2.2.2.2.2.2.1, cL hy1 hH.2.2.2.2.2.2.2.2.1, cL hy1 hH.2.2.2.2.2.2.2.2.2.1, cL hy1 hH.2.2.2.2.2.2.2.2.2.2.1, cL hy1 hH.2.2.2.2.2.2.2.2.2.2.2.1, cL hy1 hH.2.2.2.2.2.2.2.2.2.2.2.2.1, cL hy1 hH.2.2.2.2.2.2.2.2.2.2.2.2.2.1, cL hy1 hH.2.2.2.2.2.2.2.2.2.2.2.2.2.2.1, cL hy1 hH.2.2.2.2.2.2.2.2.2.2.2.2.2.2.2.1, cL hy1 hH.2.2.2.2.2.2.2.2.2.2.2.2.2.2.2.2.1, cL hy1 hH.2.2.2.2.2.2.2.2.2.2.2.2.2.2.2.2.2⟩ (fun hH => ?_)
       clear hK K
       try simp only [Act.put, sI, sZ, sS]
       refine tk 2 32 hH ?_; refine tk 3 33 hH ?_; refine tk 4 34 hH ?_; refine tk 5 35 hH ?_; refine tk 6 36 hH ?_; refine tk 7 37 hH ?_; refine tk 8 38 hH ?_; refine tk 9 39 hH ?_; refine tk 10 40 hH ?_; refine tk 12 42 hH ?_; refine tk 13 43 hH ?_
       refine wpAnyH_ready (rs := [11]) (by kernel_rfl) (by simp) ?_
       refine AllReadyH.cons rfl (fun K hK => ?_) AllReadyH.nil
       go_simp
       refine (KT.out _ hq1).mono ?_
       rintro e y2 ⟨⟨tad, tcp, rfl, hti⟩, hy2⟩
       have hq2 : Below w.heap.size w y2 := hq1.trans (hy2.mono hq1.size)
       have hz2 : Below W0.heap.size W0 y2 := hz1.trans (hy2.mono hz1.size)
       obtain ⟨tb, to, et, tz⟩ := hti cl HCL.out
       subst et
       rw [HCV.out] at tz
       clear hti
       go_wp2_with fail
       refine hK.out _ _ ⟨cL hy2 hH.1, cL hy2 hH.2.1, cL hy2 hH.2.2.1, cL hy2 hH.2.2.2.1, cL hy2 hH.2.2.2.2.1, cL hy2 hH.2.2.2.2.2.1, cL hy2 hH.2.2.2.2.2.2.1, cL hy2 hH.2.2.2.2.2.2.2.1, cL hy2 hH.2.2.2.2.2.2.2.2.1, cL hy2 hH.2.2.2.2.2.2.2.2.2.1, cL hy2 hH.2.2.2.2.2.2.2.2.2.2.1, cL hy2 hH.2.2.2.2.2.2.2.2.2.2.2.1, cL hy2 hH.2.2.2.2.2.2.2.2.2.2.2.2.1, cL hy2 hH.2.2.2.2.2.2.2.2.2.2.2.2.2.1, cL hy2 hH.2.2.2.2.2.2.2.2.2.2.2.2.2.2.1, cL hy2 hH.2.2.2.2.2.2.2.2.2.2.2.2.2.2.2.1, cL hy2 hH.2.2.2.2.2.2.2.2.2.2.2.2.2.2.2.2.1, cL hy2 hH.2.2.2.2.2.2.2.2.2.2.2.2.2.2.2.2.2⟩ (fun hH => ?_)
       clear hK K
       try simp only [Act.put, sI, sZ, sS]
       refine tk 14 44 hH ?_
       refine wpAnyH_ready (rs := [15]) (by kernel_rfl) (by simp) ?_
       refine AllReadyH.cons rfl (fun K hK => ?_) AllReadyH.nil
       go_simp
       refine hK.out _ _ hH (fun hH => ?_)
       clear hK K
       try simp only [Act.put, sI, sZ, sS]
       refine tk 16 46 hH ?_; refine tk 17 47 hH ?_; refine tk 18 48 hH ?_; refine tk 19 49 hH ?_; refine sk 20 50 hH ?_; refine sk 21 51 hH ?_; refine sk 22 52 hH ?_; refine sk 23 53 hH ?_; refine sk 24 54 hH ?_; refine sk 25 55 hH ?_; refine tk 26 56 hH ?_; refine tk 27 57 hH ?_; refine sk 28 58 hH ?_; refine sk 29 59 hH ?_; refine sk 30 60 hH ?_; refine sk 31 61 hH ?_; refine sk 32 62 hH ?_; refine sk 33 63 hH ?_; refine sk 34 64 hH ?_; refine tk 35 65 hH ?_; refine tk 36 66 hH ?_; refine sk 37 67 hH ?_; refine sk 38 68 hH ?_; refine sk 39 69 hH ?_; refine sk 40 70 hH ?_; refine sk 41 71 hH ?_; refine sk 42 72 hH ?_; refine sk 43 73 hH ?_; refine sk 44 74 hH ?_; refine sk 45 75 hH ?_; refine sk 46 76 hH ?_; refine sk 47 77 hH ?_; refine sk 48 78 hH ?_; refine sk 49 79 hH ?_; refine tk 50 80 hH ?_
       refine wpAnyH_done (by kernel_rfl) ?_ _
       go_wp2
       go_ret
       exact ⟨ret_bool HE.out, hq2⟩
    ·have N1 := neq_is (x := E) (y := 0) true (by simpa using h0)
     have HE : Hid (false = R) := HNO.out (by unfold talB valB; simp [HE0.out, h0])
     go_wp2
     refine beginH (S := (fun w' => w'.cell? ⟨w.heap.size, 0, none⟩ = some (.int .i64 kind) ∧ w'.cell? ⟨w.heap.size, 1, none⟩ = some (.int .i64 mode) ∧ w'.cell? ⟨w.heap.size, 2, none⟩ = some (.int .i64 low) ∧ w'.cell? ⟨w.heap.size, 3, none⟩ = some (.int .i64 high) ∧ w'.cell? ⟨w.heap.size, 4, none⟩ = some (.int .i64 size) ∧ w'.cell? ⟨w.heap.size, 5, none⟩ = some (.int .i64 limit) ∧ w'.cell? ⟨w.heap.size, 6, none⟩ = some (.slice la n6 lc) ∧ w'.cell? ⟨w.heap.size, 7, none⟩ = some (.slice rr n7 rc) ∧ w'.cell? ⟨w.heap.size, 8, none⟩ = some (.slice lk n8 lkc) ∧ w'.cell? ⟨w.heap.size, 9, none⟩ = some (.slice rk n9 rkc) ∧ w'.cell? ⟨w.heap.size, 10, none⟩ = some (.bool grouped) ∧ w'.cell? ⟨w.heap.size, 11, none⟩ = some (.slice pga n11 gc) ∧ w'.cell? ⟨w.heap.size, 12, none⟩ = some (.slice pag n12 ac) ∧ w'.cell? ⟨w.heap.size + 1, 1, none⟩ = some (.int .i64 (cl : Int)) ∧ w'.cell? ⟨wr.heap.size, 0, none⟩ = some (.int .i64 xk) ∧ w'.cell? ⟨wr.heap.size, 1, none⟩ = some (.int .i64 xn) ∧ w'.cell? ⟨wr.heap.size, 2, none⟩ = some (.string xs) ∧ w'.cell? ⟨b3, o3 + k * 4 + 3, none⟩ = some (.int .i64 xm))) 51 rfl (by kernel_rfl) ⟨by go_simp, by go_simp, by go_simp, by go_simp, by go_simp, by go_simp, by go_simp, by go_simp, by go_simp, by go_simp, by go_simp, by go_simp, by go_simp, by go_simp, by go_simp, by go_simp, by go_simp, by go_simp⟩ (fun hH => ?_)
     refine tk 0 30 hH ?_
     refine wpAnyH_ready (rs := [1]) (by kernel_rfl) (by simp) ?_
     refine AllReadyH.cons rfl (fun K hK => ?_) AllReadyH.nil
     go_simp
     refine (KV.out _).mono ?_
     rintro e y1 ⟨rfl, hy1⟩
     have hq1 : Below w.heap.size w y1 := hbX.drew.trans (hy1.mono hbX.drew.size)
     have hz1 : Below W0.heap.size W0 y1 := hzX.drew.trans (hy1.mono hzX.drew.size)
     go_wp2_with fail
     refine hK.out _ _ ⟨cL hy1 hH.1, cL hy1 hH.2.1, cL hy1 hH.2.2.1, cL hy1 hH.2.2.2.1, cL hy1 hH.2.2.2.2.1, cL hy1 hH.2.2.2.2.2.1, cL hy1 hH.2.2.2.2.2.2.1, cL hy1 hH.2.2.2.2.2.2.2.1, cL hy1 hH.2.2.2.2.2.2.2.2.1, cL hy1 hH.2.2.2.2.2.2.2.2.2.1, cL hy1 hH.2.2.2.2.2.2.2.2.2.2.1, cL hy1 hH.2.2.2.2.2.2.2.2.2.2.2.1, cL hy1 hH.2.2.2.2.2.2.2.2.2.2.2.2.1, cL hy1 hH.2.2.2.2.2.2.2.2.2.2.2.2.2.1, cL hy1 hH.2.2.2.2.2.2.2.2.2.2.2.2.2.2.1, cL hy1 hH.2.2.2.2.2.2.2.2.2.2.2.2.2.2.2.1, cL hy1 hH.2.2.2.2.2.2.2.2.2.2.2.2.2.2.2.2.1, cL hy1 hH.2.2.2.2.2.2.2.2.2.2.2.2.2.2.2.2.2⟩ (fun hH => ?_)
     clear hK K
     try simp only [Act.put, sI, sZ, sS]
     refine tk 2 32 hH ?_; refine tk 3 33 hH ?_; refine sk 4 34 hH ?_; refine sk 5 35 hH ?_; refine sk 6 36 hH ?_; refine sk 7 37 hH ?_; refine sk 8 38 hH ?_; refine sk 9 39 hH ?_; refine sk 10 40 hH ?_; refine sk 12 42 hH ?_; refine sk 13 43 hH ?_; refine sk 11 41 hH ?_; refine sk 14 44 hH ?_; refine sk 15 45 hH ?_; refine sk 16 46 hH ?_; refine sk 17 47 hH ?_; refine tk 18 48 hH ?_; refine tk 19 49 hH ?_; refine sk 20 50 hH ?_; refine sk 21 51 hH ?_; refine sk 22 52 hH ?_; refine sk 23 53 hH ?_; refine sk 24 54 hH ?_; refine sk 25 55 hH ?_; refine tk 26 56 hH ?_; refine tk 27 57 hH ?_; refine sk 28 58 hH ?_; refine sk 29 59 hH ?_; refine sk 30 60 hH ?_; refine sk 31 61 hH ?_; refine sk 32 62 hH ?_; refine sk 33 63 hH ?_; refine sk 34 64 hH ?_; refine tk 35 65 hH ?_; refine tk 36 66 hH ?_; refine sk 37 67 hH ?_; refine sk 38 68 hH ?_; refine sk 39 69 hH ?_; refine sk 40 70 hH ?_; refine sk 41 71 hH ?_; refine sk 42 72 hH ?_; refine sk 43 73 hH ?_; refine sk 44 74 hH ?_; refine sk 45 75 hH ?_; refine sk 46 76 hH ?_; refine sk 47 77 hH ?_; refine sk 48 78 hH ?_; refine sk 49 79 hH ?_; refine tk 50 80 hH ?_
     refine wpAnyH_done (by kernel_rfl) ?_ _
     go_wp2
     go_ret
     exact ⟨ret_bool HE.out, hq1⟩
   ·have hke : k = ln := by omega
    have HE : Hid (decide (r = 0) = R) := by show _ = _; rw [← HST.out]; exact (tals_end (by rw [HN.out]; omega)).symm
    go_wp2
    go_ret
    first
     | exact ⟨ret_bool HE.out, hbr⟩
     | exact ⟨ret_bool (by rw [← HE.out]; simp), hbr⟩
end Go.Proofs.YtbfbgdinhiglaaaGreat.gr
