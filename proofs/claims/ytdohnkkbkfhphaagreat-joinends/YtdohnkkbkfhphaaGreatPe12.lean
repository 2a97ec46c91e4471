import Derived.Test.YtdohnkkbkfhphaaGreatPe11
import Derived.Deep.AppendLies
namespace Go.Proofs.YtdohnkkbkfhphaaGreat.pl
open Go.ChangeShapes Go.WideShapes Go.ChangeAt Go.RowKit
open vl
set_option linter.unusedVariables false
set_option linter.unusedSimpArgs false
set_option maxRecDepth 10000 in
set_option maxHeartbeats 4000000 in
theorem wrongRange_any (p : Pln) (x : PA) (w : World) :
 Calls Tryz.prog 31 #[planV p x] w fun e w' => e = .returned (.bool (!decide (rangesOk p))) ∧ Below w.heap.size w w' := by
 have HK : Hid ((!decide (rangesOk p)) = !(spanB p && sizeB p && betw p.limit 1 64)) := by show (!decide (rangesOk p)) = _; rw [ranges_iff]
 have HP : Hid (spanB p = if p.kind = 1 then tm.fitB p.low && tm.fitB p.high else decide (p.low = 0) && decide (p.high = 0)) := rfl
 have HS : Hid (sizeB p = if p.kind = 2 then betw p.size 1 1099511627776 else decide (p.size = 0)) := rfl
 obtain ⟨res, hres⟩ : ∃ z, (!decide (rangesOk p)) = z := ⟨_, rfl⟩
 rw [hres] at HK ⊢
 rw [HP.out, HS.out] at HK
 clear hres HP HS
 obtain ⟨kind, mode, low, high, size, limit, left, right, lkeys, rkeys, grouped, group, aggs⟩ := p
 obtain ⟨l, lc, r, rc, lk, lkc, rk, rkc, g, gc, a, ac⟩ := x
 unfold planV
 dsimp only at HK ⊢
 by_cases h1 : kind = 1
 ·subst h1
  rw [if_pos rfl, if_neg (by decide)] at HK
  cases hl : tm.fitB low <;> rw [hl] at HK
  ·go_enter Tryz.func31, Tryz.ntmps31
   go_wp2_with
    (first | (go_at_call 29; refine (within_any _ _ _ _).mono ?_; rintro e w' ⟨rfl, hw⟩; subst hw) | (go_at_call 66; refine (tm.rfits_any _ _).mono ?_; rintro e w' ⟨rfl, hw⟩; subst hw))
   go_ret
   exact ⟨ret_bool (by rw [HK.out]; first | rfl | simp), bR.alloc nR _⟩
  ·cases hh : tm.fitB high <;> rw [hh] at HK
   ·go_enter Tryz.func31, Tryz.ntmps31
    go_wp2_with
     (first | (go_at_call 29; refine (within_any _ _ _ _).mono ?_; rintro e w' ⟨rfl, hw⟩; subst hw) | (go_at_call 66; refine (tm.rfits_any _ _).mono ?_; rintro e w' ⟨rfl, hw⟩; subst hw))
    go_ret
    exact ⟨ret_bool (by rw [HK.out]; first | rfl | simp), bR.alloc nR _⟩
   ·by_cases hs : size = 0
    ·subst hs
     go_enter Tryz.func31, Tryz.ntmps31
     go_wp2_with
      (first | (go_at_call 29; refine (within_any _ _ _ _).mono ?_; rintro e w' ⟨rfl, hw⟩; subst hw) | (go_at_call 66; refine (tm.rfits_any _ _).mono ?_; rintro e w' ⟨rfl, hw⟩; subst hw))
     go_ret
     exact ⟨ret_bool (by rw [HK.out]; first | rfl | simp), bR.alloc nR _⟩
    ·have hs' : (size != 0) = true := by simpa using hs
     rw [decide_eq_false hs] at HK
     clear hs
     go_enter Tryz.func31, Tryz.ntmps31
     go_wp2_with
      (first | (go_at_call 29; refine (within_any _ _ _ _).mono ?_; rintro e w' ⟨rfl, hw⟩; subst hw) | (go_at_call 66; refine (tm.rfits_any _ _).mono ?_; rintro e w' ⟨rfl, hw⟩; subst hw))
     go_ret
     exact ⟨ret_bool (by rw [HK.out]; first | rfl | simp), bR.alloc nR _⟩
 ·rw [if_neg h1] at HK
  have h1' : (kind == 1) = false := by simpa using h1
  have h1'' : (kind != 1) = true := by simpa using h1
  by_cases hl : low = 0
  ·subst hl
   rw [show decide ((0 : Int) = 0) = true by decide] at HK
   by_cases hh : high = 0
   ·subst hh
    rw [show decide ((0 : Int) = 0) = true by decide] at HK
    by_cases h2 : kind = 2
    ·subst h2
     rw [if_pos rfl] at HK
     cases hs : betw size 1 1099511627776 <;> rw [hs] at HK
     all_goals
      go_enter Tryz.func31, Tryz.ntmps31
      go_wp2_with
       (first | (go_at_call 29; refine (within_any _ _ _ _).mono ?_; rintro e w' ⟨rfl, hw⟩; subst hw) | (go_at_call 66; refine (tm.rfits_any _ _).mono ?_; rintro e w' ⟨rfl, hw⟩; subst hw))
      go_ret
      exact ⟨ret_bool (by rw [HK.out]; first | rfl | simp), bR.alloc nR _⟩
    ·rw [if_neg h2] at HK
     have h2' : (kind == 2) = false := by simpa using h2
     have h2'' : (kind != 2) = true := by simpa using h2
     clear h1 h2
     by_cases hs : size = 0
     ·subst hs
      go_enter Tryz.func31, Tryz.ntmps31
      go_wp2_with
       (first | (go_at_call 29; refine (within_any _ _ _ _).mono ?_; rintro e w' ⟨rfl, hw⟩; subst hw) | (go_at_call 66; refine (tm.rfits_any _ _).mono ?_; rintro e w' ⟨rfl, hw⟩; subst hw))
      go_ret
      exact ⟨ret_bool (by rw [HK.out]; first | rfl | simp), bR.alloc nR _⟩
     ·have hs' : (size != 0) = true := by simpa using hs
      rw [decide_eq_false hs] at HK
      clear hs
      go_enter Tryz.func31, Tryz.ntmps31
      go_wp2_with
       (first | (go_at_call 29; refine (within_any _ _ _ _).mono ?_; rintro e w' ⟨rfl, hw⟩; subst hw) | (go_at_call 66; refine (tm.rfits_any _ _).mono ?_; rintro e w' ⟨rfl, hw⟩; subst hw))
      go_ret
      exact ⟨ret_bool (by rw [HK.out]; first | rfl | simp), bR.alloc nR _⟩
   ·have hh' : (high != 0) = true := by simpa using hh
    rw [decide_eq_false hh] at HK
    clear hh h1
    go_enter Tryz.func31, Tryz.ntmps31
    go_wp2_with
     (first | (go_at_call 29; refine (within_any _ _ _ _).mono ?_; rintro e w' ⟨rfl, hw⟩; subst hw) | (go_at_call 66; refine (tm.rfits_any _ _).mono ?_; rintro e w' ⟨rfl, hw⟩; subst hw))
    go_ret
    exact ⟨ret_bool (by rw [HK.out]; first | rfl | simp), bR.alloc nR _⟩
  ·have hl' : (low != 0) = true := by simpa using hl
   rw [decide_eq_false hl] at HK
   clear hl h1
   go_enter Tryz.func31, Tryz.ntmps31
   go_wp2_with
    (first | (go_at_call 29; refine (within_any _ _ _ _).mono ?_; rintro e w' ⟨rfl, hw⟩; subst hw) | (go_at_call 66; refine (tm.rfits_any _ _).mono ?_; rintro e w' ⟨rfl, hw⟩; subst hw))
   go_ret
   exact ⟨ret_bool (by rw [HK.out]; first | rfl | simp), bR.alloc nR _⟩
set_option maxRecDepth 10000 in
set_option maxHeartbeats 4000000 in
theorem wrongMany_any (p : Pln) (x : PA) (w : World) (hw : wfPlan p) :
 Calls Tryz.prog 32 #[planV p x] w fun e w' => e = .returned (.bool (!decide (manyOk p))) ∧ Below w.heap.size w w' := by
 have HK : Hid ((!decide (manyOk p)) = !(betw p.left.length 1 4 && (betw p.right.length 1 4 && (betw p.lkeys.length 1 4 && betw p.rkeys.length 1 4)) && groupB p)) := by show (!decide (manyOk p)) = _; rw [many_iff]; rfl
 have HG : Hid (groupB p = if p.grouped = true then betw p.aggs.length 1 4 && decide ((p.group.length : Int) ≤ 8 - p.aggs.length) else decide (p.group.length = 0) && decide (p.aggs.length = 0)) := rfl
 rw [HG.out] at HK
 obtain ⟨res, hres⟩ : ∃ z, (!decide (manyOk p)) = z := ⟨_, rfl⟩
 rw [hres] at HK ⊢
 have l11 := hw.g
 have l12 := hw.a
 clear hres HG hw
 obtain ⟨kind, mode, low, high, size, limit, left, right, lkeys, rkeys, grouped, group, aggs⟩ := p
 obtain ⟨l, lc, r, rc, lk, lkc, rk, rkc, g, gc, a, ac⟩ := x
 unfold planV
 dsimp only at HK l11 l12 ⊢
 obtain ⟨n6, h6⟩ : ∃ n, left.length = n := ⟨_, rfl⟩
 obtain ⟨n7, h7⟩ : ∃ n, right.length = n := ⟨_, rfl⟩
 obtain ⟨n8, h8⟩ : ∃ n, lkeys.length = n := ⟨_, rfl⟩
 obtain ⟨n9, h9⟩ : ∃ n, rkeys.length = n := ⟨_, rfl⟩
 obtain ⟨n11, h11⟩ : ∃ n, group.length = n := ⟨_, rfl⟩
 obtain ⟨n12, h12⟩ : ∃ n, aggs.length = n := ⟨_, rfl⟩
 rw [h6, h7, h8, h9, h11, h12] at HK
 rw [h11] at l11
 rw [h12] at l12
 rw [h6, h7, h8, h9, h11, h12]
 clear h6 h7 h8 h9 h11 h12
 cases b6 : betw n6 1 4 <;> rw [b6] at HK
 ·go_enter Tryz.func32, Tryz.ntmps32
  go_wp2_with
   (first | (go_at_call 29; refine (within_any _ _ _ _).mono ?_; rintro e w' ⟨rfl, hw⟩; subst hw) | (go_at_call 66; refine (tm.rfits_any _ _).mono ?_; rintro e w' ⟨rfl, hw⟩; subst hw))
  go_ret
  exact ⟨ret_bool (by rw [HK.out]; first | rfl | simp), bR.alloc nR _⟩
 cases b7 : betw n7 1 4 <;> rw [b7] at HK
 ·go_enter Tryz.func32, Tryz.ntmps32
  go_wp2_with
   (first | (go_at_call 29; refine (within_any _ _ _ _).mono ?_; rintro e w' ⟨rfl, hw⟩; subst hw) | (go_at_call 66; refine (tm.rfits_any _ _).mono ?_; rintro e w' ⟨rfl, hw⟩; subst hw))
  go_ret
  exact ⟨ret_bool (by rw [HK.out]; first | rfl | simp), bR.alloc nR _⟩
 cases b8 : betw n8 1 4 <;> rw [b8] at HK
 ·go_enter Tryz.func32, Tryz.ntmps32
  go_wp2_with
   (first | (go_at_call 29; refine (within_any _ _ _ _).mono ?_; rintro e w' ⟨rfl, hw⟩; subst hw) | (go_at_call 66; refine (tm.rfits_any _ _).mono ?_; rintro e w' ⟨rfl, hw⟩; subst hw))
  go_ret
  exact ⟨ret_bool (by rw [HK.out]; first | rfl | simp), bR.alloc nR _⟩
 cases b9 : betw n9 1 4 <;> rw [b9] at HK
 ·go_enter Tryz.func32, Tryz.ntmps32
  go_wp2_with
   (first | (go_at_call 29; refine (within_any _ _ _ _).mono ?_; rintro e w' ⟨rfl, hw⟩; subst hw) | (go_at_call 66; refine (tm.rfits_any _ _).mono ?_; rintro e w' ⟨rfl, hw⟩; subst hw))
  go_ret
  exact ⟨ret_bool (by rw [HK.out]; first | rfl | simp), bR.alloc nR _⟩
 cases grouped
 ·rw [if_neg (by decide)] at HK
  by_cases h12 : n12 = 0
  ·subst h12
   go_enter Tryz.func32, Tryz.ntmps32
   go_wp2_with
    (first | (go_at_call 29; refine (within_any _ _ _ _).mono ?_; rintro e w' ⟨rfl, hw⟩; subst hw) | (go_at_call 66; refine (tm.rfits_any _ _).mono ?_; rintro e w' ⟨rfl, hw⟩; subst hw))
   go_ret
   exact ⟨ret_bool (by rw [HK.out]; exact Bool.eq_iff_iff.2 (by simp; try omega)), bR.alloc nR _⟩
  ·have h12' : (0 : Int) < n12 := by omega
   rw [decide_eq_false h12, Bool.and_false] at HK
   clear h12
   go_enter Tryz.func32, Tryz.ntmps32
   go_wp2_with
    (first | (go_at_call 29; refine (within_any _ _ _ _).mono ?_; rintro e w' ⟨rfl, hw⟩; subst hw) | (go_at_call 66; refine (tm.rfits_any _ _).mono ?_; rintro e w' ⟨rfl, hw⟩; subst hw))
   go_ret
   exact ⟨ret_bool (by rw [HK.out]; first | rfl | simp), bR.alloc nR _⟩
 ·rw [if_pos rfl] at HK
  cases b12 : betw n12 1 4 <;> rw [b12] at HK
  ·go_enter Tryz.func32, Tryz.ntmps32
   go_wp2_with
    (first | (go_at_call 29; refine (within_any _ _ _ _).mono ?_; rintro e w' ⟨rfl, hw⟩; subst hw) | (go_at_call 66; refine (tm.rfits_any _ _).mono ?_; rintro e w' ⟨rfl, hw⟩; subst hw))
   go_ret
   exact ⟨ret_bool (by rw [HK.out]; first | rfl | simp), bR.alloc nR _⟩
  ·obtain ⟨u1, u2⟩ := (betw_iff _ _ _).1 b12
   go_enter Tryz.func32, Tryz.ntmps32
   go_wp2_with
    (first | (go_at_call 29; refine (within_any _ _ _ _).mono ?_; rintro e w' ⟨rfl, hw⟩; subst hw) | (go_at_call 66; refine (tm.rfits_any _ _).mono ?_; rintro e w' ⟨rfl, hw⟩; subst hw))
   go_ret
   exact ⟨ret_bool (by rw [HK.out]; exact Bool.eq_iff_iff.2 (by simp; try omega)), bR.alloc nR _⟩
set_option maxRecDepth 100000 in
set_option maxHeartbeats 4000000 in
theorem rtypes_any (p : Pln) (x : PA) (w : World) (hp : planAt w p x) (n1 : 0 < p.left.length) (n2 : 0 < p.right.length) (m1 : p.left.length ≤ 400) (m2 : p.right.length ≤ 400) :
 Calls Tryz.prog 33 #[planV p x] w fun e w' => (∃ ad cap, e = .returned (.slice ad (cols p).length cap) ∧ ownI w' w.heap.size (.slice ad (cols p).length cap) (cols p)) ∧ Below w.heap.size w w' := by
 obtain ⟨i0, hi, hz0, hz1, hz2⟩ := info_parts Tryz.info3
 have HI : Hid (Tryz.prog.info? 3 = some i0 ∧ i0.zero = some (.int .i64 0) ∧ i0.size = 1 ∧ i0.bytes = 8) := ⟨hi, hz0, hz1, hz2⟩
 clear hi hz0 hz1 hz2
 obtain ⟨b1, o1, e1, _⟩ := hp.l 0 n1
 obtain ⟨b2, o2, e2, _⟩ := hp.r 0 n2
 have HC1 : Hid (∀ w', Below w.heap.size w w' → ∀ j u, (p.left.map intV)[j]? = some u → w'.cell? ((⟨b1, o1, none⟩ : Addr).add j) = some u) := fun w' hb => by
  have h := intsAt_below hp.l hb; rw [e1] at h; exact ints_cells h
 have HC2 : Hid (∀ w', Below w.heap.size w w' → ∀ j u, (p.right.map intV)[j]? = some u → w'.cell? ((⟨b2, o2, none⟩ : Addr).add j) = some u) := fun w' hb => by
  have h := intsAt_below hp.r hb; rw [e2] at h; exact ints_cells h
 have hp1 : Hid ((p.left.map intV).length = p.left.length) := List.length_map ..
 have hp2 : Hid ((p.right.map intV).length = p.right.length) := List.length_map ..
 have HCO : Hid (cols p = p.left ++ p.right) := rfl
 obtain ⟨cs, hcs⟩ : ∃ z, cols p = z := ⟨_, rfl⟩
 rw [hcs] at HCO ⊢
 clear hcs hp
 obtain ⟨kind, mode, low, high, size, limit, left, right, lkeys, rkeys, grouped, group, aggs⟩ := p
 obtain ⟨l, lc, r, rc, lk, lkc, rk, rkc, g, gc, a, ac⟩ := x
 unfold planV
 dsimp only at e1 e2 n1 n2 m1 m2 HC1 HC2 hp1 hp2 HCO ⊢
 subst e1 e2
 obtain ⟨n6, h6⟩ : ∃ n, left.length = n := ⟨_, rfl⟩
 obtain ⟨n7, h7⟩ : ∃ n, right.length = n := ⟨_, rfl⟩
 have HCL : Hid (cs.length = n6 + n7) := by show cs.length = n6 + n7; rw [HCO.out, List.length_append, h6, h7]
 have H6 : Hid (left.length = n6) := h6
 have H7 : Hid (right.length = n7) := h7
 rw [h6] at n1 m1 hp1
 rw [h7] at n2 m2 hp2
 rw [HCL.out, h6, h7]
 clear h6 h7
 go_enter Tryz.func33, Tryz.ntmps33
 go_wp2
 refine wp_region_held_drew (S := (fun w' => w'.cell? ⟨w.heap.size, 6, none⟩ = some (.slice (some ⟨b1, o1, none⟩) n6 lc) ∧ w'.cell? ⟨w.heap.size, 7, none⟩ = some (.slice (some ⟨b2, o2, none⟩) n7 rc))) (by kernel_rfl) ⟨by go_simp, by go_simp⟩ (fun hHz => ?_)
 refine tkz 1 4 hHz ?_; refine tkz 2 5 hHz ?_; refine tkz 4 7 hHz ?_; refine tkz 5 8 hHz ?_
 refine wpAnyH_ready (rs := [0]) (by kernel_rfl) (by simp) ?_
 refine AllReadyH.cons rfl (fun K hK => ?_) AllReadyH.nil
 go_simp
 refine hK.out _ _ ⟨by go_simp, by go_simp⟩ (fun hHz => ?_)
 clear hK K
 try simp only [Act.put, sI, sZ, sS]
 have HOW : ((w.alloc (.cells #[.int .i64 kind, .int .i64 mode, .int .i64 low, .int .i64 high, .int .i64 size, .int .i64 limit, .slice (some ⟨b1, o1, none⟩) n6 lc, .slice (some ⟨b2, o2, none⟩) n7 rc, .slice lk lkeys.length lkc, .slice rk rkeys.length rkc, .bool grouped, .slice g group.length gc, .slice a aggs.length ac] 25)).alloc (.cells #[] 3)).drew.ownsRow w.heap.size 3 1 (.slice (some ⟨w.heap.size + 1, 0, none⟩) 0 0) 0 [] := by
  have h := World.ownsRow_made (base := w.heap.size) (e := 3) (size := 1) (w.alloc (.cells #[.int .i64 kind, .int .i64 mode, .int .i64 low, .int .i64 high, .int .i64 size, .int .i64 limit, .slice (some ⟨b1, o1, none⟩) n6 lc, .slice (some ⟨b2, o2, none⟩) n7 rc, .slice lk lkeys.length lkc, .slice rk rkeys.length rkc, .bool grouped, .slice g group.length gc, .slice a aggs.length ac] 25)) #[] 0 (by simp) (Nat.zero_le _) rfl
  have h2 := World.ownsRow.drew h
  simpa using h2
 have hb0 : Below w.heap.size w ((w.alloc (.cells #[.int .i64 kind, .int .i64 mode, .int .i64 low, .int .i64 high, .int .i64 size, .int .i64 limit, .slice (some ⟨b1, o1, none⟩) n6 lc, .slice (some ⟨b2, o2, none⟩) n7 rc, .slice lk lkeys.length lkc, .slice rk rkeys.length rkc, .bool grouped, .slice g group.length gc, .slice a aggs.length ac] 25)).alloc (.cells #[] 3)).drew := ((bR.alloc nR _).alloc (by simp) _).drew
 have hs0 : ((w.alloc (.cells #[.int .i64 kind, .int .i64 mode, .int .i64 low, .int .i64 high, .int .i64 size, .int .i64 limit, .slice (some ⟨b1, o1, none⟩) n6 lc, .slice (some ⟨b2, o2, none⟩) n7 rc, .slice lk lkeys.length lkc, .slice rk rkeys.length rkc, .bool grouped, .slice g group.length gc, .slice a aggs.length ac] 25)).alloc (.cells #[] 3)).drew.heap.size = w.heap.size + 2 := by simp
 obtain ⟨W, hW⟩ : ∃ x, ((w.alloc (.cells #[.int .i64 kind, .int .i64 mode, .int .i64 low, .int .i64 high, .int .i64 size, .int .i64 limit, .slice (some ⟨b1, o1, none⟩) n6 lc, .slice (some ⟨b2, o2, none⟩) n7 rc, .slice lk lkeys.length lkc, .slice rk rkeys.length rkc, .bool grouped, .slice g group.length gc, .slice a aggs.length ac] 25)).alloc (.cells #[] 3)).drew = x := ⟨_, rfl⟩
 rw [hW] at HOW hb0 hs0 hHz ⊢
 clear hW
 refine wpAnyH_ready (rs := [3]) (by kernel_rfl) (by simp) ?_
 refine AllReadyH.cons rfl (fun K hK => ?_) AllReadyH.nil
 refine step_append_lies W rfl (.tmp 3) (.tmp 5) 22 rfl w.heap.size 3 i0 (.int .i64 0) 1 8 Tryz.underlying22 HI.out.1 HI.out.2.1 HI.out.2.2.1 HI.out.2.2.2 rfl (by decide) (.slice (some ⟨w.heap.size + 1, 0, none⟩) 0 0) 0 [] rfl HOW ⟨b1, o1, none⟩ n6 lc (left.map intV) rfl (by rw [hp1.out, Nat.mul_one]) (HC1.out _ hb0) (ints_one left) n1 (by unfold maxLen; omega) (by omega) (by omega) (w.heap.size + 2) hs0 ?_
 intro g1 cap1 w2 hown2 hgrow2 hat2 hlt2
 have hb2 : Below w.heap.size w w2 := hb0.grown hgrow2 (by omega) (fun b hb => by cases hb; simp)
 have hs2 : w.heap.size + 2 ≤ w2.heap.size := by have := hgrow2.size; omega
 have hg1 : w.heap.size + 1 ≤ g1 := by
  rcases hat2 with h | h
  ·cases h; simp
  ·omega
 refine hK.out _ _ ⟨hgrow2.cell hHz.1 (fun h => by simp [Value.ownBlock] at h), hgrow2.cell hHz.2 (fun h => by simp [Value.ownBlock] at h)⟩ (fun hHz => ?_)
 clear hK K
 try simp only [Act.put, sI, sZ, sS]
 refine wpAnyH_ready (rs := [6]) (by kernel_rfl) (by simp) ?_
 refine AllReadyH.cons rfl (fun K hK => ?_) AllReadyH.nil
 refine step_append_lies w2 rfl (.tmp 6) (.tmp 8) 22 rfl w.heap.size 3 i0 (.int .i64 0) 1 8 Tryz.underlying22 HI.out.1 HI.out.2.1 HI.out.2.2.1 HI.out.2.2.2 rfl (by decide) (.slice (some ⟨g1, 0, none⟩) (0 + n6) cap1) (0 + n6) ([] ++ left.map intV) rfl hown2 ⟨b2, o2, none⟩ n7 rc (right.map intV) rfl (by rw [hp2.out, Nat.mul_one]) (HC2.out _ hb2) (ints_one right) n2 (by unfold maxLen; omega) (by omega) (by omega) w2.heap.size rfl ?_
 intro g2 cap2 w3 hown3 hgrow3 hat3 hlt3
 have hb3 : Below w.heap.size w w3 := hb2.grown hgrow3 (by omega) (fun b hb => by cases hb; show w.heap.size ≤ g1; omega)
 refine hK.out _ _ ⟨hgrow3.cell hHz.1 (fun h => by simp [Value.ownBlock] at h; omega), hgrow3.cell hHz.2 (fun h => by simp [Value.ownBlock] at h; omega)⟩ (fun hHz => ?_)
 clear hK K
 simp only [Act.put, List.getElem_toArray, List.getElem_cons_succ, List.getElem_cons_zero, sI, sZ, sS]
 refine tkz 7 2 hHz ?_
 refine wpAnyH_done (by kernel_rfl) ?_ _
 rw [Nat.zero_add, List.nil_append] at hown3
 rw [Nat.zero_add]
 have HO : Hid (ownI w3 w.heap.size (.slice (some ⟨g2, 0, none⟩) (n6 + n7) cap2) cs) := by
  show w3.ownsRow _ _ _ _ cs.length (cs.map intV)
  rw [HCL.out, HCO.out, List.map_append]; exact hown3
 clear hown3 hown2
 go_wp2
 go_ret
 exact ⟨⟨_, _, rfl, HO.out⟩, hb3⟩
theorem once_iff (l : List Int) (k : Nat) : (l.take k).Pairwise (· ≠ ·) ↔ ∀ i j, i < j → j < k → j < l.length → l.getD i 0 ≠ l.getD j 0 := by
 rw [List.pairwise_iff_getElem]
 constructor
 ·intro h i j hij hjk hj
  have := h i j (by rw [List.length_take]; omega) (by rw [List.length_take]; omega) hij
  rw [List.getElem_take, List.getElem_take] at this
  rw [getD_get (by omega), getD_get hj]; exact this
 ·intro h i j hi hj hij
  rw [List.length_take] at hi hj
  have := h i j hij (by omega) (by omega)
  rw [getD_get (by omega), getD_get (by omega)] at this
  rw [List.getElem_take, List.getElem_take]; exact this
def onceB (l : List Int) : Bool := decide (l.Pairwise (· ≠ ·))
theorem onceB_all {l : List Int} (h : ∀ i j, i < j → j < l.length → l.getD i 0 ≠ l.getD j 0) : onceB l = true := by
 have := (once_iff l l.length).2 (fun i j h1 h2 _ => h i j h1 h2)
 rw [List.take_length] at this
 exact decide_eq_true this
theorem onceB_no {l : List Int} {i j : Nat} (hij : i < j) (hj : j < l.length) (h : l.getD i 0 = l.getD j 0) : onceB l = false := by
 refine decide_eq_false (fun hp => ?_)
 have := (once_iff l l.length).1 (by rw [List.take_length]; exact hp) i j hij hj hj
 exact this h
set_option maxRecDepth 10000 in
set_option maxHeartbeats 2000000 in
theorem once_any (a : Option Addr) (cap : Nat) (l : List Int) (w : World) (hl : l.length ≤ 9223372036854775807) (ha : intsAt w a l) :
 Calls Tryz.prog 67 #[.slice a l.length cap] w fun e w' => e = .returned (.bool (onceB l)) ∧ Below w.heap.size w w' := by
 obtain ⟨n, hn⟩ : ∃ n, l.length = n := ⟨_, rfl⟩
 have HN : Hid (l.length = n) := hn
 rw [hn] at hl ⊢
 clear hn
 go_enter Tryz.func67, Tryz.ntmps67
 go_wp2
 go_loopw [3, 4] (fun i _ wr => ∃ k : Nat, k ≤ n ∧ i = .int .i64 k ∧ Below w.heap.size w wr ∧ ∀ i j, i < j → j < k → l.getD i 0 ≠ l.getD j 0) (fun i _ _ => n - (intOf i).toNat)
 case atStart => exact ⟨0, Nat.zero_le _, rfl, bR, fun i j h1 h2 => absurd h2 (Nat.not_lt_zero j)⟩
 case round =>
  obtain ⟨k, hk, rfl, hnx, hall⟩ := hrel
  have HA : Hid (∀ i j, i < j → j < k → l.getD i 0 ≠ l.getD j 0) := hall
  clear hall
  by_cases hlt : k < n
  ·obtain ⟨b, o, e, x1⟩ := ha k (by rw [HN.out]; exact hlt)
   subst e
   have i1 : (0 : Int) ≤ (k : Int) := by omega
   have i2 : (k : Int) < (n : Int) := by omega
   obtain ⟨z, hz⟩ : ∃ z, l.getD k 0 = z := ⟨_, rfl⟩
   have HZ : Hid (l.getD k 0 = z) := hz
   rw [hz] at x1
   clear hz
   go_wp2
   go_loopw [4] (fun i wr2 => ∃ m : Nat, m ≤ k ∧ i = .int .i64 m ∧ Below w.heap.size w wr2 ∧ ∀ i, i < m → l.getD i 0 ≠ z) (fun i _ => k - (intOf i).toNat)
   case atStart => exact ⟨0, Nat.zero_le _, rfl, hnx, fun i h => absurd h (Nat.not_lt_zero i)⟩
   case round =>
    obtain ⟨m, hm, rfl, hnx2, hall2⟩ := hrel
    have HA2 : Hid (∀ i, i < m → l.getD i 0 ≠ z) := hall2
    clear hall2
    by_cases hmk : m < k
    ·obtain ⟨b', o', e', x2⟩ := ha m (by rw [HN.out]; omega)
     cases e'
     have j1 : (0 : Int) ≤ (m : Int) := by omega
     have j2 : (m : Int) < (n : Int) := by omega
     have q1 := cLz hnx2 x1
     have q2 := cLz hnx2 x2
     obtain ⟨y, hy⟩ : ∃ y, l.getD m 0 = y := ⟨_, rfl⟩
     have HY : Hid (l.getD m 0 = y) := hy
     rw [hy] at q2
     clear hy x2 ha
     by_cases he : z = y
     ·subst he
      have HE : Hid (onceB l = false) := onceB_no hmk (by rw [HN.out]; exact hlt) (by rw [HY.out, HZ.out])
      go_wp2
      go_region
      all_goals
       go_wp2
       go_ret
       refine ⟨ret_bool HE.out.symm, ?_⟩
       repeat (first | exact hnx2 | apply Below.drew)
     ·have hb : (z == y) = false := by simpa using he
      have HE : Hid (l.getD m 0 ≠ z) := by show l.getD m 0 ≠ z; rw [HY.out]; exact fun h => he h.symm
      clear he
      go_wp2
      go_region
      all_goals
       go_wp2
       go_roundw
       case rel => exact ⟨m + 1, by omega, by go_num, by (repeat (first | exact hnx2 | apply Below.drew)), fun i hi => by
        rcases Nat.lt_succ_iff_lt_or_eq.1 hi with h | h
        ·exact HA2.out i h
        ·rw [h]; exact HE.out⟩
       case measure => simp [intOf]; omega
    ·go_wp2
     go_roundw
     case rel => exact ⟨k + 1, by omega, by go_num, hnx2, fun i j h1 h2 => by
      rcases Nat.lt_succ_iff_lt_or_eq.1 h2 with h | h
      ·exact HA.out i j h1 h
      ·rw [h, HZ.out]; exact HA2.out i (by omega)⟩
     case measure => simp [intOf]; omega
  ·have HE : Hid (onceB l = true) := onceB_all (fun i j h1 h2 => HA.out i j h1 (by rw [HN.out] at h2; omega))
   go_wp2
   go_ret
   exact ⟨ret_bool HE.out.symm, hnx⟩
end Go.Proofs.YtdohnkkbkfhphaaGreat.pl
