import Derived.Test.YtbfbgdinhiglaaaGreatS18
import Derived.Test.YtbfbgdinhiglaaaGreatMgPlnB
import Derived.Deep.RegionLaw
import Derived.BigQuiet
import Derived.Test.YtbfbgdinhiglaaaGreatS11
/- The groups' form: formRight. -/
namespace Go.Proofs.YtbfbgdinhiglaaaGreat.gr
open Go.ChangeShapes Go.WideShapes Go.ChangeAt Go.RowKit
open vl pl bt
set_option linter.unusedVariables false
set_option linter.unusedSimpArgs false
attribute [local go_sem] Oper.semAt_some
set_option maxRecDepth 100000 in
set_option maxHeartbeats 32000000 in
theorem form1_any (p : Pln) (x : PA) (i O G PB C : Nat) (oa ga ca : Option Addr) (oc gc cc : Nat) (xs : List GX) (gs : List Grp) (w : World)
    (hO : w.cell? ⟨O, 0, none⟩ = some (.slice oa (ownCols p).length oc)) (hG : w.cell? ⟨G, 0, none⟩ = some (.slice ga gs.length gc)) (hP : w.cell? ⟨PB, 12, none⟩ = some (.slice x.a p.aggs.length x.ac)) (hC : w.cell? ⟨C, 0, none⟩ = some (.slice ca (cols p).length cc))
    (hgs : gsAt w ga xs gs) (hwf : ∀ g ∈ gs, wfG g) (hi : i < gs.length) (hgl : gs.length ≤ 9223372036854775807) (hoi : intsAt w oa (ownCols p)) (hci : intsAt w ca (cols p)) (hai : aggsAt w x.a p.aggs) (hol : (ownCols p).length ≤ 9223372036854775807) (hcl : (cols p).length ≤ 9223372036854775807) (hal : p.aggs.length ≤ 9223372036854775807) (hcol : ∀ i, i < p.aggs.length → 0 ≤ (p.aggs.getD i (0, 0)).2 ∧ (p.aggs.getD i (0, 0)).2.toNat < (cols p).length) :
    Calls Tryz.prog 74 #[.int .i64 (i : Nat), grpV (xs.getD i default) (gs.getD i default), .pointer (some ⟨O, 0, none⟩), .pointer (some ⟨G, 0, none⟩), .pointer (some ⟨PB, 0, none⟩), .pointer (some ⟨C, 0, none⟩)] w fun e w' => e = .returned (.bool (grpB p gs i)) ∧ Below w.heap.size w w' := by
  have hmem : ∀ i, i < gs.length → gs.getD i default ∈ gs := fun i hi => by rw [List.getD_eq_getElem?_getD, List.getElem?_eq_getElem hi]; exact List.getElem_mem hi
  have hwi := hwf _ (hmem i hi)
  have hgi := hgs.each i hi
  have KK : Hid (∀ w1, Below w.heap.size w w1 → Calls Tryz.prog 51 #[.slice (xs.getD i default).r (gs.getD i default).row.length (xs.getD i default).rc] w1 fun e w' => e = .returned (.tuple #[.string (keyS (gs.getD i default).row), .int .i64 (keyErr (gs.getD i default).row)]) ∧ Below w1.heap.size w1 w') := fun w1 hb => key_any _ _ _ w1 (vl.rowAt_below hgi.row hb) hwi.row hwi.rl
  have KT : Hid (∀ w1, Below w.heap.size w w1 → Calls Tryz.prog 75 #[.slice (xs.getD i default).r (gs.getD i default).row.length (xs.getD i default).rc, .slice oa (ownCols p).length oc] w1 fun e w' => e = .returned (.bool (typedB (gs.getD i default).row (ownCols p))) ∧ Below w1.heap.size w1 w') := fun w1 hb => typed_any _ _ _ _ _ _ w1 hwi.rl hol (vl.rowAt_below hgi.row hb) (intsAt_below hoi hb)
  have KR : Hid (∀ j w1, i = j + 1 → Below w.heap.size w w1 → Calls Tryz.prog 76 #[.slice (xs.getD j default).r (gs.getD j default).row.length (xs.getD j default).rc, .slice (xs.getD i default).r (gs.getD i default).row.length (xs.getD i default).rc] w1 fun e w' => e = .returned (.int .i64 (cmpRows (gs.getD j default).row (gs.getD i default).row)) ∧ Below w1.heap.size w1 w') := fun j w1 hj hb => rows_any _ _ _ _ _ _ w1 (vl.rowAt_below (hgs.each j (by omega)).row hb) (vl.rowAt_below hgi.row hb) (hwf _ (hmem j (by omega))).rl hwi.rl
  have KB : Hid (∀ w1, Below w.heap.size w w1 → Calls Tryz.prog 77 #[.slice x.a p.aggs.length x.ac, .slice ca (cols p).length cc, grpV (xs.getD i default) (gs.getD i default)] w1 fun e w' => e = .returned (.bool (bagsB (cols p) p.aggs (gs.getD i default))) ∧ Below w1.heap.size w1 w') := fun w1 hb => bagsRight_any _ _ _ _ _ _ _ _ w1 (aggsAt_below hai hb) (intsAt_below hci hb) (hgi.below hb) hwi hal hcl hcol
  have HPV : Hid (∀ j, i = j + 1 → ∃ b o, ga = some ⟨b, o, none⟩ ∧ w.cell? ⟨b, o + j * 3, none⟩ = some (.slice (xs.getD j default).r (gs.getD j default).row.length (xs.getD j default).rc)) := fun j hj => by
    obtain ⟨b, o, e, x1, _⟩ := hgs.cells j (by omega)
    exact ⟨b, o, e, x1⟩
  obtain ⟨R, hR⟩ : ∃ z, grpB p gs i = z := ⟨_, rfl⟩
  have HR : Hid (grpB p gs i = R) := hR
  unfold grpB at HR
  rw [hR]
  clear hR hmem hwi hgi hgs hwf hoi hci hai hol hcl hal hcol
  obtain ⟨g, hg⟩ : ∃ z, gs.getD i default = z := ⟨_, rfl⟩
  obtain ⟨y, hy⟩ : ∃ z, xs.getD i default = z := ⟨_, rfl⟩
  rw [hg, hy] at KK KT KR KB
  rw [hg] at HR
  rw [hg, hy]
  obtain ⟨E, hE⟩ : ∃ z, keyErr g.row = z := ⟨_, rfl⟩
  obtain ⟨TB, hTB⟩ : ∃ z, typedB g.row (ownCols p) = z := ⟨_, rfl⟩
  obtain ⟨BB, hBB⟩ : ∃ z, bagsB (cols p) p.aggs g = z := ⟨_, rfl⟩
  rw [hE] at KK HR
  rw [hTB] at KT HR
  rw [hBB] at KB HR
  unfold grpV at KB ⊢
  obtain ⟨rn, hrn⟩ : ∃ z, g.row.length = z := ⟨_, rfl⟩
  obtain ⟨bn, hbn⟩ : ∃ z, g.bags.length = z := ⟨_, rfl⟩
  obtain ⟨gn, hgn⟩ : ∃ z, g.n = z := ⟨_, rfl⟩
  obtain ⟨on, hon⟩ : ∃ z, (ownCols p).length = z := ⟨_, rfl⟩
  obtain ⟨gl, hgl2⟩ : ∃ z, gs.length = z := ⟨_, rfl⟩
  obtain ⟨an, han⟩ : ∃ z, p.aggs.length = z := ⟨_, rfl⟩
  obtain ⟨cn, hcn⟩ : ∃ z, (cols p).length = z := ⟨_, rfl⟩
  obtain ⟨pa, hpa⟩ : ∃ z, x.a = z := ⟨_, rfl⟩
  obtain ⟨pac, hpac⟩ : ∃ z, x.ac = z := ⟨_, rfl⟩
  obtain ⟨xr, xrc, xb, xbc, xh⟩ := y
  dsimp only at KK KT KR KB ⊢
  rw [hrn] at KK KT KR
  rw [hrn, hbn, hgn, han, hcn, hpa, hpac] at KB
  rw [hon] at KT hO
  rw [hgl2] at hG hi hgl
  rw [han, hpa, hpac] at hP
  rw [hcn] at hC
  rw [hgn] at HR
  rw [hrn, hbn, hgn]
  clear hg hy hE hTB hBB hrn hbn hon hgl2 han hcn hpa hpac hgn
  have hb0 : Below w.heap.size w (w.alloc (.cells #[.slice xr rn xrc, .int .i64 gn, .slice xb bn xbc] 53)) := (Below.refl _ _).alloc (Nat.le_refl _) _
  have i1 : (0 : Int) ≤ (i : Int) := by omega
  have i2 : (i : Int) < (gl : Int) := by omega
  by_cases h0 : E = 0
  · subst h0
    cases TB with
    | false =>
      have HE : Hid (false = R) := by show _ = _; rw [← HR.out]; simp
      go_enter Tryz.func74, Tryz.ntmps74
      go_wp2_with (go_at_call 51; refine (KK.out _ hb0).mono ?_; rintro e w1 ⟨rfl, hb1⟩; have hbz : Below w.heap.size w w1 := hb0.trans (hb1.mono hb0.size); have u0 : w1.cell? ⟨w.heap.size, 0, none⟩ = some (.slice xr rn xrc) := cell_later hb1 (by go_simp); have u1 : w1.cell? ⟨w.heap.size, 1, none⟩ = some (.int .i64 gn) := cell_later hb1 (by go_simp); have u2 : w1.cell? ⟨w.heap.size, 2, none⟩ = some (.slice xb bn xbc) := cell_later hb1 (by go_simp))
      have uO := cell_later hbz hO
      have uG := cell_later hbz hG
      have uP := cell_later hbz hP
      have uC := cell_later hbz hC
      refine wp_region_held_drew (S := (fun w' => w'.cell? ⟨w.heap.size, 0, none⟩ = some (.slice xr rn xrc) ∧ w'.cell? ⟨w.heap.size, 1, none⟩ = some (.int .i64 gn) ∧ w'.cell? ⟨w.heap.size, 2, none⟩ = some (.slice xb bn xbc) ∧ w'.cell? ⟨O, 0, none⟩ = some (.slice oa on oc) ∧ w'.cell? ⟨G, 0, none⟩ = some (.slice ga gl gc) ∧ w'.cell? ⟨PB, 12, none⟩ = some (.slice pa an pac) ∧ w'.cell? ⟨C, 0, none⟩ = some (.slice ca cn cc))) (by kernel_rfl) ⟨by go_simp, by go_simp, by go_simp, by go_simp, by go_simp, by go_simp, by go_simp⟩ (fun hHeld => ?_)
      refine takeJ 0 (some 17) hHeld ?_
      refine takeJ 1 (some 18) hHeld ?_
      refine takeJ 2 (some 19) hHeld ?_
      refine takeJ 3 (some 20) hHeld ?_
      refine takeJ 4 (some 21) hHeld ?_
      refine takeJ 5 (some 22) hHeld ?_
      refine wpAnyH_ready (rs := [6]) (by kernel_rfl) (by simp) ?_
      refine AllReadyH.cons rfl (fun K hK => ?_) AllReadyH.nil
      go_simp
      refine (KT.out _ hbz.drew).mono ?_
      rintro e y1 ⟨rfl, hy1⟩
      have hq1 : Below w.heap.size w y1 := hbz.drew.trans (hy1.mono hbz.drew.size)
      go_wp2_with fail
      refine hK.out _ _ ⟨cell_later hy1 hHeld.1, cell_later hy1 hHeld.2.1, cell_later hy1 hHeld.2.2.1, cell_later hy1 hHeld.2.2.2.1, cell_later hy1 hHeld.2.2.2.2.1, cell_later hy1 hHeld.2.2.2.2.2.1, cell_later hy1 hHeld.2.2.2.2.2.2⟩ (fun hHeld => ?_)
      clear hK K
      try simp only [Act.put, List.setIfInBounds_toArray, List.set_cons_zero, List.set_cons_succ]
      refine takeJ 7 (some 24) hHeld ?_
      refine takeJ 8 (some 25) hHeld ?_
      refine skipJ 9 (some 26) hHeld ?_
      refine skipJ 10 (some 27) hHeld ?_
      refine skipJ 11 (some 28) hHeld ?_
      refine takeJ 12 (some 29) hHeld ?_
      refine takeJ 13 (some 30) hHeld ?_
      refine skipJ 14 (some 31) hHeld ?_
      refine skipJ 15 (some 32) hHeld ?_
      refine skipJ 16 (some 33) hHeld ?_
      refine takeJ 17 (some 34) hHeld ?_
      refine takeJ 18 (some 35) hHeld ?_
      refine skipJ 19 (some 36) hHeld ?_
      refine skipJ 20 (some 37) hHeld ?_
      refine skipJ 21 (some 38) hHeld ?_
      refine skipJ 22 (some 39) hHeld ?_
      refine skipJ 23 (some 40) hHeld ?_
      refine skipJ 24 (some 41) hHeld ?_
      refine skipJ 25 (some 42) hHeld ?_
      refine skipJ 26 (some 43) hHeld ?_
      refine skipJ 27 (some 44) hHeld ?_
      refine skipJ 28 (some 45) hHeld ?_
      refine skipJ 29 (some 46) hHeld ?_
      refine skipJ 30 (some 47) hHeld ?_
      refine skipJ 31 (some 48) hHeld ?_
      refine skipJ 32 (some 49) hHeld ?_
      refine takeJ 33 (some 50) hHeld ?_
      refine takeJ 34 (some 51) hHeld ?_
      refine skipJ 35 (some 52) hHeld ?_
      refine skipJ 36 (some 53) hHeld ?_
      refine skipJ 37 (some 54) hHeld ?_
      refine skipJ 38 (some 55) hHeld ?_
      refine skipJ 39 (some 56) hHeld ?_
      refine takeJ 40 (some 57) hHeld ?_
      refine takeJ 41 (some 8) hHeld ?_
      refine wpAnyH_done (by kernel_rfl) ?_ _
      go_wp2
      go_ret
      exact ⟨ret_bool HE.out, hq1⟩
    | true =>
      by_cases h1 : 1 ≤ gn
      · have B1 := leq_is (x := 1) (y := gn) true (by simpa using h1)
        by_cases h2 : gn ≤ 1073741824
        · have B2 := leq_is (x := gn) (y := 1073741824) true (by simpa using h2)
          by_cases h9 : i = 0
          · have HE : Hid (BB = R) := by show _ = _; rw [← HR.out]; simp [h1, h2, h9]
            have B3 := eql_is (x := (i : Int)) (y := 0) true (by simp; omega)
            clear h9
            go_enter Tryz.func74, Tryz.ntmps74
            go_wp2_with (go_at_call 51; refine (KK.out _ hb0).mono ?_; rintro e w1 ⟨rfl, hb1⟩; have hbz : Below w.heap.size w w1 := hb0.trans (hb1.mono hb0.size); have u0 : w1.cell? ⟨w.heap.size, 0, none⟩ = some (.slice xr rn xrc) := cell_later hb1 (by go_simp); have u1 : w1.cell? ⟨w.heap.size, 1, none⟩ = some (.int .i64 gn) := cell_later hb1 (by go_simp); have u2 : w1.cell? ⟨w.heap.size, 2, none⟩ = some (.slice xb bn xbc) := cell_later hb1 (by go_simp))
            have uO := cell_later hbz hO
            have uG := cell_later hbz hG
            have uP := cell_later hbz hP
            have uC := cell_later hbz hC
            refine wp_region_held_drew (S := (fun w' => w'.cell? ⟨w.heap.size, 0, none⟩ = some (.slice xr rn xrc) ∧ w'.cell? ⟨w.heap.size, 1, none⟩ = some (.int .i64 gn) ∧ w'.cell? ⟨w.heap.size, 2, none⟩ = some (.slice xb bn xbc) ∧ w'.cell? ⟨O, 0, none⟩ = some (.slice oa on oc) ∧ w'.cell? ⟨G, 0, none⟩ = some (.slice ga gl gc) ∧ w'.cell? ⟨PB, 12, none⟩ = some (.slice pa an pac) ∧ w'.cell? ⟨C, 0, none⟩ = some (.slice ca cn cc))) (by kernel_rfl) ⟨by go_simp, by go_simp, by go_simp, by go_simp, by go_simp, by go_simp, by go_simp⟩ (fun hHeld => ?_)
            refine takeJ 0 (some 17) hHeld ?_
            refine takeJ 1 (some 18) hHeld ?_
            refine takeJ 2 (some 19) hHeld ?_
            refine takeJ 3 (some 20) hHeld ?_
            refine takeJ 4 (some 21) hHeld ?_
            refine takeJ 5 (some 22) hHeld ?_
            refine wpAnyH_ready (rs := [6]) (by kernel_rfl) (by simp) ?_
            refine AllReadyH.cons rfl (fun K hK => ?_) AllReadyH.nil
            go_simp
            refine (KT.out _ hbz.drew).mono ?_
            rintro e y1 ⟨rfl, hy1⟩
            have hq1 : Below w.heap.size w y1 := hbz.drew.trans (hy1.mono hbz.drew.size)
            go_wp2_with fail
            refine hK.out _ _ ⟨cell_later hy1 hHeld.1, cell_later hy1 hHeld.2.1, cell_later hy1 hHeld.2.2.1, cell_later hy1 hHeld.2.2.2.1, cell_later hy1 hHeld.2.2.2.2.1, cell_later hy1 hHeld.2.2.2.2.2.1, cell_later hy1 hHeld.2.2.2.2.2.2⟩ (fun hHeld => ?_)
            clear hK K
            try simp only [Act.put, List.setIfInBounds_toArray, List.set_cons_zero, List.set_cons_succ]
            refine takeJ 7 (some 24) hHeld ?_
            refine takeJ 8 (some 25) hHeld ?_
            refine takeJ 9 (some 26) hHeld ?_
            refine takeJ 10 (some 27) hHeld ?_
            refine takeJ 11 (some 28) hHeld ?_
            refine takeJ 12 (some 29) hHeld ?_
            refine takeJ 13 (some 30) hHeld ?_
            refine takeJ 14 (some 31) hHeld ?_
            refine takeJ 15 (some 32) hHeld ?_
            refine takeJ 16 (some 33) hHeld ?_
            refine takeJ 17 (some 34) hHeld ?_
            refine takeJ 18 (some 35) hHeld ?_
            refine takeJ 19 (some 36) hHeld ?_
            refine takeJ 20 (some 37) hHeld ?_
            refine takeJ 21 (some 38) hHeld ?_
            refine skipJ 22 (some 39) hHeld ?_
            refine skipJ 23 (some 40) hHeld ?_
            refine skipJ 24 (some 41) hHeld ?_
            refine skipJ 25 (some 42) hHeld ?_
            refine skipJ 26 (some 43) hHeld ?_
            refine skipJ 27 (some 44) hHeld ?_
            refine skipJ 28 (some 45) hHeld ?_
            refine skipJ 29 (some 46) hHeld ?_
            refine skipJ 30 (some 47) hHeld ?_
            refine skipJ 31 (some 48) hHeld ?_
            refine takeJ 32 (some 49) hHeld ?_
            refine takeJ 33 (some 50) hHeld ?_
            refine takeJ 34 (some 51) hHeld ?_
            refine takeJ 35 (some 52) hHeld ?_
            refine takeJ 36 (some 53) hHeld ?_
            refine takeJ 37 (some 54) hHeld ?_
            refine takeJ 38 (some 55) hHeld ?_
            refine wpAnyH_ready (rs := [39]) (by kernel_rfl) (by simp) ?_
            refine AllReadyH.cons rfl (fun K hK => ?_) AllReadyH.nil
            go_simp
            refine (KB.out _ hq1).mono ?_
            rintro e y2 ⟨rfl, hy2⟩
            have hq2 : Below w.heap.size w y2 := hq1.trans (hy2.mono hq1.size)
            go_wp2_with fail
            refine hK.out _ _ ⟨cell_later hy2 hHeld.1, cell_later hy2 hHeld.2.1, cell_later hy2 hHeld.2.2.1, cell_later hy2 hHeld.2.2.2.1, cell_later hy2 hHeld.2.2.2.2.1, cell_later hy2 hHeld.2.2.2.2.2.1, cell_later hy2 hHeld.2.2.2.2.2.2⟩ (fun hHeld => ?_)
            clear hK K
            try simp only [Act.put, List.setIfInBounds_toArray, List.set_cons_zero, List.set_cons_succ]
            refine takeJ 40 (some 57) hHeld ?_
            refine takeJ 41 (some 8) hHeld ?_
            refine wpAnyH_done (by kernel_rfl) ?_ _
            go_wp2
            go_ret
            exact ⟨ret_bool HE.out, hq2⟩
          · obtain ⟨j, hj⟩ : ∃ j, i = j + 1 := ⟨i - 1, by omega⟩
            obtain ⟨gb, gof, e9, x9⟩ := HPV.out j hj
            subst e9
            have KR2 : Hid (∀ w1, Below w.heap.size w w1 → Calls Tryz.prog 76 #[.slice (xs.getD j default).r (gs.getD j default).row.length (xs.getD j default).rc, .slice xr rn xrc] w1 fun e w' => e = .returned (.int .i64 (cmpRows (gs.getD j default).row g.row)) ∧ Below w1.heap.size w1 w') := fun w1 hb => KR.out j w1 hj hb
            have hij : i - 1 = j := by omega
            rw [hij] at HR
            obtain ⟨CV, hCV⟩ : ∃ z, cmpRows (gs.getD j default).row g.row = z := ⟨_, rfl⟩
            rw [hCV] at KR2 HR
            obtain ⟨⟨pr, prc, _, _, _⟩, hq⟩ : ∃ z, xs.getD j default = z := ⟨_, rfl⟩
            obtain ⟨pn, hpn⟩ : ∃ z, (gs.getD j default).row.length = z := ⟨_, rfl⟩
            rw [hq, hpn] at KR2 x9
            dsimp only at KR2 x9
            have B3 := eql_is (x := (i : Int)) (y := 0) false (by simp; omega)
            have i3 : IntKind.i64.wrap ((i : Int) - 1) = (j : Int) := by rw [IntKind.wrap_i64]; omega
            have j1 : (0 : Int) ≤ (j : Int) := by omega
            have j2 : (j : Int) < (gl : Int) := by omega
            by_cases h3 : CV < 0
            · have HE : Hid (BB = R) := by show _ = _; rw [← HR.out]; simp [h1, h2, h3]
              have B4 := lss_is (x := CV) (y := 0) true (by simpa using h3)
              clear hCV hq hpn KR HPV hij hj h9
              go_enter Tryz.func74, Tryz.ntmps74
              go_wp2_with (go_at_call 51; refine (KK.out _ hb0).mono ?_; rintro e w1 ⟨rfl, hb1⟩; have hbz : Below w.heap.size w w1 := hb0.trans (hb1.mono hb0.size); have u0 : w1.cell? ⟨w.heap.size, 0, none⟩ = some (.slice xr rn xrc) := cell_later hb1 (by go_simp); have u1 : w1.cell? ⟨w.heap.size, 1, none⟩ = some (.int .i64 gn) := cell_later hb1 (by go_simp); have u2 : w1.cell? ⟨w.heap.size, 2, none⟩ = some (.slice xb bn xbc) := cell_later hb1 (by go_simp))
              have uO := cell_later hbz hO
              have uG := cell_later hbz hG
              have uP := cell_later hbz hP
              have uC := cell_later hbz hC
              have uV := cell_later hbz x9
              refine wp_region_held_drew (S := (fun w' => w'.cell? ⟨w.heap.size, 0, none⟩ = some (.slice xr rn xrc) ∧ w'.cell? ⟨w.heap.size, 1, none⟩ = some (.int .i64 gn) ∧ w'.cell? ⟨w.heap.size, 2, none⟩ = some (.slice xb bn xbc) ∧ w'.cell? ⟨O, 0, none⟩ = some (.slice oa on oc) ∧ w'.cell? ⟨G, 0, none⟩ = some (.slice (some ⟨gb, gof, none⟩) gl gc) ∧ w'.cell? ⟨PB, 12, none⟩ = some (.slice pa an pac) ∧ w'.cell? ⟨C, 0, none⟩ = some (.slice ca cn cc) ∧ w'.cell? ⟨gb, gof + j * 3, none⟩ = some (.slice pr pn prc))) (by kernel_rfl) ⟨by go_simp, by go_simp, by go_simp, by go_simp, by go_simp, by go_simp, by go_simp, by go_simp⟩ (fun hHeld => ?_)
              refine takeJ 0 (some 17) hHeld ?_
              refine takeJ 1 (some 18) hHeld ?_
              refine takeJ 2 (some 19) hHeld ?_
              refine takeJ 3 (some 20) hHeld ?_
              refine takeJ 4 (some 21) hHeld ?_
              refine takeJ 5 (some 22) hHeld ?_
              refine wpAnyH_ready (rs := [6]) (by kernel_rfl) (by simp) ?_
              refine AllReadyH.cons rfl (fun K hK => ?_) AllReadyH.nil
              go_simp
              refine (KT.out _ hbz.drew).mono ?_
              rintro e y1 ⟨rfl, hy1⟩
              have hq1 : Below w.heap.size w y1 := hbz.drew.trans (hy1.mono hbz.drew.size)
              go_wp2_with fail
              refine hK.out _ _ ⟨cell_later hy1 hHeld.1, cell_later hy1 hHeld.2.1, cell_later hy1 hHeld.2.2.1, cell_later hy1 hHeld.2.2.2.1, cell_later hy1 hHeld.2.2.2.2.1, cell_later hy1 hHeld.2.2.2.2.2.1, cell_later hy1 hHeld.2.2.2.2.2.2.1, cell_later hy1 hHeld.2.2.2.2.2.2.2⟩ (fun hHeld => ?_)
              clear hK K
              try simp only [Act.put, List.setIfInBounds_toArray, List.set_cons_zero, List.set_cons_succ]
              refine takeJ 7 (some 24) hHeld ?_
              refine takeJ 8 (some 25) hHeld ?_
              refine takeJ 9 (some 26) hHeld ?_
              refine takeJ 10 (some 27) hHeld ?_
              refine takeJ 11 (some 28) hHeld ?_
              refine takeJ 12 (some 29) hHeld ?_
              refine takeJ 13 (some 30) hHeld ?_
              refine takeJ 14 (some 31) hHeld ?_
              refine takeJ 15 (some 32) hHeld ?_
              refine takeJ 16 (some 33) hHeld ?_
              refine takeJ 17 (some 34) hHeld ?_
              refine takeJ 18 (some 35) hHeld ?_
              refine takeJ 19 (some 36) hHeld ?_
              refine takeJ 20 (some 37) hHeld ?_
              refine takeJ 21 (some 38) hHeld ?_
              refine takeJ 22 (some 39) hHeld ?_
              refine takeJ 23 (some 40) hHeld ?_
              refine takeJ 24 (some 41) hHeld ?_
              refine takeJ 25 (some 42) hHeld ?_
              refine takeJ 26 (some 43) hHeld ?_
              refine takeJ 27 (some 44) hHeld ?_
              refine takeJ 28 (some 45) hHeld ?_
              refine takeJ 29 (some 46) hHeld ?_
              refine wpAnyH_ready (rs := [30]) (by kernel_rfl) (by simp) ?_
              refine AllReadyH.cons rfl (fun K hK => ?_) AllReadyH.nil
              go_simp
              refine (KR2.out _ hq1).mono ?_
              rintro e y2 ⟨rfl, hy2⟩
              have hq2 : Below w.heap.size w y2 := hq1.trans (hy2.mono hq1.size)
              go_wp2_with fail
              refine hK.out _ _ ⟨cell_later hy2 hHeld.1, cell_later hy2 hHeld.2.1, cell_later hy2 hHeld.2.2.1, cell_later hy2 hHeld.2.2.2.1, cell_later hy2 hHeld.2.2.2.2.1, cell_later hy2 hHeld.2.2.2.2.2.1, cell_later hy2 hHeld.2.2.2.2.2.2.1, cell_later hy2 hHeld.2.2.2.2.2.2.2⟩ (fun hHeld => ?_)
              clear hK K
              try simp only [Act.put, List.setIfInBounds_toArray, List.set_cons_zero, List.set_cons_succ]
              refine takeJ 31 (some 48) hHeld ?_
              refine takeJ 32 (some 49) hHeld ?_
              refine takeJ 33 (some 50) hHeld ?_
              refine takeJ 34 (some 51) hHeld ?_
              refine takeJ 35 (some 52) hHeld ?_
              refine takeJ 36 (some 53) hHeld ?_
              refine takeJ 37 (some 54) hHeld ?_
              refine takeJ 38 (some 55) hHeld ?_
              refine wpAnyH_ready (rs := [39]) (by kernel_rfl) (by simp) ?_
              refine AllReadyH.cons rfl (fun K hK => ?_) AllReadyH.nil
              go_simp
              refine (KB.out _ hq2).mono ?_
              rintro e y3 ⟨rfl, hy3⟩
              have hq3 : Below w.heap.size w y3 := hq2.trans (hy3.mono hq2.size)
              go_wp2_with fail
              refine hK.out _ _ ⟨cell_later hy3 hHeld.1, cell_later hy3 hHeld.2.1, cell_later hy3 hHeld.2.2.1, cell_later hy3 hHeld.2.2.2.1, cell_later hy3 hHeld.2.2.2.2.1, cell_later hy3 hHeld.2.2.2.2.2.1, cell_later hy3 hHeld.2.2.2.2.2.2.1, cell_later hy3 hHeld.2.2.2.2.2.2.2⟩ (fun hHeld => ?_)
              clear hK K
              try simp only [Act.put, List.setIfInBounds_toArray, List.set_cons_zero, List.set_cons_succ]
              refine takeJ 40 (some 57) hHeld ?_
              refine takeJ 41 (some 8) hHeld ?_
              refine wpAnyH_done (by kernel_rfl) ?_ _
              go_wp2
              go_ret
              exact ⟨ret_bool HE.out, hq3⟩
            · have HE : Hid (false = R) := by show _ = _; rw [← HR.out]; simp [h3, h9]
              have B4 := lss_is (x := CV) (y := 0) false (by simpa using h3)
              clear hCV hq hpn KR HPV hij hj h9
              go_enter Tryz.func74, Tryz.ntmps74
              go_wp2_with (go_at_call 51; refine (KK.out _ hb0).mono ?_; rintro e w1 ⟨rfl, hb1⟩; have hbz : Below w.heap.size w w1 := hb0.trans (hb1.mono hb0.size); have u0 : w1.cell? ⟨w.heap.size, 0, none⟩ = some (.slice xr rn xrc) := cell_later hb1 (by go_simp); have u1 : w1.cell? ⟨w.heap.size, 1, none⟩ = some (.int .i64 gn) := cell_later hb1 (by go_simp); have u2 : w1.cell? ⟨w.heap.size, 2, none⟩ = some (.slice xb bn xbc) := cell_later hb1 (by go_simp))
              have uO := cell_later hbz hO
              have uG := cell_later hbz hG
              have uP := cell_later hbz hP
              have uC := cell_later hbz hC
              have uV := cell_later hbz x9
              refine wp_region_held_drew (S := (fun w' => w'.cell? ⟨w.heap.size, 0, none⟩ = some (.slice xr rn xrc) ∧ w'.cell? ⟨w.heap.size, 1, none⟩ = some (.int .i64 gn) ∧ w'.cell? ⟨w.heap.size, 2, none⟩ = some (.slice xb bn xbc) ∧ w'.cell? ⟨O, 0, none⟩ = some (.slice oa on oc) ∧ w'.cell? ⟨G, 0, none⟩ = some (.slice (some ⟨gb, gof, none⟩) gl gc) ∧ w'.cell? ⟨PB, 12, none⟩ = some (.slice pa an pac) ∧ w'.cell? ⟨C, 0, none⟩ = some (.slice ca cn cc) ∧ w'.cell? ⟨gb, gof + j * 3, none⟩ = some (.slice pr pn prc))) (by kernel_rfl) ⟨by go_simp, by go_simp, by go_simp, by go_simp, by go_simp, by go_simp, by go_simp, by go_simp⟩ (fun hHeld => ?_)
              refine takeJ 0 (some 17) hHeld ?_
              refine takeJ 1 (some 18) hHeld ?_
              refine takeJ 2 (some 19) hHeld ?_
              refine takeJ 3 (some 20) hHeld ?_
              refine takeJ 4 (some 21) hHeld ?_
              refine takeJ 5 (some 22) hHeld ?_
              refine wpAnyH_ready (rs := [6]) (by kernel_rfl) (by simp) ?_
              refine AllReadyH.cons rfl (fun K hK => ?_) AllReadyH.nil
              go_simp
              refine (KT.out _ hbz.drew).mono ?_
              rintro e y1 ⟨rfl, hy1⟩
              have hq1 : Below w.heap.size w y1 := hbz.drew.trans (hy1.mono hbz.drew.size)
              go_wp2_with fail
              refine hK.out _ _ ⟨cell_later hy1 hHeld.1, cell_later hy1 hHeld.2.1, cell_later hy1 hHeld.2.2.1, cell_later hy1 hHeld.2.2.2.1, cell_later hy1 hHeld.2.2.2.2.1, cell_later hy1 hHeld.2.2.2.2.2.1, cell_later hy1 hHeld.2.2.2.2.2.2.1, cell_later hy1 hHeld.2.2.2.2.2.2.2⟩ (fun hHeld => ?_)
              clear hK K
              try simp only [Act.put, List.setIfInBounds_toArray, List.set_cons_zero, List.set_cons_succ]
              refine takeJ 7 (some 24) hHeld ?_
              refine takeJ 8 (some 25) hHeld ?_
              refine takeJ 9 (some 26) hHeld ?_
              refine takeJ 10 (some 27) hHeld ?_
              refine takeJ 11 (some 28) hHeld ?_
              refine takeJ 12 (some 29) hHeld ?_
              refine takeJ 13 (some 30) hHeld ?_
              refine takeJ 14 (some 31) hHeld ?_
              refine takeJ 15 (some 32) hHeld ?_
              refine takeJ 16 (some 33) hHeld ?_
              refine takeJ 17 (some 34) hHeld ?_
              refine takeJ 18 (some 35) hHeld ?_
              refine takeJ 19 (some 36) hHeld ?_
              refine takeJ 20 (some 37) hHeld ?_
              refine takeJ 21 (some 38) hHeld ?_
              refine takeJ 22 (some 39) hHeld ?_
              refine takeJ 23 (some 40) hHeld ?_
              refine takeJ 24 (some 41) hHeld ?_
              refine takeJ 25 (some 42) hHeld ?_
              refine takeJ 26 (some 43) hHeld ?_
              refine takeJ 27 (some 44) hHeld ?_
              refine takeJ 28 (some 45) hHeld ?_
              refine takeJ 29 (some 46) hHeld ?_
              refine wpAnyH_ready (rs := [30]) (by kernel_rfl) (by simp) ?_
              refine AllReadyH.cons rfl (fun K hK => ?_) AllReadyH.nil
              go_simp
              refine (KR2.out _ hq1).mono ?_
              rintro e y2 ⟨rfl, hy2⟩
              have hq2 : Below w.heap.size w y2 := hq1.trans (hy2.mono hq1.size)
              go_wp2_with fail
              refine hK.out _ _ ⟨cell_later hy2 hHeld.1, cell_later hy2 hHeld.2.1, cell_later hy2 hHeld.2.2.1, cell_later hy2 hHeld.2.2.2.1, cell_later hy2 hHeld.2.2.2.2.1, cell_later hy2 hHeld.2.2.2.2.2.1, cell_later hy2 hHeld.2.2.2.2.2.2.1, cell_later hy2 hHeld.2.2.2.2.2.2.2⟩ (fun hHeld => ?_)
              clear hK K
              try simp only [Act.put, List.setIfInBounds_toArray, List.set_cons_zero, List.set_cons_succ]
              refine takeJ 31 (some 48) hHeld ?_
              refine takeJ 32 (some 49) hHeld ?_
              refine takeJ 33 (some 50) hHeld ?_
              refine takeJ 34 (some 51) hHeld ?_
              refine skipJ 35 (some 52) hHeld ?_
              refine skipJ 36 (some 53) hHeld ?_
              refine skipJ 37 (some 54) hHeld ?_
              refine skipJ 38 (some 55) hHeld ?_
              refine skipJ 39 (some 56) hHeld ?_
              refine takeJ 40 (some 57) hHeld ?_
              refine takeJ 41 (some 8) hHeld ?_
              refine wpAnyH_done (by kernel_rfl) ?_ _
              go_wp2
              go_ret
              exact ⟨ret_bool HE.out, hq2⟩
        · have HE : Hid (false = R) := by show _ = _; rw [← HR.out]; simp [h2]
          have B2 := leq_is (x := gn) (y := 1073741824) false (by simpa using h2)
          go_enter Tryz.func74, Tryz.ntmps74
          go_wp2_with (go_at_call 51; refine (KK.out _ hb0).mono ?_; rintro e w1 ⟨rfl, hb1⟩; have hbz : Below w.heap.size w w1 := hb0.trans (hb1.mono hb0.size); have u0 : w1.cell? ⟨w.heap.size, 0, none⟩ = some (.slice xr rn xrc) := cell_later hb1 (by go_simp); have u1 : w1.cell? ⟨w.heap.size, 1, none⟩ = some (.int .i64 gn) := cell_later hb1 (by go_simp); have u2 : w1.cell? ⟨w.heap.size, 2, none⟩ = some (.slice xb bn xbc) := cell_later hb1 (by go_simp))
          have uO := cell_later hbz hO
          have uG := cell_later hbz hG
          have uP := cell_later hbz hP
          have uC := cell_later hbz hC
          refine wp_region_held_drew (S := (fun w' => w'.cell? ⟨w.heap.size, 0, none⟩ = some (.slice xr rn xrc) ∧ w'.cell? ⟨w.heap.size, 1, none⟩ = some (.int .i64 gn) ∧ w'.cell? ⟨w.heap.size, 2, none⟩ = some (.slice xb bn xbc) ∧ w'.cell? ⟨O, 0, none⟩ = some (.slice oa on oc) ∧ w'.cell? ⟨G, 0, none⟩ = some (.slice ga gl gc) ∧ w'.cell? ⟨PB, 12, none⟩ = some (.slice pa an pac) ∧ w'.cell? ⟨C, 0, none⟩ = some (.slice ca cn cc))) (by kernel_rfl) ⟨by go_simp, by go_simp, by go_simp, by go_simp, by go_simp, by go_simp, by go_simp⟩ (fun hHeld => ?_)
          refine takeJ 0 (some 17) hHeld ?_
          refine takeJ 1 (some 18) hHeld ?_
          refine takeJ 2 (some 19) hHeld ?_
          refine takeJ 3 (some 20) hHeld ?_
          refine takeJ 4 (some 21) hHeld ?_
          refine takeJ 5 (some 22) hHeld ?_
          refine wpAnyH_ready (rs := [6]) (by kernel_rfl) (by simp) ?_
          refine AllReadyH.cons rfl (fun K hK => ?_) AllReadyH.nil
          go_simp
          refine (KT.out _ hbz.drew).mono ?_
          rintro e y1 ⟨rfl, hy1⟩
          have hq1 : Below w.heap.size w y1 := hbz.drew.trans (hy1.mono hbz.drew.size)
          go_wp2_with fail
          refine hK.out _ _ ⟨cell_later hy1 hHeld.1, cell_later hy1 hHeld.2.1, cell_later hy1 hHeld.2.2.1, cell_later hy1 hHeld.2.2.2.1, cell_later hy1 hHeld.2.2.2.2.1, cell_later hy1 hHeld.2.2.2.2.2.1, cell_later hy1 hHeld.2.2.2.2.2.2⟩ (fun hHeld => ?_)
          clear hK K
          try simp only [Act.put, List.setIfInBounds_toArray, List.set_cons_zero, List.set_cons_succ]
          refine takeJ 7 (some 24) hHeld ?_
          refine takeJ 8 (some 25) hHeld ?_
          refine takeJ 9 (some 26) hHeld ?_
          refine takeJ 10 (some 27) hHeld ?_
          refine takeJ 11 (some 28) hHeld ?_
          refine takeJ 12 (some 29) hHeld ?_
          refine takeJ 13 (some 30) hHeld ?_
          refine takeJ 14 (some 31) hHeld ?_
          refine takeJ 15 (some 32) hHeld ?_
          refine takeJ 16 (some 33) hHeld ?_
          refine takeJ 17 (some 34) hHeld ?_
          refine takeJ 18 (some 35) hHeld ?_
          refine skipJ 19 (some 36) hHeld ?_
          refine skipJ 20 (some 37) hHeld ?_
          refine skipJ 21 (some 38) hHeld ?_
          refine skipJ 22 (some 39) hHeld ?_
          refine skipJ 23 (some 40) hHeld ?_
          refine skipJ 24 (some 41) hHeld ?_
          refine skipJ 25 (some 42) hHeld ?_
          refine skipJ 26 (some 43) hHeld ?_
          refine skipJ 27 (some 44) hHeld ?_
          refine skipJ 28 (some 45) hHeld ?_
          refine skipJ 29 (some 46) hHeld ?_
          refine skipJ 30 (some 47) hHeld ?_
          refine skipJ 31 (some 48) hHeld ?_
          refine skipJ 32 (some 49) hHeld ?_
          refine takeJ 33 (some 50) hHeld ?_
          refine takeJ 34 (some 51) hHeld ?_
          refine skipJ 35 (some 52) hHeld ?_
          refine skipJ 36 (some 53) hHeld ?_
          refine skipJ 37 (some 54) hHeld ?_
          refine skipJ 38 (some 55) hHeld ?_
          refine skipJ 39 (some 56) hHeld ?_
          refine takeJ 40 (some 57) hHeld ?_
          refine takeJ 41 (some 8) hHeld ?_
          refine wpAnyH_done (by kernel_rfl) ?_ _
          go_wp2
          go_ret
          exact ⟨ret_bool HE.out, hq1⟩
      · have HE : Hid (false = R) := by show _ = _; rw [← HR.out]; simp [h1]
        have B1 := leq_is (x := 1) (y := gn) false (by simpa using h1)
        go_enter Tryz.func74, Tryz.ntmps74
        go_wp2_with (go_at_call 51; refine (KK.out _ hb0).mono ?_; rintro e w1 ⟨rfl, hb1⟩; have hbz : Below w.heap.size w w1 := hb0.trans (hb1.mono hb0.size); have u0 : w1.cell? ⟨w.heap.size, 0, none⟩ = some (.slice xr rn xrc) := cell_later hb1 (by go_simp); have u1 : w1.cell? ⟨w.heap.size, 1, none⟩ = some (.int .i64 gn) := cell_later hb1 (by go_simp); have u2 : w1.cell? ⟨w.heap.size, 2, none⟩ = some (.slice xb bn xbc) := cell_later hb1 (by go_simp))
        have uO := cell_later hbz hO
        have uG := cell_later hbz hG
        have uP := cell_later hbz hP
        have uC := cell_later hbz hC
        refine wp_region_held_drew (S := (fun w' => w'.cell? ⟨w.heap.size, 0, none⟩ = some (.slice xr rn xrc) ∧ w'.cell? ⟨w.heap.size, 1, none⟩ = some (.int .i64 gn) ∧ w'.cell? ⟨w.heap.size, 2, none⟩ = some (.slice xb bn xbc) ∧ w'.cell? ⟨O, 0, none⟩ = some (.slice oa on oc) ∧ w'.cell? ⟨G, 0, none⟩ = some (.slice ga gl gc) ∧ w'.cell? ⟨PB, 12, none⟩ = some (.slice pa an pac) ∧ w'.cell? ⟨C, 0, none⟩ = some (.slice ca cn cc))) (by kernel_rfl) ⟨by go_simp, by go_simp, by go_simp, by go_simp, by go_simp, by go_simp, by go_simp⟩ (fun hHeld => ?_)
        refine takeJ 0 (some 17) hHeld ?_
        refine takeJ 1 (some 18) hHeld ?_
        refine takeJ 2 (some 19) hHeld ?_
        refine takeJ 3 (some 20) hHeld ?_
        refine takeJ 4 (some 21) hHeld ?_
        refine takeJ 5 (some 22) hHeld ?_
        refine wpAnyH_ready (rs := [6]) (by kernel_rfl) (by simp) ?_
        refine AllReadyH.cons rfl (fun K hK => ?_) AllReadyH.nil
        go_simp
        refine (KT.out _ hbz.drew).mono ?_
        rintro e y1 ⟨rfl, hy1⟩
        have hq1 : Below w.heap.size w y1 := hbz.drew.trans (hy1.mono hbz.drew.size)
        go_wp2_with fail
        refine hK.out _ _ ⟨cell_later hy1 hHeld.1, cell_later hy1 hHeld.2.1, cell_later hy1 hHeld.2.2.1, cell_later hy1 hHeld.2.2.2.1, cell_later hy1 hHeld.2.2.2.2.1, cell_later hy1 hHeld.2.2.2.2.2.1, cell_later hy1 hHeld.2.2.2.2.2.2⟩ (fun hHeld => ?_)
        clear hK K
        try simp only [Act.put, List.setIfInBounds_toArray, List.set_cons_zero, List.set_cons_succ]
        refine takeJ 7 (some 24) hHeld ?_
        refine takeJ 8 (some 25) hHeld ?_
        refine takeJ 9 (some 26) hHeld ?_
        refine takeJ 10 (some 27) hHeld ?_
        refine takeJ 11 (some 28) hHeld ?_
        refine takeJ 12 (some 29) hHeld ?_
        refine takeJ 13 (some 30) hHeld ?_
        refine skipJ 14 (some 31) hHeld ?_
        refine skipJ 15 (some 32) hHeld ?_
        refine skipJ 16 (some 33) hHeld ?_
        refine takeJ 17 (some 34) hHeld ?_
        refine takeJ 18 (some 35) hHeld ?_
        refine skipJ 19 (some 36) hHeld ?_
        refine skipJ 20 (some 37) hHeld ?_
        refine skipJ 21 (some 38) hHeld ?_
        refine skipJ 22 (some 39) hHeld ?_
        refine skipJ 23 (some 40) hHeld ?_
        refine skipJ 24 (some 41) hHeld ?_
        refine skipJ 25 (some 42) hHeld ?_
        refine skipJ 26 (some 43) hHeld ?_
        refine skipJ 27 (some 44) hHeld ?_
        refine skipJ 28 (some 45) hHeld ?_
        refine skipJ 29 (some 46) hHeld ?_
        refine skipJ 30 (some 47) hHeld ?_
        refine skipJ 31 (some 48) hHeld ?_
        refine skipJ 32 (some 49) hHeld ?_
        refine takeJ 33 (some 50) hHeld ?_
        refine takeJ 34 (some 51) hHeld ?_
        refine skipJ 35 (some 52) hHeld ?_
        refine skipJ 36 (some 53) hHeld ?_
        refine skipJ 37 (some 54) hHeld ?_
        refine skipJ 38 (some 55) hHeld ?_
        refine skipJ 39 (some 56) hHeld ?_
        refine takeJ 40 (some 57) hHeld ?_
        refine takeJ 41 (some 8) hHeld ?_
        refine wpAnyH_done (by kernel_rfl) ?_ _
        go_wp2
        go_ret
        exact ⟨ret_bool HE.out, hq1⟩
  · have h0' : (E == 0) = false := by simpa using h0
    have HE : Hid (false = R) := by show _ = _; rw [← HR.out]; simp [h0]
    go_enter Tryz.func74, Tryz.ntmps74
    go_wp2_with (go_at_call 51; refine (KK.out _ hb0).mono ?_; rintro e w1 ⟨rfl, hb1⟩; have hbz : Below w.heap.size w w1 := hb0.trans (hb1.mono hb0.size); have u0 : w1.cell? ⟨w.heap.size, 0, none⟩ = some (.slice xr rn xrc) := cell_later hb1 (by go_simp); have u1 : w1.cell? ⟨w.heap.size, 1, none⟩ = some (.int .i64 gn) := cell_later hb1 (by go_simp); have u2 : w1.cell? ⟨w.heap.size, 2, none⟩ = some (.slice xb bn xbc) := cell_later hb1 (by go_simp))
    have uO := cell_later hbz hO
    have uG := cell_later hbz hG
    have uP := cell_later hbz hP
    have uC := cell_later hbz hC
    refine wp_region_held_drew (S := (fun w' => w'.cell? ⟨w.heap.size, 0, none⟩ = some (.slice xr rn xrc) ∧ w'.cell? ⟨w.heap.size, 1, none⟩ = some (.int .i64 gn) ∧ w'.cell? ⟨w.heap.size, 2, none⟩ = some (.slice xb bn xbc) ∧ w'.cell? ⟨O, 0, none⟩ = some (.slice oa on oc) ∧ w'.cell? ⟨G, 0, none⟩ = some (.slice ga gl gc) ∧ w'.cell? ⟨PB, 12, none⟩ = some (.slice pa an pac) ∧ w'.cell? ⟨C, 0, none⟩ = some (.slice ca cn cc))) (by kernel_rfl) ⟨by go_simp, by go_simp, by go_simp, by go_simp, by go_simp, by go_simp, by go_simp⟩ (fun hHeld => ?_)
    refine takeJ 0 (some 17) hHeld ?_
    refine takeJ 1 (some 18) hHeld ?_
    refine takeJ 2 (some 19) hHeld ?_
    refine skipJ 3 (some 20) hHeld ?_
    refine skipJ 4 (some 21) hHeld ?_
    refine skipJ 5 (some 22) hHeld ?_
    refine skipJ 6 (some 23) hHeld ?_
    refine takeJ 7 (some 24) hHeld ?_
    refine takeJ 8 (some 25) hHeld ?_
    refine skipJ 9 (some 26) hHeld ?_
    refine skipJ 10 (some 27) hHeld ?_
    refine skipJ 11 (some 28) hHeld ?_
    refine takeJ 12 (some 29) hHeld ?_
    refine takeJ 13 (some 30) hHeld ?_
    refine skipJ 14 (some 31) hHeld ?_
    refine skipJ 15 (some 32) hHeld ?_
    refine skipJ 16 (some 33) hHeld ?_
    refine takeJ 17 (some 34) hHeld ?_
    refine takeJ 18 (some 35) hHeld ?_
    refine skipJ 19 (some 36) hHeld ?_
    refine skipJ 20 (some 37) hHeld ?_
    refine skipJ 21 (some 38) hHeld ?_
    refine skipJ 22 (some 39) hHeld ?_
    refine skipJ 23 (some 40) hHeld ?_
    refine skipJ 24 (some 41) hHeld ?_
    refine skipJ 25 (some 42) hHeld ?_
    refine skipJ 26 (some 43) hHeld ?_
    refine skipJ 27 (some 44) hHeld ?_
    refine skipJ 28 (some 45) hHeld ?_
    refine skipJ 29 (some 46) hHeld ?_
    refine skipJ 30 (some 47) hHeld ?_
    refine skipJ 31 (some 48) hHeld ?_
    refine skipJ 32 (some 49) hHeld ?_
    refine takeJ 33 (some 50) hHeld ?_
    refine takeJ 34 (some 51) hHeld ?_
    refine skipJ 35 (some 52) hHeld ?_
    refine skipJ 36 (some 53) hHeld ?_
    refine skipJ 37 (some 54) hHeld ?_
    refine skipJ 38 (some 55) hHeld ?_
    refine skipJ 39 (some 56) hHeld ?_
    refine takeJ 40 (some 57) hHeld ?_
    refine takeJ 41 (some 8) hHeld ?_
    refine wpAnyH_done (by kernel_rfl) ?_ _
    go_wp2
    go_ret
    exact ⟨ret_bool HE.out, hbz.drew⟩
end Go.Proofs.YtbfbgdinhiglaaaGreat.gr
