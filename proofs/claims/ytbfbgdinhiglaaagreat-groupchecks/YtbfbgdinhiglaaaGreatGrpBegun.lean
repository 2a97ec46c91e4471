/- groupBegun answers true. -/
import Derived.Test.YtbfbgdinhiglaaaGreatGrpStep1
import Derived.Test.YtbfbgdinhiglaaaGreatGrpView
import Derived.Test.YtbfbgdinhiglaaaGreatMgChgD
namespace Go.Proofs.YtbfbgdinhiglaaaGreat.gr
open Go.ChangeShapes Go.WideShapes Go.ChangeAt Go.RowKit
open vl pl bt
set_option linter.unusedVariables false
set_option linter.unusedSimpArgs false
theorem num_any (n : Int) (w : World) : Calls Tryz.prog 31 #[.int .i64 n] w fun e w' => e = .returned (.agg #[.int .i64 2, .int .i64 n, .string ⟨#[]⟩]) ∧ Below w.heap.size w w' := by
  go_enter Tryz.func31, Tryz.ntmps31
  go_wp2
  exact bodyPost_ret (v := .agg #[.int .i64 2, .int .i64 n, .string ⟨#[]⟩]) (by simp [results, Tryz.results31, go_sem]) rfl ⟨rfl, by repeat (first | exact Below.refl _ _ | apply Below.drew | (refine Below.setCell ?_ (by simp) _) | (refine Below.alloc ?_ (by simp <;> omega) _))⟩
theorem rowTwo {w : World} {b : Nat} {x y : Int} (h0 : w.cell? ⟨b, 0, none⟩ = some (.int .i64 2)) (h1 : w.cell? ⟨b, 1, none⟩ = some (.int .i64 x)) (h2 : w.cell? ⟨b, 2, none⟩ = some (.string ⟨#[]⟩)) (h3 : w.cell? ⟨b, 3, none⟩ = some (.int .i64 2)) (h4 : w.cell? ⟨b, 4, none⟩ = some (.int .i64 y)) (h5 : w.cell? ⟨b, 5, none⟩ = some (.string ⟨#[]⟩)) :
    vl.rowAt w (some ⟨b, 0, none⟩) [⟨2, x, ⟨#[]⟩⟩, ⟨2, y, ⟨#[]⟩⟩] := by
  intro i hi
  match i, hi with
  | 0, _ => exact ⟨b, 0, rfl, h0, h1, h2⟩
  | 1, _ => exact ⟨b, 0, rfl, h3, h4, h5⟩
theorem lawRow_any (x y : Int) (w : World) : Calls Tryz.prog 29 #[.int .i64 x, .int .i64 y] w fun e w' => (∃ ad, e = .returned (.slice ad 2 2) ∧ vl.rowAt w' ad [⟨2, x, ⟨#[]⟩⟩, ⟨2, y, ⟨#[]⟩⟩]) ∧ Below w.heap.size w w' := by
  go_enter Tryz.func29, Tryz.ntmps29
  go_wp2_with fail
  refine (num_any _ _).mono ?_
  rintro e w1 ⟨rfl, hb1⟩
  go_wp2_with fail
  refine (num_any _ _).mono ?_
  rintro e w2 ⟨rfl, hb2⟩
  have hbb := hb1.trans (hb2.mono hb1.size)
  go_wp2
  go_ret
  exact ⟨⟨_, rfl, rowTwo (by go_simp) (by go_simp) (by go_simp) (by go_simp) (by go_simp) (by go_simp)⟩, hbb.alloc hbb.size _⟩
theorem celCells_app (a b : List Cel) : celCells (a ++ b) = celCells a ++ celCells b := by unfold celCells; rw [List.flatMap_append]
set_option maxRecDepth 10000 in
set_option maxHeartbeats 1000000 in
theorem both_any (a1 a2 : Option Addr) (c1 c2 : Nat) (l1 l2 : List Cel) (w : World) (n2 : 0 < l2.length) (m1 : l1.length ≤ 400) (m2 : l2.length ≤ 400) (h1 : vl.rowAt w a1 l1) (h2 : vl.rowAt w a2 l2) :
    Calls Tryz.prog 28 #[.slice a1 l1.length c1, .slice a2 l2.length c2] w fun e w' => (∃ ad cap, e = .returned (.slice ad (l1 ++ l2).length cap) ∧ ownV w' w.heap.size (.slice ad (l1 ++ l2).length cap) (l1 ++ l2)) ∧ Below w.heap.size w w' := by
  obtain ⟨i0, hi, hz0, hz1, hz2⟩ := info_parts Tryz.infoV
  have HI : Hid (Tryz.prog.info? 68 = some i0 ∧ i0.zero = some (.agg #[.int .i64 0, .int .i64 0, .string ⟨#[]⟩]) ∧ i0.size = 3 ∧ i0.bytes = 32) := ⟨hi, hz0, hz1, hz2⟩
  clear hi hz0 hz1 hz2
  obtain ⟨b2, o2, rfl, _⟩ := h2 0 n2
  have HC2 : Hid (∀ w', Below w.heap.size w w' → ∀ j u, (celCells l2)[j]? = some u → w'.cell? ((⟨b2, o2, none⟩ : Addr).add j) = some u) := fun w' hb => ch.rowAt_cells (rowAt_below h2 hb)
  have hp2 : Hid ((celCells l2).length = l2.length * 3) := celCells_len l2
  have KC : Hid (Calls Tryz.prog 65 #[.slice a1 l1.length c1] w fun e w' => (∃ ad c, e = .returned (.slice ad l1.length c) ∧ ownV w' w.heap.size (.slice ad l1.length c) l1) ∧ Below w.heap.size w w') := ch.copy_any a1 c1 l1 w h1 (by omega)
  have HAP : Hid (∀ w' v, w'.ownsRow w.heap.size 68 3 v (l1.length + l2.length) (celCells l1 ++ celCells l2) → ownV w' w.heap.size v (l1 ++ l2)) := fun w' v h => by
    unfold ownV
    rw [List.length_append, celCells_app]; exact h
  clear h1 h2
  obtain ⟨k1, hk1⟩ : ∃ n, l1.length = n := ⟨_, rfl⟩
  obtain ⟨k2, hk2⟩ : ∃ n, l2.length = n := ⟨_, rfl⟩
  have HK1 : Hid (l1.length = k1) := hk1
  have HK2 : Hid (l2.length = k2) := hk2
  rw [hk1] at KC m1 HAP
  rw [hk2] at n2 m2 hp2 HAP
  rw [List.length_append, hk1, hk2]
  clear hk1 hk2
  go_enter Tryz.func28, Tryz.ntmps28
  go_wp2_with fail
  refine KC.out.mono ?_
  rintro e w1 ⟨⟨ad, c, rfl, ho⟩, hb1⟩
  have hsz := hb1.size
  have HO : Hid (w1.ownsRow w.heap.size 68 3 (.slice ad k1 c) k1 (celCells l1)) := by have h := ho; unfold ownV at h; rw [HK1.out] at h; exact h
  clear ho
  go_wp2_with (at_builtin; refine wpList_append_own _ rfl (.tmp 6) (.tmp 7) 50 rfl w.heap.size 68 i0 (.agg #[.int .i64 0, .int .i64 0, .string ⟨#[]⟩]) 3 32 Tryz.underlying50 HI.out.1 HI.out.2.1 HI.out.2.2.1 HI.out.2.2.2 rfl (by decide) _ _ _ rfl HO.out ⟨b2, o2, none⟩ k2 c2 (celCells l2) rfl (by rw [hp2.out]) (HC2.out _ hb1) (ch.celCells_one l2) (by unfold maxLen; omega) (by omega) hsz ?_; intro v2 w3 hown3 hgrow3 hnil3)
  obtain ⟨ad3, cp3, hv, _⟩ := own_form hown3
  subst hv
  have HF := HAP.out _ _ hown3
  have hbn := hb1.grown hgrow3 hsz (fun b hb => (World.ownsRow.lt HO.out b hb).1)
  go_ret
  exact ⟨⟨ad3, cp3, rfl, HF⟩, hbn⟩
theorem both4 (a1 a2 : Option Addr) (a b c d : Int) (w : World) (h1 : vl.rowAt w a1 [cI a, cI b]) (h2 : vl.rowAt w a2 [cI c, cI d]) :
    Calls Tryz.prog 28 #[.slice a1 2 2, .slice a2 2 2] w fun e w' => (∃ ad cap, e = .returned (.slice ad 4 cap) ∧ vl.rowAt w' ad [cI a, cI b, cI c, cI d]) ∧ Below w.heap.size w w' := by
  refine (both_any a1 a2 2 2 [cI a, cI b] [cI c, cI d] w (by simp) (by simp) (by simp) h1 h2).mono ?_
  rintro e w' ⟨⟨ad, cap, rfl, ho⟩, hb⟩
  exact ⟨⟨ad, cap, rfl, vl.ownV_row ho⟩, hb⟩
theorem wf_viewB : ch.wfView [⟨[cI 7, cI 2, cI 6], 1⟩] := by
  intro c hc
  simp only [List.mem_cons, List.not_mem_nil, or_false] at hc
  subst hc
  refine ⟨fun z hz => ?_, by decide, by decide⟩
  simp only [List.mem_cons, List.not_mem_nil, or_false] at hz
  rcases hz with rfl | rfl | rfl
  · exact ⟨by decide, Nat.zero_le _⟩
  · exact ⟨by decide, Nat.zero_le _⟩
  · exact ⟨by decide, Nat.zero_le _⟩
theorem wf_grpB2 : wfG grpB2 := by
  refine ⟨fun z hz => ?_, by decide, by unfold i64; decide, by decide, fun l hl => ?_⟩
  · have : z = cI 7 := by simpa [grpB2, oneG] using hz
    subst this
    exact ⟨by decide, Nat.zero_le _⟩
  · have : l = [] ∨ l = [(cI 1, 1), (cI 5, 1)] := by simpa [grpB2, oneG] using hl
    rcases this with rfl | rfl
    · exact ⟨by decide, fun t ht => absurd ht (List.not_mem_nil)⟩
    · refine ⟨by decide, fun t ht => ?_⟩
      simp only [List.mem_cons, List.not_mem_nil, or_false] at ht
      rcases ht with rfl | rfl
      · exact ⟨Nat.zero_le _, by unfold i64; decide, by unfold i64; decide⟩
      · exact ⟨Nat.zero_le _, by unfold i64; decide, by unfold i64; decide⟩
theorem view_begun (x : PA) (gb gc : Nat) (y : GX) (w : World) (hp : planAt w countedP x) (hg : gsAt w (some ⟨gb, 0, none⟩) [y] [grpB2]) :
    Calls Tryz.prog 6 #[planV countedP x, .slice (some ⟨gb, 0, none⟩) 1 gc] w fun e w' => (∃ ad c, e = .returned (.tuple #[.slice ad 1 c, .int .i64 0]) ∧ ch.viewAt w' ad [⟨[cI 7, cI 2, cI 6], 1⟩]) ∧ Below w.heap.size w w' := by
  refine (view_any countedP x (some ⟨gb, 0, none⟩) gc [y] [grpB2] w wf_counted hp hg (fun g h => by rw [List.mem_singleton] at h; rw [h]; exact wf_grpB2) (by decide)).mono ?_
  rintro e w' ⟨hr, hb⟩
  refine ⟨?_, hb⟩
  rcases hr with ⟨h, _⟩ | ⟨_, ad, c, h1, h2⟩
  · exact absurd errB_one h
  · rw [viewB] at h2
    exact ⟨ad, c, h1, h2⟩
theorem same_begun (a1 a2 : Option Addr) (c1 c2 : Nat) (w : World) (h1 : ch.viewAt w a1 [⟨[cI 7, cI 2, cI 6], 1⟩]) (h2 : ch.viewAt w a2 [⟨[cI 7, cI 2, cI 6], 1⟩]) : Calls Tryz.prog 10 #[.slice a1 1 c1, .slice a2 1 c2] w fun e w' => e = .returned (.bool true) ∧ Below w.heap.size w w' := by
  refine (ch.sameViews_any a1 a2 c1 c2 [⟨[cI 7, cI 2, cI 6], 1⟩] [⟨[cI 7, cI 2, cI 6], 1⟩] w h1 h2 wf_viewB wf_viewB (by decide) (by decide)).mono ?_
  rintro e w' ⟨he, hb⟩
  exact ⟨by rw [he]; simp, hb⟩
attribute [local go_sem] Oper.semAt_some
set_option maxRecDepth 100000 in
set_option maxHeartbeats 8000000 in
theorem begun_any (w : World) : Calls Tryz.prog 8 #[] w fun e w' => e = .returned (.bool true) ∧ Below w.heap.size w w' := by
  go_enter Tryz.func8, Tryz.ntmps8
  go_wp2_with fail
  refine (lawRow_any _ _ _).mono ?_
  rintro e w1 ⟨⟨r1, rfl, hr1⟩, hb1⟩
  have HR1 : Hid (vl.rowAt w1 r1 [cI 7, cI 1]) := hr1
  clear hr1
  go_wp2_with fail
  refine (lawRow_any _ _ _).mono ?_
  rintro e w2 ⟨⟨r2, rfl, hr2⟩, hb2⟩
  have HR2 : Hid (vl.rowAt w2 r2 [cI 7, cI 2]) := hr2
  clear hr2
  go_wp2_with fail
  refine (both4 r1 r2 7 1 7 2 w2 (vl.rowAt_below HR1.out hb2) HR2.out).mono ?_
  rintro e w3 ⟨⟨j1, k1, rfl, hj1⟩, hb3⟩
  have HJ1 : Hid (vl.rowAt w3 j1 rowB1) := hj1
  have b3 : Below w.heap.size w w3 := (hb1.trans (hb2.mono hb1.size)).trans (hb3.mono (Nat.le_trans hb1.size hb2.size))
  clear hj1 HR1 HR2 hb1 hb2 hb3
  go_wp2_with fail
  refine (lawRow_any _ _ _).mono ?_
  rintro e w4 ⟨⟨r1', rfl, hr1⟩, hb4⟩
  have HR1 : Hid (vl.rowAt w4 r1' [cI 7, cI 5]) := hr1
  clear hr1
  go_wp2_with fail
  refine (lawRow_any _ _ _).mono ?_
  rintro e w5 ⟨⟨r2', rfl, hr2⟩, hb5⟩
  have HR2 : Hid (vl.rowAt w5 r2' [cI 7, cI 2]) := hr2
  clear hr2
  go_wp2_with fail
  refine (both4 r1' r2' 7 5 7 2 w5 (vl.rowAt_below HR1.out hb5) HR2.out).mono ?_
  rintro e w6 ⟨⟨j2, k2, rfl, hj2⟩, hb6⟩
  have HJ2 : Hid (vl.rowAt w6 j2 rowB2) := hj2
  have b36 : Below w3.heap.size w3 w6 := (hb4.trans (hb5.mono hb4.size)).trans (hb6.mono (Nat.le_trans hb4.size hb5.size))
  have b6 : Below w.heap.size w w6 := b3.trans (b36.mono b3.size)
  clear hj2 HR1 HR2 hb4 hb5 hb6
  go_wp2_with fail
  generalize hV : (World.alloc w6 _) = w7
  have hb7 : Below w6.heap.size w6 w7 := by rw [← hV]; exact (Below.refl _ _).alloc (Nat.le_refl _) _
  have c0 : w7.cell? ⟨w6.heap.size, 0, none⟩ = some (.int .i64 1) := by subst hV; go_simp
  have c1 : w7.cell? ⟨w6.heap.size, 1, none⟩ = some (.slice j1 4 k1) := by subst hV; go_simp
  have c2 : w7.cell? ⟨w6.heap.size, 2, none⟩ = some (.int .i64 1) := by subst hV; go_simp
  have c3 : w7.cell? ⟨w6.heap.size, 3, none⟩ = some (.slice j2 4 k2) := by subst hV; go_simp
  have b7 : Below w.heap.size w w7 := b6.trans (hb7.mono b6.size)
  have HJ1' : Hid (vl.rowAt w7 j1 rowB1) := vl.rowAt_below HJ1.out (b36.trans (hb7.mono b36.size))
  have HJ2' : Hid (vl.rowAt w7 j2 rowB2) := vl.rowAt_below HJ2.out hb7
  clear hV HJ1 HJ2 b36 b6 hb7 b3
  refine (counted_any _).mono ?_
  rintro e w8 ⟨⟨x, rfl, hp8⟩, hb8⟩
  have HS : Hid (Calls Tryz.prog 12 #[planV countedP x, .slice none 0 0, .slice (some ⟨w6.heap.size, 0, none⟩) 2 2] w8 fun e w' => (∃ gb gc tb tcap y, e = .returned (.tuple #[.slice (some ⟨gb, 0, none⟩) 1 gc, .slice (some ⟨tb, 0, none⟩) 1 tcap, .int .i64 0]) ∧ gsAt w' (some ⟨gb, 0, none⟩) [y] [grpB2] ∧ w'.cell? ⟨tb, 0, none⟩ = some (.int .i64 1)) ∧ Below w8.heap.size w8 w') := step_begun x w6.heap.size 0 2 j1 j2 k1 k2 w8 hp8 (cell_later hb8 c0) (cell_later hb8 c1) (cell_later hb8 c2) (cell_later hb8 c3) (vl.rowAt_below HJ1'.out hb8) (vl.rowAt_below HJ2'.out hb8)
  have b8 : Below w.heap.size w w8 := b7.trans (hb8.mono b7.size)
  clear hp8 hb8 b7 c0 c1 c2 c3 HJ1' HJ2'
  obtain ⟨pv, hpv⟩ : ∃ z, planV countedP x = z := ⟨_, rfl⟩
  rw [hpv] at HS ⊢
  clear hpv
  go_wp2_with fail
  refine HS.out.mono ?_
  rintro e w9 ⟨⟨gb, gc, tb, tcap, y, rfl, hg9, ht9⟩, hb9⟩
  have HG9 : Hid (gsAt w9 (some ⟨gb, 0, none⟩) [y] [grpB2]) := hg9
  have b9 : Below w.heap.size w w9 := b8.trans (hb9.mono b8.size)
  clear hg9 hb9 b8 HS
  go_wp2_with fail
  refine (counted_any _).mono ?_
  rintro e w10 ⟨⟨x2, rfl, hp10⟩, hb10⟩
  have HW : Hid (Calls Tryz.prog 6 #[planV countedP x2, .slice (some ⟨gb, 0, none⟩) 1 gc] w10 fun e w' => (∃ ad c, e = .returned (.tuple #[.slice ad 1 c, .int .i64 0]) ∧ ch.viewAt w' ad [⟨[cI 7, cI 2, cI 6], 1⟩]) ∧ Below w10.heap.size w10 w') := view_begun x2 gb gc y w10 hp10 (HG9.out.below hb10)
  have b10 : Below w.heap.size w w10 := b9.trans (hb10.mono b9.size)
  have ht10 := cell_later hb10 ht9
  clear hp10 hb10 HG9 b9 ht9
  obtain ⟨pv2, hpv2⟩ : ∃ z, planV countedP x2 = z := ⟨_, rfl⟩
  rw [hpv2] at HW ⊢
  clear hpv2
  go_wp2_with fail
  refine HW.out.mono ?_
  rintro e w11 ⟨⟨va, vc, rfl, hv11⟩, hb11⟩
  have HV : Hid (ch.viewAt w11 va [⟨[cI 7, cI 2, cI 6], 1⟩]) := hv11
  have b11 : Below w.heap.size w w11 := b10.trans (hb11.mono b10.size)
  have ht11 := cell_later hb11 ht10
  clear hv11 hb11 ht10 b10 HW
  go_wp2_with fail
  refine (num_any _ _).mono ?_
  rintro e w12 ⟨rfl, hb12⟩
  go_wp2_with fail
  refine (num_any _ _).mono ?_
  rintro e w13 ⟨rfl, hb13⟩
  go_wp2_with fail
  refine (num_any _ _).mono ?_
  rintro e w14 ⟨rfl, hb14⟩
  have b1114 : Below w11.heap.size w11 w14 := (hb12.trans (hb13.mono hb12.size)).trans (hb14.mono (Nat.le_trans hb12.size hb13.size))
  go_wp2_with fail
  generalize hV : (World.alloc (World.alloc w14 _) _) = W
  have hbW : Below w14.heap.size w14 W := by rw [← hV]; exact ((Below.refl _ _).alloc (Nat.le_refl _) _).alloc (by simp) _
  have hR : vl.rowAt W (some ⟨w14.heap.size, 0, none⟩) [cI 7, cI 2, cI 6] := fun i hi => by
    have hi3 : i = 0 ∨ i = 1 ∨ i = 2 := by have : i < 3 := hi; omega
    rcases hi3 with rfl | rfl | rfl
    · exact ⟨w14.heap.size, 0, rfl, by subst hV; go_simp; rfl, by subst hV; go_simp; rfl, by subst hV; go_simp; rfl⟩
    · exact ⟨w14.heap.size, 0, rfl, by subst hV; go_simp; rfl, by subst hV; go_simp; rfl, by subst hV; go_simp; rfl⟩
    · exact ⟨w14.heap.size, 0, rfl, by subst hV; go_simp; rfl, by subst hV; go_simp; rfl, by subst hV; go_simp; rfl⟩
  have hVW : ch.viewAt W (some ⟨w14.heap.size + 1, 0, none⟩) [⟨[cI 7, cI 2, cI 6], 1⟩] := fun i hi => by
    have : i = 0 := by simpa using hi
    subst this
    exact ⟨w14.heap.size + 1, 0, some ⟨w14.heap.size, 0, none⟩, 3, rfl, by subst hV; go_simp, hR, by subst hV; go_simp⟩
  have bW : Below w.heap.size w W := (b11.trans (b1114.mono b11.size)).trans (hbW.mono (Nat.le_trans b11.size b1114.size))
  clear hV
  refine (same_begun va _ vc _ W (ch.viewAt_below HV.out (b1114.trans (hbW.mono b1114.size))) hVW).mono ?_
  rintro e w15 ⟨rfl, hb15⟩
  go_wp2
  go_ret
  exact ⟨rfl, bW.trans (hb15.mono bW.size)⟩
end Go.Proofs.YtbfbgdinhiglaaaGreat.gr
