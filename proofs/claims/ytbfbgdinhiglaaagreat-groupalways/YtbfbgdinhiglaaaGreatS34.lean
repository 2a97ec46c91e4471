import Derived.Test.YtbfbgdinhiglaaaGreatS33
import Derived.Test.YtbfbgdinhiglaaaGreatMgChgD
import Derived.Test.YtbfbgdinhiglaaaGreatS31
import Derived.Test.YtbfbgdinhiglaaaGreatMgBatJ
import Derived.Test.YtbfbgdinhiglaaaGreatMgChgA
import Derived.Test.YtbfbgdinhiglaaaGreatS21
import Derived.Maps.GroupsBeside
import Derived.Laws.OwnMore
/- groupBegun answers true. -/
namespace Go.Proofs.YtbfbgdinhiglaaaGreat.gr
open Go.ChangeShapes Go.WideShapes Go.ChangeAt Go.RowKit
open vl pl bt
set_option linter.unusedVariables false
set_option linter.unusedSimpArgs false
theorem num_any (n : Int) (w : World) : Calls Tryz.prog 31 #[.int .i64 n] w fun e w' => e = .returned (.agg #[.int .i64 2, .int .i64 n, .string ⟨#[]⟩]) ∧ Below w.heap.size w w' := by
  go_enter Tryz.func31, Tryz.ntmps31
  go_wp2
  exact bodyPost_ret (v := .agg #[.int .i64 2, .int .i64 n, .string ⟨#[]⟩]) (by simp [results, Tryz.results31, go_sem]) rfl ⟨rfl, by repeat (first | exact Below.refl _ _ | apply Below.drew | (refine Below.setCell ?_ (by simp) _) | (refine Below.alloc ?_ (by simp <;> omega) _))⟩
theorem rowTwo {w : World} {b : Nat} {x y : Int} (h0 : w.cell? ⟨b, 0, none⟩ = some (.int .i64 2)) (h1 : w.cell? ⟨b, 1, none⟩ = some (.int .i64 x)) (h2 : w.cell? ⟨b, 2, none⟩ = some (.string ⟨#[]⟩)) (h3 : w.cell? ⟨b, 3, none⟩ = some (.int .i64 2)) (h4 : w.cell? ⟨b, 4, none⟩ = some (.int .i64 y)) (h5 : w.cell? ⟨b, 5, none⟩ = some (.string ⟨#[]⟩)) :
    vl.rowAt w (some ⟨b, 0, none⟩) [⟨2, x, ⟨#[]⟩⟩, ⟨2, y, ⟨#[]⟩⟩] := by
  intro i hi
  match i, hi with
  | 0, _ => exact ⟨b, 0, rfl, h0, h1, h2⟩
  | 1, _ => exact ⟨b, 0, rfl, h3, h4, h5⟩
theorem lawRow_any (x y : Int) (w : World) : Calls Tryz.prog 29 #[.int .i64 x, .int .i64 y] w fun e w' => (∃ ad, e = .returned (.slice ad 2 2) ∧ vl.rowAt w' ad [⟨2, x, ⟨#[]⟩⟩, ⟨2, y, ⟨#[]⟩⟩]) ∧ Below w.heap.size w w' := by
  go_enter Tryz.func29, Tryz.ntmps29
  go_wp2_with fail
  refine (num_any _ _).mono ?_
  rintro e w1 ⟨rfl, hb1⟩
  go_wp2_with fail
  refine (num_any _ _).mono ?_
  rintro e w2 ⟨rfl, hb2⟩
  have hbb := hb1.trans (hb2.mono hb1.size)
  go_wp2
  go_ret
  exact ⟨⟨_, rfl, rowTwo (by go_simp) (by go_simp) (by go_simp) (by go_simp) (by go_simp) (by go_simp)⟩, hbb.alloc hbb.size _⟩
theorem celCells_app (a b : List Cel) : celCells (a ++ b) = celCells a ++ celCells b := by unfold celCells; rw [List.flatMap_append]
set_option maxRecDepth 10000 in
set_option maxHeartbeats 1000000 in
theorem both_any (a1 a2 : Option Addr) (c1 c2 : Nat) (l1 l2 : List Cel) (w : World) (n2 : 0 < l2.length) (m1 : l1.length ≤ 400) (m2 : l2.length ≤ 400) (h1 : vl.rowAt w a1 l1) (h2 : vl.rowAt w a2 l2) :
    Calls Tryz.prog 28 #[.slice a1 l1.length c1, .slice a2 l2.length c2] w fun e w' => (∃ ad cap, e = .returned (.slice ad (l1 ++ l2).length cap) ∧ ownV w' w.heap.size (.slice ad (l1 ++ l2).length cap) (l1 ++ l2)) ∧ Below w.heap.size w w' := by
  obtain ⟨i0, hi, hz0, hz1, hz2⟩ := info_parts Tryz.infoV
  have HI : Hid (Tryz.prog.info? 68 = some i0 ∧ i0.zero = some (.agg #[.int .i64 0, .int .i64 0, .string ⟨#[]⟩]) ∧ i0.size = 3 ∧ i0.bytes = 32) := ⟨hi, hz0, hz1, hz2⟩
  clear hi hz0 hz1 hz2
  obtain ⟨b2, o2, rfl, _⟩ := h2 0 n2
  have HC2 : Hid (∀ w', Below w.heap.size w w' → ∀ j u, (celCells l2)[j]? = some u → w'.cell? ((⟨b2, o2, none⟩ : Addr).add j) = some u) := fun w' hb => ch.rowAt_cells (rowAt_below h2 hb)
  have hp2 : Hid ((celCells l2).length = l2.length * 3) := celCells_len l2
  have KC : Hid (Calls Tryz.prog 65 #[.slice a1 l1.length c1] w fun e w' => (∃ ad c, e = .returned (.slice ad l1.length c) ∧ ownV w' w.heap.size (.slice ad l1.length c) l1) ∧ Below w.heap.size w w') := ch.copy_any a1 c1 l1 w h1 (by omega)
  have HAP : Hid (∀ w' v, w'.ownsRow w.heap.size 68 3 v (l1.length + l2.length) (celCells l1 ++ celCells l2) → ownV w' w.heap.size v (l1 ++ l2)) := fun w' v h => by
    unfold ownV
    rw [List.length_append, celCells_app]; exact h
  clear h1 h2
  obtain ⟨k1, hk1⟩ : ∃ n, l1.length = n := ⟨_, rfl⟩
  obtain ⟨k2, hk2⟩ : ∃ n, l2.length = n := ⟨_, rfl⟩
  have HK1 : Hid (l1.length = k1) := hk1
  have HK2 : Hid (l2.length = k2) := hk2
  rw [hk1] at KC m1 HAP
  rw [hk2] at n2 m2 hp2 HAP
  rw [List.length_append, hk1, hk2]
  clear hk1 hk2
  go_enter Tryz.func28, Tryz.ntmps28
  go_wp2_with fail
  refine KC.out.mono ?_
  rintro e w1 ⟨⟨ad, c, rfl, ho⟩, hb1⟩
  have hsz := hb1.size
  have HO : Hid (w1.ownsRow w.heap.size 68 3 (.slice ad k1 c) k1 (celCells l1)) := by have h := ho; unfold ownV at h; rw [HK1.out] at h; exact h
  clear ho
  go_wp2_with (at_builtin; refine wpList_append_own _ rfl (.tmp 6) (.tmp 7) 50 rfl w.heap.size 68 i0 (.agg #[.int .i64 0, .int .i64 0, .string ⟨#[]⟩]) 3 32 Tryz.underlying50 HI.out.1 HI.out.2.1 HI.out.2.2.1 HI.out.2.2.2 rfl (by decide) _ _ _ rfl HO.out ⟨b2, o2, none⟩ k2 c2 (celCells l2) rfl (by rw [hp2.out]) (HC2.out _ hb1) (ch.celCells_one l2) (by unfold maxLen; omega) (by omega) hsz ?_; intro v2 w3 hown3 hgrow3 hnil3)
  obtain ⟨ad3, cp3, hv, _⟩ := own_form hown3
  subst hv
  have HF := HAP.out _ _ hown3
  have hbn := hb1.grown hgrow3 hsz (fun b hb => (World.ownsRow.lt HO.out b hb).1)
  go_ret
  exact ⟨⟨ad3, cp3, rfl, HF⟩, hbn⟩
theorem both4 (a1 a2 : Option Addr) (a b c d : Int) (w : World) (h1 : vl.rowAt w a1 [cI a, cI b]) (h2 : vl.rowAt w a2 [cI c, cI d]) :
    Calls Tryz.prog 28 #[.slice a1 2 2, .slice a2 2 2] w fun e w' => (∃ ad cap, e = .returned (.slice ad 4 cap) ∧ vl.rowAt w' ad [cI a, cI b, cI c, cI d]) ∧ Below w.heap.size w w' := by
  refine (both_any a1 a2 2 2 [cI a, cI b] [cI c, cI d] w (by simp) (by simp) (by simp) h1 h2).mono ?_
  rintro e w' ⟨⟨ad, cap, rfl, ho⟩, hb⟩
  exact ⟨⟨ad, cap, rfl, vl.ownV_row ho⟩, hb⟩
theorem wf_viewB : ch.wfView [⟨[cI 7, cI 2, cI 6], 1⟩] := by
  intro c hc
  simp only [List.mem_cons, List.not_mem_nil, or_false] at hc
  subst hc
  refine ⟨fun z hz => ?_, by decide, by decide⟩
  simp only [List.mem_cons, List.not_mem_nil, or_false] at hz
  rcases hz with rfl | rfl | rfl
  · exact ⟨by decide, Nat.zero_le _⟩
  · exact ⟨by decide, Nat.zero_le _⟩
  · exact ⟨by decide, Nat.zero_le _⟩
theorem wf_grpB2 : wfG grpB2 := by
  refine ⟨fun z hz => ?_, by decide, by unfold i64; decide, by decide, fun l hl => ?_⟩
  · have : z = cI 7 := by simpa [grpB2] using hz
    subst this
    exact ⟨by decide, Nat.zero_le _⟩
  · have : l = [] ∨ l = [(cI 1, 1), (cI 5, 1)] := by simpa [grpB2] using hl
    rcases this with rfl | rfl
    · exact ⟨by decide, fun t ht => absurd ht (List.not_mem_nil)⟩
    · refine ⟨by decide, fun t ht => ?_⟩
      simp only [List.mem_cons, List.not_mem_nil, or_false] at ht
      rcases ht with rfl | rfl
      · exact ⟨Nat.zero_le _, by unfold i64; decide, by unfold i64; decide⟩
      · exact ⟨Nat.zero_le _, by unfold i64; decide, by unfold i64; decide⟩
theorem view_begun (x : PA) (gb go gc : Nat) (y : GX) (w : World) (hp : planAt w countedP x) (hg : gsAt w (some ⟨gb, go, none⟩) [y] [grpB2]) :
    Calls Tryz.prog 6 #[planV countedP x, .slice (some ⟨gb, go, none⟩) 1 gc] w fun e w' => (∃ ad c, e = .returned (.tuple #[.slice ad 1 c, .int .i64 0]) ∧ ch.viewAt w' ad [⟨[cI 7, cI 2, cI 6], 1⟩]) ∧ Below w.heap.size w w' := by
  refine (view_any countedP x (some ⟨gb, go, none⟩) gc [y] [grpB2] w wf_counted hp hg (fun g h => by rw [List.mem_singleton] at h; rw [h]; exact wf_grpB2) (by decide)).mono ?_
  rintro e w' ⟨hr, hb⟩
  refine ⟨?_, hb⟩
  rcases hr with ⟨h, _⟩ | ⟨_, ad, c, h1, h2⟩
  · exact absurd errB_one h
  · rw [viewB] at h2
    exact ⟨ad, c, h1, h2⟩
theorem same_begun (a1 a2 : Option Addr) (c1 c2 : Nat) (w : World) (h1 : ch.viewAt w a1 [⟨[cI 7, cI 2, cI 6], 1⟩]) (h2 : ch.viewAt w a2 [⟨[cI 7, cI 2, cI 6], 1⟩]) : Calls Tryz.prog 10 #[.slice a1 1 c1, .slice a2 1 c2] w fun e w' => e = .returned (.bool true) ∧ Below w.heap.size w w' := by
  refine (ch.sameViews_any a1 a2 c1 c2 [⟨[cI 7, cI 2, cI 6], 1⟩] [⟨[cI 7, cI 2, cI 6], 1⟩] w h1 h2 wf_viewB wf_viewB (by decide) (by decide)).mono ?_
  rintro e w' ⟨he, hb⟩
  exact ⟨by rw [he]; simp, hb⟩
attribute [local go_sem] Oper.semAt_some
set_option maxRecDepth 100000 in
set_option maxHeartbeats 8000000 in
theorem begun_any (w : World) : Calls Tryz.prog 8 #[] w fun e w' => e = .returned (.bool true) ∧ Below w.heap.size w w' := by
  go_enter Tryz.func8, Tryz.ntmps8
  go_wp2_with fail
  refine (lawRow_any _ _ _).mono ?_
  rintro e w1 ⟨⟨r1, rfl, hr1⟩, hb1⟩
  have HR1 : Hid (vl.rowAt w1 r1 [cI 7, cI 1]) := hr1
  clear hr1
  go_wp2_with fail
  refine (lawRow_any _ _ _).mono ?_
  rintro e w2 ⟨⟨r2, rfl, hr2⟩, hb2⟩
  have HR2 : Hid (vl.rowAt w2 r2 [cI 7, cI 2]) := hr2
  clear hr2
  go_wp2_with fail
  refine (both4 r1 r2 7 1 7 2 w2 (vl.rowAt_below HR1.out hb2) HR2.out).mono ?_
  rintro e w3 ⟨⟨j1, k1, rfl, hj1⟩, hb3⟩
  have HJ1 : Hid (vl.rowAt w3 j1 rowB1) := hj1
  have b3 : Below w.heap.size w w3 := (hb1.trans (hb2.mono hb1.size)).trans (hb3.mono (Nat.le_trans hb1.size hb2.size))
  clear hj1 HR1 HR2 hb1 hb2 hb3
  go_wp2_with fail
  refine (lawRow_any _ _ _).mono ?_
  rintro e w4 ⟨⟨r1', rfl, hr1⟩, hb4⟩
  have HR1 : Hid (vl.rowAt w4 r1' [cI 7, cI 5]) := hr1
  clear hr1
  go_wp2_with fail
  refine (lawRow_any _ _ _).mono ?_
  rintro e w5 ⟨⟨r2', rfl, hr2⟩, hb5⟩
  have HR2 : Hid (vl.rowAt w5 r2' [cI 7, cI 2]) := hr2
  clear hr2
  go_wp2_with fail
  refine (both4 r1' r2' 7 5 7 2 w5 (vl.rowAt_below HR1.out hb5) HR2.out).mono ?_
  rintro e w6 ⟨⟨j2, k2, rfl, hj2⟩, hb6⟩
  have HJ2 : Hid (vl.rowAt w6 j2 rowB2) := hj2
  have b36 : Below w3.heap.size w3 w6 := (hb4.trans (hb5.mono hb4.size)).trans (hb6.mono (Nat.le_trans hb4.size hb5.size))
  have b6 : Below w.heap.size w w6 := b3.trans (b36.mono b3.size)
  clear hj2 HR1 HR2 hb4 hb5 hb6
  go_wp2_with fail
  generalize hV : (World.alloc w6 _) = w7
  have hb7 : Below w6.heap.size w6 w7 := by rw [← hV]; exact (Below.refl _ _).alloc (Nat.le_refl _) _
  have c0 : w7.cell? ⟨w6.heap.size, 0, none⟩ = some (.int .i64 1) := by subst hV; go_simp
  have c1 : w7.cell? ⟨w6.heap.size, 1, none⟩ = some (.slice j1 4 k1) := by subst hV; go_simp
  have c2 : w7.cell? ⟨w6.heap.size, 2, none⟩ = some (.int .i64 1) := by subst hV; go_simp
  have c3 : w7.cell? ⟨w6.heap.size, 3, none⟩ = some (.slice j2 4 k2) := by subst hV; go_simp
  have b7 : Below w.heap.size w w7 := b6.trans (hb7.mono b6.size)
  have HJ1' : Hid (vl.rowAt w7 j1 rowB1) := vl.rowAt_below HJ1.out (b36.trans (hb7.mono b36.size))
  have HJ2' : Hid (vl.rowAt w7 j2 rowB2) := vl.rowAt_below HJ2.out hb7
  clear hV HJ1 HJ2 b36 b6 hb7 b3
  refine (counted_any _).mono ?_
  rintro e w8 ⟨⟨x, rfl, hp8⟩, hb8⟩
  have HS : Hid (Calls Tryz.prog 12 #[planV countedP x, .slice none 0 0, .slice (some ⟨w6.heap.size, 0, none⟩) 2 2] w8 fun e w' => (∃ gb go gc tb tO tcap y, e = .returned (.tuple #[.slice (some ⟨gb, go, none⟩) 1 gc, .slice (some ⟨tb, tO, none⟩) 1 tcap, .int .i64 0]) ∧ gsAt w' (some ⟨gb, go, none⟩) [y] [grpB2] ∧ w'.cell? ⟨tb, tO, none⟩ = some (.int .i64 1)) ∧ Below w8.heap.size w8 w') := step_begun x w6.heap.size 0 2 j1 j2 k1 k2 w8 hp8 (cell_later hb8 c0) (cell_later hb8 c1) (cell_later hb8 c2) (cell_later hb8 c3) (vl.rowAt_below HJ1'.out hb8) (vl.rowAt_below HJ2'.out hb8)
  have b8 : Below w.heap.size w w8 := b7.trans (hb8.mono b7.size)
  clear hp8 hb8 b7 c0 c1 c2 c3 HJ1' HJ2'
  obtain ⟨pv, hpv⟩ : ∃ z, planV countedP x = z := ⟨_, rfl⟩
  rw [hpv] at HS ⊢
  clear hpv
  go_wp2_with fail
  refine HS.out.mono ?_
  rintro e w9 ⟨⟨gb, go, gc, tb, tO, tcap, y, rfl, hg9, ht9⟩, hb9⟩
  have HG9 : Hid (gsAt w9 (some ⟨gb, go, none⟩) [y] [grpB2]) := hg9
  have b9 : Below w.heap.size w w9 := b8.trans (hb9.mono b8.size)
  clear hg9 hb9 b8 HS
  go_wp2_with fail
  refine (counted_any _).mono ?_
  rintro e w10 ⟨⟨x2, rfl, hp10⟩, hb10⟩
  have HW : Hid (Calls Tryz.prog 6 #[planV countedP x2, .slice (some ⟨gb, go, none⟩) 1 gc] w10 fun e w' => (∃ ad c, e = .returned (.tuple #[.slice ad 1 c, .int .i64 0]) ∧ ch.viewAt w' ad [⟨[cI 7, cI 2, cI 6], 1⟩]) ∧ Below w10.heap.size w10 w') := view_begun x2 gb go gc y w10 hp10 (HG9.out.below hb10)
  have b10 : Below w.heap.size w w10 := b9.trans (hb10.mono b9.size)
  have ht10 := cell_later hb10 ht9
  clear hp10 hb10 HG9 b9 ht9
  obtain ⟨pv2, hpv2⟩ : ∃ z, planV countedP x2 = z := ⟨_, rfl⟩
  rw [hpv2] at HW ⊢
  clear hpv2
  go_wp2_with fail
  refine HW.out.mono ?_
  rintro e w11 ⟨⟨va, vc, rfl, hv11⟩, hb11⟩
  have HV : Hid (ch.viewAt w11 va [⟨[cI 7, cI 2, cI 6], 1⟩]) := hv11
  have b11 : Below w.heap.size w w11 := b10.trans (hb11.mono b10.size)
  have ht11 := cell_later hb11 ht10
  clear hv11 hb11 ht10 b10 HW
  go_wp2_with fail
  refine (num_any _ _).mono ?_
  rintro e w12 ⟨rfl, hb12⟩
  go_wp2_with fail
  refine (num_any _ _).mono ?_
  rintro e w13 ⟨rfl, hb13⟩
  go_wp2_with fail
  refine (num_any _ _).mono ?_
  rintro e w14 ⟨rfl, hb14⟩
  have b1114 : Below w11.heap.size w11 w14 := (hb12.trans (hb13.mono hb12.size)).trans (hb14.mono (Nat.le_trans hb12.size hb13.size))
  go_wp2_with fail
  generalize hV : (World.alloc (World.alloc w14 _) _) = W
  have hbW : Below w14.heap.size w14 W := by rw [← hV]; exact ((Below.refl _ _).alloc (Nat.le_refl _) _).alloc (by simp) _
  have hR : vl.rowAt W (some ⟨w14.heap.size, 0, none⟩) [cI 7, cI 2, cI 6] := fun i hi => by
    have hi3 : i = 0 ∨ i = 1 ∨ i = 2 := by have : i < 3 := hi; omega
    rcases hi3 with rfl | rfl | rfl
    · exact ⟨w14.heap.size, 0, rfl, by subst hV; go_simp; rfl, by subst hV; go_simp; rfl, by subst hV; go_simp; rfl⟩
    · exact ⟨w14.heap.size, 0, rfl, by subst hV; go_simp; rfl, by subst hV; go_simp; rfl, by subst hV; go_simp; rfl⟩
    · exact ⟨w14.heap.size, 0, rfl, by subst hV; go_simp; rfl, by subst hV; go_simp; rfl, by subst hV; go_simp; rfl⟩
  have hVW : ch.viewAt W (some ⟨w14.heap.size + 1, 0, none⟩) [⟨[cI 7, cI 2, cI 6], 1⟩] := fun i hi => by
    have : i = 0 := by simpa using hi
    subst this
    exact ⟨w14.heap.size + 1, 0, some ⟨w14.heap.size, 0, none⟩, 3, rfl, by subst hV; go_simp, hR, by subst hV; go_simp⟩
  have bW : Below w.heap.size w W := (b11.trans (b1114.mono b11.size)).trans (hbW.mono (Nat.le_trans b11.size b1114.size))
  clear hV
  refine (same_begun va _ vc _ W (ch.viewAt_below HV.out (b1114.trans (hbW.mono b1114.size))) hVW).mono ?_
  rintro e w15 ⟨rfl, hb15⟩
  go_wp2
  go_ret
  exact ⟨rfl, bW.trans (hb15.mono bW.size)⟩
end Go.Proofs.YtbfbgdinhiglaaaGreat.gr
/- Changes cut in two. -/
namespace Go.Proofs.YtbfbgdinhiglaaaGreat.ch
open Go.ChangeShapes Go.WideShapes Go.ChangeAt Go.RowKit Go.Maps Go.WideMaps Go.Sort
open vl
set_option linter.unusedVariables false
set_option linter.unusedSimpArgs false

theorem tmod_le {c m : Int} {n : Nat} (hc : 0 ≤ c) (hc2 : c ≤ 9223372036854775807) (hm : m = n + 1 ∨ (n = 9223372036854775807 ∧ m = -9223372036854775808)) : 0 ≤ c.tmod m ∧ c.tmod m ≤ n := by
  refine ⟨Int.tmod_nonneg m hc, ?_⟩
  rcases hm with h | ⟨h1, h2⟩
  · have := Int.tmod_lt_of_pos c (b := m) (by omega)
    omega
  · have h3 : c.tmod m ≤ c := by
      rw [h2, Int.tmod_neg, Int.tmod_eq_emod_of_nonneg hc]
      omega
    omega

set_option maxHeartbeats 1000000 in
theorem choose_any (c m : Int) (n : Nat) (w : World) (c1 : -9223372036854775808 ≤ c) (c2 : c ≤ 9223372036854775807) (hm : m = n + 1 ∨ (n = 9223372036854775807 ∧ m = -9223372036854775808)) (hn : n ≤ 9223372036854775807) :
    Calls Tryz.prog 18 #[.int .i64 c, .int .i64 m] w fun e w' => (∃ k : Nat, k ≤ n ∧ e = .returned (.int .i64 k)) ∧ w' = w := by
  have m0 : (m == 0) = false := by rw [beq_eq_false_iff_ne]; omega
  have m1 : m ≠ 0 := by omega
  by_cases h : c < 0
  · have hw1 : IntKind.i64.wrap (c + 1) = c + 1 := by rw [wrap_is]; omega
    have hw2 : IntKind.i64.wrap (-(c + 1)) = -(c + 1) := by rw [wrap_is]; omega
    have ht := tmod_le (c := -(c + 1)) (by omega) (by omega) hm
    have hw3 : IntKind.i64.wrap ((-(c + 1)).tmod m) = (-(c + 1)).tmod m := by rw [wrap_is]; omega
    have HT : Hid (0 ≤ (-(c + 1)).tmod m ∧ (-(c + 1)).tmod m ≤ n) := ht
    clear ht
    go_enter Tryz.func18, Tryz.ntmps18
    go_wp2
    go_ret
    exact ⟨⟨((-(c + 1)).tmod m).toNat, by have := HT.out; omega, ret_int (by rw [Int.toNat_of_nonneg HT.out.1, Int.neg_tmod])⟩, rfl⟩
  · have ht := tmod_le (c := c) (by omega) (by omega) hm
    have hw3 : IntKind.i64.wrap (c.tmod m) = c.tmod m := by rw [wrap_is]; omega
    have HT : Hid (0 ≤ c.tmod m ∧ c.tmod m ≤ n) := ht
    clear ht
    go_enter Tryz.func18, Tryz.ntmps18
    go_wp2
    go_ret
    exact ⟨⟨(c.tmod m).toNat, by have := HT.out; omega, ret_int (by rw [Int.toNat_of_nonneg HT.out.1, Int.tmod_eq_emod_of_nonneg (by omega)])⟩, rfl⟩

theorem sizeG (w : World) : (sizeOf 65).run Tryz.prog w = .ok 2 w := by kernel_rfl
theorem elemG : Tryz.prog.elem 36 = 65 := by kernel_rfl
theorem undG : Tryz.prog.underlying 36 = some (.slice (Tryz.prog.elem 36)) := by rw [elemG]; exact Tryz.underlying36
/-- the front of changes -/
theorem front_is (a : Option Addr) (n cap k : Nat) (hk : k ≤ n) (hn : n ≤ cap) : ∃ a1, (∀ w, (Instr.sliceAt 36 (.slice a n cap) none (some (.int .i64 k)) none).run Tryz.prog w = .ok (.slice a1 k cap) w) ∧ ∀ (w : World) (l : List Chg), l.length = n → chgsAt w a l → chgsAt w a1 (l.take k) := by
  refine ⟨if cap = 0 then a else a.map (·.add (0 * 2)), ?_, ?_⟩
  · intro w
    rw [run_sliceAt_slice (t := 36) (h := undG), run_slice_h (t := 36) (ht := undG) (h0 := by omega) (h2 := by omega), elemG, sizeG]
    simp [Result.andThen, sliced]
  · intro w l hl h i hi
    rw [List.length_take] at hi
    obtain ⟨b, o, ra, rc, e, x1, x2, x3⟩ := h i (by omega)
    have eg : (l.take k).getD i default = l.getD i default := by
      simp only [List.getD_eq_getElem?_getD, List.getElem?_take]; rw [if_pos (by omega)]
    rw [eg]
    refine ⟨b, o, ra, rc, ?_, x1, x2, x3⟩
    rw [e, if_neg (by omega)]
    simp [Addr.add]
theorem back_is (a : Option Addr) (n cap k : Nat) (hk : k ≤ n) (hn : n ≤ cap) : ∃ a2 cap2, (∀ w, (Instr.sliceAt 36 (.slice a n cap) (some (.int .i64 k)) none none).run Tryz.prog w = .ok (.slice a2 (n - k) cap2) w) ∧ ∀ (w : World) (l : List Chg), l.length = n → chgsAt w a l → chgsAt w a2 (l.drop k) := by
  refine ⟨if cap = k then a else a.map (·.add (k * 2)), cap - k, ?_, ?_⟩
  · intro w
    rw [run_sliceAt_slice (t := 36) (h := undG), run_slice_l (t := 36) (ht := undG) (h0 := by omega) (h1 := by omega), elemG, sizeG]
    simp [Result.andThen, sliced]
  · intro w l hl h i hi
    rw [List.length_drop] at hi
    obtain ⟨b, o, ra, rc, e, x1, x2, x3⟩ := h (k + i) (by omega)
    have eg : (l.drop k).getD i default = l.getD (k + i) default := by
      simp only [List.getD_eq_getElem?_getD, List.getElem?_drop]
    rw [eg]
    have ea : o + (k + i) * 2 = o + k * 2 + i * 2 := by omega
    rw [ea] at x1 x2
    refine ⟨b, o + k * 2, ra, rc, ?_, x1, x2, x3⟩
    rw [e, if_neg (by omega)]
    simp [Addr.add]

/-- the two parts, one behind the other -/
theorem atK_take (kv : KV) (l : List Chg) (k i : Nat) (h : i ≤ k) : atK kv (l.take k) i = atK kv l i := by
  unfold atK
  rw [List.take_take, Nat.min_eq_left h]
theorem getC_take (l : List Chg) (k i : Nat) (h : i < k) : (l.take k).getD i default = l.getD i default := by
  simp only [List.getD_eq_getElem?_getD, List.getElem?_take]; rw [if_pos h]
theorem getC_drop (l : List Chg) (k i : Nat) : (l.drop k).getD i default = l.getD (k + i) default := by
  simp only [List.getD_eq_getElem?_getD, List.getElem?_drop]
theorem errK_take (kv : KV) (l : List Chg) (k i : Nat) (h : i < k) : errK kv (l.take k) i = errK kv l i := by
  unfold errK
  rw [atK_take kv l k i (by omega), getC_take l k i h]
theorem form_drop {l : List Chg} {k : Nat} (h : formOk l) (hk : k ≤ l.length) (h1 : formOk (l.take k)) : formOk (l.drop k) := by
  refine ⟨by rw [List.length_drop]; have := h.1; omega, ?_⟩
  intro i hi
  rw [List.length_drop] at hi
  obtain ⟨q1, q2, q3, q4⟩ := h.2 (k + i) (by omega)
  refine ⟨by rw [getC_drop]; exact q1, by rw [getC_drop]; exact q2, by rw [getC_drop]; exact q3, ?_⟩
  unfold pairedAt at q4 ⊢
  rw [getC_drop, List.length_drop]
  by_cases c3 : (l.getD (k + i) default).k = 3
  · rw [if_pos c3] at q4 ⊢
    rw [getC_drop]
    simp only [Bool.and_eq_true, decide_eq_true_eq] at q4 ⊢
    exact ⟨by omega, q4.2⟩
  · rw [if_neg c3] at q4 ⊢
    by_cases c4 : (l.getD (k + i) default).k = 4
    · rw [if_pos c4] at q4 ⊢
      simp only [Bool.and_eq_true, decide_eq_true_eq] at q4 ⊢
      have hi0 : 0 < i := by
        rcases Nat.eq_zero_or_pos i with e | e
        · subst e
          exfalso
          have hk0 : 0 < k := by simpa using q4.1
          have hp := (h1.2 (k - 1) (by rw [List.length_take]; omega)).2.2.2
          unfold pairedAt at hp
          rw [getC_take l k (k - 1) (by omega), List.length_take] at hp
          have : (l.getD (k - 1) default).k = 3 := by have := q4.2; simpa using this
          rw [if_pos this] at hp
          simp only [Bool.and_eq_true, decide_eq_true_eq] at hp
          omega
        · exact e
      refine ⟨hi0, ?_⟩
      rw [getC_drop, show k + (i - 1) = k + i - 1 by omega]
      exact q4.2
    · rw [if_neg c4]
theorem wf_take {l : List Chg} (h : wfChgs l) (k : Nat) : wfChgs (l.take k) := fun c hc => h c (List.mem_of_mem_take hc)
theorem wf_drop {l : List Chg} (h : wfChgs l) (k : Nat) : wfChgs (l.drop k) := fun c hc => h c (List.mem_of_mem_drop hc)
def foldYes (v : List Cnt) (l : List Chg) (out : List Cnt) (e : Ending) (w' : World) : Prop :=
  kvOf out = atK (kvOf v) l l.length ∧ viewOk out ∧ wfView out ∧ ∃ ad cap, e = .returned (.tuple #[.slice ad out.length cap, .int .i64 0, .int .i64 0]) ∧ viewAt w' ad out
theorem fold_split {v : List Cnt} {l : List Chg} {e : Ending} {w' : World} (h : foldRes v l e w') : (∃ p x, x ≠ 0 ∧ e = .returned (.tuple #[.slice none 0 0, .int .i64 p, .int .i64 x])) ∨ (viewErr v = 0 ∧ formErr l = 0 ∧ (∀ i, i < l.length → errK (kvOf v) l i = 0) ∧ ∃ out, foldYes v l out e w') := by
  rcases h with ⟨h1, h2⟩ | ⟨_, h1, h2⟩ | ⟨_, _, k, _, _, h1, h2⟩ | ⟨h1, h2, h3, out, ad, cap, h4, h5, h6, h7, h8⟩
  · exact .inl ⟨_, _, h1, h2⟩
  · exact .inl ⟨_, _, h1, h2⟩
  · exact .inl ⟨_, _, h1, h2⟩
  · exact .inr ⟨h1, h2, h3, out, h4, h5, h6, ad, cap, h7, h8⟩
theorem fold_yes {v : List Cnt} {l : List Chg} {e : Ending} {w' : World} (h : foldRes v l e w') (h1 : viewErr v = 0) (h2 : formErr l = 0) (h3 : ∀ i, i < l.length → errK (kvOf v) l i = 0) : ∃ out, foldYes v l out e w' := by
  rcases h with ⟨k1, _⟩ | ⟨_, k1, _⟩ | ⟨_, _, k, k2, _, k1, _⟩ | ⟨_, _, _, out, ad, cap, h4, h5, h6, h7, h8⟩
  · exact absurd h1 k1
  · exact absurd h2 k1
  · exact absurd (h3 k k2) k1
  · exact ⟨out, h4, h5, h6, ad, cap, h7, h8⟩
theorem view_len {v : List Cnt} (h : viewOk v) : v.length ≤ 9223372036854775807 := by have := h.1; omega
end Go.Proofs.YtbfbgdinhiglaaaGreat.ch
/- H4: what GroupAlways leans on, put together. -/
namespace Go.Proofs.YtbfbgdinhiglaaaGreat.gr
open Go.ChangeShapes Go.WideShapes Go.ChangeAt Go.RowKit
open vl pl bt
set_option linter.unusedVariables false
set_option linter.unusedSimpArgs false
/-- changes that Fold can do, a plan that Group takes their view by, and a cut that parts no pair -/
structure alwI (p : Pln) (l : List ch.Chg) (v : List ch.Cnt) (k : Nat) : Prop where
  gr : groupOk p v
  wf : ch.wfChgs l
  form : ch.formErr l = 0
  no : ∀ i, i < l.length → ch.errK [] l i = 0
  kv : ch.kvOf v = ch.atK [] l l.length
  vwf : ch.wfView v
  hk : k ≤ l.length
  cut : ch.formErr (l.take k) = 0
theorem first_ab {f : Nat → Int} (h : ∀ i, f i = 0 ∨ f i = 2 ∨ f i = 5) : ∀ n, ch.first f n = 0 ∨ ch.first f n = 2 ∨ ch.first f n = 5
  | 0 => .inl rfl
  | n + 1 => by
    unfold ch.first
    split
    · exact h n
    · exact first_ab h n
theorem fErr_ab (c : List Int) (r : List Cel) : fErr c r = 0 ∨ fErr c r = 2 ∨ fErr c r = 5 := by
  unfold fErr
  split
  · exact .inr (.inl rfl)
  · split
    · exact .inr (.inr rfl)
    · exact .inl rfl
theorem chgs_ab {p : Pln} {l : List ch.Chg} (h : ch.formErr l = 0) : chgsErr p l = 0 ∨ chgsErr p l = 2 ∨ chgsErr p l = 5 := by
  unfold chgsErr
  rw [if_neg (by simp [h])]
  exact first_ab (fun i => fErr_ab _ _) _
theorem chgs_mem {p : Pln} {l : List ch.Chg} (h : chgsErr p l = 0) (hw : ch.wfChgs l) : ∀ c ∈ l, rowF p c.r ∧ 1 ≤ c.k ∧ c.k ≤ 4 := fun c hc => by
  obtain ⟨i, hi, rfl⟩ := List.getElem_of_mem hc
  have e : l.getD i default = l[i] := by rw [List.getD_eq_getElem?_getD, List.getElem?_eq_getElem hi]; rfl
  rw [← e]
  exact (chgs_rows h hw).2 i hi
theorem rows_okC {l : List ch.Chg} (hw : ch.wfChgs l) (h : ch.formErr l = 0) : ∀ c ∈ l, rowOk c.r := fun c hc => by
  obtain ⟨i, hi, rfl⟩ := List.getElem_of_mem hc
  have e : l.getD i default = l[i] := by rw [List.getD_eq_getElem?_getD, List.getElem?_eq_getElem hi]; rfl
  rw [← e]
  exact ch.chg_row hw (ch.form_ok h) i hi
theorem step_zero {p : Pln} {gs : List Grp} {l : List ch.Chg} (h : (stepG p gs l).1 = 0) : chgsErr p l = 0 ∧ (doAll p gs l).1 = 0 ∧ stepG p gs l = (0, (doAll p gs l).2, toldR p.group.length (rowsG p gs) (rowsG p (doAll p gs l).2)) := by
  unfold stepG at h ⊢
  by_cases h1 : grpsErr p gs = 0
  · rw [if_neg (by simp [h1])] at h ⊢
    by_cases h2 : chgsErr p l = 0
    · rw [if_neg (by simp [h2])] at h ⊢
      by_cases h3 : (doAll p gs l).1 = 0
      · rw [if_neg (by simp [h3])]
        exact ⟨h2, h3, rfl⟩
      · rw [if_pos h3] at h; exact absurd h h3
    · rw [if_pos h2] at h; exact absurd h h2
  · rw [if_pos h1] at h; exact absurd h h1
theorem step_of {p : Pln} {gs : List Grp} {l : List ch.Chg} (h1 : grpsErr p gs = 0) (h2 : chgsErr p l = 0 ∨ chgsErr p l = 2 ∨ chgsErr p l = 5) (h3 : chgsErr p l = 0 → (doAll p gs l).1 = 0 ∨ (doAll p gs l).1 = 2) : (stepG p gs l).1 = 0 ∨ (stepG p gs l).1 = 2 ∨ (stepG p gs l).1 = 5 := by
  unfold stepG
  rw [if_neg (by simp [h1])]
  by_cases c2 : chgsErr p l = 0
  · rw [if_neg (by simp [c2])]
    by_cases c3 : (doAll p gs l).1 = 0
    · rw [if_neg (by simp [c3])]; exact .inl rfl
    · rw [if_pos c3]
      exact .inr (.inl ((h3 c2).resolve_left c3))
  · rw [if_pos c2]; exact h2
theorem no_take {l : List ch.Chg} {k : Nat} (hk : k ≤ l.length) (h : ∀ i, i < l.length → ch.errK [] l i = 0) : ∀ i, i < (l.take k).length → ch.errK [] (l.take k) i = 0 := fun i hi => by
  rw [List.length_take] at hi
  rw [ch.errK_take _ _ _ _ (by omega)]
  exact h i (by omega)
variable {p : Pln} {l : List ch.Chg} {v : List ch.Cnt} {k : Nat}
theorem step_first (I : alwI p l v k) : (stepG p [] (l.take k)).1 = 0 ∨ (stepG p [] (l.take k)).1 = 2 ∨ (stepG p [] (l.take k)).1 = 5 := by
  refine step_of (gs_err I.gr.plan I.gr.grouped (none_right p)) (chgs_ab I.cut) fun h => ?_
  have := fit_all I.gr.plan I.gr.grouped (chgs_mem h (ch.wf_take I.wf k)) (rows_okC (ch.wf_take I.wf k) I.cut) (no_take I.hk I.no) _ (Nat.le_refl _)
  rwa [List.take_length] at this
theorem form_rest (I : alwI p l v k) : ch.formErr (l.drop k) = 0 := ch.ok_form (ch.form_drop (ch.form_ok I.form) I.hk (ch.form_ok I.cut))
theorem right_first (I : alwI p l v k) (h : (stepG p [] (l.take k)).1 = 0) : gsR p (stepG p [] (l.take k)).2.1 := by
  obtain ⟨c1, d1, e1⟩ := step_zero h
  rw [e1]
  exact doAll_right I.gr.plan I.gr.grouped (fun c hc => (chgs_mem c1 (ch.wf_take I.wf k) c hc).1) (none_right p) d1
theorem all_mem (I : alwI p l v k) (c1 : chgsErr p (l.take k) = 0) (c2 : chgsErr p (l.drop k) = 0) : ∀ c ∈ l, rowF p c.r ∧ 1 ≤ c.k ∧ c.k ≤ 4 := fun c hc => by
  rw [← List.take_append_drop k l] at hc
  rcases List.mem_append.1 hc with hc | hc
  · exact chgs_mem c1 (ch.wf_take I.wf k) c hc
  · exact chgs_mem c2 (ch.wf_drop I.wf k) c hc
theorem two_one (d1 : (doAll p [] (l.take k)).1 = 0) : doAll p (doAll p [] (l.take k)).2 (l.drop k) = doAll p [] l := by
  rw [← doAll_app _ _ _ d1, List.take_append_drop]
theorem step_second (I : alwI p l v k) (h : (stepG p [] (l.take k)).1 = 0) : (stepG p (stepG p [] (l.take k)).2.1 (l.drop k)).1 = 0 ∨ (stepG p (stepG p [] (l.take k)).2.1 (l.drop k)).1 = 2 ∨ (stepG p (stepG p [] (l.take k)).2.1 (l.drop k)).1 = 5 := by
  have ra := right_first I h
  obtain ⟨c1, d1, e1⟩ := step_zero h
  refine step_of (gs_err I.gr.plan I.gr.grouped ra) (chgs_ab (form_rest I)) fun c2 => ?_
  rw [e1]
  show (doAll p (doAll p [] (l.take k)).2 (l.drop k)).1 = 0 ∨ (doAll p (doAll p [] (l.take k)).2 (l.drop k)).1 = 2
  rw [two_one d1]
  have := fit_all I.gr.plan I.gr.grouped (all_mem I c1 c2) (rows_okC I.wf I.form) I.no _ (Nat.le_refl _)
  rwa [List.take_length] at this
theorem right_second (I : alwI p l v k) (h : (stepG p [] (l.take k)).1 = 0) (h2 : (stepG p (stepG p [] (l.take k)).2.1 (l.drop k)).1 = 0) : gsR p (stepG p (stepG p [] (l.take k)).2.1 (l.drop k)).2.1 := by
  have ra := right_first I h
  obtain ⟨c2, d2, e2⟩ := step_zero h2
  rw [e2]
  exact doAll_right I.gr.plan I.gr.grouped (fun c hc => (chgs_mem c2 (ch.wf_drop I.wf k) c hc).1) ra d2
theorem view_of {gs : List Grp} (h0 : planErr p = 0) (hg : p.grouped = true) (h : gsR p gs) : ch.viewOk (gs.map (rowC p)) ∧ ch.wfView (gs.map (rowC p)) := view_right (gs_err h0 hg h) (gs_wf h0 hg h)
theorem rows_okG {gs : List Grp} (h0 : planErr p = 0) (hg : p.grouped = true) (h : gsR p gs) : ∀ x ∈ rowsG p gs, rowOk x ∧ p.group.length ≤ x.length := fun x hx => by
  obtain ⟨g, hm, rfl⟩ := List.mem_map.1 hx
  have hv := view_of h0 hg h
  have hc : rowC p g ∈ gs.map (rowC p) := List.mem_map.2 ⟨g, hm, rfl⟩
  exact ⟨ch.view_rows hv.2 hv.1 _ hc, (rowC_len h0 hg h _ hc).1⟩
/-- what a step tells leads from the one view to the other -/
theorem told_leads {l1 l2 : List ch.Chg} {a b : List Grp} (h0 : planErr p = 0) (hg : p.grouped = true) (h1 : ∀ c ∈ l1, rowF p c.r ∧ 1 ≤ c.k ∧ c.k ≤ 4) (h2 : ∀ c ∈ l2, rowF p c.r ∧ 1 ≤ c.k ∧ c.k ≤ 4) (ha : doAll p [] l1 = (0, a)) (hb : doAll p a l2 = (0, b)) (ra : gsR p a) (rb : gsR p b) (hl : l1.length + l2.length ≤ 4096) :
    ch.formErr (toldR p.group.length (rowsG p a) (rowsG p b)) = 0 ∧ runs (ch.kvOf (a.map (rowC p))) (toldR p.group.length (rowsG p a) (rowsG p b)) (ch.kvOf (b.map (rowC p))) := by
  have hok : ∀ x, x ∈ rowsG p a ∨ x ∈ rowsG p b → rowOk x ∧ p.group.length ≤ x.length := fun x hx => hx.elim (rows_okG h0 hg ra x) (rows_okG h0 hg rb x)
  obtain ⟨f1, f2⟩ := rows_few h0 hg h1 h2 ha hb (fun x hx => (hok x hx).1)
  refine ⟨told_form (by omega) (fun c hc => keyErr_ok (hok _ ((told_of _ _ _ _ (Nat.le_refl _)).1 c hc).1).1), ?_⟩
  rw [kv_rows, kv_rows]
  exact told_runs p.group.length (fun x => x ∈ rowsG p a ∨ x ∈ rowsG p b) hok (fun X hu hx => by have := f2 X hu hx; omega) (rowsG p a) (rowsG p b) [] (up_rows ra) (up_rows rb) (fun x hx => .inl hx) (fun x hx => .inr hx)
/-- H4 -/
structure alwO (p : Pln) (v : List ch.Cnt) (a b : List Grp) (out more : List ch.Chg) : Prop where
  ofm : ch.formErr out = 0
  mfm : ch.formErr more = 0
  orun : runs [] out (ch.kvOf (a.map (rowC p)))
  mrun : runs (ch.kvOf (a.map (rowC p))) more (ch.kvOf (b.map (rowC p)))
  same : b.map (rowC p) = groupOut p v
theorem always (I : alwI p l v k) (h : (stepG p [] (l.take k)).1 = 0) (h2 : (stepG p (stepG p [] (l.take k)).2.1 (l.drop k)).1 = 0) :
    alwO p v (stepG p [] (l.take k)).2.1 (stepG p (stepG p [] (l.take k)).2.1 (l.drop k)).2.1 (stepG p [] (l.take k)).2.2 (stepG p (stepG p [] (l.take k)).2.1 (l.drop k)).2.2 := by
  have ra := right_first I h
  have rb := right_second I h h2
  obtain ⟨c1, d1, e1⟩ := step_zero h
  obtain ⟨c2, d2, e2⟩ := step_zero h2
  rw [e2] at rb ⊢
  rw [e1] at ra rb d2 ⊢
  dsimp only at ra rb d2 ⊢
  have h0 := I.gr.plan
  have hg := I.gr.grouped
  have m1 := chgs_mem c1 (ch.wf_take I.wf k)
  have m2 := chgs_mem c2 (ch.wf_drop I.wf k)
  have hlen := (ch.form_ok I.form).1
  obtain ⟨o1, o2⟩ := told_leads (l1 := []) (a := []) h0 hg (fun c hc => absurd hc List.not_mem_nil) m1 rfl (Prod.ext d1 rfl) (none_right p) ra (by rw [List.length_take]; simp; omega)
  obtain ⟨n1, n2⟩ := told_leads h0 hg m1 m2 (Prod.ext d1 rfl) (Prod.ext d2 rfl) ra rb (by rw [List.length_take, List.length_drop]; omega)
  refine ⟨o1, n1, o2, n2, ?_⟩
  have hvr := ch.view_rows I.vwf I.gr.view
  have hd : doAll p [] l = (0, (doAll p (doAll p [] (l.take k)).2 (l.drop k)).2) := by
    rw [← two_one d1]
    exact Prod.ext d2 rfl
  have hlk := (like_all h0 hg (all_mem I c1 c2) (rows_okC I.wf I.form) I.no I.kv (ch.view_good I.vwf I.gr.view) hvr hd).2
  refine view_same h0 hg rb hlk (fun c hc => ?_) (fun c hc => ⟨I.gr.len c hc, (hvr c hc).2, fun i hi => ?_⟩)
  · obtain ⟨i, hi, rfl⟩ := List.getElem_of_mem hc
    have e : v.getD i default = v[i] := by rw [List.getD_eq_getElem?_getD, List.getElem?_eq_getElem hi]; rfl
    have := I.gr.view.2 i hi
    unfold ch.okAt at this
    rw [e] at this
    exact this.2.1
  · have ht := I.gr.typ c hc
    unfold typedB at ht
    simp only [Bool.and_eq_true, decide_eq_true_eq] at ht
    have := allB_iff.1 ht.2 i hi
    unfold cellB at this
    simpa using this
end Go.Proofs.YtbfbgdinhiglaaaGreat.gr
/- Group: what it answers. -/
namespace Go.Proofs.YtbfbgdinhiglaaaGreat.bt
open Go.ChangeShapes Go.WideShapes Go.ChangeAt Go.RowKit Go.Maps Go.WideMaps Go.Sort
open vl pl
set_option linter.unusedVariables false
set_option linter.unusedSimpArgs false
theorem keysC_any (B : Nat) (w : World) : Calls Tryz.prog 54 #[.map (some B)] w fun e w' => e = .returned (.func (.func 103) #[] #[.pointer (some ⟨w.heap.size, 0, none⟩)]) ∧ w' = w.alloc (.cells #[.map (some B)] 94) :=
  callsIn_wide.1 (Tryz.maps_Keys_54 (some B) w)
theorem sortedC_any (B nn : Nat) (kv : ch.KV) (w : World) (hm : w.ownsMap Tryz.prog 9 hElem B nn (ch.toD kv)) (hr : ch.rising kv) (hlen : kv.length ≤ 1000000) :
    Calls Tryz.prog 53 #[.func (.func 103) #[] #[.pointer (some ⟨w.heap.size, 0, none⟩)]] (w.alloc (.cells #[.map (some B)] 94))
      fun e w' => (∃ v, e = .returned v ∧ w'.ownsRow (w.heap.size + 1) 9 1 v kv.length ((kv.map (·.1)).map encStr)) ∧ Below (w.heap.size + 1) (w.alloc (.cells #[.map (some B)] 94)) w' := by
  have h := Tryz.slices_Sorted_keys_53_54 B nn (ch.toD kv) hElem w hm (by rw [ch.toD_size]; unfold maxLen; omega) (by rw [ch.toD_size]; omega)
  refine (callsIn_wide.1 h).mono ?_
  rintro e w' ⟨v, ss, he, hp, hrow, hnil, hb⟩
  have hlen2 : ss.length = kv.length := by rw [hp.length_eq, ch.strKeys_toD, List.length_map]
  rw [ch.sorted_keys hr hp, hlen2] at hrow
  simp only [World.size_alloc] at hrow hb
  exact ⟨⟨v, he, hrow⟩, hb⟩
/-- one row more, of a view that is being made -/
theorem MV_snoc {w w1 w2 : World} {base g cap rc : Nat} {u : Value} {L : ch.PL} {ad : Option Addr} {r : List Cel} {m : Int} {o : Obj} (h : ch.MV w base u L) (hb : Below w.heap.size w w1) (hr : vl.rowAt w1 ad r) (hnew : ∀ b, (Value.slice ad r.length rc).ownBlock = some b → w.heap.size ≤ b ∧ b < w1.heap.size)
    (hown : w2.ownsRow base 71 2 (.slice (some ⟨g, 0, none⟩) (L.length + 1) cap) (L.length + 1) (ch.flatP (L ++ [(.slice ad r.length rc, ⟨r, m⟩)]))) (hg : (w1.alloc o).grownBy w2 u.ownBlock) (hat : u.ownBlock = some g ∨ g = w1.heap.size + 1) :
    ch.MV w2 base (.slice (some ⟨g, 0, none⟩) (L.length + 1) cap) (L ++ [(.slice ad r.length rc, ⟨r, m⟩)]) ∧ Below base w w2 := by
  have hlow := h.low
  have hs1 := hb.size
  have hs2 : w1.heap.size + 1 ≤ w2.heap.size := by have := hg.size; simpa using this
  have hult : ∀ b, u.ownBlock = some b → base ≤ b ∧ b < w.heap.size := fun b hb => ch.own_lt h.own hb
  have hblk : ∀ b, b < w1.heap.size → u.ownBlock ≠ some b → w2.heap[b]? = w1.heap[b]? := fun b hb1 hne => by
    rw [hg.block b (by simp; omega) (fun e => hne e.symm)]
    exact Below.heap_alloc _ _ b hb1
  refine ⟨⟨by omega, by rw [List.length_append]; exact hown, fun p hp => ?_⟩, ((hb.mono hlow).alloc (by omega) o).grown hg (by simp; omega) (fun b hb1 => (hult b hb1).1)⟩
  rcases List.mem_append.1 hp with hp | hp
  · have h1 := (ch.MV_below h hb).rows p hp
    refine ch.rowOne_keep h1 hblk (by omega) (fun b hb1 hne e => ?_)
    have hbg : g = b := by cases e; rfl
    rcases hat with h5 | h5
    · exact hne (by rw [← hbg]; exact h5)
    · omega
  · rw [List.mem_singleton.1 hp]
    refine ⟨ad, rc, rfl, ?_, fun b hb1 => ?_⟩
    · refine ch.rowAt_block (cap := rc) hr (fun b hb1 hlt => hblk b hlt (fun e => ?_))
      have := (hnew b hb1).1
      have := (hult b e).2
      omega
    · have h1 := hnew b hb1
      refine ⟨fun e => ?_, by omega⟩
      have hbg : g = b := by cases e; rfl
      rcases hat with h5 | h5
      · have := (hult g h5).2; omega
      · omega
def grpRes (p : Pln) (v : List ch.Cnt) (e : Ending) (w' : World) : Prop :=
  (groupErr p v ≠ 0 ∧ e = .returned (.tuple #[.slice none 0 0, .int .i64 (groupErr p v)])) ∨ (groupErr p v = 0 ∧ ∃ ad cap, e = .returned (.tuple #[.slice ad (groupOut p v).length cap, .int .i64 0]) ∧ ch.viewAt w' ad (groupOut p v))
end Go.Proofs.YtbfbgdinhiglaaaGreat.bt
