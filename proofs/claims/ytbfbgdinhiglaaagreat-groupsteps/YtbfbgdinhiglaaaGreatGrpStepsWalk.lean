import Derived.Test.YtbfbgdinhiglaaaGreatS38
import Derived.Test.YtbfbgdinhiglaaaGreatS39
namespace Go.Proofs.YtbfbgdinhiglaaaGreat.gr
open Go.ChangeShapes Go.WideShapes Go.ChangeAt Go.RowKit
open vl pl bt
set_option linter.unusedVariables false
set_option linter.unusedSimpArgs false
attribute [local go_sem] Oper.semAt_some
theorem told_of (size : Nat) : ∀ (m : Nat) (A B : List (List Cel)), A.length + B.length ≤ m → (∀ c ∈ toldR size A B, (c.r ∈ A ∨ c.r ∈ B) ∧ 1 ≤ c.k ∧ c.k ≤ 4) ∧ (toldR size A B).length ≤ A.length + B.length
 | m, [], [], _ => by rw [toldR]; exact ⟨fun c hc => absurd hc List.not_mem_nil, Nat.zero_le _⟩
 | 0, a :: A, B, h => absurd h (by simp)
 | 0, [], b :: B, h => absurd h (by simp)
 | m + 1, a :: A, [], h => by
  obtain ⟨h1, h2⟩ := told_of size m A [] (by simp at h ⊢; omega)
  rw [toldR]
  refine ⟨fun c hc => ?_, by simp at h2 ⊢; omega⟩
  rcases List.mem_cons.1 hc with rfl | hc
  ·exact ⟨.inl (List.mem_cons_self ..), by show (1 : Int) ≤ _; simp, by simp⟩
  ·obtain ⟨k1, k2⟩ := h1 c hc
   exact ⟨k1.imp (List.mem_cons_of_mem _) id, k2⟩
 | m + 1, [], b :: B, h => by
  obtain ⟨h1, h2⟩ := told_of size m [] B (by simp at h ⊢; omega)
  rw [toldR]
  refine ⟨fun c hc => ?_, by simp at h2 ⊢; omega⟩
  rcases List.mem_cons.1 hc with rfl | hc
  ·exact ⟨.inr (List.mem_cons_self ..), by show (1 : Int) ≤ _; simp, by simp⟩
  ·obtain ⟨k1, k2⟩ := h1 c hc
   exact ⟨k1.imp id (List.mem_cons_of_mem _), k2⟩
 | m + 1, a :: A, b :: B, h => by
  rw [toldR]
  split
  ·obtain ⟨h1, h2⟩ := told_of size m A (b :: B) (by simp at h ⊢; omega)
   refine ⟨fun c hc => ?_, by simp at h2 ⊢; omega⟩
   rcases List.mem_cons.1 hc with rfl | hc
   ·exact ⟨.inl (List.mem_cons_self ..), by show (1 : Int) ≤ _; simp, by simp⟩
   ·obtain ⟨k1, k2⟩ := h1 c hc
    exact ⟨k1.imp (List.mem_cons_of_mem _) id, k2⟩
  ·split
   ·obtain ⟨h1, h2⟩ := told_of size m (a :: A) B (by simp at h ⊢; omega)
    refine ⟨fun c hc => ?_, by simp at h2 ⊢; omega⟩
    rcases List.mem_cons.1 hc with rfl | hc
    ·exact ⟨.inr (List.mem_cons_self ..), by show (1 : Int) ≤ _; simp, by simp⟩
    ·obtain ⟨k1, k2⟩ := h1 c hc
     exact ⟨k1.imp id (List.mem_cons_of_mem _), k2⟩
   ·obtain ⟨h1, h2⟩ := told_of size m A B (by simp at h ⊢; omega)
    refine ⟨fun c hc => ?_, ?_⟩
    ·rcases List.mem_append.1 hc with hc | hc
     ·split at hc
      ·exact absurd hc List.not_mem_nil
      ·simp only [List.mem_cons, List.not_mem_nil, or_false] at hc
       rcases hc with rfl | rfl
       ·exact ⟨.inl (List.mem_cons_self ..), by show (1 : Int) ≤ _; simp, by simp⟩
       ·exact ⟨.inr (List.mem_cons_self ..), by show (1 : Int) ≤ _; simp, by simp⟩
     ·obtain ⟨k1, k2⟩ := h1 c hc
      exact ⟨k1.imp (List.mem_cons_of_mem _) (List.mem_cons_of_mem _), k2⟩
    ·rw [List.length_append]
     split
     ·simp at h2 ⊢; omega
     ·simp at h2 ⊢; omega
theorem rowr_wf {p : Pln} {gs : List Grp} (h : grpsErr p gs = 0) (hwf : ∀ g ∈ gs, wfG g) : ∀ r ∈ gs.map (fun g => (rowC p g).r), wfRow r ∧ r.length ≤ 9223372036854775807 := fun r hr => by
 obtain ⟨g, hm, rfl⟩ := List.mem_map.1 hr
 obtain ⟨i, hi, rfl⟩ := List.getElem_of_mem hm
 have e : gs.getD i default = gs[i] := by rw [List.getD_eq_getElem?_getD, List.getElem?_eq_getElem hi]; rfl
 have hk := rowC_ok (okG_of h).1 (okG_of h).2.1 (right_at h hwf i hi).1
 rw [e] at hk
 exact ⟨fun c hc => (hk.2 c hc).2, by have := hk.1; show (_ ++ figsG p _).length ≤ _; omega⟩
structure stepW (R : Int × List Grp × List ch.Chg) : Prop where
 wf : ch.wfChgs R.2.2
 tl : R.2.2.length ≤ 9223372036854775807
 gl : R.2.1.length ≤ 1000000
 bd : ∀ g ∈ R.2.1, g.row.length ≤ 1000 ∧ g.bags.length ≤ 1000 ∧ ∀ l ∈ g.bags, l.length ≤ 1073741824
 none : R.1 ≠ 0 → R.2.1 = [] ∧ R.2.2 = []
theorem none_w (E : Int) : stepW (E, [], []) := ⟨fun c hc => absurd hc List.not_mem_nil, Nat.zero_le _, Nat.zero_le _, fun g hg => absurd hg List.not_mem_nil, fun _ => ⟨rfl, rfl⟩⟩
theorem doAll_right {p : Pln} (h0 : planErr p = 0) (hg : p.grouped = true) : ∀ {l : List ch.Chg} {gs : List Grp}, (∀ c ∈ l, rowF p c.r) → gsR p gs → (doAll p gs l).1 = 0 → gsR p (doAll p gs l).2
 | [], gs, _, hR, _ => hR
 | c :: l, gs, hr, hR, h => by
  by_cases hd : (doG p c.k c.r gs).1 = 0
  ·rw [doAll_ok hd] at h ⊢
   exact doAll_right h0 hg (fun c' hc => hr c' (List.mem_cons_of_mem _ hc)) (do_right h0 hg (hr c (List.mem_cons_self ..)) hR hd) h
  ·rw [doAll_bad hd] at h
   exact absurd h hd
theorem step_w {p : Pln} {gs : List Grp} {l : List ch.Chg} (hwf : ∀ g ∈ gs, wfG g) (hwl : ch.wfChgs l) : stepW (stepG p gs l) := by
 unfold stepG
 split
 ·exact none_w _
 ·rename_i h1
  have h1 : grpsErr p gs = 0 := Classical.byContradiction h1
  split
  ·exact none_w _
  ·rename_i h2
   have h2 : chgsErr p l = 0 := Classical.byContradiction h2
   split
   ·exact none_w _
   ·rename_i h3
    have h3 : (doAll p gs l).1 = 0 := Classical.byContradiction h3
    obtain ⟨h0, hg, hl, _⟩ := okG_of h1
    have hf := group_few h0 hg
    have hrows : ∀ c ∈ l, rowF p c.r := fun c hc => by
     obtain ⟨i, hi, rfl⟩ := List.getElem_of_mem hc
     have e : l.getD i default = l[i] := by rw [List.getD_eq_getElem?_getD, List.getElem?_eq_getElem hi]; rfl
     rw [← e]
     exact ((chgs_rows h2 hwl).2 i hi).1
    have hR := doAll_right h0 hg hrows (gs_right h1 hwf) h3
    have he := gs_err h0 hg hR
    have hw2 := gs_wf h0 hg hR
    obtain ⟨t1, t2⟩ := told_of p.group.length _ (gs.map fun g => (rowC p g).r) ((doAll p gs l).2.map fun g => (rowC p g).r) nR
    rw [List.length_map, List.length_map] at t2
    have hm := hR.many
    refine ⟨fun c hc => ?_, by dsimp only; omega, by dsimp only; omega, fun g hm => ?_, fun h => absurd rfl h⟩
    ·obtain ⟨k1, k2, k3⟩ := t1 c hc
     have hr : wfRow c.r ∧ c.r.length ≤ 9223372036854775807 := by
      rcases k1 with k | k
      ·exact rowr_wf h1 hwf _ k
      ·exact rowr_wf he hw2 _ k
     exact ⟨hr.1, hr.2, by omega, by omega⟩
    ·obtain ⟨hr, n1, n2⟩ := hR.each g hm
     refine ⟨by rw [row_len hr]; omega, by rw [hr.bl]; omega, fun t ht => ?_⟩
     obtain ⟨j, hj, rfl⟩ := List.getElem_of_mem ht
     have hb := bag_len (hr.bag j (by rw [← hr.bl]; exact hj)) ⟨by omega, n2⟩
     have e : g.bags.getD j [] = g.bags[j] := by rw [List.getD_eq_getElem?_getD, List.getElem?_eq_getElem hj]; rfl
     rw [e] at hb
     exact hb.1
theorem step_one {R : Int × List Grp × List ch.Chg} (hw : stepW R) {e : Ending} {w' : World} (h : stepRes R e w') : ∃ ga gc xs ta tc, e = .returned (.tuple #[.slice ga R.2.1.length gc, .slice ta R.2.2.length tc, .int .i64 R.1]) ∧ gsAt w' ga xs R.2.1 ∧ ch.chgsAt w' ta R.2.2 := by
 rcases h with ⟨h0, rfl⟩ | ⟨h0, ga, gc, xs, ta, tc, rfl, h1, h2⟩
 ·obtain ⟨e1, e2⟩ := hw.none h0
  rw [e1, e2]
  exact ⟨none, 0, [], none, 0, rfl, ⟨rfl, fun i hi => absurd hi (Nat.not_lt_zero i), fun i hi => absurd hi (Nat.not_lt_zero i)⟩, fun i hi => absurd hi (Nat.not_lt_zero i)⟩
 ·exact ⟨ga, gc, xs, ta, tc, by rw [h0], h1, h2⟩
set_option maxRecDepth 100000 in
set_option maxHeartbeats 8000000 in
theorem groupSteps_walk (p : Pln) (x : PA) (a : Option Addr) (cap : Nat) (xs : List GX) (gs : List Grp) (la : Option Addr) (lcp : Nat) (l : List ch.Chg) (w : World) (hw : wfPlan p) (hp : planAt w p x) (hgs : gsAt w a xs gs) (hwf : ∀ g ∈ gs, wfG g) (hgl : gs.length ≤ 9223372036854775807) (hv : ch.chgsAt w la l) (hwl : ch.wfChgs l) (hll : l.length ≤ 9223372036854775807) :
 Calls Tryz.prog 4 #[planV p x, .slice a gs.length cap, .slice la l.length lcp] w fun e w' => e = .returned (.bool true) ∧ Below w.heap.size w w' := by
 have HW := step_w (p := p) (gs := gs) (l := l) hwf hwl
 have KS : Hid (∀ w1, Below w.heap.size w w1 → Calls Tryz.prog 12 #[planV p x, .slice a gs.length cap, .slice la l.length lcp] w1 fun e w' => (∃ ga gc xs ta tc, e = .returned (.tuple #[.slice ga (stepG p gs l).2.1.length gc, .slice ta (stepG p gs l).2.2.length tc, .int .i64 (stepG p gs l).1]) ∧ gsAt w' ga xs (stepG p gs l).2.1 ∧ ch.chgsAt w' ta (stepG p gs l).2.2) ∧ Below w1.heap.size w1 w') := fun w1 hb => by
  refine (step_any p x a cap xs gs la lcp l w1 hw (planAt_below hp hb) (hgs.below hb) hwf hgl (ch.chgsAt_below hv hb) hwl hll).mono ?_
  rintro e w' ⟨h, hb2⟩
  exact ⟨step_one HW h, hb2⟩
 have KR : Hid (∀ w1, Below w.heap.size w w1 → Calls Tryz.prog 13 #[planV p x, .slice a gs.length cap, .slice la l.length lcp] w1 fun e w' => (∃ ga gc xs ta tc, e = .returned (.tuple #[.slice ga (stepG p gs l).2.1.length gc, .slice ta (stepG p gs l).2.2.length tc, .int .i64 (stepG p gs l).1]) ∧ gsAt w' ga xs (stepG p gs l).2.1 ∧ ch.chgsAt w' ta (stepG p gs l).2.2) ∧ Below w1.heap.size w1 w') := fun w1 hb => by
  refine (rstep_any p x a cap xs gs la lcp l w1 hw (planAt_below hp hb) (hgs.below hb) hwf hgl (ch.chgsAt_below hv hb) hwl hll).mono ?_
  rintro e w' ⟨h, hb2⟩
  exact ⟨step_one HW h, hb2⟩
 have KG : Hid (∀ a1 a2 c1 c2 x1 x2 w1, gsAt w1 a1 x1 (stepG p gs l).2.1 → gsAt w1 a2 x2 (stepG p gs l).2.1 → Calls Tryz.prog 14 #[.slice a1 (stepG p gs l).2.1.length c1, .slice a2 (stepG p gs l).2.1.length c2] w1 fun e w' => e = .returned (.bool true) ∧ Below w1.heap.size w1 w') := fun a1 a2 c1 c2 x1 x2 w1 h1 h2 => rsame_any a1 a2 c1 c2 x1 x2 _ w1 h1 h2 HW.gl HW.bd
 have KH : Hid (∀ a1 a2 c1 c2 w1, ch.chgsAt w1 a1 (stepG p gs l).2.2 → ch.chgsAt w1 a2 (stepG p gs l).2.2 → Calls Tryz.prog 15 #[.slice a1 (stepG p gs l).2.2.length c1, .slice a2 (stepG p gs l).2.2.length c2] w1 fun e w' => e = .returned (.bool true) ∧ Below w1.heap.size w1 w') := fun a1 a2 c1 c2 w1 h1 h2 => by
  have h := ch.sameChanges_any a1 a2 c1 c2 _ _ w1 h1 h2 HW.wf HW.wf HW.tl HW.tl
  rw [decide_eq_true rfl] at h
  exact h
 obtain ⟨⟨R1, R2, R3⟩, hR⟩ : ∃ z, stepG p gs l = z := ⟨_, rfl⟩
 rw [hR] at KS KR KG KH
 dsimp only at KS KR KG KH
 obtain ⟨gn, hgn⟩ : ∃ z, gs.length = z := ⟨_, rfl⟩
 obtain ⟨n, hn⟩ : ∃ z, l.length = z := ⟨_, rfl⟩
 obtain ⟨m2, hm2⟩ : ∃ z, R2.length = z := ⟨_, rfl⟩
 obtain ⟨m3, hm3⟩ : ∃ z, R3.length = z := ⟨_, rfl⟩
 rw [hgn, hn] at KS KR ⊢
 rw [hm2] at KS KR KG
 rw [hm3] at KS KR KH
 clear hR hgn hn hm2 hm3 hw hp hgs hwf hgl hv hwl hll HW
 unfold planV at KS KR ⊢
 go_enter Tryz.func4, Tryz.ntmps4
 go_wp2_with fail
 generalize hV : (World.alloc w _) = V
 have hb0 : Below w.heap.size w V := by rw [← hV]; exact bR.alloc nR _
 have HB : Hid (boxP V w.heap.size p x) := by subst hV; exact box_new ..
 clear hV
 refine (KS.out _ hb0).mono ?_
 rintro e w1 ⟨⟨ga, gc, x1, ta, tc, rfl, hg1, ht1⟩, hb1⟩
 have hbw : Below w.heap.size w w1 := hb0.trans (hb1.mono hb0.size)
 have HG1 : Hid (gsAt w1 ga x1 R2 ∧ ch.chgsAt w1 ta R3) := ⟨hg1, ht1⟩
 obtain ⟨v0, v1, v2, v3, v4, v5, v6, v7, v8, v9, v10, v11, v12⟩ := box_later HB.out hb1
 clear hg1 ht1 hb1 hb0 HB KS
 go_wp2_with fail
 refine (KR.out _ hbw).mono ?_
 rintro e w2 ⟨⟨ga2, gc2, x2, ta2, tc2, rfl, hg2, ht2⟩, hb2⟩
 have HG2 : Hid (gsAt w2 ga2 x2 R2 ∧ ch.chgsAt w2 ta2 R3) := ⟨hg2, ht2⟩
 have HG3 : Hid (gsAt w2 ga x1 R2 ∧ ch.chgsAt w2 ta R3) := ⟨HG1.out.1.below hb2, ch.chgsAt_below HG1.out.2 hb2⟩
 have hbw2 : Below w.heap.size w w2 := hbw.trans (hb2.mono hbw.size)
 clear v0 v1 v2 v3 v4 v5 v6 v7 v8 v9 v10 v11 v12 hg2 ht2 hb2 hbw HG1 KR
 go_wp2_with (first
  | (go_at_call 8; refine (begun_any _).mono ?_; rintro e w3 ⟨rfl, hb3⟩)
  | (go_at_call 14; refine (KG.out _ _ _ _ x1 x2 _ (HG3.out.1.below hb3) (HG2.out.1.below hb3)).mono ?_; rintro e w4 ⟨rfl, hb4⟩)
  | (go_at_call 15; refine (KH.out _ _ _ _ _ (ch.chgsAt_below HG3.out.2 (hb3.trans (hb4.mono hb3.size))) (ch.chgsAt_below HG2.out.2 (hb3.trans (hb4.mono hb3.size)))).mono ?_; rintro e w5 ⟨rfl, hb5⟩))
 go_ret
 exact ⟨rfl, hbw2.trans ((hb3.trans ((hb4.trans (hb5.mono hb4.size)).mono hb3.size)).mono hbw2.size)⟩
end Go.Proofs.YtbfbgdinhiglaaaGreat.gr
