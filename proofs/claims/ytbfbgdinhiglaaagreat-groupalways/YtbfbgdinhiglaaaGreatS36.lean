import Derived.Test.YtbfbgdinhiglaaaGreatS34
import Derived.Test.YtbfbgdinhiglaaaGreatGrpBG2
/- What GroupAlways calls, as it calls it. -/
namespace Go.Proofs.YtbfbgdinhiglaaaGreat.gr
open Go.ChangeShapes Go.WideShapes Go.ChangeAt Go.RowKit
open vl pl bt
set_option linter.unusedVariables false
set_option linter.unusedSimpArgs false
theorem no_view (w : World) : ch.viewAt w none [] := fun i hi => absurd hi (Nat.not_lt_zero i)
theorem no_wfV : ch.wfView [] := fun c hc => absurd hc List.not_mem_nil
theorem no_gs (w : World) : gsAt w none [] [] := ⟨rfl, fun i hi => absurd hi (Nat.not_lt_zero i), fun i hi => absurd hi (Nat.not_lt_zero i)⟩
theorem no_viewOk : ch.viewOk [] := ⟨Nat.zero_le _, fun i hi => absurd hi (Nat.not_lt_zero i)⟩
/-- Fold from nothing, whatever comes -/
theorem fold_first (la : Option Addr) (lcp : Nat) (l : List ch.Chg) (w : World) (hv : ch.chgsAt w la l) (hwl : ch.wfChgs l) (hll : l.length ≤ 9223372036854775807) :
    Calls Tryz.prog 16 #[.slice none 0 0, .slice la l.length lcp] w fun e w' => (∃ (v : List ch.Cnt) (ad : Option Addr) (cap : Nat) (q E : Int), e = .returned (.tuple #[.slice ad v.length cap, .int .i64 q, .int .i64 E]) ∧ ch.viewAt w' ad v ∧ ch.wfView v ∧ v.length ≤ 9223372036854775807 ∧ (E = 0 → ch.formErr l = 0 ∧ (∀ i, i < l.length → ch.errK [] l i = 0) ∧ ch.kvOf v = ch.atK [] l l.length)) ∧ Below w.heap.size w w' := by
  refine (ch.fold_any none la 0 lcp [] l w (no_view w) no_wfV (by decide) hv hwl hll).mono ?_
  rintro e w' ⟨h, hb⟩
  refine ⟨?_, hb⟩
  rcases ch.fold_split h with ⟨q, E, hE, rfl⟩ | ⟨_, h2, h3, out, h4, h5, h6, ad, cap, rfl, h7⟩
  · exact ⟨[], none, 0, q, E, rfl, no_view _, no_wfV, by decide, fun e => absurd e hE⟩
  · exact ⟨out, ad, cap, 0, 0, rfl, h7, h6, ch.view_len h5, fun _ => ⟨h2, h3, h4⟩⟩
/-- Fold of what leads from the one view to the other -/
theorem fold_leads (a c : Option Addr) (ca cc : Nat) (v : List ch.Cnt) (l : List ch.Chg) (o : List ch.Cnt) (w : World) (hv : ch.viewAt w a v) (hwv : ch.wfView v) (hvo : ch.viewOk v) (hc : ch.chgsAt w c l) (hwl : ch.wfChgs l) (hll : l.length ≤ 9223372036854775807) (hf : ch.formErr l = 0) (hr : runs (ch.kvOf v) l (ch.kvOf o)) (ho : ch.viewOk o) (hwo : ch.wfView o) :
    Calls Tryz.prog 16 #[.slice a v.length ca, .slice c l.length cc] w fun e w' => (∃ ad cap, e = .returned (.tuple #[.slice ad o.length cap, .int .i64 0, .int .i64 0]) ∧ ch.viewAt w' ad o) ∧ Below w.heap.size w w' := by
  refine (ch.fold_any a c ca cc v l w hv hwv (ch.view_len hvo) hc hwl hll).mono ?_
  rintro e w' ⟨h, hb⟩
  refine ⟨?_, hb⟩
  obtain ⟨out, h4, h5, h6, ad, cap, rfl, h7⟩ := ch.fold_yes h (ch.viewErr_ok hvo) hf hr.1
  have e : out = o := ch.kvOf_inj (ch.view_rows h6 h5) (ch.view_rows hwo ho) (by rw [h4, hr.2])
  subst e
  exact ⟨ad, cap, rfl, h7⟩
/-- Group, whatever comes -/
theorem group_first (p : Pln) (x : PA) (a : Option Addr) (ca : Nat) (v : List ch.Cnt) (w : World) (hw : wfPlan p) (hp : planAt w p x) (hl : v.length ≤ 9223372036854775807) (hv : ch.viewAt w a v) (hwv : ch.wfView v) :
    Calls Tryz.prog 17 #[planV p x, .slice a v.length ca] w fun e w' => (∃ (o : List ch.Cnt) (oa : Option Addr) (oc : Nat) (F : Int), e = .returned (.tuple #[.slice oa o.length oc, .int .i64 F]) ∧ ch.viewAt w' oa o ∧ (F = 0 → groupOk p v ∧ o = groupOut p v)) ∧ Below w.heap.size w w' := by
  refine (Group_any p x a ca v w hw hp hl hv hwv).mono ?_
  rintro e w' ⟨h, hb⟩
  refine ⟨?_, hb⟩
  rcases h with ⟨h, rfl⟩ | ⟨h, ad, cap, rfl, h2⟩
  · exact ⟨[], none, 0, _, rfl, no_view _, fun e => absurd e h⟩
  · exact ⟨_, ad, cap, 0, rfl, h2, fun _ => ⟨group_ok h, rfl⟩⟩
theorem view_first (p : Pln) (x : PA) (a : Option Addr) (cap : Nat) (xs : List GX) (gs : List Grp) (w : World) (hw : wfPlan p) (hp : planAt w p x) (hgs : gsAt w a xs gs) (h0 : planErr p = 0) (hg : p.grouped = true) (hR : gsR p gs) :
    Calls Tryz.prog 6 #[planV p x, .slice a gs.length cap] w fun e w' => (∃ ad c, e = .returned (.tuple #[.slice ad gs.length c, .int .i64 0]) ∧ ch.viewAt w' ad (gs.map (rowC p))) ∧ Below w.heap.size w w' := by
  refine (view_any p x a cap xs gs w hw hp hgs (gs_wf h0 hg hR) (by have := hR.many; omega)).mono ?_
  rintro e w' ⟨h, hb⟩
  refine ⟨?_, hb⟩
  rcases h with ⟨h, _⟩ | ⟨_, h⟩
  · exact absurd (gs_err h0 hg hR) h
  · exact h
theorem same_first (a1 a2 : Option Addr) (c1 c2 : Nat) (r : List ch.Cnt) (w : World) (h1 : ch.viewAt w a1 r) (h2 : ch.viewAt w a2 r) (x : ch.viewOk r ∧ ch.wfView r) :
    Calls Tryz.prog 10 #[.slice a1 r.length c1, .slice a2 r.length c2] w fun e w' => e = .returned (.bool true) ∧ Below w.heap.size w w' := by
  have h := ch.sameViews_any a1 a2 c1 c2 r r w h1 h2 x.2 x.2 (ch.view_len x.1) (ch.view_len x.1)
  rw [decide_eq_true rfl] at h
  exact h
end Go.Proofs.YtbfbgdinhiglaaaGreat.gr
/- GroupAlways, walked. -/
namespace Go.Proofs.YtbfbgdinhiglaaaGreat.gr
open Go.ChangeShapes Go.WideShapes Go.ChangeAt Go.RowKit
open vl pl bt
set_option linter.unusedVariables false
set_option linter.unusedSimpArgs false
attribute [local go_sem] Oper.semAt_some
theorem hid {P : Prop} (h : P) : Hid P := h
set_option maxRecDepth 100000 in
set_option maxHeartbeats 8000000 in
theorem groupAlways_walk (p : Pln) (x : PA) (la : Option Addr) (lcp : Nat) (l : List ch.Chg) (cut : Int) (c1 : -9223372036854775808 ≤ cut) (c2 : cut ≤ 9223372036854775807) (w : World) (hw : wfPlan p) (hp : planAt w p x) (hv : ch.chgsAt w la l) (hwl : ch.wfChgs l) (hll : l.length ≤ 9223372036854775807) (hcap : l.length ≤ lcp) :
    Calls Tryz.prog 5 #[planV p x, .slice la l.length lcp, .int .i64 cut] w fun e w' => e = .returned (.bool true) ∧ Below w.heap.size w w' := by
  have KF : Hid (∀ w1, Below w.heap.size w w1 → Calls Tryz.prog 16 #[.slice none 0 0, .slice la l.length lcp] w1 fun e w' => (∃ (v : List ch.Cnt) (ad : Option Addr) (cap : Nat) (q E : Int), e = .returned (.tuple #[.slice ad v.length cap, .int .i64 q, .int .i64 E]) ∧ ch.viewAt w' ad v ∧ ch.wfView v ∧ v.length ≤ 9223372036854775807 ∧ (E = 0 → ch.formErr l = 0 ∧ (∀ i, i < l.length → ch.errK [] l i = 0) ∧ ch.kvOf v = ch.atK [] l l.length)) ∧ Below w1.heap.size w1 w') := fun w1 hb => fold_first la lcp l w1 (ch.chgsAt_below hv hb) hwl hll
  have KG : Hid (∀ (v : List ch.Cnt) (n : Nat) (ad : Option Addr) (cap : Nat) (w1 : World), v.length = n → Below w.heap.size w w1 → ch.viewAt w1 ad v → ch.wfView v → n ≤ 9223372036854775807 → Calls Tryz.prog 17 #[planV p x, .slice ad n cap] w1 fun e w' => (∃ (o : List ch.Cnt) (oa : Option Addr) (oc : Nat) (F : Int), e = .returned (.tuple #[.slice oa o.length oc, .int .i64 F]) ∧ ch.viewAt w' oa o ∧ (F = 0 → groupOk p v ∧ o = groupOut p v)) ∧ Below w1.heap.size w1 w') := fun v n ad cap w1 hn hb h1 h2 h3 => by
    subst hn
    exact group_first p x ad cap v w1 hw (planAt_below hp hb) h3 h1 h2
  have KO : Hid (∀ (m : List ch.Chg) (n : Nat) (ad : Option Addr) (cap : Nat) (w1 : World), m.length = n → ch.chgsAt w1 ad m → ch.wfChgs m → n ≤ 9223372036854775807 → Calls Tryz.prog 19 #[.slice ad n cap] w1 fun e w' => e = .returned (.int .i64 (ch.formErr m)) ∧ Below w1.heap.size w1 w') := fun m n ad cap w1 hn h1 h2 h3 => by
    subst hn
    exact form3_any ad cap m w1 h1 h2 h3
  have KS : Hid (∀ (gs : List Grp) (m : List ch.Chg) (g n : Nat) (a ad : Option Addr) (ca cap : Nat) (xs : List GX) (w1 : World), gs.length = g → m.length = n → Below w.heap.size w w1 → gsAt w1 a xs gs → (∀ z ∈ gs, wfG z) → g ≤ 9223372036854775807 → ch.chgsAt w1 ad m → ch.wfChgs m → n ≤ 9223372036854775807 → Calls Tryz.prog 12 #[planV p x, .slice a g ca, .slice ad n cap] w1 fun e w' => (∃ ga gc xs ta tc, e = .returned (.tuple #[.slice ga (stepG p gs m).2.1.length gc, .slice ta (stepG p gs m).2.2.length tc, .int .i64 (stepG p gs m).1]) ∧ gsAt w' ga xs (stepG p gs m).2.1 ∧ ch.chgsAt w' ta (stepG p gs m).2.2) ∧ Below w1.heap.size w1 w') := fun gs m g n a ad ca cap xs w1 hg hn hb h1 h2 h3 h4 h5 h6 => by
    subst hg hn
    refine (step_any p x a ca xs gs ad cap m w1 hw (planAt_below hp hb) h1 h2 h3 h4 h5 h6).mono ?_
    rintro e w' ⟨h, hb2⟩
    exact ⟨step_one (step_w h2 h5) h, hb2⟩
  have KV : Hid (∀ (gs : List Grp) (g : Nat) (a : Option Addr) (ca : Nat) (xs : List GX) (w1 : World), gs.length = g → Below w.heap.size w w1 → gsAt w1 a xs gs → planErr p = 0 → p.grouped = true → gsR p gs → Calls Tryz.prog 6 #[planV p x, .slice a g ca] w1 fun e w' => (∃ ad c, e = .returned (.tuple #[.slice ad g c, .int .i64 0]) ∧ ch.viewAt w' ad (gs.map (rowC p))) ∧ Below w1.heap.size w1 w') := fun gs g a ca xs w1 hg hb h1 h2 h3 h4 => by
    subst hg
    exact view_first p x a ca xs gs w1 hw (planAt_below hp hb) h1 h2 h3 h4
  have HC : Hid (ch.chgsAt w la l) := hv
  have HWL : Hid (ch.wfChgs l) := hwl
  obtain ⟨n, hn⟩ : ∃ z, l.length = z := ⟨_, rfl⟩
  have HN : Hid (l.length = n) := hn
  rw [hn] at KF hll hcap ⊢
  clear hn hv hwl hw hp
  unfold planV at KG KS KV ⊢
  obtain ⟨n1, hn1⟩ : ∃ x, IntKind.i64.wrap ((n : Int) + 1) = x := ⟨_, rfl⟩
  have hn2 : n1 = n + 1 ∨ (n = 9223372036854775807 ∧ n1 = -9223372036854775808) := by
    rw [ch.wrap_is] at hn1; omega
  go_enter Tryz.func5, Tryz.ntmps5
  go_wp2_with fail
  generalize hV : (World.alloc w _) = V
  have hb0 : Below w.heap.size w V := by rw [← hV]; exact (Below.refl _ _).alloc (Nat.le_refl _) _
  have HB : Hid (boxP V w.heap.size p x) := by subst hV; exact box_new ..
  clear hV
  refine (KF.out _ hb0).mono ?_
  rintro e w1 ⟨⟨v, va, vc, q, E, rfl, hva, hwv, hvl, hE⟩, hb1⟩
  have hbw : Below w.heap.size w w1 := hb0.trans (hb1.mono hb0.size)
  replace HB : Hid (boxP w1 w.heap.size p x) := box_later HB.out hb1
  have HE : Hid (E = 0 → ch.formErr l = 0 ∧ (∀ i, i < l.length → ch.errK [] l i = 0) ∧ ch.kvOf v = ch.atK [] l l.length) := by rw [HN.out]; exact hid hE
  have HVW : Hid (ch.viewAt w1 va v ∧ ch.wfView v) := ⟨hva, hwv⟩
  obtain ⟨vn, hvn⟩ : ∃ z, v.length = z := ⟨_, rfl⟩
  have HVN : Hid (v.length = vn) := hvn
  rw [hvn] at hvl ⊢
  obtain ⟨v0, v1, v2, v3, v4, v5, v6, v7, v8, v9, v10, v11, v12⟩ := HB.out
  clear hva hwv hE hvn hb1 hb0 KF
  go_wp2_with fail
  refine (KG.out v vn va vc _ HVN.out hbw HVW.out.1 HVW.out.2 hvl).mono ?_
  rintro e w2 ⟨⟨o, oa, oc, F, rfl, hoa, hF⟩, hb2⟩
  have hbw2 : Below w.heap.size w w2 := hbw.trans (hb2.mono hbw.size)
  replace HB : Hid (boxP w2 w.heap.size p x) := box_later HB.out hb2
  have HF : Hid (F = 0 → groupOk p v ∧ o = groupOut p v) := hF
  have HOA : Hid (ch.viewAt w2 oa o) := hoa
  have HWV : Hid (ch.wfView v) := HVW.out.2
  obtain ⟨on, hon⟩ : ∃ z, o.length = z := ⟨_, rfl⟩
  have HON : Hid (o.length = on) := hon
  rw [hon]
  clear v0 v1 v2 v3 v4 v5 v6 v7 v8 v9 v10 v11 v12 hoa hF hon hb2 hbw HVW KG
  go_wp2_with fail
  refine (ch.choose_any cut n1 n _ c1 c2 hn2 hll).mono ?_
  rintro e w0 ⟨⟨k, hk, rfl⟩, h0⟩
  obtain rfl : w2 = w0 := h0.symm
  obtain ⟨a1, hs1, hfront⟩ := ch.front_is la n lcp k hk hcap
  obtain ⟨a2, cap2, hs2, hback⟩ := ch.back_is la n lcp k hk hcap
  have HFR : Hid (∀ w1, Below w.heap.size w w1 → ch.chgsAt w1 a1 (l.take k)) := fun w1 hb => hfront w1 l HN.out (ch.chgsAt_below HC.out hb)
  have HBK : Hid (∀ w1, Below w.heap.size w w1 → ch.chgsAt w1 a2 (l.drop k)) := fun w1 hb => hback w1 l HN.out (ch.chgsAt_below HC.out hb)
  have HTL : Hid ((l.take k).length = k) := by show (l.take k).length = k; rw [List.length_take, HN.out]; omega
  have HDL : Hid ((l.drop k).length = n - k) := by show (l.drop k).length = n - k; rw [List.length_drop, HN.out]
  clear hfront hback hn2 hn1 HC
  by_cases hE : E = 0
  rotate_left
  · have hx1 : (E == 0) = false := by simpa using hE
    have hx2 : (E != 0) = true := by simpa using hE
    clear hE
    go_wp2_with fail
    refine (begun_any _).mono ?_
    rintro e w3 ⟨rfl, hb3⟩
    go_wp2
    go_ret
    exact ⟨rfl, hbw2.trans (hb3.mono hbw2.size)⟩
  subst hE
  by_cases hF : F = 0
  rotate_left
  · have hx1 : (F == 0) = false := by simpa using hF
    have hx2 : (F != 0) = true := by simpa using hF
    clear hF
    go_wp2_with fail
    refine (begun_any _).mono ?_
    rintro e w3 ⟨rfl, hb3⟩
    go_wp2
    go_ret
    exact ⟨rfl, hbw2.trans (hb3.mono hbw2.size)⟩
  subst hF
  have KO1 : Hid (Calls Tryz.prog 19 #[.slice a1 k lcp] w2 fun e w' => e = .returned (.int .i64 (ch.formErr (l.take k))) ∧ Below w2.heap.size w2 w') := KO.out (l.take k) k a1 lcp w2 HTL.out (HFR.out _ hbw2) (ch.wf_take HWL.out k) (by omega)
  obtain ⟨X, hX⟩ : ∃ x, ch.formErr (l.take k) = x := ⟨_, rfl⟩
  have HX : Hid (ch.formErr (l.take k) = X) := hX
  rw [hX] at KO1
  clear hX KO
  by_cases hX : X = 0
  rotate_left
  · have hx1 : (X == 0) = false := by simpa using hX
    have hx2 : (X != 0) = true := by simpa using hX
    clear hX
    go_wp2_with fail
    refine KO1.out.mono ?_
    rintro e w3 ⟨rfl, hb3⟩
    have hbw3 : Below w.heap.size w w3 := hbw2.trans (hb3.mono hbw2.size)
    go_wp2_with fail
    refine (begun_any _).mono ?_
    rintro e w4 ⟨rfl, hb4⟩
    go_wp2
    go_ret
    exact ⟨rfl, hbw3.trans (hb4.mono hbw3.size)⟩
  subst hX
  have I : Hid (alwI p l v k) := ⟨(HF.out rfl).1, HWL.out, (HE.out rfl).1, (HE.out rfl).2.1, (HE.out rfl).2.2, HWV.out, by rw [HN.out]; exact hk, HX.out⟩
  have HO : Hid (o = groupOut p v) := (HF.out rfl).2
  clear HF HE HX
  go_wp2_with fail
  refine KO1.out.mono ?_
  rintro e w3 ⟨rfl, hb3⟩
  have hbw3 : Below w.heap.size w w3 := hbw2.trans (hb3.mono hbw2.size)
  replace HB : Hid (boxP w3 w.heap.size p x) := box_later HB.out hb3
  replace HOA : Hid (ch.viewAt w3 oa o) := ch.viewAt_below HOA.out hb3
  clear hb3 hbw2 KO1
  have KS1 := fun w1 (hb : Below w.heap.size w w1) => KS.out [] (l.take k) 0 k none a1 0 lcp [] w1 rfl HTL.out hb (no_gs w1) (fun z hz => absurd hz List.not_mem_nil) (Nat.zero_le _) (HFR.out _ hb) (ch.wf_take HWL.out k) (by omega)
  have HW1 : Hid (stepW (stepG p [] (l.take k))) := step_w (fun z hz => absurd hz List.not_mem_nil) (ch.wf_take HWL.out k)
  have HF1 := step_first I.out
  obtain ⟨⟨E1, A, O1⟩, hR1⟩ : ∃ z, stepG p [] (l.take k) = z := ⟨_, rfl⟩
  have HR1 : Hid (stepG p [] (l.take k) = (E1, A, O1)) := hR1
  rw [hR1] at KS1 HW1 HF1
  dsimp only at KS1 HF1
  clear hR1 HFR HTL
  obtain ⟨an, han⟩ : ∃ z, A.length = z := ⟨_, rfl⟩
  have HAN : Hid (A.length = an) := han
  obtain ⟨o1, ho1⟩ : ∃ z, O1.length = z := ⟨_, rfl⟩
  have HO1 : Hid (O1.length = o1) := ho1
  rw [han, ho1] at KS1
  clear han ho1
  replace KS1 := hid KS1
  obtain ⟨v0, v1, v2, v3, v4, v5, v6, v7, v8, v9, v10, v11, v12⟩ := HB.out
  go_wp2
  go_region_held3 (fun w' => w'.cell? ⟨w.heap.size, 0, none⟩ = some (.int .i64 p.kind) ∧ w'.cell? ⟨w.heap.size, 1, none⟩ = some (.int .i64 p.mode) ∧ w'.cell? ⟨w.heap.size, 2, none⟩ = some (.int .i64 p.low) ∧ w'.cell? ⟨w.heap.size, 3, none⟩ = some (.int .i64 p.high) ∧ w'.cell? ⟨w.heap.size, 4, none⟩ = some (.int .i64 p.size) ∧ w'.cell? ⟨w.heap.size, 5, none⟩ = some (.int .i64 p.limit) ∧ w'.cell? ⟨w.heap.size, 6, none⟩ = some (.slice x.l p.left.length x.lc) ∧ w'.cell? ⟨w.heap.size, 7, none⟩ = some (.slice x.r p.right.length x.rc) ∧ w'.cell? ⟨w.heap.size, 8, none⟩ = some (.slice x.lk p.lkeys.length x.lkc) ∧ w'.cell? ⟨w.heap.size, 9, none⟩ = some (.slice x.rk p.rkeys.length x.rkc) ∧ w'.cell? ⟨w.heap.size, 10, none⟩ = some (.bool p.grouped) ∧ w'.cell? ⟨w.heap.size, 11, none⟩ = some (.slice x.g p.group.length x.gc) ∧ w'.cell? ⟨w.heap.size, 12, none⟩ = some (.slice x.a p.aggs.length x.ac)) (first | exact box_later HB.out hy4 | go_keep)
    (first | (go_at_call 12; refine (KS1.out _ hbw3.drew).mono ?_; rintro e w4 ⟨⟨ga, gc, xa, ta, tc, rfl, hga, hta⟩, hb4'⟩; have hy4 : Below w3.heap.size w3 w4 := (Below.refl _ _).drew.trans hb4'))
  have hb4 := hy4
  have hbw4 : Below w.heap.size w w4 := hbw3.trans (hb4.mono hbw3.size)
  replace HB : Hid (boxP w4 w.heap.size p x) := box_later HB.out hb4
  replace HOA : Hid (ch.viewAt w4 oa o) := ch.viewAt_below HOA.out hb4
  have HA : Hid (gsAt w4 ga xa A ∧ ch.chgsAt w4 ta O1) := ⟨hga, hta⟩
  clear v0 v1 v2 v3 v4 v5 v6 v7 v8 v9 v10 v11 v12 hga hta hb4 hbw3 KS1
  by_cases hE1 : E1 = 0
  rotate_left
  · rcases HF1.resolve_left hE1 with e | e <;> subst e <;>
    · go_wp2_with fail
      refine (begun_any _).mono ?_
      rintro e w5 ⟨rfl, hb5⟩
      go_wp2
      go_ret
      exact ⟨rfl, hbw4.trans (hb5.mono hbw4.size)⟩
  subst hE1
  clear HF1
  have HGA : Hid (gsR p A) := by
    have := right_first I.out (by rw [HR1.out])
    rw [HR1.out] at this
    exact hid this
  have KS2 := fun w1 (hb : Below w.heap.size w w1) (h1 : gsAt w1 ga xa A) => KS.out A (l.drop k) an (n - k) ga a2 gc cap2 xa w1 HAN.out HDL.out hb h1 (gs_wf I.out.gr.plan I.out.gr.grouped HGA.out) (by have := HGA.out.many; have := HAN.out; omega) (HBK.out _ hb) (ch.wf_drop HWL.out k) (by omega)
  have HW2 : Hid (stepW (stepG p A (l.drop k))) := step_w (gs_wf I.out.gr.plan I.out.gr.grouped HGA.out) (ch.wf_drop HWL.out k)
  have HF2 := step_second I.out (by rw [HR1.out])
  rw [HR1.out] at HF2
  dsimp only at HF2
  obtain ⟨⟨E2, B, O2⟩, hR2⟩ : ∃ z, stepG p A (l.drop k) = z := ⟨_, rfl⟩
  have HR2 : Hid (stepG p A (l.drop k) = (E2, B, O2)) := hR2
  rw [hR2] at KS2 HW2 HF2
  dsimp only at KS2 HF2
  clear hR2 HBK HDL KS
  obtain ⟨bn, hbn⟩ : ∃ z, B.length = z := ⟨_, rfl⟩
  have HBN : Hid (B.length = bn) := hbn
  obtain ⟨o2, ho2⟩ : ∃ z, O2.length = z := ⟨_, rfl⟩
  have HO2 : Hid (O2.length = o2) := ho2
  rw [hbn, ho2] at KS2
  clear hbn ho2
  replace KS2 := hid KS2
  obtain ⟨v0, v1, v2, v3, v4, v5, v6, v7, v8, v9, v10, v11, v12⟩ := HB.out
  go_wp2
  go_region_held3 (fun w' => w'.cell? ⟨w.heap.size, 0, none⟩ = some (.int .i64 p.kind) ∧ w'.cell? ⟨w.heap.size, 1, none⟩ = some (.int .i64 p.mode) ∧ w'.cell? ⟨w.heap.size, 2, none⟩ = some (.int .i64 p.low) ∧ w'.cell? ⟨w.heap.size, 3, none⟩ = some (.int .i64 p.high) ∧ w'.cell? ⟨w.heap.size, 4, none⟩ = some (.int .i64 p.size) ∧ w'.cell? ⟨w.heap.size, 5, none⟩ = some (.int .i64 p.limit) ∧ w'.cell? ⟨w.heap.size, 6, none⟩ = some (.slice x.l p.left.length x.lc) ∧ w'.cell? ⟨w.heap.size, 7, none⟩ = some (.slice x.r p.right.length x.rc) ∧ w'.cell? ⟨w.heap.size, 8, none⟩ = some (.slice x.lk p.lkeys.length x.lkc) ∧ w'.cell? ⟨w.heap.size, 9, none⟩ = some (.slice x.rk p.rkeys.length x.rkc) ∧ w'.cell? ⟨w.heap.size, 10, none⟩ = some (.bool p.grouped) ∧ w'.cell? ⟨w.heap.size, 11, none⟩ = some (.slice x.g p.group.length x.gc) ∧ w'.cell? ⟨w.heap.size, 12, none⟩ = some (.slice x.a p.aggs.length x.ac)) (first | exact box_later HB.out hy5 | go_keep)
    (first | (go_at_call 12; refine (KS2.out _ hbw4.drew (HA.out.1.below (Below.refl _ _).drew)).mono ?_; rintro e w5 ⟨⟨gb, gbc, xb, tb, tbc, rfl, hgb, htb⟩, hb5'⟩; have hy5 : Below w4.heap.size w4 w5 := (Below.refl _ _).drew.trans hb5'))
  have hb5 := hy5
  have hbw5 : Below w.heap.size w w5 := hbw4.trans (hb5.mono hbw4.size)
  replace HB : Hid (boxP w5 w.heap.size p x) := box_later HB.out hb5
  replace HOA : Hid (ch.viewAt w5 oa o) := ch.viewAt_below HOA.out hb5
  replace HA : Hid (gsAt w5 ga xa A ∧ ch.chgsAt w5 ta O1) := ⟨HA.out.1.below hb5, ch.chgsAt_below HA.out.2 hb5⟩
  have HBB : Hid (gsAt w5 gb xb B ∧ ch.chgsAt w5 tb O2) := ⟨hgb, htb⟩
  clear v0 v1 v2 v3 v4 v5 v6 v7 v8 v9 v10 v11 v12 hgb htb hb5 hbw4 KS2
  by_cases hE2 : E2 = 0
  rotate_left
  · rcases HF2.resolve_left hE2 with e | e <;> subst e <;>
    · go_wp2_with fail
      refine (begun_any _).mono ?_
      rintro e w6 ⟨rfl, hb6⟩
      go_wp2
      go_ret
      exact ⟨rfl, hbw5.trans (hb6.mono hbw5.size)⟩
  subst hE2
  clear HF2
  have HGB : Hid (gsR p B) := by
    have := right_second I.out (by rw [HR1.out]) (by rw [HR1.out, HR2.out])
    rw [HR1.out, HR2.out] at this
    exact hid this
  have HAL : Hid (alwO p v A B O1 O2) := by
    have := always I.out (by rw [HR1.out]) (by rw [HR1.out, HR2.out])
    rw [HR1.out, HR2.out] at this
    exact hid this
  have HP : Hid (planErr p = 0 ∧ p.grouped = true) := ⟨I.out.gr.plan, I.out.gr.grouped⟩
  obtain ⟨VA, hVA⟩ : ∃ z, A.map (rowC p) = z := ⟨_, rfl⟩
  obtain ⟨VB, hVB⟩ : ∃ z, B.map (rowC p) = z := ⟨_, rfl⟩
  have HVA : Hid (ch.viewOk VA ∧ ch.wfView VA) := by rw [← hVA]; exact hid (view_of HP.out.1 HP.out.2 HGA.out)
  have HVB : Hid (ch.viewOk VB ∧ ch.wfView VB) := by rw [← hVB]; exact hid (view_of HP.out.1 HP.out.2 HGB.out)
  have HLA : Hid (VA.length = an) := by rw [← hVA]; exact hid (by rw [List.length_map]; exact HAN.out)
  have HLB : Hid (VB.length = bn) := by rw [← hVB]; exact hid (by rw [List.length_map]; exact HBN.out)
  have KVA : Hid (∀ w1, Below w.heap.size w w1 → gsAt w1 ga xa A → Calls Tryz.prog 6 #[planV p x, .slice ga an gc] w1 fun e w' => (∃ ad c, e = .returned (.tuple #[.slice ad an c, .int .i64 0]) ∧ ch.viewAt w' ad VA) ∧ Below w1.heap.size w1 w') := fun w1 hb h1 => by
    rw [← hVA]
    exact KV.out A an ga gc xa w1 HAN.out hb h1 HP.out.1 HP.out.2 HGA.out
  have KVB : Hid (∀ w1, Below w.heap.size w w1 → gsAt w1 gb xb B → Calls Tryz.prog 6 #[planV p x, .slice gb bn gbc] w1 fun e w' => (∃ ad c, e = .returned (.tuple #[.slice ad bn c, .int .i64 0]) ∧ ch.viewAt w' ad VB) ∧ Below w1.heap.size w1 w') := fun w1 hb h1 => by
    rw [← hVB]
    exact KV.out B bn gb gbc xb w1 HBN.out hb h1 HP.out.1 HP.out.2 HGB.out
  have HOB : Hid (o = VB) := by
    rw [← hVB]
    exact hid (HO.out.trans HAL.out.same.symm)
  have KM : Hid (∀ w1, ch.chgsAt w1 ta O1 → Calls Tryz.prog 16 #[.slice none 0 0, .slice ta o1 tc] w1 fun e w' => (∃ ad cap, e = .returned (.tuple #[.slice ad an cap, .int .i64 0, .int .i64 0]) ∧ ch.viewAt w' ad VA) ∧ Below w1.heap.size w1 w') := fun w1 h1 => by
    have h := fold_leads none ta 0 tc [] O1 VA w1 (no_view w1) no_wfV no_viewOk h1 HW1.out.wf HW1.out.tl HAL.out.ofm (by rw [← hVA]; exact HAL.out.orun) HVA.out.1 HVA.out.2
    rw [HO1.out, HLA.out] at h
    exact h
  have KN : Hid (∀ ma mc w1, ch.viewAt w1 ma VA → ch.chgsAt w1 tb O2 → Calls Tryz.prog 16 #[.slice ma an mc, .slice tb o2 tbc] w1 fun e w' => (∃ ad cap, e = .returned (.tuple #[.slice ad bn cap, .int .i64 0, .int .i64 0]) ∧ ch.viewAt w' ad VB) ∧ Below w1.heap.size w1 w') := fun ma mc w1 h0 h1 => by
    have h := fold_leads ma tb mc tbc VA O2 VB w1 h0 HVA.out.2 HVA.out.1 h1 HW2.out.wf HW2.out.tl HAL.out.mfm (by rw [← hVA, ← hVB]; exact HAL.out.mrun) HVB.out.1 HVB.out.2
    rw [HO2.out, HLB.out, HLA.out] at h
    exact h
  have KA : Hid (∀ b1 b2 d1 d2 w1, ch.viewAt w1 b1 VA → ch.viewAt w1 b2 VA → Calls Tryz.prog 10 #[.slice b1 an d1, .slice b2 an d2] w1 fun e w' => e = .returned (.bool true) ∧ Below w1.heap.size w1 w') := fun b1 b2 d1 d2 w1 h1 h2 => by
    have h := same_first b1 b2 d1 d2 VA w1 h1 h2 HVA.out
    rw [HLA.out] at h
    exact h
  have KB : Hid (∀ b1 b2 d1 d2 w1, ch.viewAt w1 b1 VB → ch.viewAt w1 b2 VB → Calls Tryz.prog 10 #[.slice b1 bn d1, .slice b2 bn d2] w1 fun e w' => e = .returned (.bool true) ∧ Below w1.heap.size w1 w') := fun b1 b2 d1 d2 w1 h1 h2 => by
    have h := same_first b1 b2 d1 d2 VB w1 h1 h2 HVB.out
    rw [HLB.out] at h
    exact h
  have HOL : on = bn := by rw [← HON.out, HOB.out]; exact HLB.out
  subst HOL
  replace HOA : Hid (ch.viewAt w5 oa VB) := by rw [← HOB.out]; exact HOA
  clear hVA hVB HO HOB HLA HLB HAL HVA HVB HP HGA HGB HW1 HW2 I KV HR1 HR2 HAN HBN HO1 HO2 HON
  unfold planV at KVA KVB
  obtain ⟨v0, v1, v2, v3, v4, v5, v6, v7, v8, v9, v10, v11, v12⟩ := HB.out
  go_wp2_with fail
  refine (KVA.out _ hbw5 HA.out.1).mono ?_
  rintro e w6 ⟨⟨xad, xc, rfl, hx⟩, hb6⟩
  have hbw6 : Below w.heap.size w w6 := hbw5.trans (hb6.mono hbw5.size)
  replace HB : Hid (boxP w6 w.heap.size p x) := box_later HB.out hb6
  replace HOA : Hid (ch.viewAt w6 oa VB ∧ ch.viewAt w6 xad VA) := ⟨ch.viewAt_below HOA.out hb6, hx⟩
  replace HA : Hid (ch.chgsAt w6 ta O1) := ch.chgsAt_below HA.out.2 hb6
  replace HBB : Hid (gsAt w6 gb xb B ∧ ch.chgsAt w6 tb O2) := ⟨HBB.out.1.below hb6, ch.chgsAt_below HBB.out.2 hb6⟩
  clear v0 v1 v2 v3 v4 v5 v6 v7 v8 v9 v10 v11 v12 hx hb6 hbw5 KVA
  obtain ⟨v0, v1, v2, v3, v4, v5, v6, v7, v8, v9, v10, v11, v12⟩ := HB.out
  go_wp2_with fail
  refine (KVB.out _ hbw6 HBB.out.1).mono ?_
  rintro e w7 ⟨⟨yad, yc, rfl, hy⟩, hb7⟩
  have hbw7 : Below w.heap.size w w7 := hbw6.trans (hb7.mono hbw6.size)
  replace HOA : Hid (ch.viewAt w7 oa VB ∧ ch.viewAt w7 xad VA ∧ ch.viewAt w7 yad VB) := ⟨ch.viewAt_below HOA.out.1 hb7, ch.viewAt_below HOA.out.2 hb7, hy⟩
  replace HA : Hid (ch.chgsAt w7 ta O1 ∧ ch.chgsAt w7 tb O2) := ⟨ch.chgsAt_below HA.out hb7, ch.chgsAt_below HBB.out.2 hb7⟩
  clear v0 v1 v2 v3 v4 v5 v6 v7 v8 v9 v10 v11 v12 hy hb7 hbw6 KVB HB HBB
  go_wp2_with fail
  refine (KM.out _ HA.out.1).mono ?_
  rintro e w8 ⟨⟨mad, mc, rfl, hm⟩, hb8⟩
  have hbw8 : Below w.heap.size w w8 := hbw7.trans (hb8.mono hbw7.size)
  replace HOA : Hid (ch.viewAt w8 oa VB ∧ ch.viewAt w8 xad VA ∧ ch.viewAt w8 yad VB ∧ ch.viewAt w8 mad VA) := ⟨ch.viewAt_below HOA.out.1 hb8, ch.viewAt_below HOA.out.2.1 hb8, ch.viewAt_below HOA.out.2.2 hb8, hm⟩
  replace HA : Hid (ch.chgsAt w8 tb O2) := ch.chgsAt_below HA.out.2 hb8
  clear hm hb8 hbw7 KM
  go_wp2_with fail
  refine (KN.out _ _ _ HOA.out.2.2.2 HA.out).mono ?_
  rintro e w9 ⟨⟨nad, nc, rfl, hnn⟩, hb9⟩
  have hbw9 : Below w.heap.size w w9 := hbw8.trans (hb9.mono hbw8.size)
  replace HOA : Hid (ch.viewAt w9 oa VB ∧ ch.viewAt w9 xad VA ∧ ch.viewAt w9 yad VB ∧ ch.viewAt w9 mad VA ∧ ch.viewAt w9 nad VB) := ⟨ch.viewAt_below HOA.out.1 hb9, ch.viewAt_below HOA.out.2.1 hb9, ch.viewAt_below HOA.out.2.2.1 hb9, ch.viewAt_below HOA.out.2.2.2 hb9, hnn⟩
  clear hnn hb9 hbw8 KN HA
  have K1 : Hid (∀ w1, ch.viewAt w1 mad VA → ch.viewAt w1 xad VA → Calls Tryz.prog 10 #[.slice mad an mc, .slice xad an xc] w1 fun e w' => e = .returned (.bool true) ∧ Below w1.heap.size w1 w') := fun w1 h1 h2 => KA.out mad xad mc xc w1 h1 h2
  have K2 : Hid (∀ w1, ch.viewAt w1 nad VB → ch.viewAt w1 yad VB → Calls Tryz.prog 10 #[.slice nad on nc, .slice yad on yc] w1 fun e w' => e = .returned (.bool true) ∧ Below w1.heap.size w1 w') := fun w1 h1 h2 => KB.out nad yad nc yc w1 h1 h2
  have K3 : Hid (∀ w1, ch.viewAt w1 yad VB → ch.viewAt w1 oa VB → Calls Tryz.prog 10 #[.slice yad on yc, .slice oa on oc] w1 fun e w' => e = .returned (.bool true) ∧ Below w1.heap.size w1 w') := fun w1 h1 h2 => KB.out yad oa yc oc w1 h1 h2
  have HT : Hid (∀ w1, Below w9.heap.size w9 w1 → ch.viewAt w1 oa VB ∧ ch.viewAt w1 xad VA ∧ ch.viewAt w1 yad VB ∧ ch.viewAt w1 mad VA ∧ ch.viewAt w1 nad VB) := fun w1 hb => ⟨ch.viewAt_below HOA.out.1 hb, ch.viewAt_below HOA.out.2.1 hb, ch.viewAt_below HOA.out.2.2.1 hb, ch.viewAt_below HOA.out.2.2.2.1 hb, ch.viewAt_below HOA.out.2.2.2.2 hb⟩
  clear KA KB HOA
  go_wp2_with (first
    | (go_at_call 8; refine (begun_any _).mono ?_; rintro e wa ⟨rfl, hba⟩)
    | (go_at_call 10; refine (K3.out _ (HT.out _ hBc).2.2.1 (HT.out _ hBc).1).mono ?_; rintro e wd ⟨rfl, hbd⟩; have hBd := hBc.trans (hbd.mono hBc.size))
    | (go_at_call 10; refine (K2.out _ (HT.out _ hBb).2.2.2.2 (HT.out _ hBb).2.2.1).mono ?_; rintro e wc ⟨rfl, hbc⟩; have hBc := hBb.trans (hbc.mono hBb.size))
    | (go_at_call 10; refine (K1.out _ (HT.out _ hba).2.2.2.1 (HT.out _ hba).2.1).mono ?_; rintro e wb ⟨rfl, hbb⟩; have hBb := hba.trans (hbb.mono hba.size)))
  go_ret
  exact ⟨rfl, hbw9.trans (hBd.mono hbw9.size)⟩
end Go.Proofs.YtbfbgdinhiglaaaGreat.gr
