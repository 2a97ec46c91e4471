/- All: what it answers. -/
import Derived.Test.YtcpanmaahhiioaaGreatMgBatK
namespace Go.Proofs.YtcpanmaahhiioaaGreat.bt
open Go.ChangeShapes Go.WideShapes Go.ChangeAt Go.RowKit
open vl pl
set_option linter.unusedVariables false
set_option linter.unusedSimpArgs false
theorem typedB_iff (r : List Cel) (c : List Int) : typedB r c = true ↔ r.length = c.length ∧ ∀ i, i < r.length → cellB (r.getD i default) (c.getD i 0) = true := by
  unfold typedB
  rw [Bool.and_eq_true, decide_eq_true_eq, allB_iff]
theorem typedB_app {a b : List Cel} {c d : List Int} (h1 : typedB a c = true) (h2 : typedB b d = true) : typedB (a ++ b) (c ++ d) = true := by
  rw [typedB_iff] at h1 h2 ⊢
  refine ⟨by rw [List.length_append, List.length_append, h1.1, h2.1], fun i hi => ?_⟩
  rw [List.length_append] at hi
  by_cases hlt : i < a.length
  · have e1 : (a ++ b).getD i default = a.getD i default := by simp only [List.getD_eq_getElem?_getD, List.getElem?_append_left hlt]
    have e2 : (c ++ d).getD i 0 = c.getD i 0 := by simp only [List.getD_eq_getElem?_getD, List.getElem?_append_left (show i < c.length by omega)]
    rw [e1, e2]
    exact h1.2 i hlt
  · have e1 : (a ++ b).getD i default = b.getD (i - a.length) default := by simp only [List.getD_eq_getElem?_getD, List.getElem?_append_right (show a.length ≤ i by omega)]
    have e2 : (c ++ d).getD i 0 = d.getD (i - c.length) 0 := by simp only [List.getD_eq_getElem?_getD, List.getElem?_append_right (show c.length ≤ i by omega)]
    rw [e1, e2, ← h1.1]
    exact h2.2 (i - a.length) (by omega)
theorem typed_null (c : List Int) : typedB (nullRow c.length) c = true := by
  rw [typedB_iff]
  refine ⟨null_len _, fun i hi => ?_⟩
  rw [null_len] at hi
  have e : (nullRow c.length).getD i default = ⟨0, 0, ⟨#[]⟩⟩ := by simp [nullRow, List.getD_eq_getElem?_getD, hi]
  rw [e]
  rfl
theorem rErr_typed {p : Pln} {side : Int} {r : List Cel} (h : rErr p side r = 0) : typedB r (colsOf p side) = true := by
  unfold rErr at h
  split at h
  · cases h
  · split at h
    · cases h
    · split at h
      · rename_i h2; exact absurd h h2
      · split at h
        · cases h
        · rename_i h3; simpa using h3
theorem told_typed {p : Pln} {L R : List Stm} (h : batchErr p L R = 0) : ∀ r ∈ told p L R, typedB r (cols p) = true := by
  intro r hr
  have hb := batch_ok h
  obtain ⟨a, b, rfl, ha, hb'⟩ := mem_told hr
  unfold cols
  refine typedB_app ?_ ?_
  · rcases ha with ⟨s, hs, rfl⟩ | rfl
    · exact rErr_typed (side := 1) (firstErr_ok hb.l s hs)
    · exact typed_null _
  · rcases hb' with ⟨s, hs, rfl⟩ | rfl
    · exact rErr_typed (side := 2) (firstErr_ok hb.r s hs)
    · exact typed_null _
theorem out_told {rows : List (List Cel)} {out : List ch.Cnt} (hr : ∀ r ∈ rows, rowOk r) (hl : rows.length ≤ 4096) (ho : ∀ c ∈ out, rowOk c.r) (hk : ch.kvOf out = rowsK rows) : ∀ c ∈ out, c.r ∈ rows := by
  intro c hc
  have hg := rowsK_good hr hl
  have hm : (encR c.r, c.n) ∈ rowsK rows := by rw [← hk]; exact List.mem_map.2 ⟨c, hc, rfl⟩
  have h1 := ch.getK_of hg.up hm
  have h2 := (hg.cnt _ hm).1
  rw [rowsK_get hl] at h1
  dsimp only at h1 h2
  have h3 : 0 < cntR rows (encR c.r) := by omega
  unfold cntR at h3
  obtain ⟨x, hx⟩ := List.exists_mem_of_length_pos h3
  have h4 := List.mem_filter.1 hx
  have h5 : encR x = encR c.r := by simpa using h4.2
  rw [← encR_inj (hr x h4.1).2 (ho c hc).2 h5]
  exact h4.1
/-- what Join answers can be grouped -/
theorem join_groups {p : Pln} {L R : List Stm} {out : List ch.Cnt} (h : batchErr p L R = 0) (hg : p.grouped = true) (hL : wfStms L) (hR : wfStms R) (hk : ch.kvOf out = rowsK (told p L R)) (ho : ch.viewOk out) (hw : ch.wfView out) : groupErr p out = 0 := by
  have hb := batch_ok h
  have hrow := fun r hr => (told_ok h hL hR r hr).1
  have hin := out_told hrow (by have := told_len p L R hb.many; omega) (ch.view_rows hw ho) hk
  unfold groupErr
  rw [if_neg (fun e => e hb.plan), if_neg (by rw [hg]; decide), if_neg (fun e => e (ch.viewErr_ok ho))]
  have hm : manyB p out = true := by
    unfold manyB
    rw [allB_iff]
    intro i hi
    have := (told_ok h hL hR (out.getD i default).r (hin (out.getD i default) (getD_mem hi))).2
    exact decide_eq_true (by rw [this]; unfold cols; rw [List.length_append])
  have ht : typB p out = true := by
    unfold typB
    rw [allB_iff]
    intro i hi
    exact told_typed h _ (hin _ (getD_mem hi))
  rw [hm, ht]
  rfl
/-- what All answers -/
def allRes (p : Pln) (L R : List Stm) (e : Ending) (w' : World) : Prop :=
  (batchErr p L R ≠ 0 ∧ e = .returned (.tuple #[.slice none 0 0, .int .i64 (batchErr p L R)])) ∨
  (batchErr p L R = 0 ∧ ∃ out, ch.kvOf out = rowsK (told p L R) ∧ ch.viewOk out ∧ ch.wfView out ∧ ∃ ad cap, e = .returned (.tuple #[.slice ad (if p.grouped = true then groupOut p out else out).length cap, .int .i64 0]) ∧ ch.viewAt w' ad (if p.grouped = true then groupOut p out else out))
set_option maxRecDepth 100000 in
set_option maxHeartbeats 4000000 in
theorem All_any (p : Pln) (x : PA) (a1 a2 : Option Addr) (c1 c2 : Nat) (L R : List Stm) (w : World) (hw : wfPlan p) (hp : planAt w p x) (hl : L.length + R.length ≤ 9223372036854775807) (h1 : stmsAt w a1 L) (h2 : stmsAt w a2 R) (hL : wfStms L) (hR : wfStms R) :
    Calls Tryz.prog 18 #[planV p x, .slice a1 L.length c1, .slice a2 R.length c2] w fun e w' => allRes p L R e w' ∧ Below w.heap.size w w' := by
  have K1 : Hid (∀ w1, Below w.heap.size w w1 → Calls Tryz.prog 9 #[planV p x, .slice a1 L.length c1, .slice a2 R.length c2] w1 fun e w' => viewRes (batchErr p L R) (rowsK (told p L R)) e w' ∧ Below w1.heap.size w1 w') := fun w1 hb => Join_any p x a1 a2 c1 c2 L R w1 hw (planAt_below hp hb) hl (stmsAt_below h1 hb) (stmsAt_below h2 hb) hL hR
  have K2 : Hid (batchErr p L R = 0 → p.grouped = true → ∀ out ad cap w1, Below w.heap.size w w1 → ch.kvOf out = rowsK (told p L R) → ch.viewOk out → ch.wfView out → ch.viewAt w1 ad out → Calls Tryz.prog 14 #[planV p x, .slice ad out.length cap] w1 fun e w' => (∃ ad2 cap2, e = .returned (.tuple #[.slice ad2 (groupOut p out).length cap2, .int .i64 0]) ∧ ch.viewAt w' ad2 (groupOut p out)) ∧ Below w1.heap.size w1 w') := fun h0 hg out ad cap w1 hb e1 e2 e3 e4 => by
    have he := join_groups h0 hg hL hR e1 e2 e3
    exact Group_ok p x ad cap out w1 hw (planAt_below hp hb) (by have := e2.1; omega) e4 e3 he
  have HY : Hid (∀ out ad cap e w', batchErr p L R = 0 → ch.kvOf out = rowsK (told p L R) → ch.viewOk out → ch.wfView out → p.grouped = true → e = .returned (.tuple #[.slice ad (groupOut p out).length cap, .int .i64 0]) → ch.viewAt w' ad (groupOut p out) → allRes p L R e w') := fun out ad cap e w' h0 e1 e2 e3 hg he hv => .inr ⟨h0, out, e1, e2, e3, ad, cap, by rw [if_pos hg]; exact he, by rw [if_pos hg]; exact hv⟩
  have HN : Hid (∀ out ad cap e w', batchErr p L R = 0 → ch.kvOf out = rowsK (told p L R) → ch.viewOk out → ch.wfView out → p.grouped = false → e = .returned (.tuple #[.slice ad out.length cap, .int .i64 0]) → ch.viewAt w' ad out → allRes p L R e w') := fun out ad cap e w' h0 e1 e2 e3 hg he hv => .inr ⟨h0, out, e1, e2, e3, ad, cap, by rw [if_neg (by rw [hg]; decide)]; exact he, by rw [if_neg (by rw [hg]; decide)]; exact hv⟩
  have HE : Hid (∀ e w', batchErr p L R ≠ 0 → e = .returned (.tuple #[.slice none 0 0, .int .i64 (batchErr p L R)]) → allRes p L R e w') := fun e w' h0 he => .inl ⟨h0, he⟩
  obtain ⟨AR, hAR⟩ : ∃ f : Ending → World → Prop, ∀ e w', allRes p L R e w' = f e w' := ⟨_, fun _ _ => rfl⟩
  obtain ⟨be, hbe⟩ : ∃ z, batchErr p L R = z := ⟨_, rfl⟩
  obtain ⟨RK, hRK⟩ : ∃ z, rowsK (told p L R) = z := ⟨_, rfl⟩
  obtain ⟨GO, hGO⟩ : ∃ f : List ch.Cnt → List ch.Cnt, ∀ o, groupOut p o = f o := ⟨_, fun _ => rfl⟩
  simp only [hAR, hbe, hRK, hGO] at K1 K2 HY HN HE ⊢
  obtain ⟨n2, hn2⟩ : ∃ n, R.length = n := ⟨_, rfl⟩
  obtain ⟨n1, hn1⟩ : ∃ n, L.length = n := ⟨_, rfl⟩
  simp only [hn1, hn2] at K1 ⊢
  clear hAR hbe hRK hGO hn1 hn2 hw hp hl h1 h2 hL hR
  obtain ⟨kind, mode, low, high, size, limit, left, right, lkeys, rkeys, grouped, group, aggs⟩ := p
  obtain ⟨la, lc, rr, rc, lk, lkc, rk, rkc, g, gc, ag, ac⟩ := x
  unfold planV at K1 K2 ⊢
  dsimp only at K1 K2 HY HN ⊢
  obtain ⟨n6, h6⟩ : ∃ n, left.length = n := ⟨_, rfl⟩
  obtain ⟨n7, h7⟩ : ∃ n, right.length = n := ⟨_, rfl⟩
  obtain ⟨n8, h8⟩ : ∃ n, lkeys.length = n := ⟨_, rfl⟩
  obtain ⟨n9, h9⟩ : ∃ n, rkeys.length = n := ⟨_, rfl⟩
  obtain ⟨n11, h11⟩ : ∃ n, group.length = n := ⟨_, rfl⟩
  obtain ⟨n12, h12⟩ : ∃ n, aggs.length = n := ⟨_, rfl⟩
  simp only [h6, h7, h8, h9, h11, h12] at K1 K2 ⊢
  clear h6 h7 h8 h9 h11 h12
  go_enter Tryz.func18, Tryz.ntmps18
  go_wp2_with fail
  generalize hW0 : (World.alloc w _) = W0
  have hb0 : Below w.heap.size w W0 := by rw [← hW0]; exact (Below.refl _ _).alloc (Nat.le_refl _) _
  have s0 : W0.cell? ⟨w.heap.size, 0, none⟩ = some (.int .i64 kind) := by subst hW0; go_simp
  have s1 : W0.cell? ⟨w.heap.size, 1, none⟩ = some (.int .i64 mode) := by subst hW0; go_simp
  have s2 : W0.cell? ⟨w.heap.size, 2, none⟩ = some (.int .i64 low) := by subst hW0; go_simp
  have s3 : W0.cell? ⟨w.heap.size, 3, none⟩ = some (.int .i64 high) := by subst hW0; go_simp
  have s4 : W0.cell? ⟨w.heap.size, 4, none⟩ = some (.int .i64 size) := by subst hW0; go_simp
  have s5 : W0.cell? ⟨w.heap.size, 5, none⟩ = some (.int .i64 limit) := by subst hW0; go_simp
  have s6 : W0.cell? ⟨w.heap.size, 6, none⟩ = some (.slice la n6 lc) := by subst hW0; go_simp
  have s7 : W0.cell? ⟨w.heap.size, 7, none⟩ = some (.slice rr n7 rc) := by subst hW0; go_simp
  have s8 : W0.cell? ⟨w.heap.size, 8, none⟩ = some (.slice lk n8 lkc) := by subst hW0; go_simp
  have s9 : W0.cell? ⟨w.heap.size, 9, none⟩ = some (.slice rk n9 rkc) := by subst hW0; go_simp
  have s10 : W0.cell? ⟨w.heap.size, 10, none⟩ = some (.bool grouped) := by subst hW0; go_simp
  have s11 : W0.cell? ⟨w.heap.size, 11, none⟩ = some (.slice g n11 gc) := by subst hW0; go_simp
  have s12 : W0.cell? ⟨w.heap.size, 12, none⟩ = some (.slice ag n12 ac) := by subst hW0; go_simp
  clear hW0
  refine (K1.out _ hb0).mono ?_
  rintro e w1 ⟨hres, hb1⟩
  have hbn := hb0.trans (hb1.mono hb0.size)
  replace s0 := cell_later hb1 s0
  replace s1 := cell_later hb1 s1
  replace s2 := cell_later hb1 s2
  replace s3 := cell_later hb1 s3
  replace s4 := cell_later hb1 s4
  replace s5 := cell_later hb1 s5
  replace s6 := cell_later hb1 s6
  replace s7 := cell_later hb1 s7
  replace s8 := cell_later hb1 s8
  replace s9 := cell_later hb1 s9
  replace s10 := cell_later hb1 s10
  replace s11 := cell_later hb1 s11
  replace s12 := cell_later hb1 s12
  rcases hres with ⟨hne, rfl⟩ | ⟨rfl, out, ad, cap, f1, f2, f3, rfl, f5⟩
  · have hne' : (be != 0) = true := by simpa using hne
    have HX : Hid (be ≠ 0) := hne
    clear K2 hne
    go_wp2
    go_ret2
    exact ⟨HE.out _ _ HX.out rfl, hbn⟩
  · have HF : Hid (ch.kvOf out = RK ∧ ch.viewOk out ∧ ch.wfView out ∧ ch.viewAt w1 ad out) := ⟨f1, f2, f3, f5⟩
    cases grouped with
    | false =>
      have HA : Hid (∀ e w', e = .returned (.tuple #[.slice ad out.length cap, .int .i64 0]) → ch.viewAt w' ad out → AR e w') := fun e w' he hv => HN.out out ad cap e w' rfl f1 f2 f3 rfl he hv
      obtain ⟨on, hon⟩ : ∃ z, out.length = z := ⟨_, rfl⟩
      rw [hon] at HA ⊢
      clear f1 f2 f3 f5 hon K2
      go_wp2
      go_ret2
      exact ⟨HA.out _ _ rfl HF.out.2.2.2, hbn⟩
    | true =>
      have KG : Hid (Calls Tryz.prog 14 _ w1 _) := K2.out rfl rfl out ad cap w1 hbn f1 f2 f3 f5
      have HA : Hid (∀ ad cap e w', e = .returned (.tuple #[.slice ad (GO out).length cap, .int .i64 0]) → ch.viewAt w' ad (GO out) → AR e w') := fun ad cap e w' he hv => HY.out out ad cap e w' rfl f1 f2 f3 rfl he hv
      obtain ⟨on, hon⟩ : ∃ z, out.length = z := ⟨_, rfl⟩
      obtain ⟨gn, hgn⟩ : ∃ z, (GO out).length = z := ⟨_, rfl⟩
      rw [hon, hgn] at KG
      rw [hgn] at HA
      rw [hon]
      clear f1 f2 f3 f5 hon hgn K2
      go_wp2_with fail
      refine KG.out.mono ?_
      rintro e w2 ⟨⟨ad2, cap2, rfl, hv2⟩, hb2⟩
      have HV : Hid (ch.viewAt w2 ad2 (GO out)) := hv2
      clear hv2
      go_wp2
      go_ret2
      exact ⟨HA.out ad2 cap2 _ _ rfl HV.out, hbn.trans (hb2.mono hbn.size)⟩
end Go.Proofs.YtcpanmaahhiioaaGreat.bt
