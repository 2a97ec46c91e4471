/- BatchTurns answers true. -/
import Derived.Test.YtcpanmaahhiioaaGreatBatTurned
import Derived.Test.YtcpanmaahhiioaaGreatBatTurn2
import Derived.Test.YtcpanmaahhiioaaGreatBatTurn3
import Derived.Test.YtcpanmaahhiioaaGreatCapJoined
import Derived.Test.YtcpanmaahhiioaaGreatMgBatL
import Derived.Test.YtcpanmaahhiioaaGreatMgBatG
namespace Go.Proofs.YtcpanmaahhiioaaGreat.bt
open Go.ChangeShapes Go.WideShapes Go.ChangeAt Go.RowKit Go.Maps Go.WideMaps
open vl pl
set_option linter.unusedVariables false
set_option linter.unusedSimpArgs false
/-- a view of these counts -/
def isView (rk : ch.KV) (V : List ch.Cnt) : Prop := ch.kvOf V = rk ∧ ch.viewOk V ∧ ch.wfView V
theorem isView_one {rk : ch.KV} {V V' : List ch.Cnt} (h : isView rk V) (h' : isView rk V') : V = V' := ch.kvOf_inj (ch.view_rows h.2.2 h.2.1) (ch.view_rows h'.2.2 h'.2.1) (h.1.trans h'.1.symm)
theorem plan_fits {p : Pln} (h : planErr p = 0) : fit p.low ∧ fit p.high := by
  have h1 := (planErr_ok h).2.1.1
  split at h1
  · exact h1
  · rw [h1.1, h1.2]; unfold fit; omega
theorem plan_mode {p : Pln} (h : planErr p = 0) : 1 ≤ p.mode ∧ p.mode ≤ 4 := by
  have h1 := (planErr_ok h).1.2.1
  refine ⟨h1.1, ?_⟩
  have h2 := h1.2
  split at h2 <;> omega
set_option maxRecDepth 100000 in
set_option maxHeartbeats 16000000 in
theorem turns_walk (p : Pln) (x : PA) (a1 : Option Addr) (c1 : Nat) (L : List Stm) (a2 : Option Addr) (c2 : Nat) (R : List Stm) (w : World) (hw : wfPlan p) (hp : planAt w p x) (hl : L.length + R.length ≤ 9223372036854775807) (h1 : stmsAt w a1 L) (h2 : stmsAt w a2 R) (hL : wfStms L) (hR : wfStms R) :
    Calls Tryz.prog 6 #[planV p x, .slice a1 L.length c1, .slice a2 R.length c2] w fun e w' => e = .returned (.bool true) ∧ Below w.heap.size w w' := by
  have K1 : Hid (∀ w1, Below w.heap.size w w1 → Calls Tryz.prog 9 #[planV p x, .slice a1 L.length c1, .slice a2 R.length c2] w1 fun e w' => ((∃ z : Int, (z != 0) = true ∧ e = .returned (.tuple #[.slice none 0 0, .int .i64 z])) ∨ (batchErr p L R = 0 ∧ ∃ V ad cap, isView (rowsK (told p L R)) V ∧ e = .returned (.tuple #[.slice ad V.length cap, .int .i64 0]) ∧ ch.viewAt w' ad V)) ∧ Below w1.heap.size w1 w') := fun w1 hb => (Join_any p x a1 a2 c1 c2 L R w1 hw (planAt_below hp hb) hl (stmsAt_below h1 hb) (stmsAt_below h2 hb) hL hR).mono fun e w' h => ⟨by
    rcases h.1 with ⟨h3, h4⟩ | ⟨h3, V, ad, cap, v1, v2, v3, h4, h5⟩
    · exact .inl ⟨_, by simpa using h3, h4⟩
    · exact .inr ⟨h3, V, ad, cap, ⟨v1, v2, v3⟩, h4, h5⟩, h.2⟩
  have KT : Hid (batchErr p L R = 0 → ∀ w1, Calls Tryz.prog 20 #[planV p x] w1 fun e w' => e = .returned (planV (turnP p) (turnA x)) ∧ Below w1.heap.size w1 w') := fun h0 w1 => turned_any p x w1 (plan_mode (batch_ok h0).plan) (plan_fits (batch_ok h0).plan).1 (plan_fits (batch_ok h0).plan).2
  have K2 : Hid (batchErr p L R = 0 → p.kind ≠ 3 → ∀ w1, Below w.heap.size w w1 → Calls Tryz.prog 9 #[planV (turnP p) (turnA x), .slice a2 R.length c2, .slice a1 L.length c1] w1 fun e w' => (∃ V ad cap, (isView (rowsK (told (turnP p) R L)) V ∧ V.length ≤ 4096 ∧ (expand p.right.length V).length ≤ 4096 ∧ (∀ r ∈ expand p.right.length V, rowOk r) ∧ rowsK (expand p.right.length V) = rowsK (told p L R) ∧ ∀ i, i < V.length → (V.getD i default).r.length = p.right.length + p.left.length ∧ 0 ≤ (V.getD i default).n ∧ (V.getD i default).n ≤ 4096) ∧ e = .returned (.tuple #[.slice ad V.length cap, .int .i64 0]) ∧ ch.viewAtC w' ad V) ∧ Below w1.heap.size w1 w') := fun h0 hk w1 hb => by
    have hf := plan_fits (batch_ok h0).plan
    have ht := turn_batch hk h0
    refine (Join_anyC (turnP p) (turnA x) a2 a1 c2 c1 R L w1 (turn_wf hw hf.1 hf.2) (turn_at (planAt_below hp hb)) (by omega) (stmsAt_below h2 hb) (stmsAt_below h1 hb) hR hL).mono fun e w' h => ⟨?_, h.2⟩
    rcases h.1 with ⟨h3, h4⟩ | ⟨h3, V, ad, cap, v1, v2, v3, h4, h5⟩
    · exact absurd ht h3
    · have hr := turned_rows ht hL hR v2 v3 v1
      have hbk := turned_back hk h0 hL hR ht v2 v3 v1 (fun c hc => (hr c hc).2.1)
      exact ⟨V, ad, cap, ⟨⟨v1, v2, v3⟩, v2.1, hbk.1, hbk.2.1, hbk.2.2, fun i hi => hr _ (by simp [List.getD_eq_getElem?_getD, hi])⟩, h4, h5⟩
  have KF : Hid (∀ rows c cc w1, ch.chgsAt w1 c (insT rows) → (∀ r ∈ rows, rowOk r) → rows.length ≤ 4096 → Calls Tryz.prog 22 #[.slice none 0 0, .slice c rows.length cc] w1 fun e w' => (∃ V ad cap, isView (rowsK rows) V ∧ e = .returned (.tuple #[.slice ad V.length cap, .int .i64 0, .int .i64 0]) ∧ ch.viewAt w' ad V) ∧ Below w1.heap.size w1 w') := fun rows c cc w1 hc hr hn => (fold_told c cc rows w1 hc hr hn).mono fun e w' h => ⟨by
    obtain ⟨V, ad, cap, v1, v2, v3, h4, h5⟩ := h.1
    exact ⟨V, ad, cap, ⟨v1, v2, v3⟩, h4, h5⟩, h.2⟩
  have KG : Hid (∀ w1, Calls Tryz.prog 11 #[] w1 fun e w' => e = .returned (.bool true) ∧ Below w1.heap.size w1 w') := fun w1 => bt.begun_any w1
  have KV : Hid (∀ V V' ad ad' cap cap' w1, isView (rowsK (told p L R)) V → isView (rowsK (told p L R)) V' → ch.viewAt w1 ad V → ch.viewAt w1 ad' V' → Calls Tryz.prog 12 #[.slice ad V.length cap, .slice ad' V'.length cap'] w1 fun e w' => e = .returned (.bool true) ∧ Below w1.heap.size w1 w') := fun V V' ad ad' cap cap' w1 v1 v2 m1 m2 => by
    have e := isView_one v1 v2
    subst e
    refine (ch.sameViews_any ad ad' cap cap' V V w1 m1 m2 v1.2.2 v1.2.2 (by have := v1.2.1.1; omega) (by have := v1.2.1.1; omega)).mono ?_
    rintro e w' ⟨he, hb⟩
    exact ⟨by rw [he]; simp, hb⟩
  have HC : Hid (batchErr p L R = 0 → (p.left.length ≤ 4 ∧ p.right.length ≤ 4) ∧ 0 < p.right.length ∧ 0 < p.left.length) := fun h0 => ⟨cols_few (batch_ok h0).plan, by have := (planErr_ok (batch_ok h0).plan).2.2.1; unfold manyOk len14 at this; omega, by have := (planErr_ok (batch_ok h0).plan).2.2.1; unfold manyOk len14 at this; omega⟩
  obtain ⟨be, hbe⟩ : ∃ z, batchErr p L R = z := ⟨_, rfl⟩
  obtain ⟨RK, hRK⟩ : ∃ z, rowsK (told p L R) = z := ⟨_, rfl⟩
  obtain ⟨RT, hRT⟩ : ∃ z, rowsK (told (turnP p) R L) = z := ⟨_, rfl⟩
  rw [hbe, hRK] at K1
  rw [hbe, hRK, hRT] at K2
  rw [hbe] at KT HC
  rw [hRK] at KV
  obtain ⟨m2, hm2⟩ : ∃ n, R.length = n := ⟨_, rfl⟩
  obtain ⟨m1, hm1⟩ : ∃ n, L.length = n := ⟨_, rfl⟩
  simp only [hm1, hm2] at K1 K2 ⊢
  clear hbe hRK hRT hm1 hm2 hw hp hl h1 h2 hL hR
  obtain ⟨kind, mode, low, high, size, limit, left, right, lkeys, rkeys, grouped, group, aggs⟩ := p
  obtain ⟨la, lc, rr, rc, lk, lkc, rk, rkc, g, gc, ag, ac⟩ := x
  unfold planV turnP turnA at K2 KT
  unfold planV at K1 ⊢
  dsimp only at K1 K2 KT HC ⊢
  simp only [List.length_nil] at K2 KT
  obtain ⟨n6, h6⟩ : ∃ n, left.length = n := ⟨_, rfl⟩
  obtain ⟨n7, h7⟩ : ∃ n, right.length = n := ⟨_, rfl⟩
  obtain ⟨n8, h8⟩ : ∃ n, lkeys.length = n := ⟨_, rfl⟩
  obtain ⟨n9, h9⟩ : ∃ n, rkeys.length = n := ⟨_, rfl⟩
  obtain ⟨n11, h11⟩ : ∃ n, group.length = n := ⟨_, rfl⟩
  obtain ⟨n12, h12⟩ : ∃ n, aggs.length = n := ⟨_, rfl⟩
  simp only [h6, h7, h8, h9, h11, h12] at K1 K2 KT HC ⊢
  clear h6 h7 h8 h9 h11 h12
  go_enter Tryz.func6, Tryz.ntmps6
  go_wp2_with fail
  generalize hW0 : (World.alloc w _) = W0
  have hb0 : Below w.heap.size w W0 := by rw [← hW0]; exact (Below.refl _ _).alloc (Nat.le_refl _) _
  have s0 : W0.cell? ⟨w.heap.size, 0, none⟩ = some (.int .i64 kind) := by subst hW0; go_simp
  have s1 : W0.cell? ⟨w.heap.size, 1, none⟩ = some (.int .i64 mode) := by subst hW0; go_simp
  have s2 : W0.cell? ⟨w.heap.size, 2, none⟩ = some (.int .i64 low) := by subst hW0; go_simp
  have s3 : W0.cell? ⟨w.heap.size, 3, none⟩ = some (.int .i64 high) := by subst hW0; go_simp
  have s4 : W0.cell? ⟨w.heap.size, 4, none⟩ = some (.int .i64 size) := by subst hW0; go_simp
  have s5 : W0.cell? ⟨w.heap.size, 5, none⟩ = some (.int .i64 limit) := by subst hW0; go_simp
  have s6 : W0.cell? ⟨w.heap.size, 6, none⟩ = some (.slice la n6 lc) := by subst hW0; go_simp
  have s7 : W0.cell? ⟨w.heap.size, 7, none⟩ = some (.slice rr n7 rc) := by subst hW0; go_simp
  have s8 : W0.cell? ⟨w.heap.size, 8, none⟩ = some (.slice lk n8 lkc) := by subst hW0; go_simp
  have s9 : W0.cell? ⟨w.heap.size, 9, none⟩ = some (.slice rk n9 rkc) := by subst hW0; go_simp
  have s10 : W0.cell? ⟨w.heap.size, 10, none⟩ = some (.bool grouped) := by subst hW0; go_simp
  have s11 : W0.cell? ⟨w.heap.size, 11, none⟩ = some (.slice g n11 gc) := by subst hW0; go_simp
  have s12 : W0.cell? ⟨w.heap.size, 12, none⟩ = some (.slice ag n12 ac) := by subst hW0; go_simp
  have HS : Hid (∀ W1, Below W0.heap.size W0 W1 → W1.cell? ⟨w.heap.size, 0, none⟩ = some (.int .i64 kind) ∧ W1.cell? ⟨w.heap.size, 1, none⟩ = some (.int .i64 mode) ∧ W1.cell? ⟨w.heap.size, 2, none⟩ = some (.int .i64 low) ∧ W1.cell? ⟨w.heap.size, 3, none⟩ = some (.int .i64 high) ∧ W1.cell? ⟨w.heap.size, 4, none⟩ = some (.int .i64 size) ∧ W1.cell? ⟨w.heap.size, 5, none⟩ = some (.int .i64 limit) ∧ W1.cell? ⟨w.heap.size, 6, none⟩ = some (.slice la n6 lc) ∧ W1.cell? ⟨w.heap.size, 7, none⟩ = some (.slice rr n7 rc) ∧ W1.cell? ⟨w.heap.size, 8, none⟩ = some (.slice lk n8 lkc) ∧ W1.cell? ⟨w.heap.size, 9, none⟩ = some (.slice rk n9 rkc) ∧ W1.cell? ⟨w.heap.size, 10, none⟩ = some (.bool grouped) ∧ W1.cell? ⟨w.heap.size, 11, none⟩ = some (.slice g n11 gc) ∧ W1.cell? ⟨w.heap.size, 12, none⟩ = some (.slice ag n12 ac)) := fun W1 hb => ⟨cell_later hb s0, cell_later hb s1, cell_later hb s2, cell_later hb s3, cell_later hb s4, cell_later hb s5, cell_later hb s6, cell_later hb s7, cell_later hb s8, cell_later hb s9, cell_later hb s10, cell_later hb s11, cell_later hb s12⟩
  clear hW0
  clear s0 s1 s2 s3 s4 s5 s6 s7 s8 s9 s10 s11 s12
  obtain ⟨e0, e1, e2, e3, e4, e5, e6, e7, e8, e9, e10, e11, e12⟩ := HS.out W0 (Below.refl _ _)
  refine (K1.out _ hb0).mono ?_
  clear e0 e1 e2 e3 e4 e5 e6 e7 e8 e9 e10 e11 e12
  rintro e w1 ⟨hres, hb1⟩
  have hbn := hb0.trans (hb1.mono hb0.size)
  obtain ⟨e0, e1, e2, e3, e4, e5, e6, e7, e8, e9, e10, e11, e12⟩ := HS.out w1 hb1
  rcases hres with ⟨z, hz, rfl⟩ | ⟨rfl, V, ad, cap, hV, rfl, hVa⟩
  · go_wp2_with (go_at_call 11; refine (KG.out _).mono ?_; rintro e w3 ⟨rfl, hb3⟩)
    go_ret
    exact ⟨rfl, hbn.trans (hb3.mono hbn.size)⟩
  · obtain ⟨vn, hvn⟩ : ∃ n, V.length = n := ⟨_, rfl⟩
    have H1 : Hid (isView RK V ∧ V.length = vn ∧ ∀ W1, Below w1.heap.size w1 W1 → ch.viewAt W1 ad V) := ⟨hV, hvn, fun W1 hb => ch.viewAt_below hVa hb⟩
    rw [hvn]
    clear hV hVa hvn K1
    cases hk3 : (kind == 3) with
    | true =>
      go_wp2_with (go_at_call 11; refine (KG.out _).mono ?_; rintro e w3 ⟨rfl, hb3⟩)
      go_ret
      exact ⟨rfl, hbn.trans (hb3.mono hbn.size)⟩
    | false =>
      replace K2 := K2.out rfl (by simpa using hk3)
      have K2 : Hid (∀ w1, _) := K2
      replace KT := KT.out rfl
      have KT : Hid (∀ w1, _) := KT
      obtain ⟨⟨q6, q7⟩, q8, q9⟩ := HC.out rfl
      clear HC
      go_wp2_with fail
      refine (KT.out _).mono ?_
      rintro e w2 ⟨rfl, hb2⟩
      have hbm := hbn.trans (hb2.mono hbn.size)
      go_wp2_with fail
      refine (K2.out _ hbm).mono ?_
      rintro e w3 ⟨⟨V2, ad2, cap2, ⟨t1, t2, t3, t4, t5, t6⟩, rfl, hv2⟩, hb3⟩
      have hbo := hbm.trans (hb3.mono hbm.size)
      have hbx : Below W0.heap.size W0 w3 := (hb1.trans (hb2.mono hb1.size)).trans (hb3.mono (hb1.trans (hb2.mono hb1.size)).size)
      have hb13 : Below w1.heap.size w1 w3 := hb2.trans (hb3.mono hb2.size)
      clear e0 e1 e2 e3 e4 e5 e6 e7 e8 e9 e10 e11 e12
      obtain ⟨e7, _⟩ := (HS.out w3 hbx).2.2.2.2.2.2.2
      have H2 : Hid (isView RT V2 ∧ (expand n7 V2).length ≤ 4096 ∧ (∀ r ∈ expand n7 V2, rowOk r) ∧ rowsK (expand n7 V2) = RK ∧ ∀ i, i < V2.length → (V2.getD i default).r.length = n7 + n6 ∧ 0 ≤ (V2.getD i default).n ∧ (V2.getD i default).n ≤ 4096) := ⟨t1, t3, t4, t5, t6⟩
      obtain ⟨vn2, hvn2⟩ : ∃ n, V2.length = n := ⟨_, rfl⟩
      have HVN2 : Hid (V2.length = vn2) := hvn2
      have HV2 : Hid (ch.viewAtC w3 ad2 V2) := hv2
      rw [hvn2] at t2 ⊢
      clear t1 t3 t4 t5 t6 hv2 hvn2 K2 KT
      go_wp2
      go_loopw [12, 13, 14] (fun l i _ wr => ∃ k : Nat, k ≤ vn2 ∧ i = .int .i64 k ∧ CL wr w3.heap.size l (insT (expand n7 (V2.take k))) ∧ Below w3.heap.size w3 wr) (fun _ i _ _ => vn2 - (intOf i).toNat)
      case atStart => exact ⟨0, Nat.zero_le _, rfl, CL_start _ _, Below.refl _ _⟩
      case round =>
        obtain ⟨k, hkn, rfl, hcl, hnx⟩ := hrel
        have HCL : Hid (CL wr w3.heap.size u12 (insT (expand n7 (V2.take k)))) := hcl
        clear hcl
        have hbr := hbo.trans (hnx.mono hbo.size)
        by_cases hlt : k < vn2
        · obtain ⟨b, o, ra, rc2, e, z1, z2, z3⟩ := HV2.out.1 k (by rw [HVN2.out]; exact hlt)
          have hcap := HV2.out.2 k (by rw [HVN2.out]; exact hlt) b o ra _ rc2 e z1
          subst e
          obtain ⟨r1, r2, r3⟩ := H2.out.2.2.2.2 k (by rw [HVN2.out]; exact hlt)
          rw [r1] at z1 hcap
          obtain ⟨cn, hcn⟩ : ∃ z : Nat, (V2.getD k default).n = z := ⟨(V2.getD k default).n.toNat, by omega⟩
          rw [hcn] at z3
          have hc4 : cn ≤ 4096 := by omega
          obtain ⟨fa, hs1, hfront⟩ := rowFront ra (n7 + n6) rc2 n7 (by omega) hcap
          obtain ⟨ba, bc, hs2, hback⟩ := rowBack ra (n7 + n6) rc2 n7 (by omega) hcap
          have HFB : Hid (∀ W, Below w3.heap.size w3 W → vl.rowAt W fa ((V2.getD k default).r.take n7) ∧ vl.rowAt W ba ((V2.getD k default).r.drop n7)) := fun W hb => ⟨hfront W _ r1 (rowAt_below z2 hb), hback W _ r1 (rowAt_below z2 hb)⟩
          have en : n7 + n6 - n7 = n6 := by omega
          rw [en] at hs2
          have KB : Hid (∀ W, Below w3.heap.size w3 W → Calls Tryz.prog 21 #[.slice ba n6 bc, .slice fa n7 rc2] W fun e w' => (∃ ad cap, e = .returned (.slice ad (turnR n7 (V2.getD k default).r).length cap) ∧ ownV w' W.heap.size (.slice ad (turnR n7 (V2.getD k default).r).length cap) (turnR n7 (V2.getD k default).r)) ∧ Below W.heap.size W w') := fun W hb => by
            have := both_any ba fa bc rc2 ((V2.getD k default).r.drop n7) ((V2.getD k default).r.take n7) W (by rw [List.length_take, r1]; omega) (by rw [List.length_drop, r1]; omega) (by rw [List.length_take, r1]; omega) (HFB.out W hb).2 (HFB.out W hb).1
            rw [show ((V2.getD k default).r.drop n7).length = n6 by rw [List.length_drop, r1]; omega, show ((V2.getD k default).r.take n7).length = n7 by rw [List.length_take, r1]; omega] at this
            exact this
          have HEX : Hid (∀ j, EX n7 V2 k (j + 1) = EX n7 V2 k j ++ [turnR n7 (V2.getD k default).r]) := EX_succ n7 V2 k
          have HEN : Hid (expand n7 (V2.take (k + 1)) = EX n7 V2 k cn) := by
            have := EX_next n7 V2 k (by rw [HVN2.out]; exact hlt)
            rw [hcn] at this
            exact this
          have HEL : Hid (∀ j, j ≤ cn → (EX n7 V2 k j).length ≤ 4096) := fun j hj => Nat.le_trans (EX_len n7 V2 k j (by rw [HVN2.out]; exact hlt) (by rw [hcn]; omega)) H2.out.2.1
          have HCE : Hid (CL wr w3.heap.size u12 (insT (EX n7 V2 k 0))) := by
            show CL wr w3.heap.size u12 (insT (EX n7 V2 k 0))
            rw [EX_zero]; exact HCL.out
          obtain ⟨tr, htr⟩ : ∃ z, turnR n7 (V2.getD k default).r = z := ⟨_, rfl⟩
          rw [htr] at KB HEX
          obtain ⟨rl, hrl⟩ : ∃ z, tr.length = z := ⟨_, rfl⟩
          have HRL : Hid (tr.length = rl) := hrl
          rw [hrl] at KB
          have g1 := cell_later hnx z1
          have g2 := cell_later hnx z3
          have i1 : (0 : Int) ≤ (k : Int) := by omega
          have i2 : (k : Int) < (vn2 : Int) := by omega
          have i3 : ¬ ((n7 + n6 : Nat) : Int) < (n7 : Int) := by omega
          have i4 : decide (((n7 + n6 : Nat) : Int) < (n7 : Int)) = false := decide_eq_false i3
          clear r1 r2 r3 hcn hfront hback HFB htr hrl en
          go_wp2
          go_loopw [12, 14] (fun l i wy => ∃ j : Nat, j ≤ cn ∧ i = .int .i64 j ∧ CL wy w3.heap.size l (insT (EX n7 V2 k j)) ∧ Below w3.heap.size w3 wy) (fun _ i _ => cn - (intOf i).toNat)
          case atStart => exact ⟨0, Nat.zero_le _, rfl, HCE.out, hnx⟩
          case round =>
            rename World => wy
            obtain ⟨j, hj, rfl, hcl2, hny⟩ := hrel
            have HC2 : Hid (CL wy w3.heap.size u12 (insT (EX n7 V2 k j))) := hcl2
            have y1 := cell_later hny z1
            have y2 := cell_later hny z3
            by_cases hjc : j < cn
            · obtain ⟨pp, p1, p2, p3⟩ := hcl2
              have HPR : Hid (ch.rowsC wy w3.heap.size (fun g => u12.ownBlock = some g) pp (insT (EX n7 V2 k j))) := p3
              have HPL : Hid (pp.length = (insT (EX n7 V2 k j)).length) := p1
              have hpl : pp.length ≤ 4096 := by rw [p1, insT_len]; exact HEL.out j (by omega)
              obtain ⟨ln, hln⟩ : ∃ z, pp.length = z := ⟨_, rfl⟩
              have HLN : Hid (pp.length = ln) := hln
              rw [hln] at p2 hpl
              have HO : Hid (wy.ownsRow w3.heap.size 48 2 u12 ln (ch.flatC pp)) := p2
              have j1 : decide ((j : Int) < (cn : Int)) = true := decide_eq_true (by omega)
              have j2 : decide ((j : Int) ≤ 4096) = true := decide_eq_true (by omega)
              have hsy := hny.size
              clear p1 p2 p3 hln
              go_wp2
              go_region_law (first
                | (refine ch.step_appC (by rfl) (.tmp 71) (.tmp 88) (by rfl) w3.heap.size u12 pp 1 ad9 rl cap9 w9 ln HLN.out HO1.out (by omega) (Nat.le_trans hsy hbw.size) (by rfl) (by rfl) ?_; intro g9 cap10 w10 hown2 hgrow2 hat2 hlt2)
                | (go_simp; go_at_call 21; refine (KB.out _ hny.drew).mono ?_; rintro e w9 ⟨⟨ad9, cap9, rfl, hov⟩, hb9⟩; have hbw : Below wy.heap.size wy w9 := (Below.refl _ wy).drew.trans hb9; have HO1 : Hid (w9.ownsRow w3.heap.size 48 2 u12 ln (ch.flatC pp)) := ch.own_below HO.out hbw))
              all_goals
                have hq9 : Below w3.heap.size w3 w9 := hny.trans (hbw.mono hsy)
                have hq10 : Below w3.heap.size w3 w10 := (hq9.alloc hq9.size _).grown hgrow2 (by have := hq9.size; simp; omega) (fun b hb => (ch.own_lt HO.out hb).1)
                have HST : Hid (CL w10 w3.heap.size (.slice (some ⟨g9, 0, none⟩) (ln + 1) cap10) (insT (EX n7 V2 k (j + 1)))) := by
                  show CL _ _ _ _
                  rw [HEX.out j, insT_app]
                  have := CL_step (r := tr) (n := 1) (ad := ad9) (cap := cap9) (g := g9) (cap2 := cap10) hsy HPL.out (by rw [HLN.out]; exact HO.out) HPR.out hbw (by rw [HRL.out]; exact World.ownsRow.mono hov (by simp)) (by rw [HLN.out, HRL.out]; exact hown2) (by rw [HRL.out]; exact hgrow2) hat2
                  rw [HLN.out] at this
                  exact this
                clear hown2 hgrow2 hov HO1
                go_wp2
                go_roundw
                case rel => exact ⟨j + 1, by omega, by go_num, HST.out, hq10⟩
                case measure => simp [intOf]; omega
            · have hje : j = cn := by omega
              subst hje
              have j1 : decide ((j : Int) < (j : Int)) = false := decide_eq_false (by omega)
              go_wp2
              go_roundw
              case rel => exact ⟨k + 1, by omega, by go_num, by rw [HEN.out]; exact HC2.out, hny⟩
              case measure => simp [intOf]; omega
        · have hke : k = vn2 := by omega
          have HCF : Hid (CL wr w3.heap.size u12 (insT (expand n7 V2))) := by
            have := HCL.out
            rw [List.take_of_length_le (by rw [HVN2.out]; omega)] at this
            exact this
          obtain ⟨cad, ccap, hcv, hch⟩ := CL_form HCF.out
          subst hcv
          have KFF : Hid (Calls Tryz.prog 22 #[.slice none 0 0, .slice cad (insT (expand n7 V2)).length ccap] wr fun e w' => (∃ V ad cap, isView RK V ∧ e = .returned (.tuple #[.slice ad V.length cap, .int .i64 0, .int .i64 0]) ∧ ch.viewAt w' ad V) ∧ Below wr.heap.size wr w') := by
            have := KF.out (expand n7 V2) cad ccap wr hch H2.out.2.2.1 H2.out.2.1
            rw [H2.out.2.2.2.1] at this
            rw [insT_len]
            exact this
          obtain ⟨el, hel⟩ : ∃ z, (insT (expand n7 V2)).length = z := ⟨_, rfl⟩
          rw [hel] at KFF HCF HCL ⊢
          clear hch hel
          go_wp2_with fail
          refine KFF.out.mono ?_
          rintro e w4 ⟨⟨V3, ad3, cap3, hV3, rfl, hv3⟩, hb4⟩
          have hq4 := hbr.trans (hb4.mono hbr.size)
          have h14 : Below w1.heap.size w1 w4 := (hb13.trans (hnx.mono hb13.size)).trans (hb4.mono (hb13.trans (hnx.mono hb13.size)).size)
          have KSV : Hid (∀ W, Below w4.heap.size w4 W → Calls Tryz.prog 12 #[.slice ad3 V3.length cap3, .slice ad vn cap] W fun e w' => e = .returned (.bool true) ∧ Below W.heap.size W w') := fun W hb => by
            have := KV.out V3 V ad3 ad cap3 cap W hV3 H1.out.1 (ch.viewAt_below hv3 hb) (H1.out.2.2 W (h14.trans (hb.mono h14.size)))
            rw [H1.out.2.1] at this
            exact this
          obtain ⟨vn3, hvn3⟩ : ∃ n, V3.length = n := ⟨_, rfl⟩
          rw [hvn3] at KSV ⊢
          clear hV3 hv3 hvn3
          go_wp2_with fail
          refine (KG.out _).mono ?_
          rintro e w5 ⟨rfl, hb5⟩
          have hq5 := hq4.trans (hb5.mono hq4.size)
          go_wp2_with fail
          refine (KSV.out _ hb5).mono ?_
          rintro e w6 ⟨rfl, hb6⟩
          go_wp2
          go_ret
          exact ⟨rfl, hq5.trans (hb6.mono hq5.size)⟩
end Go.Proofs.YtcpanmaahhiioaaGreat.bt
