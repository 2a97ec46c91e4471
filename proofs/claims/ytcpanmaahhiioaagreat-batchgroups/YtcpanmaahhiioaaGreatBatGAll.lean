/- GroupAll (the document's): a view, grouped. -/
import Derived.Test.YtcpanmaahhiioaaGreatBatGA2
import Derived.Test.YtcpanmaahhiioaaGreatBatGOf
import Derived.Test.YtcpanmaahhiioaaGreatBatRFig
import Derived.Test.YtcpanmaahhiioaaGreatCapMake
import Derived.Test.YtcpanmaahhiioaaGreatBatGA3
import Derived.BigRegion
namespace Go.Proofs.YtcpanmaahhiioaaGreat.bt
open Go.ChangeShapes Go.WideShapes Go.ChangeAt Go.RowKit
open vl pl
set_option linter.unusedVariables false
set_option linter.unusedSimpArgs false
/-- where the row's group is, or would be -/
def yesG (p : Pln) (vs : List ch.Cnt) (c : ch.Cnt) (G : List GX) (i : Nat) : Prop := ∃ A x B, G = A ++ x :: B ∧ A.length = i ∧ encR x.1.2.r = keyG p c ∧ ((∀ y ∈ A, encR y.1.2.r ≠ keyG p c) ∧ ∀ y ∈ B, encR y.1.2.r ≠ keyG p c) ∧ ch.kvP (hs G) = gkeys p (vs ++ [c])
def noG (p : Pln) (vs : List ch.Cnt) (c : ch.Cnt) (G : List GX) (i : Nat) : Prop := ∃ A B, G = A ++ B ∧ A.length = i ∧ ofKey (keyG p) vs (keyG p c) = [] ∧ ((∀ y ∈ A, encR y.1.2.r ≠ keyG p c) ∧ ∀ y ∈ B, encR y.1.2.r ≠ keyG p c) ∧ ∀ rv r, encR r = keyG p c → ch.kvP (hs A ++ (rv, ⟨r, 1⟩) :: hs B) = gkeys p (vs ++ [c])
theorem placed {p : Pln} {vs : List ch.Cnt} {c : ch.Cnt} {G : List GX} {r : List Cel} {e : Ending} (hr : encR r = keyG p c) (hk : ch.kvP (hs G) = gkeys p vs) (h : ch.placeRes (ch.outOf (hs G)) r e) : ∃ (i : Nat) (is : Bool), e = .returned (.tuple #[.int .i64 i, .bool is]) ∧ i ≤ G.length ∧ (is = true → yesG p vs c G i) ∧ (is = false → noG p vs c G i) := by
  obtain ⟨i, h1, h2, h3⟩ := h
  rw [ch.out_len, hs_len] at h1
  rw [hr] at h2 h3
  rcases h3 with ⟨h4, h5, h6, h7⟩ | ⟨h4, h5⟩
  · rw [ch.out_len, hs_len] at h4
    refine ⟨i, true, h7, h1, fun _ => ?_, fun h => by cases h⟩
    have hx : (hs G)[i]? = some (G[i]).1 := by unfold hs; rw [List.getElem?_map, List.getElem?_eq_getElem h4]; rfl
    rw [ch.out_at (hs G) i _ hx] at h5
    obtain ⟨f1, f2, f3, f4⟩ := ga_found hk h4 h2 h6 (by rw [h5]; exact hr)
    exact ⟨G.take i, G[i], G.drop (i + 1), f2, by rw [List.length_take]; omega, by rw [h5]; exact hr, ⟨f3, f4⟩, f1⟩
  · refine ⟨i, false, h5, h1, fun h => (by cases h), fun _ => ?_⟩
    have f := fun rv r hr => ga_new hk h1 h2 h4 rv r hr
    have f0 := f (.bool false) r hr
    exact ⟨G.take i, G.drop i, (List.take_append_drop _ _).symm, by rw [List.length_take]; omega, f0.2.1, f0.2.2, fun rv r hr => (f rv r hr).1⟩
theorem est_one {w : World} {base : Nat} {hv pv : Value} {G : List GX} (h : Est w base (estE hv pv G)) : ∀ u ∈ ch.flatP (hs G), u.oneCell' = true := by
  intro u hu
  obtain ⟨y, hy, hu⟩ := List.mem_flatMap.1 hu
  obtain ⟨x, hx, rfl⟩ := List.mem_map.1 hy
  have hr : ownV w base x.1.1 x.1.2.r := h.own (hOwn x.1) (List.mem_cons_of_mem _ (List.mem_cons_of_mem _ (List.mem_flatMap.2 ⟨x, hx, List.mem_cons_self ..⟩)))
  obtain ⟨ra, rc, er⟩ := ownV_form hr
  simp at hu
  rcases hu with rfl | rfl
  · rw [er]; rfl
  · rfl
theorem est_onq {w : World} {base : Nat} {hv pv : Value} {G : List GX} (h : Est w base (estE hv pv G)) : ∀ u ∈ qv G, u.oneCell' = true := by
  intro u hu
  obtain ⟨x, hx, rfl⟩ := List.mem_map.1 hu
  have hr : w.ownsRow base 45 2 x.2.1 x.2.2.length (ch.flatP x.2.2) := h.own (pOwn x.2) (List.mem_cons_of_mem _ (List.mem_cons_of_mem _ (List.mem_flatMap.2 ⟨x, hx, List.mem_cons_of_mem _ (List.mem_cons_self ..)⟩)))
  obtain ⟨ra, rc, er, _⟩ := ch.row_form hr
  rw [er]; rfl
theorem room_set {A B y : List Value} {i : Nat} (hA : A.length = i * 2) (hy : y.length = 2) (u v : Value) : ((A ++ y ++ B).set (i * 2) u).set (i * 2 + 1) v = A ++ (u :: v :: B) := by
  match y, hy with
  | [y0, y1], _ =>
    rw [List.append_assoc, ← hA, List.set_append_right _ _ (Nat.le_refl _), Nat.sub_self, List.set_append_right _ _ (by omega), show A.length + 1 - A.length = 1 by omega]
    rfl
theorem room_set1 {A B y : List Value} {i : Nat} (hA : A.length = i) (hy : y.length = 1) (u : Value) : (A ++ y ++ B).set i u = A ++ u :: B := by
  match y, hy with
  | [y0], _ =>
    rw [List.append_assoc, ← hA, List.set_append_right _ _ (Nat.le_refl _), Nat.sub_self]
    rfl
theorem room_at {A B y : List Value} {i j : Nat} {u : Value} (hA : A.length = i) (hu : y[j]? = some u) : (A ++ y ++ B)[i + j]? = some u := by
  have hj : j < y.length := by
    rcases Nat.lt_or_ge j y.length with h | h
    · exact h
    · rw [List.getElem?_eq_none h] at hu; cases hu
  rw [List.append_assoc, List.getElem?_append_right (by omega), hA, show i + j - i = j by omega, List.getElem?_append_left hj]
  exact hu
set_option maxRecDepth 100000 in
set_option maxHeartbeats 16000000 in
theorem GroupAll_any (p : Pln) (x : PA) (a : Option Addr) (ca : Nat) (v : List ch.Cnt) (w : World) (hp : planAt w p x) (h0 : groupErr p v = 0) (hv : ch.viewAt w a v) (hwv : ch.wfView v) :
    Calls Tryz.prog 17 #[planV p x, .slice a v.length ca] w fun e w' => (∃ ad cap, e = .returned (.slice ad (groupOut p v).length cap) ∧ ch.viewAt w' ad (groupOut p v)) ∧ Below w.heap.size w w' := by
  have hgk := group_ok h0
  have hfew := group_few hgk.plan hgk.grouped
  have hmem : ∀ k, k < v.length → v.getD k default ∈ v := fun k hk => by simp [List.getD_eq_getElem?_getD, hk]
  have KGO : Hid (∀ k ra rc w1, k < v.length → Below w.heap.size w w1 → vl.rowAt w ra (v.getD k default).r → Calls Tryz.prog 60 #[planV p x, .slice ra (v.getD k default).r.length rc] w1 fun e w' => (∃ ad c, e = .returned (.slice ad (headG p (v.getD k default)).length c) ∧ ownV w' w1.heap.size (.slice ad (headG p (v.getD k default)).length c) (headG p (v.getD k default))) ∧ Below w1.heap.size w1 w') := fun k ra rc w1 hk hb hr =>
    groupOf_any p x ra rc (v.getD k default).r w1 (planAt_below hp hb) (by omega) (hwv _ (hmem k hk)).2.1 (rowAt_below hr hb) (by rw [hgk.len _ (hmem k hk)]; exact group_in hgk.plan)
  have KPL : Hid (∀ (k : Nat) (G : List GX) (wr w1 : World) (base : Nat) (had : Option Addr) (hc : Nat) (pv : Value) (ad : Option Addr) (c : Nat), k < v.length → GA w wr base (.slice had G.length hc) pv p (gkeys p (v.take k)) (v.take k) G → Below wr.heap.size wr w1 → vl.rowAt w1 ad (headG p (v.getD k default)) → Calls Tryz.prog 59 #[.slice had G.length hc, .slice ad (headG p (v.getD k default)).length c] w1 fun e w' => (∃ (i : Nat) (is : Bool), e = .returned (.tuple #[.int .i64 i, .bool is]) ∧ i ≤ G.length ∧ (is = true → yesG p (v.take k) (v.getD k default) G i) ∧ (is = false → noG p (v.take k) (v.getD k default) G i)) ∧ Below w1.heap.size w1 w') := fun k G wr w1 base had hc pv ad c hk hga hb hr => by
    have hh := GA_heads hga (by rw [List.length_take]; have := hgk.view.1; omega)
    have hvw := est_view (GA_below hga hb).est
    have := ch.place_any had ad hc c (ch.outOf (hs G)) (headG p (v.getD k default)) w1 hvw hh.2.1 hh.1 hr (head_ok hgk hwv (hmem k hk))
    rw [ch.out_len, hs_len] at this
    exact this.mono fun e w' h => ⟨placed rfl hga.kv h.1, h.2⟩
  have HHD : Hid (∀ k, k < v.length → rowOk (headG p (v.getD k default))) := fun k hk => head_ok hgk hwv (hmem k hk)
  have HV : Hid (ch.viewAt w a v) := hv
  have HTK : Hid (∀ k, k < v.length → v.take (k + 1) = v.take k ++ [v.getD k default]) := fun k hk => take_c v k hk
  have HVL : Hid (v.length ≤ 4096) := hgk.view.1
  have HGG : Hid (groupOk p v ∧ ch.wfView v) := ⟨hgk, hwv⟩
  have hn4 := hgk.view.1
  have HAG : Hid (aggsAt w x.a p.aggs) := hp.a
  unfold planV at KGO ⊢
  obtain ⟨kind, e0⟩ : ∃ z, p.kind = z := ⟨_, rfl⟩
  obtain ⟨mode, e1⟩ : ∃ z, p.mode = z := ⟨_, rfl⟩
  obtain ⟨low, e2⟩ : ∃ z, p.low = z := ⟨_, rfl⟩
  obtain ⟨high, e3⟩ : ∃ z, p.high = z := ⟨_, rfl⟩
  obtain ⟨size, e4⟩ : ∃ z, p.size = z := ⟨_, rfl⟩
  obtain ⟨limit, e5⟩ : ∃ z, p.limit = z := ⟨_, rfl⟩
  obtain ⟨n6, e6⟩ : ∃ z, p.left.length = z := ⟨_, rfl⟩
  obtain ⟨n7, e7⟩ : ∃ z, p.right.length = z := ⟨_, rfl⟩
  obtain ⟨n8, e8⟩ : ∃ z, p.lkeys.length = z := ⟨_, rfl⟩
  obtain ⟨n9, e9⟩ : ∃ z, p.rkeys.length = z := ⟨_, rfl⟩
  obtain ⟨grouped, e10⟩ : ∃ z, p.grouped = z := ⟨_, rfl⟩
  obtain ⟨n11, e11⟩ : ∃ z, p.group.length = z := ⟨_, rfl⟩
  obtain ⟨n12, e12⟩ : ∃ z, p.aggs.length = z := ⟨_, rfl⟩
  have HN12 : Hid (p.aggs.length = n12) := e12
  obtain ⟨la, lc, rr, rc, lk, lkc, rk, rkc, g0, gc, ag, ac⟩ := x
  dsimp only at KGO HAG ⊢
  simp only [e0, e1, e2, e3, e4, e5, e6, e7, e8, e9, e10, e11, e12] at KGO ⊢
  clear e0 e1 e2 e3 e4 e5 e6 e7 e8 e9 e10 e11 e12
  obtain ⟨n, hn⟩ : ∃ n, v.length = n := ⟨_, rfl⟩
  have HN : Hid (v.length = n) := hn
  rw [hn] at KGO KPL HHD HTK hn4 ⊢
  clear hn hgk hfew hmem hp hv hwv h0
  go_enter Tryz.func17, Tryz.ntmps17
  go_wp2
  generalize hW0 : (World.alloc w _) = W0
  have hb0 : Below w.heap.size w W0 := by rw [← hW0]; exact (Below.refl _ _).alloc (Nat.le_refl _) _
  have s0 : W0.cell? ⟨w.heap.size, 0, none⟩ = some (.int .i64 kind) := by subst hW0; go_simp
  have s1 : W0.cell? ⟨w.heap.size, 1, none⟩ = some (.int .i64 mode) := by subst hW0; go_simp
  have s2 : W0.cell? ⟨w.heap.size, 2, none⟩ = some (.int .i64 low) := by subst hW0; go_simp
  have s3 : W0.cell? ⟨w.heap.size, 3, none⟩ = some (.int .i64 high) := by subst hW0; go_simp
  have s4 : W0.cell? ⟨w.heap.size, 4, none⟩ = some (.int .i64 size) := by subst hW0; go_simp
  have s5 : W0.cell? ⟨w.heap.size, 5, none⟩ = some (.int .i64 limit) := by subst hW0; go_simp
  have s6 : W0.cell? ⟨w.heap.size, 6, none⟩ = some (.slice la n6 lc) := by subst hW0; go_simp
  have s7 : W0.cell? ⟨w.heap.size, 7, none⟩ = some (.slice rr n7 rc) := by subst hW0; go_simp
  have s8 : W0.cell? ⟨w.heap.size, 8, none⟩ = some (.slice lk n8 lkc) := by subst hW0; go_simp
  have s9 : W0.cell? ⟨w.heap.size, 9, none⟩ = some (.slice rk n9 rkc) := by subst hW0; go_simp
  have s10 : W0.cell? ⟨w.heap.size, 10, none⟩ = some (.bool grouped) := by subst hW0; go_simp
  have s11 : W0.cell? ⟨w.heap.size, 11, none⟩ = some (.slice g0 n11 gc) := by subst hW0; go_simp
  have s12 : W0.cell? ⟨w.heap.size, 12, none⟩ = some (.slice ag n12 ac) := by subst hW0; go_simp
  have HS : Hid (∀ W1, Below W0.heap.size W0 W1 → W1.cell? ⟨w.heap.size, 0, none⟩ = some (.int .i64 kind) ∧ W1.cell? ⟨w.heap.size, 1, none⟩ = some (.int .i64 mode) ∧ W1.cell? ⟨w.heap.size, 2, none⟩ = some (.int .i64 low) ∧ W1.cell? ⟨w.heap.size, 3, none⟩ = some (.int .i64 high) ∧ W1.cell? ⟨w.heap.size, 4, none⟩ = some (.int .i64 size) ∧ W1.cell? ⟨w.heap.size, 5, none⟩ = some (.int .i64 limit) ∧ W1.cell? ⟨w.heap.size, 6, none⟩ = some (.slice la n6 lc) ∧ W1.cell? ⟨w.heap.size, 7, none⟩ = some (.slice rr n7 rc) ∧ W1.cell? ⟨w.heap.size, 8, none⟩ = some (.slice lk n8 lkc) ∧ W1.cell? ⟨w.heap.size, 9, none⟩ = some (.slice rk n9 rkc) ∧ W1.cell? ⟨w.heap.size, 10, none⟩ = some (.bool grouped) ∧ W1.cell? ⟨w.heap.size, 11, none⟩ = some (.slice g0 n11 gc) ∧ W1.cell? ⟨w.heap.size, 12, none⟩ = some (.slice ag n12 ac)) := fun W1 hb => ⟨cell_later hb s0, cell_later hb s1, cell_later hb s2, cell_later hb s3, cell_later hb s4, cell_later hb s5, cell_later hb s6, cell_later hb s7, cell_later hb s8, cell_later hb s9, cell_later hb s10, cell_later hb s11, cell_later hb s12⟩
  have hlw0 : w.heap.size < W0.heap.size := World.block_lt_of_cell? _ _ s0
  clear hW0
  clear s0 s1 s2 s3 s4 s5 s6 s7 s8 s9 s10 s11 s12
  go_loopw [5, 6, 7] (fun hv pv i wr => ∃ (k : Nat) (G : List GX), k ≤ n ∧ i = .int .i64 k ∧ GA w wr W0.heap.size hv pv p (gkeys p (v.take k)) (v.take k) G ∧ Below W0.heap.size W0 wr) (fun _ _ i _ => n - (intOf i).toNat)
  case atStart => exact ⟨0, [], Nat.zero_le _, rfl, GA_start w W0 p, Below.refl _ _⟩
  case round =>
    obtain ⟨k, G, hk, rfl, hga, hnx⟩ := hrel
    have HGA : Hid (GA w wr W0.heap.size u5 u6 p (gkeys p (v.take k)) (v.take k) G) := hga
    have hbr := hb0.trans (hnx.mono hb0.size)
    obtain ⟨⟨had, hcap, hu5⟩, pad, pcap0, hu6, hpg⟩ := GA_form hga
    subst hu5 hu6
    by_cases hlt : k < n
    · obtain ⟨b, o, ra, rc2, e, x1, x2, x3⟩ := HV.out k (by rw [HN.out]; exact hlt)
      subst e
      have hbw : b < w.heap.size := World.block_lt_of_cell? _ _ x1
      have HR : Hid (vl.rowAt w ra (v.getD k default).r) := x2
      have KG1 : Hid (∀ w1, Below w.heap.size w w1 → _) := fun w1 hb => KGO.out k ra rc2 w1 hlt hb HR.out
      have KP1 : Hid (∀ w1 ad c, Below wr.heap.size wr w1 → vl.rowAt w1 ad (headG p (v.getD k default)) → _) := fun w1 ad c hb hr => KPL.out k G wr w1 W0.heap.size had hcap (.slice pad G.length pcap0) ad c hlt HGA.out hb hr
      have HHK : Hid (rowOk (headG p (v.getD k default))) := HHD.out k hlt
      have HT1 : Hid (v.take (k + 1) = v.take k ++ [v.getD k default]) := HTK.out k hlt
      obtain ⟨c, hc⟩ : ∃ z, v.getD k default = z := ⟨_, rfl⟩
      rw [hc] at x1 x3 KG1 KP1 HHK HT1 HR
      obtain ⟨cl', hcl'⟩ : ∃ z, c.r.length = z := ⟨_, rfl⟩
      have HCL : Hid (c.r.length = cl') := hcl'
      rw [hcl'] at x1 KG1
      obtain ⟨cm, hcm⟩ : ∃ z, c.n = z := ⟨_, rfl⟩
      have HCM : Hid (c.n = cm) := hcm
      rw [hcm] at x3
      obtain ⟨hd, hhd⟩ : ∃ z, headG p c = z := ⟨_, rfl⟩
      have HKEY : Hid (keyG p c = encR hd) := by show keyG p c = encR hd; rw [← hhd]; rfl
      rw [hhd] at KG1 KP1 HHK
      obtain ⟨hl, hhl⟩ : ∃ z, hd.length = z := ⟨_, rfl⟩
      have HHL : Hid (hd.length = hl) := hhl
      rw [hhl] at KG1 KP1
      obtain ⟨gl, hgl⟩ : ∃ z, G.length = z := ⟨_, rfl⟩
      have HGL : Hid (G.length = gl) := hgl
      rw [hgl] at KP1 HGA hpg
      simp only [hgl]
      have hglk : gl ≤ k := by
        have := (GA_heads HGA.out (by rw [List.length_take, HN.out]; omega)).2.2
        rw [List.length_take, HN.out, hgl] at this
        omega
      obtain ⟨s0, s1, s2, s3, s4, s5, s6, s7, s8, s9, s10, s11, s12⟩ := HS.out wr hnx
      have q1 := cell_later hbr x1
      have i1 : (0 : Int) ≤ (k : Int) := by omega
      have i2 : (k : Int) < (n : Int) := by omega
      clear x2 hc hcl' hcm hhd hhl hgl hga
      go_wp2
      go_region_held3 (fun w' => w'.cell? ⟨w.heap.size, 0, none⟩ = some (.int .i64 kind) ∧ w'.cell? ⟨w.heap.size, 1, none⟩ = some (.int .i64 mode) ∧ w'.cell? ⟨w.heap.size, 2, none⟩ = some (.int .i64 low) ∧ w'.cell? ⟨w.heap.size, 3, none⟩ = some (.int .i64 high) ∧ w'.cell? ⟨w.heap.size, 4, none⟩ = some (.int .i64 size) ∧ w'.cell? ⟨w.heap.size, 5, none⟩ = some (.int .i64 limit) ∧ w'.cell? ⟨w.heap.size, 6, none⟩ = some (.slice la n6 lc) ∧ w'.cell? ⟨w.heap.size, 7, none⟩ = some (.slice rr n7 rc) ∧ w'.cell? ⟨w.heap.size, 8, none⟩ = some (.slice lk n8 lkc) ∧ w'.cell? ⟨w.heap.size, 9, none⟩ = some (.slice rk n9 rkc) ∧ w'.cell? ⟨w.heap.size, 10, none⟩ = some (.bool grouped) ∧ w'.cell? ⟨w.heap.size, 11, none⟩ = some (.slice g0 n11 gc) ∧ w'.cell? ⟨w.heap.size, 12, none⟩ = some (.slice ag n12 ac) ∧ w'.cell? ⟨b, o + k * 2, none⟩ = some (.slice ra cl' rc2)) (first | go_keep | exact ⟨cell_later hbq s0, cell_later hbq s1, cell_later hbq s2, cell_later hbq s3, cell_later hbq s4, cell_later hbq s5, cell_later hbq s6, cell_later hbq s7, cell_later hbq s8, cell_later hbq s9, cell_later hbq s10, cell_later hbq s11, cell_later hbq s12, cell_later hbq q1⟩ | exact ⟨cell_later hbq2 (cell_later hbq s0), cell_later hbq2 (cell_later hbq s1), cell_later hbq2 (cell_later hbq s2), cell_later hbq2 (cell_later hbq s3), cell_later hbq2 (cell_later hbq s4), cell_later hbq2 (cell_later hbq s5), cell_later hbq2 (cell_later hbq s6), cell_later hbq2 (cell_later hbq s7), cell_later hbq2 (cell_later hbq s8), cell_later hbq2 (cell_later hbq s9), cell_later hbq2 (cell_later hbq s10), cell_later hbq2 (cell_later hbq s11), cell_later hbq2 (cell_later hbq s12), cell_later hbq2 (cell_later hbq q1)⟩)
        (first | (go_at_call 60; refine (KG1.out wr.drew hbr.drew).mono ?_; rintro e wq ⟨⟨ad1, cc1, rfl, hov1⟩, hbq⟩) | (go_at_call 59; refine (KP1.out wq ad1 cc1 ((Below.refl _ wr).drew.trans hbq) (ownV_row (by rw [HHL.out]; exact hov1))).mono ?_; rintro e wq2 ⟨⟨i, is, rfl, hig, hyes, hno⟩, hbq2⟩))
      have hb2 : Below wr.heap.size wr wq2 := ((Below.refl _ wr).drew.trans hbq).trans (hbq2.mono hbq.size)
      have hn2 := hnx.trans (hb2.mono hnx.size)
      have hw2 := hbr.trans (hb2.mono hbr.size)
      have HG2 : Hid (GA w wq2 W0.heap.size (.slice had gl hcap) (.slice pad gl pcap0) p (gkeys p (v.take k)) (v.take k) G) := GA_below HGA.out hb2
      clear s0 s1 s2 s3 s4 s5 s6 s7 s8 s9 s10 s11 s12 q1
      clear hbq hbq2 hov1 HGA
      cases is with
      | true =>
        obtain ⟨A, x, B, hGe, hAl0, hKX, hNE, hKV⟩ := hyes rfl
        have HAL : Hid (A.length = i) := hAl0
        have HKX : Hid (encR x.1.2.r = keyG p c) := hKX
        have HNE : Hid ((∀ y ∈ A, encR y.1.2.r ≠ keyG p c) ∧ ∀ y ∈ B, encR y.1.2.r ≠ keyG p c) := hNE
        obtain ⟨gp, rfl⟩ := hpg (by rw [← HGL.out, hGe, List.length_append, List.length_cons]; omega)
        have HGN : Hid (GA w wq2 W0.heap.size (.slice had gl hcap) (.slice (some ⟨gp, 0, none⟩) gl pcap0) p (gkeys p (v.take k ++ [c])) (v.take k) (A ++ x :: B)) := by
          have h := HG2.out
          rw [← hGe]
          exact ⟨h.est, hKV, h.ok, h.parts, h.rows⟩
        have hbN := hw2
        have hbW := hn2
        clear hyes hno HG2 hGe hAl0 hKX hNE hKV
        have hxs : pOwn x.2 ∈ estE (.slice had gl hcap) (.slice (some ⟨gp, 0, none⟩) gl pcap0) (A ++ x :: B) := List.mem_cons_of_mem _ (List.mem_cons_of_mem _ (List.mem_flatMap.2 ⟨x, List.mem_append.2 (.inr (List.mem_cons_self ..)), List.mem_cons_of_mem _ (List.mem_cons_self ..)⟩))
        have hqo : wq2.ownsRow W0.heap.size 45 2 x.2.1 x.2.2.length (ch.flatP x.2.2) := HGN.out.est.own _ hxs
        obtain ⟨qa, qc, hqe, _⟩ := ch.row_form hqo
        obtain ⟨ql, hql⟩ : ∃ z, x.2.2.length = z := ⟨_, rfl⟩
        have HQL : Hid (x.2.2.length = ql) := hql
        rw [hqe, hql] at hqo
        rw [hql] at hqe
        have HQE : Hid (x.2.1 = .slice qa ql qc) := hqe
        have HQO : Hid (wq2.ownsRow W0.heap.size 45 2 (.slice qa ql qc) ql (ch.flatP x.2.2)) := hqo
        have hpo : wq2.ownsRow W0.heap.size 27 1 (.slice (some ⟨gp, 0, none⟩) gl pcap0) (A ++ x :: B).length (qv (A ++ x :: B)) := HGN.out.est.own (partE _ _) (List.mem_cons_of_mem _ (List.mem_cons_self ..))
        have hpn : (A ++ x :: B).length = gl := by
          obtain ⟨_, _, e, _⟩ := ch.row_form hpo
          injection e with _ h _
          exact h.symm
        have HLQ : Hid ((A ++ x :: B).length = gl) := hpn
        have hAl : A.length = i := HAL.out
        have hil : i < gl := by rw [← hpn, List.length_append, List.length_cons]; omega
        have hpc : wq2.cell? ⟨gp, i, none⟩ = some (.slice qa ql qc) := by
          have hc := World.ownsRow.cells hpo (g := gp) rfl i (.slice qa ql qc) (by
            rw [qv_app, List.getElem?_append_right (by rw [qv_len]; omega), qv_len, show i - A.length = 0 by omega, ← HQE.out]; rfl)
          rw [ch.addr_add, Nat.zero_add] at hc
          exact hc
        rw [hpn] at hpo
        have hpf := ch.own_frozen hpo i
        have hgpl := ch.own_lt hpo (g := gp) rfl
        have hapart : (Value.slice qa ql qc).ownBlock ≠ some gp := fun e => by
          have h2 := List.pairwise_cons.1 (List.pairwise_cons.1 HGN.out.est.two).2
          have := h2.1 (pOwn x.2) (List.mem_flatMap.2 ⟨x, List.mem_append.2 (.inr (List.mem_cons_self ..)), List.mem_cons_of_mem _ (List.mem_cons_self ..)⟩) gp rfl
          exact this (by show x.2.1.ownBlock = some gp; rw [HQE.out]; exact e)
        have hql4 : ql ≤ 4096 := by
          have e1 := congrArg List.length (HGN.out.parts x (List.mem_append.2 (.inr (List.mem_cons_self ..))))
          rw [ch.out_len, HQL.out] at e1
          have e2 : (ofKey (keyG p) (v.take k) (encR x.1.2.r)).length ≤ (v.take k).length := by unfold ofKey; exact List.length_filter_le _ _
          rw [List.length_take] at e2
          omega
        have hlowN := HGN.out.est.low
        have r1 := cell_later hbN x1
        have r2 := cell_later hbN x3
        have i1 : (0 : Int) ≤ (k : Int) := by omega
        have i2 : (k : Int) < (n : Int) := by omega
        have i3 : (0 : Int) ≤ (i : Int) := by omega
        have i4 : (i : Int) < (gl : Int) := by omega
        clear hqe hql hqo hpo hpn hAl hxs
        go_wp2
        go_region_law (first
          | (refine step_appCt (by rfl) (.tmp 76) (.tmp 81) (by rfl) W0.heap.size (.slice qa ql qc) (ch.flatP x.2.2) cm ra cl' rc2 wq2.drew ql HQO.out.drew (by omega) (by show _ ≤ wq2.heap.size; omega) (by rfl) (by rfl) ?_; intro g9 cap9 w9 hown9 hgrow9 hat9 hlt9; have pb9 : w9.heap[gp]? = wq2.heap[gp]? := by
              rw [hgrow9.block gp (by simp; omega) (fun e => hapart e.symm)]; exact Below.heap_alloc _ _ gp hgpl.2
             have pc9 : w9.cell? ⟨gp, i, none⟩ = some (.slice qa ql qc) := (World.cell?_of_block (w := wq2) pb9).trans hpc; have pf9 : w9.frozen? ⟨gp, i, none⟩ = false := (World.frozen?_of_block (w := wq2) pb9).trans hpf))
        all_goals
          have HPUT : Hid (GA w (w9.setCell ⟨gp, i, none⟩ (.slice (some ⟨g9, 0, none⟩) (ql + 1) cap9)) W0.heap.size (.slice had gl hcap) (.slice (some ⟨gp, 0, none⟩) gl pcap0) p (gkeys p (v.take k ++ [c])) (v.take k ++ [c]) (A ++ (x.1, (.slice (some ⟨g9, 0, none⟩) (ql + 1) cap9, x.2.2 ++ [(.slice ra cl' rc2, c)])) :: B)) := by
            refine GA_put HGN.out HNE.out.1 HNE.out.2 HKX.out ⟨ra, rc2, by rw [HCL.out], HR.out⟩ ?_
            have := est_put (w := wq2.drew) (w2 := w9) (o := .cells #[.slice ra cl' rc2, .int .i64 cm] 45) (q' := .slice (some ⟨g9, 0, none⟩) (ql + 1) cap9) (L' := x.2.2 ++ [(.slice ra cl' rc2, c)]) (Est_below HGN.out.est (Below.refl _ _).drew) HLQ.out.symm (by rw [flatP_snoc, HCM.out, List.length_append, HQL.out]; exact hown9) (by rw [HQE.out]; exact hgrow9) (fun b hb => by cases hb; rw [HQE.out]; exact hat9)
            rw [HAL.out] at this
            exact this
          have hbE : Below W0.heap.size W0 (w9.setCell ⟨gp, i, none⟩ (.slice (some ⟨g9, 0, none⟩) (ql + 1) cap9)) := ((hbW.drew.alloc hlowN _).grown hgrow9 (by show _ ≤ (World.alloc _ _).heap.size; simp; exact Nat.le_trans hlowN (Nat.le_succ _)) (fun b hb => (ch.own_lt HQO.out hb).1)).setCell (p := ⟨gp, i, none⟩) hgpl.1 _
          clear hown9 hgrow9
          go_wp2
          go_roundw
          case rel => exact ⟨k + 1, _, by omega, by go_num, by rw [HT1.out]; exact HPUT.out, hbE⟩
          case measure => simp [intOf]; omega
      | false =>
        obtain ⟨A, B, hGe, hAl0, hofk, hNE, hKV⟩ := hno rfl
        subst hGe
        have HAL : Hid (A.length = i) := hAl0
        have HNE : Hid ((∀ y ∈ A, encR y.1.2.r ≠ keyG p c) ∧ ∀ y ∈ B, encR y.1.2.r ≠ keyG p c) := hNE
        have HOF : Hid (ofKey (keyG p) (v.take k) (encR hd) = []) := by show ofKey (keyG p) (v.take k) (encR hd) = []; rw [← HKEY.out]; exact hofk
        have HKV : Hid (∀ rv r, encR r = keyG p c → ch.kvP (hs A ++ (rv, ⟨r, 1⟩) :: hs B) = gkeys p (v.take k ++ [c])) := hKV
        obtain ⟨bl, hbl⟩ : ∃ z, B.length = z := ⟨_, rfl⟩
        have HBL : Hid (B.length = bl) := hbl
        have hsum : i + bl = gl := by rw [← HGL.out, List.length_append]; omega
        obtain ⟨i0, hii, hz0, hz1, hz2⟩ := info_parts ch.infoC
        have HI : Hid (Tryz.prog.info? 45 = some i0 ∧ i0.zero = some (.agg #[.slice none 0 0, .int .i64 0]) ∧ i0.size = 2 ∧ i0.bytes = 32) := ⟨hii, hz0, hz1, hz2⟩
        clear hii hz0 hz1 hz2
        obtain ⟨iL, hii, hz0, hz1, hz2⟩ := info_parts infoL
        have HIL : Hid (Tryz.prog.info? 27 = some iL ∧ iL.zero = some (.slice none 0 0) ∧ iL.size = 1 ∧ iL.bytes = 24) := ⟨hii, hz0, hz1, hz2⟩
        clear hii hz0 hz1 hz2
        have HHO : Hid (wq2.ownsRow W0.heap.size 45 2 (.slice had gl hcap) gl (ch.flatP (hs (A ++ B)))) := by
          have h : wq2.ownsRow W0.heap.size 45 2 (.slice had gl hcap) (A ++ B).length (ch.flatP (hs (A ++ B))) := HG2.out.est.own (headE _ _) (List.mem_cons_self ..)
          rw [HGL.out] at h
          exact h
        have hone : ∀ u ∈ ch.flatP (hs B), u.oneCell' = true := fun u hu => est_one HG2.out.est u (by rw [hs_app, ch.flatP_app]; exact List.mem_append.2 (.inr hu))
        have HONE : Hid (∀ u ∈ ch.flatP (hs B), u.oneCell' = true) := hone
        have honq : ∀ u ∈ qv B, u.oneCell' = true := fun u hu => est_onq HG2.out.est u (by rw [qv_app]; exact List.mem_append.2 (.inr hu))
        have HONQ : Hid (∀ u ∈ qv B, u.oneCell' = true) := honq
        have hlow2 := HG2.out.est.low
        have hlA : (ch.flatP (hs A)).length = i * 2 := by rw [ch.flatP_len, hs_len, HAL.out]
        have HLA : Hid ((ch.flatP (hs A)).length = i * 2) := hlA
        have HLB : Hid ((ch.flatP (hs B)).length = bl * 2) := by show _ = _; rw [ch.flatP_len, hs_len, HBL.out]
        have hwi : IntKind.i64.wrap ((i : Int) + 1) = (i : Int) + 1 := by rw [ch.wrap_is]; omega
        clear hyes hno hAl0 hNE hKV hofk hbl hone honq hlA
        go_wp2_with (at_builtin; refine wpList_append_lies _ rfl (.tmp 34) (.tmp 36) 27 rfl W0.heap.size 45 i0 (.agg #[.slice none 0 0, .int .i64 0]) 2 32 Tryz.underlying27 HI.out.1 HI.out.2.1 HI.out.2.2.1 HI.out.2.2.2 rfl (by decide) (.slice had gl hcap) gl (ch.flatP (hs (A ++ B))) rfl (World.ownsRow.alloc HHO.out _) ⟨wq2.heap.size, 0, none⟩ 1 1 [.slice none 0 0, .int .i64 0] rfl rfl (cell_two_new _ _ _ _) (by intro u hu; simp at hu; rcases hu with rfl | rfl <;> rfl) (by decide) (by unfold maxLen; omega) (by omega) (by simp; omega) (wq2.heap.size + 1) (by simp) ?_; intro g cap4 w4 hown4 hgrow4 hat4 hlt4)
        have HE4 : Hid (Est w4 W0.heap.size (⟨.slice (some ⟨g, 0, none⟩) (gl + 1) cap4, 45, 2, gl + 1, ch.flatP (hs A) ++ ch.flatP (hs B) ++ [.slice none 0 0, .int .i64 0]⟩ :: partE (.slice pad gl pcap0) (A ++ B) :: restE (A ++ B))) := by
          have h := est_app (x' := (⟨Value.slice (some ⟨g, 0, none⟩) (gl + 1) cap4, 45, 2, gl + 1, ch.flatP (hs (A ++ B)) ++ [Value.slice none 0 0, Value.int .i64 0]⟩ : Own1)) HG2.out.est hgrow4 hown4 (fun b hb => by cases hb; exact hat4)
          rw [hs_app, ch.flatP_app] at h
          exact h
        have hcap4 : gl + 1 ≤ cap4 := ch.own_cap hown4
        have hg4 := ch.own_lt hown4 (g := g) rfl
        have hbW4 : Below W0.heap.size W0 w4 := (hn2.alloc hlow2 _).grown hgrow4 (by simp; omega) (fun b hb => (ch.own_lt HHO.out hb).1)
        obtain ⟨d2, hf2n, hd2⟩ := ch.back_ct g (gl + 1) cap4 (i + 1) (by omega) hcap4
        obtain ⟨s2, hf3n, hs2⟩ := ch.back_ct g (gl + 1) cap4 i (by omega) hcap4
        rw [show gl + 1 - (i + 1) = bl by omega] at hf2n
        rw [show gl + 1 - i = bl + 1 by omega] at hf3n
        have hf2 : ∀ w, (Instr.sliceAt 27 (.slice (some ⟨g, 0, none⟩) (gl + 1) cap4) (some (.int .i64 ((i : Int) + 1))) none none).run Tryz.prog w = .ok (.slice (some d2) bl (cap4 - (i + 1))) w := hf2n
        have hf3 : ∀ w, (Instr.sliceAt 27 (.slice (some ⟨g, 0, none⟩) (gl + 1) cap4) (some (.int .i64 (i : Int))) none none).run Tryz.prog w = .ok (.slice (some s2) (bl + 1) (cap4 - i)) w := hf3n
        have HROOM : Hid (∀ ty, ∃ w3, (Builtin.copy_ #[27, 27] ty #[.slice (some d2) bl (cap4 - (i + 1)), .slice (some s2) (bl + 1) (cap4 - i)]).run Tryz.prog w4.drew = .ok (goInt bl) w3 ∧
            (∃ y, y.length = 2 ∧ w3.ownsRow W0.heap.size 45 2 (.slice (some ⟨g, 0, none⟩) (gl + 1) cap4) (gl + 1) (ch.flatP (hs A) ++ y ++ ch.flatP (hs B))) ∧ w3.heap.size = w4.drew.heap.size ∧ (∀ b, b ≠ g → w3.heap[b]? = w4.drew.heap[b]?) ∧ Below g w4.drew w3) := fun ty =>
          own_room (w2 := w4.drew) (na := i) (nb := bl) (s := 2) (z := [.slice none 0 0, .int .i64 0]) 27 45 i0 Tryz.underlying27 HI.out.1 HI.out.2.2.1 (World.ownsRow.drew (HE4.out.own _ (List.mem_cons_self ..))) HLA.out HLB.out rfl hsum HONE.out (some d2) (some s2) (cap4 - (i + 1)) (cap4 - i) (fun h => congrArg some (hd2 (by omega))) (fun h => congrArg some (hs2 (by omega))) ty
        clear hf2n hf3n hd2 hs2 hown4 hgrow4
        go_wp2
        go_region_law (first
          | (obtain ⟨w5, hrun5, ⟨y, hy, hown5⟩, hsz5, hblk5, hbl5⟩ := HROOM.out 3; refine ch.step_cpy (by rfl) (.tmp 41) (.tmp 44) (by rfl) (.slice (some d2) bl (cap4 - (i + 1))) (.slice (some s2) (bl + 1) (cap4 - i)) _ (by simp [Act.eval, Act.put]) (by simp [Act.eval, Act.put]) hrun5 ?_))
        all_goals
          have HE5 : Hid (Est w5 W0.heap.size (⟨.slice (some ⟨g, 0, none⟩) (gl + 1) cap4, 45, 2, gl + 1, ch.flatP (hs A) ++ y ++ ch.flatP (hs B)⟩ :: partE (.slice pad gl pcap0) (A ++ B) :: restE (A ++ B))) := est_room (Est_below HE4.out (Below.refl _ w4).drew) hsz5 hblk5 hown5
          have hbW5 : Below W0.heap.size W0 w5 := hbW4.drew.trans (hbl5.mono hg4.1)
          have hbw5 := hb0.trans (hbW5.mono hb0.size)
          obtain ⟨y0, y1, hyy⟩ : ∃ y0 y1, y = [y0, y1] := by
            match y, hy with
            | [y0, y1], _ => exact ⟨y0, y1, rfl⟩
          have hy0 : w5.cell? ⟨g, i * 2, none⟩ = some y0 := by
            have hc := World.ownsRow.cells hown5 (g := g) rfl (i * 2 + 0) y0 (room_at HLA.out (by rw [hyy]; rfl))
            rw [ch.addr_add, Nat.zero_add] at hc
            exact hc
          have hy1 : w5.cell? ⟨g, i * 2 + 1, none⟩ = some y1 := by
            have hc := World.ownsRow.cells hown5 (g := g) rfl (i * 2 + 1) y1 (room_at HLA.out (by rw [hyy]; rfl))
            rw [ch.addr_add, Nat.zero_add] at hc
            exact hc
          have hz0 := ch.own_frozen hown5 (i * 2)
          have hz1 := ch.own_frozen hown5 (i * 2 + 1)
          have hg5 := ch.own_lt hown5 (g := g) rfl
          have HYL : Hid (y.length = 2) := hy
          obtain ⟨s0, s1, s2, s3, s4, s5, s6, s7, s8, s9, s10, s11, s12⟩ := HS.out w5 hbW5
          have q1 := cell_later hbw5 x1
          have i1 : (0 : Int) ≤ (k : Int) := by omega
          have i2 : (k : Int) < (n : Int) := by omega
          have i3 : (0 : Int) ≤ (i : Int) := by omega
          have i4 : (i : Int) < (gl : Int) + 1 := by omega
          have i5 : (i : Int) < ((gl + 1 : Nat) : Int) := by omega
          clear hrun5 hown5 hsz5 hblk5 hbl5 hyy hy
          go_wp2
          go_region_law (first
            | (go_simp; go_at_call 60; refine (KG1.out w5.drew hbw5.drew).mono ?_; rintro e w6 ⟨⟨ad6, cc6, rfl, hov6⟩, hb6⟩; have hb56 : Below w5.heap.size w5 w6 := (Below.refl _ w5).drew.trans hb6; have k0 := cell_later hb56 hy0; have k1 := cell_later hb56 hy1; have f0 : w6.frozen? ⟨g, i * 2, none⟩ = false := (hb56.frozen (p := ⟨g, i * 2, none⟩) hg5.2).trans hz0; have f1 : w6.frozen? ⟨g, i * 2 + 1, none⟩ = false := (hb56.frozen (p := ⟨g, i * 2 + 1, none⟩) hg5.2).trans hz1))
          all_goals
            have HE7 : Hid (Est ((w6.setCell ⟨g, i * 2, none⟩ (.slice ad6 hl cc6)).setCell ⟨g, i * 2 + 1, none⟩ (.int .i64 1)) W0.heap.size (⟨.slice (some ⟨g, 0, none⟩) (gl + 1) cap4, 45, 2, gl + 1, ch.flatP (hs A ++ (.slice ad6 hl cc6, ⟨hd, 1⟩) :: hs B)⟩ :: hOwn (.slice ad6 hl cc6, ⟨hd, 1⟩) :: partE (.slice pad gl pcap0) (A ++ B) :: restE (A ++ B))) := by
              have hov : ownV w6 w5.heap.size (.slice ad6 hl cc6) hd := hov6
              have e6 := Est_new HE5.out hb56 (x := hOwn (.slice ad6 hl cc6, ⟨hd, 1⟩)) (World.ownsRow.mono hov hbW5.size) (fun b hb => (ch.own_lt hov hb).1)
              have e7 := Est_set (j := i * 2 + 1) (Est_set (j := i * 2) (Est_perm e6 (List.Perm.swap _ _ _)) (by omega) (.slice ad6 hl cc6)) (by omega) (.int .i64 1)
              rw [room_set HLA.out HYL.out] at e7
              show Est _ _ _
              rw [ch.flatP_app, ch.flatP_cons]
              exact e7
            have hbW7 : Below W0.heap.size W0 ((w6.setCell ⟨g, i * 2, none⟩ (.slice ad6 hl cc6)).setCell ⟨g, i * 2 + 1, none⟩ (.int .i64 1)) := ((hbW5.trans (hb56.mono hbW5.size)).setCell (p := ⟨g, i * 2, none⟩) hg4.1 _).setCell (p := ⟨g, i * 2 + 1, none⟩) hg4.1 _
            generalize hw7 : World.setCell (World.setCell w6 _ _) _ _ = w7 at HE7 hbW7 ⊢
            have hlow7 := HE7.out.low
            have HPO : Hid (w7.ownsRow W0.heap.size 27 1 (.slice pad gl pcap0) gl (qv (A ++ B))) := by
              have h : w7.ownsRow W0.heap.size 27 1 (.slice pad gl pcap0) (A ++ B).length (qv (A ++ B)) := HE7.out.own (partE _ _) (List.mem_cons_of_mem _ (List.mem_cons_of_mem _ (List.mem_cons_self ..)))
              rw [HGL.out] at h
              exact h
            clear hw7 hov6 hb6 hb56 k0 k1 f0 f1 q1 s0 s1 s2 s3 s4 s5 s6 s7 s8 s9 s10 s11 s12
            go_wp2_with (at_builtin; refine wpList_append_lies _ rfl (.tmp 57) (.tmp 58) 94 rfl W0.heap.size 27 iL (.slice none 0 0) 1 24 Tryz.underlying94 HIL.out.1 HIL.out.2.1 HIL.out.2.2.1 HIL.out.2.2.2 rfl (by decide) (.slice pad gl pcap0) gl (qv (A ++ B)) rfl (World.ownsRow.alloc HPO.out _) ⟨w7.heap.size, 0, none⟩ 1 1 [.slice none 0 0] rfl rfl (cell_one_new _ _ _) (by intro u hu; simp at hu; subst hu; rfl) (by decide) (by unfold maxLen; omega) (by omega) (by simp; omega) (w7.heap.size + 1) (by simp) ?_; intro gp cap8 w8 hown8 hgrow8 hat8 hlt8)
            have HE8 : Hid (Est w8 W0.heap.size (⟨.slice (some ⟨gp, 0, none⟩) (gl + 1) cap8, 27, 1, gl + 1, qv A ++ qv B ++ [.slice none 0 0]⟩ :: ⟨.slice (some ⟨g, 0, none⟩) (gl + 1) cap4, 45, 2, gl + 1, ch.flatP (hs A ++ (.slice ad6 hl cc6, ⟨hd, 1⟩) :: hs B)⟩ :: hOwn (.slice ad6 hl cc6, ⟨hd, 1⟩) :: restE (A ++ B))) := by
              have h := est_app (x' := (⟨Value.slice (some ⟨gp, 0, none⟩) (gl + 1) cap8, 27, 1, gl + 1, qv (A ++ B) ++ [Value.slice none 0 0]⟩ : Own1)) (Est_perm HE7.out (perm3 _ _ _ _)) hgrow8 hown8 (fun b hb => by cases hb; exact hat8)
              rw [qv_app] at h
              exact h
            have hcap8 : gl + 1 ≤ cap8 := ch.own_cap hown8
            have hg8 := ch.own_lt hown8 (g := gp) rfl
            have hbW8 : Below W0.heap.size W0 w8 := (hbW7.alloc hlow7 _).grown hgrow8 (by simp; omega) (fun b hb => (ch.own_lt HPO.out hb).1)
            obtain ⟨d3, hf2n, hd3⟩ := back_lt gp (gl + 1) cap8 (i + 1) (by omega) hcap8
            obtain ⟨s3, hf3n, hs3⟩ := back_lt gp (gl + 1) cap8 i (by omega) hcap8
            rw [show gl + 1 - (i + 1) = bl by omega] at hf2n
            rw [show gl + 1 - i = bl + 1 by omega] at hf3n
            have hf4 : ∀ w, (Instr.sliceAt 94 (.slice (some ⟨gp, 0, none⟩) (gl + 1) cap8) (some (.int .i64 ((i : Int) + 1))) none none).run Tryz.prog w = .ok (.slice (some d3) bl (cap8 - (i + 1))) w := hf2n
            have hf5 : ∀ w, (Instr.sliceAt 94 (.slice (some ⟨gp, 0, none⟩) (gl + 1) cap8) (some (.int .i64 (i : Int))) none none).run Tryz.prog w = .ok (.slice (some s3) (bl + 1) (cap8 - i)) w := hf3n
            have HQA : Hid ((qv A).length = i) := by show (qv A).length = i; rw [qv_len, HAL.out]
            have HROOM2 : Hid (∀ ty, ∃ w3, (Builtin.copy_ #[94, 94] ty #[.slice (some d3) bl (cap8 - (i + 1)), .slice (some s3) (bl + 1) (cap8 - i)]).run Tryz.prog w8.drew = .ok (goInt bl) w3 ∧
                (∃ y, y.length = 1 ∧ w3.ownsRow W0.heap.size 27 1 (.slice (some ⟨gp, 0, none⟩) (gl + 1) cap8) (gl + 1) (qv A ++ y ++ qv B)) ∧ w3.heap.size = w8.drew.heap.size ∧ (∀ b, b ≠ gp → w3.heap[b]? = w8.drew.heap[b]?) ∧ Below gp w8.drew w3) := fun ty =>
              own_room (w2 := w8.drew) (na := i) (nb := bl) (s := 1) (z := [.slice none 0 0]) 94 27 iL Tryz.underlying94 HIL.out.1 HIL.out.2.2.1 (World.ownsRow.drew (HE8.out.own _ (List.mem_cons_self ..))) (by rw [HQA.out, Nat.mul_one]) (by rw [qv_len, HBL.out, Nat.mul_one]) rfl hsum HONQ.out (some d3) (some s3) (cap8 - (i + 1)) (cap8 - i) (fun h => congrArg some (hd3 (by omega))) (fun h => congrArg some (hs3 (by omega))) ty
            clear hf2n hf3n hd3 hs3 hown8 hgrow8
            go_wp2
            go_region_law (first
              | (obtain ⟨wA, hrunA, ⟨yA, hyA, hownA⟩, hszA, hblkA, hblA⟩ := HROOM2.out 3; refine step_cpyL (by rfl) (.tmp 63) (.tmp 66) (by rfl) (.slice (some d3) bl (cap8 - (i + 1))) (.slice (some s3) (bl + 1) (cap8 - i)) _ (by simp [Act.eval, Act.put]) (by simp [Act.eval, Act.put]) hrunA ?_))
            all_goals
              have HEA := est_room (Est_below HE8.out (Below.refl _ w8).drew) hszA hblkA hownA
              have hbWA : Below W0.heap.size W0 wA := hbW8.drew.trans (hblA.mono hg8.1)
              obtain ⟨yq, hyq⟩ : ∃ y0, yA = [y0] := by
                match yA, hyA with
                | [y0], _ => exact ⟨y0, rfl⟩
              have kA : wA.cell? ⟨gp, i, none⟩ = some yq := by
                have hc := World.ownsRow.cells hownA (g := gp) rfl (i + 0) yq (room_at HQA.out (by rw [hyq]; rfl))
                rw [ch.addr_add, Nat.zero_add] at hc
                exact hc
              have fA := ch.own_frozen hownA i
              have HEB : Hid (Est (wA.setCell ⟨gp, i, none⟩ (.slice none 0 0)) W0.heap.size (estE (.slice (some ⟨g, 0, none⟩) (gl + 1) cap4) (.slice (some ⟨gp, 0, none⟩) (gl + 1) cap8) (A ++ ((.slice ad6 hl cc6, ⟨hd, 1⟩), (.slice none 0 0, [])) :: B))) := by
                have e := Est_set (j := i) HEA (by omega) (.slice none 0 0)
                rw [room_set1 HQA.out hyA] at e
                have e2 := Est_perm e (List.Perm.swap _ _ _)
                refine est_ins ?_
                rw [HGL.out]
                exact e2
              have HGN : Hid (GA w (wA.setCell ⟨gp, i, none⟩ (.slice none 0 0)) W0.heap.size (.slice (some ⟨g, 0, none⟩) (gl + 1) cap4) (.slice (some ⟨gp, 0, none⟩) (gl + 1) cap8) p (gkeys p (v.take k ++ [c])) (v.take k) (A ++ ((.slice ad6 hl cc6, ⟨hd, 1⟩), (.slice none 0 0, [])) :: B)) := GA_ins HG2.out (HKV.out _ hd HKEY.out.symm) HHK.out HOF.out HEB.out
              have hbW : Below W0.heap.size W0 (wA.setCell ⟨gp, i, none⟩ (.slice none 0 0)) := hbWA.setCell (p := ⟨gp, i, none⟩) hg8.1 _
              have hbN := hb0.trans (hbW.mono hb0.size)
              obtain ⟨x, hx⟩ : ∃ z : GX, ((.slice ad6 hl cc6, ⟨hd, 1⟩), (.slice none 0 0, [])) = z := ⟨_, rfl⟩
              rw [hx] at HGN
              have HKX : Hid (encR x.1.2.r = keyG p c) := by show encR x.1.2.r = keyG p c; rw [← hx, HKEY.out]
              clear hrunA hownA hszA hblkA hblA hyq hyA HEA hx HEB
              go_wp2
              generalize hwB : World.setCell wA _ _ = wB at HGN hbW hbN ⊢
              clear hwB kA fA
              have hxs : pOwn x.2 ∈ estE (.slice (some ⟨g, 0, none⟩) (gl + 1) cap4) (.slice (some ⟨gp, 0, none⟩) (gl + 1) cap8) (A ++ x :: B) := List.mem_cons_of_mem _ (List.mem_cons_of_mem _ (List.mem_flatMap.2 ⟨x, List.mem_append.2 (.inr (List.mem_cons_self ..)), List.mem_cons_of_mem _ (List.mem_cons_self ..)⟩))
              have hqo : wB.ownsRow W0.heap.size 45 2 x.2.1 x.2.2.length (ch.flatP x.2.2) := HGN.out.est.own _ hxs
              obtain ⟨qa, qc, hqe, _⟩ := ch.row_form hqo
              obtain ⟨ql, hql⟩ : ∃ z, x.2.2.length = z := ⟨_, rfl⟩
              have HQL : Hid (x.2.2.length = ql) := hql
              rw [hqe, hql] at hqo
              rw [hql] at hqe
              have HQE : Hid (x.2.1 = .slice qa ql qc) := hqe
              have HQO : Hid (wB.ownsRow W0.heap.size 45 2 (.slice qa ql qc) ql (ch.flatP x.2.2)) := hqo
              have hpo : wB.ownsRow W0.heap.size 27 1 (.slice (some ⟨gp, 0, none⟩) (gl + 1) cap8) (A ++ x :: B).length (qv (A ++ x :: B)) := HGN.out.est.own (partE _ _) (List.mem_cons_of_mem _ (List.mem_cons_self ..))
              have hpn : (A ++ x :: B).length = (gl + 1) := by
                obtain ⟨_, _, e, _⟩ := ch.row_form hpo
                injection e with _ h _
                exact h.symm
              have HLQ : Hid ((A ++ x :: B).length = (gl + 1)) := hpn
              have hAl : A.length = i := HAL.out
              have hil : i < (gl + 1) := by rw [← hpn, List.length_append, List.length_cons]; omega
              have hpc : wB.cell? ⟨gp, i, none⟩ = some (.slice qa ql qc) := by
                have hc := World.ownsRow.cells hpo (g := gp) rfl i (.slice qa ql qc) (by
                  rw [qv_app, List.getElem?_append_right (by rw [qv_len]; omega), qv_len, show i - A.length = 0 by omega, ← HQE.out]; rfl)
                rw [ch.addr_add, Nat.zero_add] at hc
                exact hc
              rw [hpn] at hpo
              have hpf := ch.own_frozen hpo i
              have hgpl := ch.own_lt hpo (g := gp) rfl
              have hapart : (Value.slice qa ql qc).ownBlock ≠ some gp := fun e => by
                have h2 := List.pairwise_cons.1 (List.pairwise_cons.1 HGN.out.est.two).2
                have := h2.1 (pOwn x.2) (List.mem_flatMap.2 ⟨x, List.mem_append.2 (.inr (List.mem_cons_self ..)), List.mem_cons_of_mem _ (List.mem_cons_self ..)⟩) gp rfl
                exact this (by show x.2.1.ownBlock = some gp; rw [HQE.out]; exact e)
              have hql4 : ql ≤ 4096 := by
                have e1 := congrArg List.length (HGN.out.parts x (List.mem_append.2 (.inr (List.mem_cons_self ..))))
                rw [ch.out_len, HQL.out] at e1
                have e2 : (ofKey (keyG p) (v.take k) (encR x.1.2.r)).length ≤ (v.take k).length := by unfold ofKey; exact List.length_filter_le _ _
                rw [List.length_take] at e2
                omega
              have hlowN := HGN.out.est.low
              have r1 := cell_later hbN x1
              have r2 := cell_later hbN x3
              have i1 : (0 : Int) ≤ (k : Int) := by omega
              have i2 : (k : Int) < (n : Int) := by omega
              have i3 : (0 : Int) ≤ (i : Int) := by omega
              have i4 : (i : Int) < ((gl + 1) : Int) := by omega
              clear hqe hql hqo hpo hpn hAl hxs
              go_region_law (first
                | (refine step_appCt (by rfl) (.tmp 76) (.tmp 81) (by rfl) W0.heap.size (.slice qa ql qc) (ch.flatP x.2.2) cm ra cl' rc2 wB.drew ql HQO.out.drew (by omega) (by show _ ≤ wB.heap.size; omega) (by rfl) (by rfl) ?_; intro g9 cap9 w9 hown9 hgrow9 hat9 hlt9; have pb9 : w9.heap[gp]? = wB.heap[gp]? := by
                    rw [hgrow9.block gp (by simp; omega) (fun e => hapart e.symm)]; exact Below.heap_alloc _ _ gp hgpl.2
                   have pc9 : w9.cell? ⟨gp, i, none⟩ = some (.slice qa ql qc) := (World.cell?_of_block (w := wB) pb9).trans hpc; have pf9 : w9.frozen? ⟨gp, i, none⟩ = false := (World.frozen?_of_block (w := wB) pb9).trans hpf))
              all_goals
                have HPUT : Hid (GA w (w9.setCell ⟨gp, i, none⟩ (.slice (some ⟨g9, 0, none⟩) (ql + 1) cap9)) W0.heap.size (.slice (some ⟨g, 0, none⟩) (gl + 1) cap4) (.slice (some ⟨gp, 0, none⟩) (gl + 1) cap8) p (gkeys p (v.take k ++ [c])) (v.take k ++ [c]) (A ++ (x.1, (.slice (some ⟨g9, 0, none⟩) (ql + 1) cap9, x.2.2 ++ [(.slice ra cl' rc2, c)])) :: B)) := by
                  refine GA_put HGN.out HNE.out.1 HNE.out.2 HKX.out ⟨ra, rc2, by rw [HCL.out], HR.out⟩ ?_
                  have := est_put (w := wB.drew) (w2 := w9) (o := .cells #[.slice ra cl' rc2, .int .i64 cm] 45) (q' := .slice (some ⟨g9, 0, none⟩) (ql + 1) cap9) (L' := x.2.2 ++ [(.slice ra cl' rc2, c)]) (Est_below HGN.out.est (Below.refl _ _).drew) HLQ.out.symm (by rw [flatP_snoc, HCM.out, List.length_append, HQL.out]; exact hown9) (by rw [HQE.out]; exact hgrow9) (fun b hb => by cases hb; rw [HQE.out]; exact hat9)
                  rw [HAL.out] at this
                  exact this
                have hbE : Below W0.heap.size W0 (w9.setCell ⟨gp, i, none⟩ (.slice (some ⟨g9, 0, none⟩) (ql + 1) cap9)) := ((hbW.drew.alloc hlowN _).grown hgrow9 (by show _ ≤ (World.alloc _ _).heap.size; simp; exact Nat.le_trans hlowN (Nat.le_succ _)) (fun b hb => (ch.own_lt HQO.out hb).1)).setCell (p := ⟨gp, i, none⟩) hgpl.1 _
                clear hown9 hgrow9
                go_wp2
                go_roundw
                case rel => exact ⟨k + 1, _, by omega, by go_num, by rw [HT1.out]; exact HPUT.out, hbE⟩
                case measure => simp [intOf]; omega
    · have hkn : k = n := by omega
      subst hkn
      have HGV : Hid (GA w wr W0.heap.size (.slice had G.length hcap) (.slice pad G.length pcap0) p (gkeys p v) v G) := by
        have h := HGA.out
        rw [List.take_of_length_le (by rw [HN.out]; exact Nat.le_refl _)] at h
        exact h
      have HOE : Hid (groupOut p v = G.map fun x => ⟨x.1.2.r ++ figsR p v (encR x.1.2.r), 1⟩) := GA_out HGV.out HGG.out.1 HGG.out.2
      have HOL : Hid ((groupOut p v).length = G.length) := by show _ = _; rw [HOE.out, List.length_map]
      have HOT : Hid (∀ i (hi : i < G.length), (groupOut p v).take (i + 1) = (groupOut p v).take i ++ [⟨(G[i]).1.2.r ++ figsR p v (encR (G[i]).1.2.r), 1⟩]) := fun i hi => by
        rw [HOE.out, List.take_succ_eq_append_getElem (by rw [List.length_map]; exact hi), List.getElem_map]
      have hg4 : G.length ≤ 4096 := by
        have := (GA_heads HGV.out HVL.out).2.2
        have := HVL.out
        omega
      obtain ⟨OUT, hOUT⟩ : ∃ z, groupOut p v = z := ⟨_, rfl⟩
      rw [hOUT] at HOL HOT
      have HOUT : Hid (groupOut p v = OUT) := hOUT
      have hWr : Below W0.heap.size W0 wr := hnx
      have HAI : Hid (∀ t, t < n12 → ∃ ab ao, ag = some ⟨ab, ao, none⟩ ∧ w.cell? ⟨ab, ao + t * 2, none⟩ = some (.int .i64 (p.aggs.getD t (0, 0)).1) ∧ w.cell? ⟨ab, ao + t * 2 + 1, none⟩ = some (.int .i64 (p.aggs.getD t (0, 0)).2)) := fun t ht => HAG.out t (by rw [HN12.out]; exact ht)
      have KFG : Hid (∀ t (x : GX) (qa : Option Addr) (qc : Nat) w1, t < n12 → x ∈ G → x.2.1 = .slice qa x.2.2.length qc → ch.viewAt w1 qa (ch.outOf x.2.2) → Calls Tryz.prog 62 #[.agg #[.int .i64 (p.aggs.getD t (0, 0)).1, .int .i64 (p.aggs.getD t (0, 0)).2], .slice qa x.2.2.length qc] w1 fun e w' => e = .returned (celV (figC (p.aggs.getD t (0, 0)) (ofKey (keyG p) v (encR x.1.2.r)))) ∧ Below w1.heap.size w1 w') := fun t x qa qc w1 ht hx hq hva => by
        have hpt := HGV.out.parts x hx
        have ha : p.aggs.getD t (0, 0) ∈ p.aggs := by simp [List.getD_eq_getElem?_getD, HN12.out, ht]
        have hai := agg_in HGG.out.1.plan ha HGG.out.1.grouped
        have hsub : ∀ c ∈ ch.outOf x.2.2, c ∈ v := fun c hc => by rw [hpt] at hc; unfold ofKey at hc; exact (List.mem_filter.1 hc).1
        have := rfigure_any qa qc (ch.outOf x.2.2) (p.aggs.getD t (0, 0)) w1 (by rw [hpt]; have : (ofKey (keyG p) v (encR x.1.2.r)).length ≤ v.length := List.length_filter_le _ _; have := HVL.out; omega) hva hai.1 (fun hne => ⟨(hai.2 hne).1, fun c hc => by rw [HGG.out.1.len c (hsub c hc)]; exact (hai.2 hne).2⟩) (fun c hc => (HGG.out.2 c (hsub c hc)).2.1) (fun h2 c hc => sum_kind HGG.out.1 ha h2 c (hsub c hc))
        rw [ch.out_len, hpt] at this
        exact this
      have HFT : Hid (∀ kk t, t < n12 → (figsR p v kk).take (t + 1) = (figsR p v kk).take t ++ [figC (p.aggs.getD t (0, 0)) (ofKey (keyG p) v kk)]) := fun kk t ht => figs_take p v kk t (by rw [HN12.out]; exact ht)
      have HFE : Hid (∀ kk, (figsR p v kk).length = n12) := fun kk => by unfold figsR; rw [List.length_map, HN12.out]
      have hn12 : n12 ≤ 4 := by have := (group_few HGG.out.1.plan HGG.out.1.grouped).2.2; rw [HN12.out] at this; exact this
      obtain ⟨gl, hgl⟩ : ∃ z, G.length = z := ⟨_, rfl⟩
      have HGL : Hid (G.length = gl) := hgl
      simp only [hgl]
      rw [hgl] at hg4 HOL
      obtain ⟨i0, hii, hz0, hz1, hz2⟩ := info_parts ch.infoC
      have HI : Hid (Tryz.prog.info? 45 = some i0 ∧ i0.zero = some (.agg #[.slice none 0 0, .int .i64 0]) ∧ i0.size = 2 ∧ i0.bytes = 32) := ⟨hii, hz0, hz1, hz2⟩
      clear hii hz0 hz1 hz2 hOUT hgl hga HGA
      go_wp2
      go_loopw [10, 11] (fun u i wk => ∃ (j : Nat) (L : ch.PL), j ≤ gl ∧ i = .int .i64 j ∧ ch.MV wk wr.heap.size u L ∧ ch.outOf L = OUT.take j ∧ Below wr.heap.size wr wk) (fun _ i _ => gl - (intOf i).toNat)
      case atStart => exact ⟨0, [], Nat.zero_le _, rfl, ⟨Nat.le_refl _, World.ownsRow_nil _ _ _ _, fun p hp => (by cases hp)⟩, rfl, Below.refl _ _⟩
      case round =>
        rename World => wk
        obtain ⟨j, L, hj, rfl, hmv, hLo, hnk⟩ := hrel
        have HMV : Hid (ch.MV wk wr.heap.size u10 L) := hmv
        have HLO : Hid (ch.outOf L = OUT.take j) := hLo
        have hbk : Below W0.heap.size W0 wk := hWr.trans (hnk.mono hWr.size)
        have hbkw : Below w.heap.size w wk := hb0.trans (hbk.mono hb0.size)
        have hLl : L.length ≤ 4096 := by
          have e := congrArg List.length hLo
          rw [ch.out_len, List.length_take, HOL.out] at e
          omega
        clear hmv hLo
        by_cases hlt2 : j < gl
        · have hjG : j < G.length := by rw [HGL.out]; exact hlt2
          have HGK : Hid (GA w wk W0.heap.size (.slice had G.length hcap) (.slice pad G.length pcap0) p (gkeys p v) v G) := GA_below HGV.out hnk
          have hxm : G[j] ∈ G := List.getElem_mem hjG
          obtain ⟨hb', ho', hra, hrc, e, c1, c2, c3⟩ := est_view HGK.out.est j (by rw [ch.out_len, hs_len]; exact hjG)
          subst e
          have hxh : (hs G)[j]? = some (G[j]).1 := by unfold hs; rw [List.getElem?_map, List.getElem?_eq_getElem hjG]; rfl
          rw [ch.out_at (hs G) j _ hxh] at c1 c2
          have hpo : wk.ownsRow W0.heap.size 27 1 (.slice pad G.length pcap0) G.length (qv G) := HGK.out.est.own (partE _ _) (List.mem_cons_of_mem _ (List.mem_cons_self ..))
          obtain ⟨_, _, epp, hpg2⟩ := ch.row_form hpo
          obtain ⟨gp, hgpe⟩ := hpg2 (by omega)
          cases epp
          subst hgpe
          have hqo : wk.ownsRow W0.heap.size 45 2 (G[j]).2.1 (G[j]).2.2.length (ch.flatP (G[j]).2.2) := HGK.out.est.own (pOwn (G[j]).2) (List.mem_cons_of_mem _ (List.mem_cons_of_mem _ (List.mem_flatMap.2 ⟨G[j], hxm, List.mem_cons_of_mem _ (List.mem_cons_self ..)⟩)))
          obtain ⟨qa, qc, hqe, _⟩ := ch.row_form hqo
          have hpc : wk.cell? ⟨gp, j, none⟩ = some (.slice qa (G[j]).2.2.length qc) := by
            have hc := World.ownsRow.cells hpo (g := gp) rfl j (.slice qa (G[j]).2.2.length qc) (by unfold qv; rw [List.getElem?_map, List.getElem?_eq_getElem hjG, ← hqe]; rfl)
            rw [ch.addr_add, Nat.zero_add] at hc
            exact hc
          have hgr : GR w W0.heap.size wk (G[j]).2.1 (ch.outOf (G[j]).2.2) := ⟨(G[j]).2.2, hqo, rfl, HGK.out.rows _ hxm⟩
          obtain ⟨qa2, qc2, hqe2, hqv⟩ := GR_view hgr hbkw
          rw [hqe, ch.out_len] at hqe2
          cases hqe2
          have hro : rowOk (G[j]).1.2.r := HGK.out.ok _ hxm
          have HOT1 := HOT.out j hjG
          have KF1 : Hid (∀ t w1, t < n12 → Below wk.heap.size wk w1 → Calls Tryz.prog 62 #[.agg #[.int .i64 (p.aggs.getD t (0, 0)).1, .int .i64 (p.aggs.getD t (0, 0)).2], .slice qa (G[j]).2.2.length qc] w1 fun e w' => e = .returned (celV (figC (p.aggs.getD t (0, 0)) (ofKey (keyG p) v (encR (G[j]).1.2.r)))) ∧ Below w1.heap.size w1 w') := fun t w1 ht hb => KFG.out t (G[j]) qa qc w1 ht hxm hqe (ch.viewAt_below hqv hb)
          obtain ⟨ql, hql⟩ : ∃ z, (G[j]).2.2.length = z := ⟨_, rfl⟩
          rw [hql] at hpc KF1
          obtain ⟨hd, hhd⟩ : ∃ z, (G[j]).1.2.r = z := ⟨_, rfl⟩
          rw [hhd] at c1 c2 hro HOT1 KF1
          obtain ⟨fg, hfg⟩ : ∃ z, figsR p v (encR hd) = z := ⟨_, rfl⟩
          have HFT1 : Hid (∀ t, t < n12 → fg.take (t + 1) = fg.take t ++ [figC (p.aggs.getD t (0, 0)) (ofKey (keyG p) v (encR hd))]) := fun t ht => by rw [← hfg]; exact HFT.out _ t ht
          have HFE2 : Hid (fg.length = n12) := by show fg.length = n12; rw [← hfg]; exact HFE.out _
          rw [hfg] at HOT1
          have HO2 : Hid (OUT.take (j + 1) = OUT.take j ++ [⟨hd ++ fg, 1⟩]) := HOT1
          have hr8 := hro.1
          have KCP : Hid (Calls Tryz.prog 61 #[.slice hra hd.length hrc] wk fun e w' => (∃ ad c, e = .returned (.slice ad hd.length c) ∧ ownV w' wk.heap.size (.slice ad hd.length c) hd) ∧ Below wk.heap.size wk w') := ch.copy_any hra hrc hd wk c2 (by omega)
          obtain ⟨hn', hhn⟩ : ∃ z, hd.length = z := ⟨_, rfl⟩
          have HHN : Hid (hd.length = hn') := hhn
          rw [hhn] at c1 KCP hr8
          obtain ⟨FC, hFC⟩ : ∃ z, (fun t => figC (p.aggs.getD t (0, 0)) (ofKey (keyG p) v (encR hd))) = z := ⟨_, rfl⟩
          have hFC' : ∀ t, figC (p.aggs.getD t (0, 0)) (ofKey (keyG p) v (encR hd)) = FC t := fun t => by rw [← hFC]
          simp only [hFC'] at KF1 HFT1
          have i1 : (0 : Int) ≤ (j : Int) := by omega
          have i2 : (j : Int) < (gl : Int) := by omega
          clear hxm hxh hpo hqo hqe hgr hqv hro HOT1 hql hhd hfg hhn hFC hFC' c2 c3 hpg2
          go_wp2_with fail
          refine KCP.out.mono ?_
          rintro e w3 ⟨⟨ad3, cap3, rfl, hov⟩, hb3⟩
          have HOV : Hid (ownV w3 wk.heap.size (.slice ad3 hn' cap3) hd) := hov
          clear hov
          go_wp2
          go_loopw [12, 13] (fun rv i wq => ∃ t : Nat, t ≤ n12 ∧ i = .int .i64 t ∧ ownV wq wk.heap.size rv (hd ++ fg.take t) ∧ Below wk.heap.size wk wq) (fun _ i _ => n12 - (intOf i).toNat)
          case atStart => exact ⟨0, Nat.zero_le _, rfl, by simpa using HOV.out, hb3⟩
          case round =>
            rename World => wq
            obtain ⟨t, ht, rfl, hrv, hbq⟩ := hrel
            have HRV : Hid (ownV wq wk.heap.size u12 (hd ++ fg.take t)) := hrv
            have hsq := hbq.size
            have hbqW : Below W0.heap.size W0 wq := hbk.trans (hbq.mono hbk.size)
            have hbqw : Below w.heap.size w wq := hbkw.trans (hbq.mono hbkw.size)
            have a12 := (HS.out wq hbqW).2.2.2.2.2.2.2.2.2.2.2.2
            clear hrv
            by_cases htl : t < n12
            · obtain ⟨ab, ao, e, y1, y2⟩ := HAI.out t htl
              subst e
              have z1 := cell_later hbqw y1
              have z2 := cell_later hbqw y2
              have z3 := cell_later hbq hpc
              have KFj : Hid (∀ w1, Below wk.heap.size wk w1 → _) := fun w1 hb => KF1.out t w1 htl hb
              have HF1 := HFT1.out t htl
              obtain ⟨⟨af, acol⟩, hag⟩ : ∃ z, p.aggs.getD t (0, 0) = z := ⟨_, rfl⟩
              rw [hag] at z1 z2 KFj
              obtain ⟨⟨fk, fv, fs⟩, hfc⟩ : ∃ z, FC t = z := ⟨_, rfl⟩
              rw [hfc] at KFj HF1
              unfold celV at KFj
              dsimp only at z1 z2 KFj
              have HF2 : Hid (fg.take (t + 1) = fg.take t ++ [⟨fk, fv, fs⟩]) := HF1
              obtain ⟨row, hrow⟩ : ∃ z, hd ++ fg.take t = z := ⟨_, rfl⟩
              have HROW : Hid (hd ++ fg.take t = row) := hrow
              have hrl : row.length ≤ 1000000 := by rw [← hrow, List.length_append, HHN.out, List.length_take]; omega
              rw [hrow] at HRV
              obtain ⟨rl, hrl2⟩ : ∃ z, row.length = z := ⟨_, rfl⟩
              have HRL : Hid (row.length = rl) := hrl2
              have j1 : (0 : Int) ≤ (t : Int) := by omega
              have j2 : (t : Int) < (n12 : Int) := by omega
              clear hag hfc HF1 y1 y2 hrow hrl2
              go_wp2
              go_region_law (first
                | (refine step_appVl (by rfl) (.tmp 103) (.tmp 114) (by rfl) wk.heap.size u12 row ⟨fk, fv, fs⟩ w6 HRV6.out hrl hs6 (by rfl) (by rfl) ?_; intro g7 cap7 w7 hown7 hgrow7 hat7 hlt7)
                | (go_simp; go_at_call 62; refine (KFj.out _ hbq.drew).mono ?_; rintro e w6 ⟨rfl, hb6⟩; have hb6' : Below wk.heap.size wk w6 := hbq.drew.trans (hb6.mono hsq); have HRV6 : Hid (ownV w6 wk.heap.size u12 row) := ownV_below HRV.out ((Below.refl _ wq).drew.trans hb6); have hs6 := hb6'.size))
              all_goals
                have hb7 := below_appendV hb6' hs6 HRV6.out hgrow7
                have HOW7 : Hid (ownV w7 wk.heap.size (.slice (some ⟨g7, 0, none⟩) (row.length + 1) cap7) (hd ++ fg.take (t + 1))) := by
                  have h := hown7
                  rw [List.length_append] at h
                  show ownV _ _ _ _
                  rw [HF2.out, ← List.append_assoc, HROW.out]
                  exact h
                clear hown7 hgrow7
                go_wp2
                go_roundw
                case rel => exact ⟨t + 1, by omega, by go_num, HOW7.out, hb7⟩
                case measure => simp [intOf]; omega
            · have hte : t = n12 := by omega
              subst hte
              have HRE : Hid (ownV wq wk.heap.size u12 (hd ++ fg)) := by have := HRV.out; rw [List.take_of_length_le (by rw [HFE2.out]; exact Nat.le_refl _)] at this; exact this
              obtain ⟨ad5, cap5, hv5⟩ := ownV_form HRE.out
              have HRN : Hid ((hd ++ fg).length = hn' + t) := by show (hd ++ fg).length = hn' + t; rw [List.length_append, HHN.out, HFE2.out]
              rw [HRN.out] at hv5
              subst hv5
              have HMQ : Hid (ch.MV wq wr.heap.size u10 L) := ch.MV_below HMV.out hbq
              obtain ⟨ln, hln⟩ : ∃ z, L.length = z := ⟨_, rfl⟩
              have HLN : Hid (L.length = ln) := hln
              have HL1 : Hid (wq.ownsRow wr.heap.size 45 2 u10 ln (ch.flatP L)) := by have := HMQ.out.own; rw [hln] at this; exact this
              have hlq : wr.heap.size ≤ wq.heap.size := HMQ.out.low
              rw [hln] at hLl
              clear hln HRV
              go_wp2_with (at_builtin; refine wpList_append_lies _ rfl (.tmp 116) (.tmp 119) 27 rfl wr.heap.size 45 i0 (.agg #[.slice none 0 0, .int .i64 0]) 2 32 Tryz.underlying27 HI.out.1 HI.out.2.1 HI.out.2.2.1 HI.out.2.2.2 rfl (by decide) u10 ln (ch.flatP L) rfl (World.ownsRow.alloc HL1.out _) ⟨wq.heap.size, 0, none⟩ 1 1 [.slice ad5 (hn' + t) cap5, .int .i64 1] rfl rfl (cell_two_new _ _ _ _) (by intro u hu; simp at hu; rcases hu with rfl | rfl <;> rfl) (by decide) (by unfold maxLen; omega) (by omega) (by simp; omega) (wq.heap.size + 1) (by simp) ?_; intro g8 cap8 w8 hown8 hgrow8 hat8 hlt8)
              have hsn := MV_snoc (rc := cap5) (r := hd ++ fg) (m := 1) (cap := cap8) HMV.out hbq (ownV_row (by rw [HRN.out]; exact HRE.out)) (fun b hb => by rw [HRN.out] at hb; exact ch.own_lt HRE.out hb) (by rw [flatP_snoc, HRN.out, HLN.out]; exact hown8) hgrow8 hat8
              have HSN : Hid (ch.MV w8 wr.heap.size (.slice (some ⟨g8, 0, none⟩) (ln + 1) cap8) (L ++ [(.slice ad5 (hd ++ fg).length cap5, ⟨hd ++ fg, 1⟩)]) ∧ Below wr.heap.size wr w8) := by
                have h1 := hsn.1
                rw [HLN.out] at h1
                exact ⟨h1, hnk.trans (hsn.2.mono (Nat.le_refl _))⟩
              clear hsn
              go_wp2
              go_roundw
              case rel => exact ⟨j + 1, _, by omega, by go_num, HSN.out.1, by rw [HO2.out, ← HLO.out]; simp [ch.outOf], HSN.out.2⟩
              case measure => simp [intOf]; omega
        · have hje : j = gl := by omega
          subst hje
          obtain ⟨ad, cap, hu, _⟩ := ch.MV_len HMV.out
          have HLO2 : Hid (ch.outOf L = OUT) := by show ch.outOf L = OUT; rw [HLO.out, ← HOL.out, List.take_length]
          have hll : L.length = j := by rw [← ch.out_len, HLO2.out]; exact HOL.out
          rw [hll] at hu
          subst hu
          have HVW : Hid (ch.viewAt wk ad OUT) := by have := ch.MV_view HMV.out; rw [HLO2.out] at this; exact this
          clear hll
          go_wp2
          go_ret
          exact ⟨⟨ad, cap, (by rw [HOUT.out, HOL.out]; rfl), by rw [HOUT.out]; exact HVW.out⟩, hbkw⟩
end Go.Proofs.YtcpanmaahhiioaaGreat.bt
