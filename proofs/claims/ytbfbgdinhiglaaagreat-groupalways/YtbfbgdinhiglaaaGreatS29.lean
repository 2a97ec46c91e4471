import Derived.Test.YtbfbgdinhiglaaaGreatS22
import Derived.Test.YtbfbgdinhiglaaaGreatMgChgB
import Derived.Test.YtbfbgdinhiglaaaGreatS21
/- slices.Equal at values; which of two groups' rows is first. -/
namespace Go.Proofs.YtbfbgdinhiglaaaGreat.gr
open Go.ChangeShapes Go.WideShapes Go.ChangeAt Go.RowKit
open vl pl bt
set_option linter.unusedVariables false
set_option linter.unusedSimpArgs false
attribute [local go_sem] Oper.semAt_some
set_option maxHeartbeats 1000000 in
theorem equalV_any (a1 a2 : Option Addr) (c1 c2 : Nat) (r1 r2 : List Cel) (w : World) (h1 : vl.rowAt w a1 r1) (h2 : vl.rowAt w a2 r2) (l1 : r1.length ≤ 9223372036854775807) (l2 : r2.length ≤ 9223372036854775807) :
    Calls Tryz.prog 88 #[.slice a1 r1.length c1, .slice a2 r2.length c2] w fun e w' => e = .returned (.bool (decide (r1 = r2))) ∧ Below w.heap.size w w' := by
  by_cases hl : r1.length = r2.length
  · obtain ⟨len, hlen⟩ : ∃ len, r1.length = len := ⟨_, rfl⟩
    have hlen2 : r2.length = len := by omega
    rw [hlen] at l1
    have HR : Hid (r1.length = len) := hlen
    have HR2 : Hid (r2.length = len) := hlen2
    rw [hlen, hlen2]
    clear hl l2 hlen hlen2
    go_enter Tryz.func88, Tryz.ntmps88
    go_wp2
    go_loopw [13] (fun i wr => ∃ k : Nat, k ≤ len ∧ i = .int .i64 k ∧ Below w.heap.size w wr ∧ r1.take k = r2.take k) (fun i _ => len - (intOf i).toNat)
    case atStart => exact ⟨0, Nat.zero_le _, rfl, Below.refl _ _, rfl⟩
    case round =>
      obtain ⟨k, hk, rfl, hnx, hall⟩ := hrel
      have HA : Hid (r1.take k = r2.take k) := hall
      clear hall
      by_cases hlt : k < len
      · obtain ⟨b1, o1, e1, x1, x2, x3⟩ := h1 k (by rw [HR.out]; exact hlt)
        obtain ⟨b2, o2, e2, y1, y2, y3⟩ := h2 k (by rw [HR2.out]; exact hlt)
        subst e1 e2
        have q1 := cell_later hnx x1
        have q2 := cell_later hnx x2
        have q3 := cell_later hnx x3
        have p1 := cell_later hnx y1
        have p2 := cell_later hnx y2
        have p3 := cell_later hnx y3
        clear x1 x2 x3 y1 y2 y3 h1 h2
        obtain ⟨⟨ka, na, sa⟩, hca⟩ : ∃ c, r1.getD k default = c := ⟨_, rfl⟩
        obtain ⟨⟨kb, nb, sb⟩, hcb⟩ : ∃ c, r2.getD k default = c := ⟨_, rfl⟩
        rw [hca] at q1 q2 q3
        rw [hcb] at p1 p2 p3
        have HCA : Hid (r1.getD k default = ⟨ka, na, sa⟩) := hca
        have HCB : Hid (r2.getD k default = ⟨kb, nb, sb⟩) := hcb
        clear hca hcb
        dsimp only at q1 q2 q3 p1 p2 p3
        have i1 : (0 : Int) ≤ (k : Int) := by omega
        have i2 : (k : Int) < (len : Int) := by omega
        by_cases t1 : ka = kb
        · by_cases t2 : na = nb
          · by_cases t3 : sa.toList = sb.toList
            · have t3' : sa = sb := ByteArray.ext (Array.ext' (by rwa [Lib.toList_data, Lib.toList_data] at t3))
              clear t3
              subst t1 t2 t3'
              go_wp2
              go_quiet (fail)
              go_wp2
              go_roundw
              case rel => exact ⟨k + 1, by omega, by go_num, below_drewN hnx _, take_eq_succ (by rw [HR.out]; exact hlt) (by rw [HR2.out]; exact hlt) HA.out (by rw [HCA.out, HCB.out])⟩
              case measure => simp [intOf]; omega
            · have hn : Hid (¬ r1 = r2) := fun h => by
                have e1 := HCA.out
                rw [h, HCB.out] at e1
                cases e1
                exact t3 rfl
              go_wp2
              go_quiet (fail)
              go_wp2
              go_ret
              exact ⟨ret_bool (by rw [decide_eq_false hn.out]), below_drewN hnx _⟩
          · have hn : Hid (¬ r1 = r2) := fun h => by
              have e1 := HCA.out
              rw [h, HCB.out] at e1
              cases e1
              exact t2 rfl
            go_wp2
            go_quiet (fail)
            go_wp2
            go_ret
            exact ⟨ret_bool (by rw [decide_eq_false hn.out]), below_drewN hnx _⟩
        · have hn : Hid (¬ r1 = r2) := fun h => by
            have e1 := HCA.out
            rw [h, HCB.out] at e1
            cases e1
            exact t1 rfl
          go_wp2
          go_quiet (fail)
          go_wp2
          go_ret
          exact ⟨ret_bool (by rw [decide_eq_false hn.out]), below_drewN hnx _⟩
      · have hn : Hid (r1 = r2) := by
          show r1 = r2
          have h := HA.out
          rwa [List.take_of_length_le (by rw [HR.out]; omega), List.take_of_length_le (by rw [HR2.out]; omega)] at h
        go_wp2
        go_ret
        exact ⟨ret_bool (by rw [decide_eq_true hn.out]), hnx⟩
  · have hn : Hid (¬ r1 = r2) := fun h => hl (by rw [h])
    have hl' : ((r1.length : Int) == (r2.length : Int)) = false := by simp; omega
    go_enter Tryz.func88, Tryz.ntmps88
    go_wp2
    go_ret
    exact ⟨ret_bool (by rw [decide_eq_false hn.out]), Below.refl _ _⟩
theorem rowAt_take {w : World} {a : Option Addr} {r : List Cel} (h : vl.rowAt w a r) (k : Nat) : vl.rowAt w a (r.take k) := fun i hi => by
  rw [List.length_take] at hi
  obtain ⟨b, o, e, x⟩ := h i (by omega)
  refine ⟨b, o, e, ?_⟩
  have e2 : (r.take k).getD i default = r.getD i default := by rw [List.getD_eq_getElem?_getD, List.getElem?_take, if_pos (by omega), ← List.getD_eq_getElem?_getD]
  rw [e2]
  exact x
set_option maxRecDepth 100000 in
set_option maxHeartbeats 4000000 in
theorem first_both (size wb wo wn wc nb no nn nc : Nat) (ra1 ra2 : Option Addr) (rc1 rc2 : Nat) (r1 r2 : List Cel) (w : World) (c1 : w.cell? ⟨wb, wo, none⟩ = some (.slice ra1 r1.length rc1)) (c2 : w.cell? ⟨nb, no, none⟩ = some (.slice ra2 r2.length rc2)) (h1 : vl.rowAt w ra1 r1) (h2 : vl.rowAt w ra2 r2) (l1 : size ≤ r1.length) (l2 : size ≤ r2.length) (k1 : r1.length ≤ rc1) (k2 : r2.length ≤ rc2) (m1 : r1.length ≤ 1000) (m2 : r2.length ≤ 1000) (hw : 0 < wn) (hn : 0 < nn) :
    Calls Tryz.prog 87 #[.int .i64 size, .slice (some ⟨wb, wo, none⟩) wn wc, .slice (some ⟨nb, no, none⟩) nn nc] w fun e w' => e = .returned (.int .i64 (cmpRows (r1.take size) (r2.take size))) ∧ Below w.heap.size w w' := by
  have KR : Hid (∀ w1, Below w.heap.size w w1 → Calls Tryz.prog 76 #[.slice ra1 size rc1, .slice ra2 size rc2] w1 fun e w' => e = .returned (.int .i64 (cmpRows (r1.take size) (r2.take size))) ∧ Below w1.heap.size w1 w') := fun w1 hb => by
    have := vl.rows_any ra1 ra2 rc1 rc2 (r1.take size) (r2.take size) w1 (vl.rowAt_below (rowAt_take h1 size) hb) (vl.rowAt_below (rowAt_take h2 size) hb) (by rw [List.length_take]; omega) (by rw [List.length_take]; omega)
    rw [List.length_take, List.length_take, Nat.min_eq_left l1, Nat.min_eq_left l2] at this
    exact this
  obtain ⟨R, hR⟩ : ∃ z, cmpRows (r1.take size) (r2.take size) = z := ⟨_, rfl⟩
  obtain ⟨n1, e1⟩ : ∃ z, r1.length = z := ⟨_, rfl⟩
  obtain ⟨n2, e2⟩ : ∃ z, r2.length = z := ⟨_, rfl⟩
  rw [hR] at KR ⊢
  rw [e1] at c1 l1 k1 m1
  rw [e2] at c2 l2 k2 m2
  clear hR e1 e2 h1 h2
  have i1 : ((wn : Int) == 0) = false := by rw [beq_eq_false_iff_ne]; omega
  have i2 : ((nn : Int) == 0) = false := by rw [beq_eq_false_iff_ne]; omega
  have i3 : (0 : Int) < (wn : Int) := by omega
  have i4 : (0 : Int) < (nn : Int) := by omega
  have i5 : (0 : Int) ≤ (size : Int) := by omega
  have i6 : (size : Int) ≤ (rc1 : Int) := by omega
  have i7 : (size : Int) ≤ (rc2 : Int) := by omega
  go_enter Tryz.func87, Tryz.ntmps87
  go_wp2
  go_region_held3 (fun w' => w'.cell? ⟨wb, wo, none⟩ = some (.slice ra1 n1 rc1) ∧ w'.cell? ⟨nb, no, none⟩ = some (.slice ra2 n2 rc2)) (first | exact ⟨cell_later hy c1, cell_later hy c2⟩ | go_keep)
    (first | (go_at_call 76; refine (KR.out _ (Below.refl _ _).drew).mono ?_; rintro e y ⟨rfl, hbY⟩; have hy : Below w.heap.size w y := (Below.refl _ _).drew.trans hbY))
  all_goals
    go_wp2
    go_ret
    exact ⟨rfl, hy⟩
end Go.Proofs.YtbfbgdinhiglaaaGreat.gr
/- rows, over again: and no row of the answer is longer than its capacity. -/
namespace Go.Proofs.YtbfbgdinhiglaaaGreat.gr
open Go.ChangeShapes Go.WideShapes Go.ChangeAt Go.RowKit
open vl pl bt
set_option linter.unusedVariables false
set_option linter.unusedSimpArgs false
attribute [local go_sem] Oper.semAt_some
def capV (v : Value) : Prop := ∀ ad n c, v = .slice ad n c → n ≤ c
/-- a view in memory, with its rows' capacities -/
def viewK (w : World) (a : Option Addr) (v : List ch.Cnt) : Prop := ∀ i, i < v.length → ∃ b off ra rc, a = some ⟨b, off, none⟩ ∧ w.cell? ⟨b, off + i * 2, none⟩ = some (.slice ra (v.getD i default).r.length rc) ∧ vl.rowAt w ra (v.getD i default).r ∧ (v.getD i default).r.length ≤ rc
theorem viewK_below {w w' : World} {a : Option Addr} {v : List ch.Cnt} (h : viewK w a v) (hb : Below w.heap.size w w') : viewK w' a v := fun i hi => by
  obtain ⟨b, o, ra, rc, e, x1, x2, x3⟩ := h i hi
  exact ⟨b, o, ra, rc, e, cell_later hb x1, vl.rowAt_below x2 hb, x3⟩
theorem own_capV {w : World} {base : Nat} {e : TypeId} {size : Nat} {v : Value} {m : Nat} {xs : List Value} (h : w.ownsRow base e size v m xs) : capV v := fun ad n c hv0 => by
  subst hv0
  rcases h.2 with ⟨hv, h0⟩ | ⟨g, c, cur, hv, _, _, hc, _⟩
  · cases hv; exact Nat.le_refl _
  · cases hv; exact hc
theorem caps_snoc {L : ch.PL} {v : Value} {c : ch.Cnt} (h : ∀ q ∈ L, capV q.1) (hv : capV v) : ∀ q ∈ L ++ [(v, c)], capV q.1 := fun q hq => by
  rcases List.mem_append.1 hq with hq | hq
  · exact h q hq
  · rw [List.mem_singleton.1 hq]; exact hv
theorem MV_caps {w : World} {base : Nat} {ad : Option Addr} {n cap : Nat} {L : ch.PL} (h : ch.MV w base (.slice ad n cap) L) (hc : ∀ q ∈ L, capV q.1) : viewK w ad (ch.outOf L) := by
  intro i hi
  have hi2 := hi
  rw [ch.out_len] at hi2
  obtain ⟨b, o, ra, rc, e, x1, x2, x3⟩ := ch.MV_view h i hi
  refine ⟨b, o, ra, rc, e, x1, x2, ?_⟩
  have hp : L[i]? = some L[i] := List.getElem?_eq_getElem hi2
  obtain ⟨f1, _⟩ := ch.flatP_at L i _ hp
  subst e
  rcases h.own.2 with ⟨hv, h0⟩ | ⟨g, cap', cur, hv, _⟩
  · omega
  · cases hv
    have hcl := World.ownsRow.cells h.own (g := b) rfl _ _ f1
    rw [ch.addr_add] at hcl
    have hcl2 : w.cell? ⟨b, 0 + i * 2, none⟩ = some (L[i]).1 := hcl
    rw [x1] at hcl2
    injection hcl2 with hcl2
    exact hc _ (List.getElem_mem hi2) _ _ _ hcl2.symm
set_option maxRecDepth 100000 in
set_option maxHeartbeats 16000000 in
theorem rows_caps (p : Pln) (x : PA) (a : Option Addr) (cap : Nat) (xs : List GX) (gs : List Grp) (w : World) (hp : planAt w p x) (hgs : gsAt w a xs gs) (hok : ∀ g ∈ gs, okG p g) (hl : gs.length ≤ 4096) (ma : p.aggs.length ≤ 4) (hag : ∀ j, j < p.aggs.length → 1 ≤ (p.aggs.getD j (0, 0)).1 ∧ (p.aggs.getD j (0, 0)).1 ≤ 4) :
    Calls Tryz.prog 20 #[planV p x, .slice a gs.length cap] w fun e w' => (∃ ad c, e = .returned (.slice ad gs.length c) ∧ (viewK w' ad (gs.map (rowC p)) ∧ ch.viewAt w' ad (gs.map (rowC p))) ∧ gs.length ≤ c) ∧ Below w.heap.size w w' := by
  have hmem : ∀ i, i < gs.length → gs.getD i default ∈ gs := fun i hi => by rw [List.getD_eq_getElem?_getD, List.getElem?_eq_getElem hi]; exact List.getElem_mem hi
  have HG : Hid (∀ i, i < gs.length → (∃ b o, a = some ⟨b, o, none⟩ ∧ w.cell? ⟨b, o + i * 3, none⟩ = some (.slice (xs.getD i default).r (gs.getD i default).row.length (xs.getD i default).rc) ∧ w.cell? ⟨b, o + i * 3 + 1, none⟩ = some (.int .i64 (gs.getD i default).n) ∧ w.cell? ⟨b, o + i * 3 + 2, none⟩ = some (.slice (xs.getD i default).b (gs.getD i default).bags.length (xs.getD i default).bc)) ∧ gAt w (xs.getD i default) (gs.getD i default) ∧ okG p (gs.getD i default)) := fun i hi => ⟨hgs.cells i hi, hgs.each i hi, hok _ (hmem i hi)⟩
  have HFT : Hid (∀ g j, j < p.aggs.length → (figsG p g).take (j + 1) = (figsG p g).take j ++ [figT (p.aggs.getD j (0, 0)).1 g.n (g.bags.getD j [])]) := fun g j h => figsG_take p g j h
  have HFL : Hid (∀ g, (figsG p g).length = p.aggs.length) := fun g => figsG_len p g
  have HAG : Hid (∀ j, j < p.aggs.length → ∃ b off, x.a = some ⟨b, off, none⟩ ∧ w.cell? ⟨b, off + j * 2, none⟩ = some (.int .i64 (p.aggs.getD j (0, 0)).1) ∧ w.cell? ⟨b, off + j * 2 + 1, none⟩ = some (.int .i64 (p.aggs.getD j (0, 0)).2)) := hp.a
  have HFN : Hid (∀ j, j < p.aggs.length → 1 ≤ (p.aggs.getD j (0, 0)).1 ∧ (p.aggs.getD j (0, 0)).1 ≤ 4) := hag
  have HTK : Hid (∀ k, k < gs.length → (gs.take (k + 1)).map (rowC p) = (gs.take k).map (rowC p) ++ [⟨(gs.getD k default).row ++ figsG p (gs.getD k default), 1⟩]) := fun k hk => by
    show _ = _
    rw [gs_take gs k hk, List.map_append]; rfl
  obtain ⟨RC, hRC⟩ : ∃ f : Grp → ch.Cnt, rowC p = f := ⟨_, rfl⟩
  obtain ⟨FG, hFG⟩ : ∃ f : Grp → List Cel, ∀ g, figsG p g = f g := ⟨_, fun _ => rfl⟩
  rw [hRC] at HTK ⊢
  simp only [hFG] at HTK HFT HFL
  have HOK : Hid (∀ g, okG p g → g.row.length ≤ 8 ∧ g.bags.length = p.aggs.length ∧ ∀ l ∈ g.bags, l.length ≤ 1073741824) := fun g h => ⟨h.rl, h.bl, h.tl⟩
  obtain ⟨OKP, hOKP⟩ : ∃ f : Grp → Prop, okG p = f := ⟨_, rfl⟩
  rw [hOKP] at HOK HG
  clear hmem hp hgs hok hag hRC hFG hOKP
  obtain ⟨kind, mode, low, high, size, limit, left, right, lkeys, rkeys, grouped, group, aggs⟩ := p
  obtain ⟨la, lc, rr, rc, lk, lkc, rk, rkc, ga, gc, ag, ac⟩ := x
  unfold planV
  dsimp only at HFT HFL HAG HFN HOK ma ⊢
  obtain ⟨n6, h6⟩ : ∃ n, left.length = n := ⟨_, rfl⟩
  obtain ⟨n7, h7⟩ : ∃ n, right.length = n := ⟨_, rfl⟩
  obtain ⟨n8, h8⟩ : ∃ n, lkeys.length = n := ⟨_, rfl⟩
  obtain ⟨n9, h9⟩ : ∃ n, rkeys.length = n := ⟨_, rfl⟩
  obtain ⟨n11, h11⟩ : ∃ n, group.length = n := ⟨_, rfl⟩
  obtain ⟨n12, h12⟩ : ∃ n, aggs.length = n := ⟨_, rfl⟩
  simp only [h6, h7, h8, h9, h11, h12] at HFT HFL HAG HFN HOK ma ⊢
  obtain ⟨AG, e9⟩ : ∃ f : Nat → Int × Int, ∀ j, aggs.getD j (0, 0) = f j := ⟨_, fun _ => rfl⟩
  simp only [e9] at HFT HAG HFN
  clear h6 h7 h8 h9 h11 h12 e9
  obtain ⟨n, hn⟩ : ∃ z, gs.length = z := ⟨_, rfl⟩
  have HN : Hid (gs.length = n) := hn
  rw [hn] at HG HTK hl ⊢
  clear hn
  obtain ⟨W1, hW1⟩ : ∃ z, w.alloc (.cells #[.int .i64 kind, .int .i64 mode, .int .i64 low, .int .i64 high, .int .i64 size, .int .i64 limit, .slice la n6 lc, .slice rr n7 rc, .slice lk n8 lkc, .slice rk n9 rkc, .bool grouped, .slice ga n11 gc, .slice ag n12 ac] 25) = z := ⟨_, rfl⟩
  have hb1 : Below w.heap.size w W1 := by rw [← hW1]; exact (Below.refl _ _).alloc (Nat.le_refl _) _
  have hs1 : W1.heap.size = w.heap.size + 1 := by rw [← hW1]; simp
  have s12 : W1.cell? ⟨w.heap.size, 12, none⟩ = some (.slice ag n12 ac) := by subst hW1; go_simp
  obtain ⟨i0, hi, hz0, hz1, hz2⟩ := info_parts ch.infoC
  have HI : Hid (Tryz.prog.info? 71 = some i0 ∧ i0.zero = some (.agg #[.slice none 0 0, .int .i64 0]) ∧ i0.size = 2 ∧ i0.bytes = 32) := ⟨hi, hz0, hz1, hz2⟩
  obtain ⟨w0, hmk, hown0, hgrow0⟩ := run_make_own (P := Tryz.prog) W1 W1.heap.size 27 71 i0 (.agg #[.slice none 0 0, .int .i64 0]) 2 Tryz.underlying27 hi hz0 hz1 .i64 .i64 n (by rw [hz2]; omega) (by unfold maxLen; omega) (Nat.le_refl _)
  have hb0 : Below W1.heap.size W1 w0 := (Below.refl _ _).grown hgrow0 (Nat.le_refl _) (fun b hb => by cases hb)
  have HO0 : Hid (w0.ownsRow W1.heap.size 71 2 (.slice (some ⟨W1.heap.size, 0, none⟩) 0 n) 0 []) := hown0
  have HB1 : Hid (Below w.heap.size w W1) := hb1
  clear hi hz0 hz1 hz2 hown0 hgrow0
  go_enter Tryz.func20, Tryz.ntmps20
  go_wp2
  clear hW1
  go_loopw [5, 16] (fun u i wq => ∃ (j : Nat) (L : ch.PL), j ≤ n ∧ i = .int .i64 j ∧ ch.MV wq W1.heap.size u L ∧ ch.outOf L = (gs.take j).map RC ∧ (∀ q ∈ L, capV q.1) ∧ Below W1.heap.size W1 wq) (fun _ i _ => n - (intOf i).toNat)
  case atStart => exact ⟨0, [], Nat.zero_le _, rfl, ⟨hb0.size, by rw [hs1] at *; exact HO0.out, fun p hp => (by cases hp)⟩, rfl, fun q hq => (by cases hq), hb0⟩
  case round =>
    obtain ⟨i', L, hi', rfl, hmv, hLo, hcv, hnk⟩ := hrel
    have HCV : Hid (∀ q ∈ L, capV q.1) := hcv
    clear hcv
    have HMV : Hid (ch.MV wr W1.heap.size u5 L) := hmv
    have HLO : Hid (ch.outOf L = (gs.take i').map RC) := hLo
    have hbk : Below w.heap.size w wr := HB1.out.trans (hnk.mono HB1.out.size)
    have d12 := cell_later hnk s12
    have hLl : L.length ≤ 4096 := by
      have e := congrArg List.length hLo
      rw [ch.out_len, List.length_map, List.length_take, HN.out] at e
      omega
    have hlow : W1.heap.size ≤ wr.heap.size := hmv.low
    have lw : w.heap.size < wr.heap.size := World.block_lt_of_cell? _ _ d12
    clear hmv hLo hmk
    by_cases hlt : i' < n
    · obtain ⟨⟨b, o, e, x1, x2, x3⟩, hga, hokp⟩ := HG.out i' hlt
      have HO1 := HTK.out i' hlt
      obtain ⟨hrl8, hbl, htl⟩ := HOK.out _ hokp
      obtain ⟨g, hg⟩ : ∃ z, gs.getD i' default = z := ⟨_, rfl⟩
      obtain ⟨y, hy⟩ : ∃ z, xs.getD i' default = z := ⟨_, rfl⟩
      rw [hg, hy] at x1 x3 hga
      rw [hg] at x2 HO1 hrl8 hbl htl
      obtain ⟨hd, hhd⟩ : ∃ z, g.row = z := ⟨_, rfl⟩
      obtain ⟨fg, hfg⟩ : ∃ z, FG g = z := ⟨_, rfl⟩
      have HO2 : Hid ((gs.take (i' + 1)).map RC = (gs.take i').map RC ++ [⟨hd ++ fg, 1⟩]) := by show _ = _; rw [← hhd, ← hfg]; exact HO1
      have HFT1 : Hid (∀ j, j < n12 → fg.take (j + 1) = fg.take j ++ [figT (AG j).1 g.n (g.bags.getD j [])]) := fun j hj => by rw [← hfg]; exact HFT.out g j hj
      have HFE2 : Hid (fg.take n12 = fg ∧ fg.length = n12) := by
        have : fg.length = n12 := by rw [← hfg]; exact HFL.out g
        exact ⟨by rw [← this, List.take_length], this⟩
      have HRW : Hid (vl.rowAt wr y.r hd) := by show vl.rowAt _ _ _; rw [← hhd]; exact vl.rowAt_below hga.row hbk
      have KO : Hid (∀ j w1, j < n12 → Below wr.heap.size wr w1 → ∃ hb ho, y.b = some ⟨hb, ho, none⟩ ∧ hb < wr.heap.size ∧ w1.cell? ⟨hb, ho + j, none⟩ = some (.slice (y.hs.getD j (none, 0, 0)).1 (g.bags.getD j []).length (y.hs.getD j (none, 0, 0)).2.2) ∧ ∀ w2, Below w1.heap.size w1 w2 → Calls Tryz.prog 57 #[.int .i64 (AG j).1, .int .i64 g.n, .slice (y.hs.getD j (none, 0, 0)).1 (g.bags.getD j []).length (y.hs.getD j (none, 0, 0)).2.2] w2 fun e w' => e = .returned (celV (figT (AG j).1 g.n (g.bags.getD j []))) ∧ Below w2.heap.size w2 w') := fun j w1 hj hb => by
        have hj2 : j < g.bags.length := by rw [hbl]; exact hj
        have hbw := hbk.trans (hb.mono hbk.size)
        obtain ⟨b1, o1, e1, z1⟩ := hga.hs j (by rw [hga.len]; exact hj2)
        rw [hga.hl j hj2] at z1
        exact ⟨b1, o1, e1, Nat.lt_of_lt_of_le (World.block_lt_of_cell? _ _ z1) hbk.size, cell_later hbw z1, fun w2 h2 => of_any _ _ _ _ _ w2 (htl _ (by rw [List.getD_eq_getElem?_getD, List.getElem?_eq_getElem hj2]; exact List.getElem_mem hj2)) (bagAt_below (hga.bag j hj2) (hbw.trans (h2.mono hbw.size))) (HFN.out j hj)⟩
      subst e
      have q1 := cell_later hbk x1
      have q2 := cell_later hbk x2
      have q3 := cell_later hbk x3
      rw [hhd] at q1 hrl8
      rw [hbl] at q3
      obtain ⟨gn, hgn⟩ : ∃ z, g.n = z := ⟨_, rfl⟩
      rw [hgn] at q2 HFT1 KO
      obtain ⟨BG, hBG⟩ : ∃ f : Nat → List Tal, ∀ j, g.bags.getD j [] = f j := ⟨_, fun _ => rfl⟩
      simp only [hBG] at HFT1 KO
      obtain ⟨yr, yrc, yb, ybc, yhs⟩ := y
      dsimp only at q1 q3 HRW KO
      obtain ⟨HH, hHH⟩ : ∃ f : Nat → Option Addr × Nat × Nat, ∀ j, yhs.getD j (none, 0, 0) = f j := ⟨_, fun _ => rfl⟩
      simp only [hHH] at KO
      obtain ⟨hn', hhn⟩ : ∃ z, hd.length = z := ⟨_, rfl⟩
      have HHN : Hid (hd.length = hn') := hhn
      rw [hhn] at q1 hrl8
      have i1 : (0 : Int) ≤ (i' : Int) := by omega
      have i2 : (i' : Int) < (n : Int) := by omega
      have lb : b < wr.heap.size := World.block_lt_of_cell? _ _ q1
      clear hg hy hhd hfg HO1 hga hokp hbl htl x1 x2 x3 hgn hBG hHH hhn
      go_wp2
      generalize hX : (World.alloc wr _) = X
      have hbX : Below wr.heap.size wr X := by rw [← hX]; exact (Below.refl _ _).alloc (Nat.le_refl _) _
      have hsX : X.heap.size = wr.heap.size + 1 := by rw [← hX]; simp
      have k0 : X.cell? ⟨wr.heap.size, 0, none⟩ = some (.slice yr hn' yrc) := by subst hX; go_simp
      have k1 : X.cell? ⟨wr.heap.size, 1, none⟩ = some (.int .i64 gn) := by subst hX; go_simp
      have k2 : X.cell? ⟨wr.heap.size, 2, none⟩ = some (.slice yb n12 ybc) := by subst hX; go_simp
      have k12 := cell_later hbX d12
      have HBX : Hid (Below wr.heap.size wr X) := hbX
      have HSX : Hid (X.heap.size = wr.heap.size + 1) := hsX
      have HRX : Hid (vl.rowAt X yr hd) := vl.rowAt_below HRW.out hbX
      clear hX hsX hbX
      obtain ⟨cp, hcp⟩ : ∃ z : Nat, hn' + n12 = z := ⟨_, rfl⟩
      have hadd : (hn' : Int) + (n12 : Int) = (cp : Int) := by omega
      have hwcp : IntKind.i64.wrap (cp : Int) = (cp : Int) := by rw [IntKind.wrap_i64]; omega
      obtain ⟨iv, hi, hz0, hz1, hz2⟩ := info_parts Tryz.infoV
      obtain ⟨w5, hmk5, hown5, hgrow5⟩ := run_make_own (P := Tryz.prog) X.drew X.heap.size 50 68 iv (.agg #[.int .i64 0, .int .i64 0, .string ⟨#[]⟩]) 3 Tryz.underlying50 hi hz0 hz1 .i64 .i64 cp (by rw [hz2]; omega) (by unfold maxLen; omega) (Nat.le_refl _)
      have hb5 : Below X.heap.size X w5 := (Below.refl _ _).drew.grown hgrow5 (Nat.le_refl _) (fun b hb => by cases hb)
      have HO5 : Hid (ownV w5 X.heap.size (.slice (some ⟨X.heap.size, 0, none⟩) 0 cp) []) := hown5
      have HR5 : Hid (vl.rowAt w5 yr hd) := vl.rowAt_below HRX.out hb5
      have k05 := cell_later hb5 k0
      have HB5 : Hid (Below X.heap.size X w5) := hb5
      clear hi hz0 hz1 hz2 hown5 hgrow5 hcp hb5
      have k125 := cell_later HB5.out k12
      go_region_held3 (fun w' => w'.cell? ⟨wr.heap.size, 0, none⟩ = some (.slice yr hn' yrc) ∧ w'.cell? ⟨w.heap.size, 12, none⟩ = some (.slice ag n12 ac)) (first | exact ⟨cell_later hb6 k0, cell_later hb6 k12⟩ | exact ⟨k05, k125⟩ | go_keep)
        (first
          | (refine step_row (by rfl) (.tmp 27) (.tmp 29) (by rfl) X.heap.size (.slice (some ⟨X.heap.size, 0, none⟩) 0 cp) [] yr hd hn' yrc w5 HHN.out HO5.out HR5.out (by simp; omega) HB5.out.size (by simp [Act.eval, Act.put]) (by simp [Act.eval, Act.put]) ?_; intro v6 w6 hown6 hgrow6; have hb6 : Below X.heap.size X w6 := HB5.out.grown hgrow6 HB5.out.size (fun k hk => (World.ownsRow.lt HO5.out k hk).1)))
      all_goals
        rw [List.nil_append] at hown6
        obtain ⟨ad6, cap6, hv6⟩ := ownV_form hown6
        rw [HHN.out] at hv6
        subst hv6
        have HO6 : Hid (ownV w6 X.heap.size (.slice ad6 hn' cap6) hd) := hown6
        have HB6 : Hid (Below X.heap.size X w6) := hb6
        have c12 := cell_later hb6 k12
        clear hown6 hgrow6 hb6 hmk5 k05 k125 HR5 HO5
        go_wp2
        go_loopw [8, 34] (fun rv i wq => ∃ j : Nat, j ≤ n12 ∧ i = .int .i64 j ∧ ownV wq X.heap.size rv (hd ++ fg.take j) ∧ Below X.heap.size X wq) (fun _ i _ => n12 - (intOf i).toNat)
        case atStart => exact ⟨0, Nat.zero_le _, rfl, by simpa using HO6.out, HB6.out⟩
        case round =>
          rename World => wq
          obtain ⟨j, hj, rfl, hrv, hbq⟩ := hrel
          have HRV : Hid (ownV wq X.heap.size u8 (hd ++ fg.take j)) := hrv
          have hsq := hbq.size
          have m1 := cell_later hbq k1
          have m2 := cell_later hbq k2
          have lq : wr.heap.size < wq.heap.size := World.block_lt_of_cell? _ _ m1
          have hbqr : Below wr.heap.size wr wq := HBX.out.trans (hbq.mono HBX.out.size)
          have hbqw : Below w.heap.size w wq := hbk.trans (hbqr.mono hbk.size)
          clear hrv
          by_cases hjl : j < n12
          · obtain ⟨ab, ao, e, y1, y2⟩ := HAG.out j hjl
            obtain ⟨hb, ho, e2, hhbl, z3, KOj⟩ := KO.out j wq hjl hbqr
            have HF1 := HFT1.out j hjl
            subst e
            subst e2
            have z1 := cell_later hbqw y1
            have z2 := cell_later hbqw y2
            have KF : Hid (∀ w2, Below wq.heap.size wq w2 → _) := fun w2 h2 => KOj w2 h2
            obtain ⟨⟨af, acol⟩, hag⟩ : ∃ z, AG j = z := ⟨_, rfl⟩
            rw [hag] at z1 z2 KF HF1
            obtain ⟨bg, hbg⟩ : ∃ z, BG j = z := ⟨_, rfl⟩
            rw [hbg] at z3 KF HF1
            obtain ⟨⟨h1, h2, h3⟩, hhh⟩ : ∃ z, HH j = z := ⟨_, rfl⟩
            rw [hhh] at z3 KF
            obtain ⟨⟨fk, fv, fs⟩, hfc⟩ : ∃ z, figT af gn bg = z := ⟨_, rfl⟩
            dsimp only at z1 z2 z3 KF HF1
            rw [hfc] at KF HF1
            unfold celV at KF
            dsimp only at KF
            obtain ⟨bl, hbl⟩ : ∃ z, bg.length = z := ⟨_, rfl⟩
            rw [hbl] at z3 KF
            have HF2 : Hid (fg.take (j + 1) = fg.take j ++ [⟨fk, fv, fs⟩]) := HF1
            have HRLE : Hid ((hd ++ fg.take j).length ≤ 1000000) := by show _ ≤ _; rw [List.length_append, HHN.out, List.length_take]; omega
            have HRLN : Hid ((hd ++ fg.take j).length = hn' + j) := by show _ = _; rw [List.length_append, HHN.out, List.length_take, HFE2.out.2]; omega
            have j1 : (0 : Int) ≤ (j : Int) := by omega
            have j2 : (j : Int) < (n12 : Int) := by omega
            have lhb : hb < wq.heap.size := World.block_lt_of_cell? _ _ z3
            have HNE : Hid (u8.ownBlock ≠ some wq.heap.size ∧ u8.ownBlock ≠ some wr.heap.size ∧ u8.ownBlock ≠ some hb) := by
              have hx := HSX.out
              refine ⟨fun h => ?_, fun h => ?_, fun h => ?_⟩
              · have := (World.ownsRow.lt HRV.out _ h).2; omega
              · have := (World.ownsRow.lt HRV.out _ h).1; omega
              · have := (World.ownsRow.lt HRV.out _ h).1; omega
            clear hag hbg hhh hfc HF1 y1 y2 KOj hbl
            go_wp2
            generalize hY : (World.alloc wq _) = Y
            have hbY : Below wq.heap.size wq Y := by rw [← hY]; exact (Below.refl _ _).alloc (Nat.le_refl _) _
            have t0 : Y.cell? ⟨wq.heap.size, 0, none⟩ = some (.int .i64 af) := by subst hY; go_simp
            have t1 := cell_later hbY m1
            have t2 := cell_later hbY m2
            have t3 := cell_later hbY z3
            have HRY : Hid (ownV Y X.heap.size u8 (hd ++ fg.take j)) := ownV_below HRV.out hbY
            have HBY : Hid (Below X.heap.size X Y) := hbq.trans (hbY.mono hsq)
            have KF2 : Hid (∀ w2, Below Y.heap.size Y w2 → _) := fun w2 h2 => KF.out w2 (hbY.trans (h2.mono hbY.size))
            clear hY KF
            go_region_held3 (fun w' => w'.cell? ⟨wq.heap.size, 0, none⟩ = some (.int .i64 af) ∧ w'.cell? ⟨wr.heap.size, 1, none⟩ = some (.int .i64 gn) ∧ w'.cell? ⟨wr.heap.size, 2, none⟩ = some (.slice (some ⟨hb, ho, none⟩) n12 ybc) ∧ w'.cell? ⟨hb, ho + j, none⟩ = some (.slice h1 bl h3)) (first | exact ⟨farC hgrow8 (cell_later hY7 t0) HNE.out.1, farC hgrow8 (cell_later hY7 t1) HNE.out.2.1, farC hgrow8 (cell_later hY7 t2) HNE.out.2.1, farC hgrow8 (cell_later hY7 t3) HNE.out.2.2⟩ | exact ⟨cell_later ((Below.refl _ _).alloc (Nat.le_refl _) _) (cell_later hY7 t0), cell_later ((Below.refl _ _).alloc (Nat.le_refl _) _) (cell_later hY7 t1), cell_later ((Below.refl _ _).alloc (Nat.le_refl _) _) (cell_later hY7 t2), cell_later ((Below.refl _ _).alloc (Nat.le_refl _) _) (cell_later hY7 t3)⟩ | exact ⟨cell_later hY7 t0, cell_later hY7 t1, cell_later hY7 t2, cell_later hY7 t3⟩ | go_keep)
              (first
                | (go_at_call 57; refine (KF2.out Y.drew (Below.refl _ _).drew).mono ?_; rintro e w7 ⟨rfl, hb7⟩; have hY7 : Below Y.heap.size Y w7 := (Below.refl _ _).drew.trans hb7; have HR7 : Hid (ownV w7 X.heap.size u8 (hd ++ fg.take j)) := ownV_below HRY.out hY7; have HB7 : Hid (Below X.heap.size X w7) := HBY.out.trans (hY7.mono HBY.out.size))
                | (refine step_appVl (by rfl) (.tmp 39) (.tmp 50) (by rfl) X.heap.size u8 (hd ++ fg.take j) ⟨fk, fv, fs⟩ w7 HR7.out HRLE.out HB7.out.size (by simp [Act.eval, Act.put]) (by simp [Act.eval, Act.put]) ?_; intro g8 cap8 w8 hown8 hgrow8 hat8 hlt8))
            all_goals
              have hb8 := below_appendV HB7.out HB7.out.size HR7.out hgrow8
              have HO8 : Hid (ownV w8 X.heap.size (.slice (some ⟨g8, 0, none⟩) ((hd ++ fg.take j).length + 1) cap8) (hd ++ fg.take (j + 1))) := by
                show ownV _ _ _ _
                rw [HF2.out, ← List.append_assoc]
                have := hown8
                rw [List.length_append] at this
                exact this
              go_wp2
              go_roundw
              case rel => exact ⟨j + 1, by omega, by go_num, (by have := HO8.out; simpa using this), hb8⟩
              case measure => simp [intOf]; omega
          · have hje : j = n12 := by omega
            subst hje
            have HRE : Hid (ownV wq X.heap.size u8 (hd ++ fg)) := by have := HRV.out; rw [HFE2.out.1] at this; exact this
            obtain ⟨ad5, cap5, hv5⟩ := ownV_form HRE.out
            have HRN : Hid ((hd ++ fg).length = hn' + j) := by show (hd ++ fg).length = hn' + j; rw [List.length_append, HHN.out, HFE2.out.2]
            rw [HRN.out] at hv5
            subst hv5
            have HMQ : Hid (ch.MV wq W1.heap.size u5 L) := ch.MV_below HMV.out hbqr
            obtain ⟨ln, hln⟩ : ∃ z, L.length = z := ⟨_, rfl⟩
            have HLN : Hid (L.length = ln) := hln
            have HL1 : Hid (wq.ownsRow W1.heap.size 71 2 u5 ln (ch.flatP L)) := by have := HMQ.out.own; rw [hln] at this; exact this
            have hlq : W1.heap.size ≤ wq.heap.size := HMQ.out.low
            rw [hln] at hLl
            have HBQR : Hid (Below wr.heap.size wr wq) := hbqr
            clear hln HRV
            go_wp2_with (at_builtin; refine wpList_append_lies _ rfl (.tmp 53) (.tmp 56) 27 rfl W1.heap.size 71 i0 (.agg #[.slice none 0 0, .int .i64 0]) 2 32 Tryz.underlying27 HI.out.1 HI.out.2.1 HI.out.2.2.1 HI.out.2.2.2 rfl (by decide) u5 ln (ch.flatP L) rfl (World.ownsRow.alloc HL1.out _) ⟨wq.heap.size, 0, none⟩ 1 1 [.slice ad5 (hn' + j) cap5, .int .i64 1] rfl rfl (cell_two_new _ _ _ _) (by intro u hu; simp at hu; rcases hu with rfl | rfl <;> rfl) (by decide) (by unfold maxLen; omega) (by omega) (by simp; omega) (wq.heap.size + 1) (by simp) ?_; intro g8 cap8 w8 hown8 hgrow8 hat8 hlt8)
            have hsn := MV_snoc (rc := cap5) (r := hd ++ fg) (m := 1) (cap := cap8) HMV.out HBQR.out (ownV_row (by rw [HRN.out]; exact HRE.out)) (fun b hb => by rw [HRN.out] at hb; have := ch.own_lt HRE.out hb; have h2 := HSX.out; omega) (by rw [flatP_snoc, HRN.out, HLN.out]; exact hown8) hgrow8 hat8
            have HSN : Hid (ch.MV w8 W1.heap.size (.slice (some ⟨g8, 0, none⟩) (ln + 1) cap8) (L ++ [(.slice ad5 (hd ++ fg).length cap5, ⟨hd ++ fg, 1⟩)]) ∧ Below W1.heap.size W1 w8) := by
              have h1 := hsn.1
              rw [HLN.out] at h1
              exact ⟨h1, hnk.trans (hsn.2.mono (Nat.le_refl _))⟩
            clear hsn
            have HCV2 : Hid (∀ q ∈ L ++ [((Value.slice ad5 (hd ++ fg).length cap5), (⟨hd ++ fg, 1⟩ : ch.Cnt))], capV q.1) := caps_snoc HCV.out (by rw [HRN.out]; exact own_capV HRE.out)
            go_roundw
            case rel => exact ⟨i' + 1, _, by omega, by go_num, HSN.out.1, by rw [HO2.out, ← HLO.out]; simp [ch.outOf], HCV2.out, HSN.out.2⟩
            case measure => simp [intOf]; omega
    · have hje : i' = n := by omega
      subst hje
      obtain ⟨ad, cap', hu, _⟩ := ch.MV_len HMV.out
      have HLO2 : Hid (ch.outOf L = gs.map RC) := by show ch.outOf L = _; rw [HLO.out, ← HN.out, List.take_length]
      have hll : L.length = i' := by rw [← ch.out_len, HLO2.out, List.length_map]; exact HN.out
      rw [hll] at hu
      subst hu
      have HCP : Hid (i' ≤ cap') := by
        have hl := HMV.out.own.2
        rcases hl with ⟨hv, _⟩ | ⟨g', c', cur, hv, _, _, h2, _⟩
        · cases hv; exact Nat.le_refl _
        · cases hv; exact h2
      have HVW : Hid (viewK wr ad (gs.map RC) ∧ ch.viewAt wr ad (gs.map RC)) := by have := MV_caps HMV.out HCV.out; have h2 := ch.MV_view HMV.out; rw [HLO2.out] at this h2; exact ⟨this, h2⟩
      clear hll
      go_wp2
      go_ret
      exact ⟨⟨ad, cap', rfl, HVW.out, HCP.out⟩, hbk⟩
theorem rows_both (p : Pln) (x : PA) (a : Option Addr) (cap : Nat) (xs : List GX) (gs : List Grp) (w : World) (hp : planAt w p x) (hgs : gsAt w a xs gs) (h : grpsErr p gs = 0) :
    Calls Tryz.prog 20 #[planV p x, .slice a gs.length cap] w fun e w' => (∃ ad c, e = .returned (.slice ad gs.length c) ∧ (viewK w' ad (gs.map (rowC p)) ∧ ch.viewAt w' ad (gs.map (rowC p))) ∧ gs.length ≤ c) ∧ Below w.heap.size w w' := by
  obtain ⟨h0, hg, hl, ha⟩ := okG_of h
  have hf := group_few h0 hg
  exact rows_caps p x a cap xs gs w hp hgs (okG_each h) hl (by omega) (fun j hj => (agg_in h0 (by rw [List.getD_eq_getElem?_getD, List.getElem?_eq_getElem hj]; exact List.getElem_mem hj) hg).1)
theorem rows_right (p : Pln) (x : PA) (a : Option Addr) (cap : Nat) (xs : List GX) (gs : List Grp) (w : World) (hp : planAt w p x) (hgs : gsAt w a xs gs) (h : grpsErr p gs = 0) :
    Calls Tryz.prog 20 #[planV p x, .slice a gs.length cap] w fun e w' => (∃ ad c, e = .returned (.slice ad gs.length c) ∧ viewK w' ad (gs.map (rowC p)) ∧ gs.length ≤ c) ∧ Below w.heap.size w w' :=
  (rows_both p x a cap xs gs w hp hgs h).mono (fun e w' ⟨⟨ad, c, h1, h2, h3⟩, h4⟩ => ⟨⟨ad, c, h1, h2.1, h3⟩, h4⟩)
theorem rows_cap (p : Pln) (x : PA) (a : Option Addr) (cap : Nat) (xs : List GX) (gs : List Grp) (w : World) (hp : planAt w p x) (hgs : gsAt w a xs gs) (h : grpsErr p gs = 0) :
    Calls Tryz.prog 20 #[planV p x, .slice a gs.length cap] w fun e w' => (∃ ad c, e = .returned (.slice ad gs.length c) ∧ ch.viewAt w' ad (gs.map (rowC p)) ∧ gs.length ≤ c) ∧ Below w.heap.size w w' :=
  (rows_both p x a cap xs gs w hp hgs h).mono (fun e w' ⟨⟨ad, c, h1, h2, h3⟩, h4⟩ => ⟨⟨ad, c, h1, h2.2, h3⟩, h4⟩)
theorem view_ok (p : Pln) (x : PA) (a : Option Addr) (cap : Nat) (xs : List GX) (gs : List Grp) (w : World) (hp : planAt w p x) (hgs : gsAt w a xs gs) (h : grpsErr p gs = 0) :
    Calls Tryz.prog 20 #[planV p x, .slice a gs.length cap] w fun e w' => (∃ ad c, e = .returned (.slice ad gs.length c) ∧ ch.viewAt w' ad (gs.map (rowC p))) ∧ Below w.heap.size w w' :=
  (rows_cap p x a cap xs gs w hp hgs h).mono (fun e w' ⟨⟨ad, c, h1, h2, _⟩, h3⟩ => ⟨⟨ad, c, h1, h2⟩, h3⟩)
end Go.Proofs.YtbfbgdinhiglaaaGreat.gr
