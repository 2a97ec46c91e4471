/- The document's RowOf: a group's row. -/
import Derived.Test.YtbfbgdinhiglaaaGreatGrpRows
import Derived.Test.YtbfbgdinhiglaaaGreatMgBatI
namespace Go.Proofs.YtbfbgdinhiglaaaGreat.gr
open Go.ChangeShapes Go.WideShapes Go.ChangeAt Go.RowKit
open vl pl bt
set_option linter.unusedVariables false
set_option linter.unusedSimpArgs false
attribute [local go_sem] Oper.semAt_some
/-- a bag's tallies as counts of rows of one cell -/
def cntsOf (l : List Tal) : List ch.Cnt := l.map fun t => ⟨[t.1], t.2⟩
theorem cntsOf_take (l : List Tal) (k : Nat) (h : k < l.length) : cntsOf (l.take (k + 1)) = cntsOf (l.take k) ++ [⟨[(l.getD k default).1], (l.getD k default).2⟩] := by
  unfold cntsOf
  rw [List.take_succ_eq_append_getElem h, List.map_append, List.getD_eq_getElem?_getD, List.getElem?_eq_getElem h]; rfl
theorem cntsOf_len (l : List Tal) : (cntsOf l).length = l.length := by unfold cntsOf; simp
theorem cntsOf_mem {l : List Tal} {c : ch.Cnt} (h : c ∈ cntsOf l) : ∃ t ∈ l, c = ⟨[t.1], t.2⟩ := by
  unfold cntsOf at h
  obtain ⟨t, ht, rfl⟩ := List.mem_map.1 h
  exact ⟨t, ht, rfl⟩
theorem bagOf_cnts (l : List Tal) : bagOf 0 (cntsOf l) = l := by
  unfold bagOf cntsOf
  rw [List.map_map]
  exact (List.map_congr_left (g := id) (fun t _ => rfl)).trans (List.map_id l)
theorem figC_cnts (fn n : Int) (l : List Tal) (h : fn ≠ 1) : figC (fn, 0) (cntsOf l) = figT fn n l := by
  rw [← figT_of]
  dsimp only
  rw [show (0 : Int).toNat = 0 from rfl, bagOf_cnts]
  unfold figT
  rw [if_neg h, if_neg h]
theorem row_one_new (w : World) (c : Cel) (t : TypeId) : vl.rowAt (w.alloc (.cells #[.int .i64 c.k, .int .i64 c.n, .string c.s] t)) (some ⟨w.heap.size, 0, none⟩) [c] := by
  intro i hi
  have h0 : i = 0 := by simpa using hi
  subst h0
  refine ⟨_, _, rfl, ?_, ?_, ?_⟩ <;> go_simp
/-- a count appended to counts of one's own, at a step of a region that draws its order -/
theorem step_appCn {ops : Array Oper} {o : Oper} {a : Act} {K : Act → World → Prop} {Q : Exit → Act → World → Prop} {E : Prop} (hgd : o.guard = none) (s x : Operand)
    (hop : o.op = .call { callee := .builtin .append, args := #[s, x], argTypes := #[27, 27] })
    (base : Nat) (v : Value) (n : Nat) (xs : List Value) (rv : Value) (m : Int) (w1 : World) (B : Nat) (hB : w1.heap.size = B) (ho : w1.ownsRow base 71 2 v n xs) (hl : n ≤ 1073741824) (hb : base ≤ w1.heap.size) (h1 : rv.oneCell' = true)
    (hs : a.eval s = v) (hx : a.eval x = .slice (some ⟨B, 0, none⟩) 1 1)
    (h : ∀ g cap2 w2, w2.ownsRow base 71 2 (.slice (some ⟨g, 0, none⟩) (n + 1) cap2) (n + 1) (xs ++ [rv, .int .i64 m]) → (w1.alloc (.cells #[rv, .int .i64 m] 71)).grownBy w2 v.ownBlock → (v.ownBlock = some g ∨ g = w1.heap.size + 1) → g < w2.heap.size → K (a.put o.dst (.slice (some ⟨g, 0, none⟩) (n + 1) cap2)) w2) :
    if Region.wanted o (yielded ops a.tmps) = true then Oper.wp Tryz.prog o a (w1.alloc (.cells #[rv, .int .i64 m] 71)) K Q else E := by
  subst hB
  obtain ⟨i0, hi, hz0, hz1, hz2⟩ := info_parts ch.infoC
  exact step_append_lies _ hgd s x 27 hop base 71 i0 (.agg #[.slice none 0 0, .int .i64 0]) 2 32 Tryz.underlying27 hi hz0 hz1 hz2 rfl (by decide) v n xs hs
    (World.ownsRow.alloc ho _) ⟨w1.heap.size, 0, none⟩ 1 1 [rv, .int .i64 m] hx rfl (cell_two_new _ _ _ _) (by intro u hu; simp at hu; rcases hu with rfl | rfl; exact h1; rfl) (by decide) (by unfold maxLen; omega) (by omega) (by simp; omega) (w1.heap.size + 1) (by simp) h
set_option maxRecDepth 100000 in
set_option maxHeartbeats 16000000 in
theorem rowOf_any (p : Pln) (x : PA) (y : GX) (g : Grp) (w : World) (hp : planAt w p x) (hga : gAt w y g) (hok : okG p g) (ma : p.aggs.length ≤ 4) (hag : ∀ j, j < p.aggs.length → 1 ≤ (p.aggs.getD j (0, 0)).1 ∧ (p.aggs.getD j (0, 0)).1 ≤ 4)
    (hsum : ∀ j, j < p.aggs.length → (p.aggs.getD j (0, 0)).1 = 2 → ∀ t ∈ g.bags.getD j [], t.1.k = 0 ∨ t.1.k = 2) :
    Calls Tryz.prog 36 #[planV p x, grpV y g] w fun e w' => (∃ ad c, e = .returned (.slice ad (g.row ++ figsG p g).length c) ∧ ownV w' w.heap.size (.slice ad (g.row ++ figsG p g).length c) (g.row ++ figsG p g)) ∧ Below w.heap.size w w' := by
  have HFT : Hid (∀ j, j < p.aggs.length → (figsG p g).take (j + 1) = (figsG p g).take j ++ [figT (p.aggs.getD j (0, 0)).1 g.n (g.bags.getD j [])]) := fun j h => figsG_take p g j h
  have HFL : Hid ((figsG p g).length = p.aggs.length) := figsG_len p g
  have HAG : Hid (∀ j, j < p.aggs.length → ∃ b off, x.a = some ⟨b, off, none⟩ ∧ w.cell? ⟨b, off + j * 2, none⟩ = some (.int .i64 (p.aggs.getD j (0, 0)).1) ∧ w.cell? ⟨b, off + j * 2 + 1, none⟩ = some (.int .i64 (p.aggs.getD j (0, 0)).2)) := hp.a
  have HFN : Hid (∀ j, j < p.aggs.length → 1 ≤ (p.aggs.getD j (0, 0)).1 ∧ (p.aggs.getD j (0, 0)).1 ≤ 4) := hag
  have hbl := hok.bl
  have hrl := hok.rl
  have HB : Hid (∀ j, j < p.aggs.length → (g.bags.getD j []).length ≤ 1073741824 ∧ (∃ hb ho, y.b = some ⟨hb, ho, none⟩ ∧ w.cell? ⟨hb, ho + j, none⟩ = some (.slice (y.hs.getD j (none, 0, 0)).1 (g.bags.getD j []).length (y.hs.getD j (none, 0, 0)).2.2)) ∧ bagAt w (y.hs.getD j (none, 0, 0)).1 (g.bags.getD j [])) := fun j hj => by
    have hj2 : j < g.bags.length := by rw [hbl]; exact hj
    obtain ⟨b1, o1, e1, z1⟩ := hga.hs j (by rw [hga.len]; exact hj2)
    rw [hga.hl j hj2] at z1
    exact ⟨hok.tl _ (by rw [List.getD_eq_getElem?_getD, List.getElem?_eq_getElem hj2]; exact List.getElem_mem hj2), ⟨b1, o1, e1, z1⟩, hga.bag j hj2⟩
  have KF : Hid (∀ j ad cap w1, j < p.aggs.length → (p.aggs.getD j (0, 0)).1 ≠ 1 → ch.viewAt w1 ad (cntsOf (g.bags.getD j [])) → Calls Tryz.prog 79 #[.agg #[.int .i64 (p.aggs.getD j (0, 0)).1, .int .i64 0], .slice ad (g.bags.getD j []).length cap] w1 fun e w' => e = .returned (celV (figT (p.aggs.getD j (0, 0)).1 g.n (g.bags.getD j []))) ∧ Below w1.heap.size w1 w') := fun j ad cap w1 hj h1 hv => by
    have := rfigure_any ad cap (cntsOf (g.bags.getD j [])) ((p.aggs.getD j (0, 0)).1, 0) w1 (by rw [cntsOf_len]; exact (HB.out j hj).1) hv (hag j hj) (fun _ => ⟨Int.le_refl _, fun c hc => by obtain ⟨t, _, rfl⟩ := cntsOf_mem hc; show 0 < 1; omega⟩) (fun c hc => by obtain ⟨t, _, rfl⟩ := cntsOf_mem hc; show 1 ≤ _; omega) (fun h2 c hc => by obtain ⟨t, ht, rfl⟩ := cntsOf_mem hc; exact hsum j hj h2 t ht)
    rw [figC_cnts _ g.n _ h1, cntsOf_len] at this
    exact this
  have KC : Hid (∀ w1, Below w.heap.size w w1 → Calls Tryz.prog 65 #[.slice y.r g.row.length y.rc] w1 fun e w' => (∃ ad c, e = .returned (.slice ad g.row.length c) ∧ ownV w' w1.heap.size (.slice ad g.row.length c) g.row) ∧ Below w1.heap.size w1 w') := fun w1 hb => ch.copy_any _ _ _ w1 (vl.rowAt_below hga.row hb) (by omega)
  obtain ⟨fg, hfg⟩ : ∃ z, figsG p g = z := ⟨_, rfl⟩
  rw [hfg] at HFT HFL ⊢
  clear hfg hp hga hok hag hsum
  unfold grpV
  obtain ⟨hd, gn, bags⟩ := g
  obtain ⟨yr, yrc, yb, ybc, yhs⟩ := y
  dsimp only at HFT HB KF KC hrl hbl ⊢
  obtain ⟨BG, hBG⟩ : ∃ f : Nat → List Tal, ∀ j, bags.getD j [] = f j := ⟨_, fun _ => rfl⟩
  obtain ⟨HH, hHH⟩ : ∃ f : Nat → Option Addr × Nat × Nat, ∀ j, yhs.getD j (none, 0, 0) = f j := ⟨_, fun _ => rfl⟩
  simp only [hBG] at HFT HB KF
  simp only [hHH] at HB
  obtain ⟨hn, hhn⟩ : ∃ z, hd.length = z := ⟨_, rfl⟩
  have HHN : Hid (hd.length = hn) := hhn
  rw [hhn] at KC hrl ⊢
  rw [hbl]
  clear hbl hhn hBG hHH
  obtain ⟨kind, mode, low, high, size, limit, left, right, lkeys, rkeys, grouped, group, aggs⟩ := p
  obtain ⟨la, lc, rr, rc, lk, lkc, rk, rkc, ga, gc, ag, ac⟩ := x
  unfold planV
  dsimp only at HFT HFL HAG HFN HB KF ma ⊢
  obtain ⟨n6, h6⟩ : ∃ n, left.length = n := ⟨_, rfl⟩
  obtain ⟨n7, h7⟩ : ∃ n, right.length = n := ⟨_, rfl⟩
  obtain ⟨n8, h8⟩ : ∃ n, lkeys.length = n := ⟨_, rfl⟩
  obtain ⟨n9, h9⟩ : ∃ n, rkeys.length = n := ⟨_, rfl⟩
  obtain ⟨n11, h11⟩ : ∃ n, group.length = n := ⟨_, rfl⟩
  obtain ⟨n12, h12⟩ : ∃ n, aggs.length = n := ⟨_, rfl⟩
  simp only [h6, h7, h8, h9, h11, h12] at HFT HFL HAG HFN HB KF ma ⊢
  obtain ⟨AG, e9⟩ : ∃ f : Nat → Int × Int, ∀ j, aggs.getD j (0, 0) = f j := ⟨_, fun _ => rfl⟩
  simp only [e9] at HFT HAG HFN HB KF
  clear h6 h7 h8 h9 h11 h12 e9
  have HFE : Hid (fg.take n12 = fg) := by show _ = _; rw [← HFL.out, List.take_length]
  go_enter Tryz.func36, Tryz.ntmps36
  go_wp2_with fail
  generalize hV : (World.alloc (World.alloc w _) _) = U
  have hb0 : Below w.heap.size w U := by rw [← hV]; exact ((Below.refl _ _).alloc (Nat.le_refl _) _).alloc (by simp) _
  have hsU : U.heap.size = w.heap.size + 2 := by subst hV; simp
  have s12 : U.cell? ⟨w.heap.size, 12, none⟩ = some (.slice ag n12 ac) := by subst hV; go_simp
  have k1 : U.cell? ⟨w.heap.size + 1, 1, none⟩ = some (.int .i64 gn) := by subst hV; go_simp
  have k2 : U.cell? ⟨w.heap.size + 1, 2, none⟩ = some (.slice yb n12 ybc) := by subst hV; go_simp
  clear hV
  refine (KC.out _ hb0).mono ?_
  rintro e w1 ⟨⟨ad1, c1, rfl, hown1⟩, hb1⟩
  have HO1 : Hid (ownV w1 U.heap.size (.slice ad1 hn c1) hd) := hown1
  clear hown1 KC
  go_wp2
  go_loopw [5, 6] (fun rv i wq => ∃ j : Nat, j ≤ n12 ∧ i = .int .i64 j ∧ ownV wq U.heap.size rv (hd ++ fg.take j) ∧ Below U.heap.size U wq) (fun _ i _ => n12 - (intOf i).toNat)
  case atStart => exact ⟨0, Nat.zero_le _, rfl, by simpa using HO1.out, hb1⟩
  case round =>
    rename World => wq
    obtain ⟨j, hj, rfl, hrv, hbq⟩ := hrel
    have HRV : Hid (ownV wq U.heap.size u5 (hd ++ fg.take j)) := hrv
    have hsq := hbq.size
    have m12 := cell_later hbq s12
    have m1 := cell_later hbq k1
    have m2 := cell_later hbq k2
    have hbw : Below w.heap.size w wq := hb0.trans (hbq.mono hb0.size)
    have lq : w.heap.size + 1 < wq.heap.size := World.block_lt_of_cell? _ _ m1
    clear hrv
    by_cases hjl : j < n12
    · obtain ⟨ab, ao, e, y1, y2⟩ := HAG.out j hjl
      obtain ⟨hbl, ⟨hb, ho, e2, y3⟩, hbag⟩ := HB.out j hjl
      have HF1 := HFT.out j hjl
      have hfn := HFN.out j hjl
      subst e
      subst e2
      have z1 := cell_later hbw y1
      have z2 := cell_later hbw y2
      have z3 := cell_later hbw y3
      have KFj : Hid (∀ ad cap w1, (AG j).1 ≠ 1 → ch.viewAt w1 ad (cntsOf (BG j)) → _) := fun ad cap w1 h1 hv => KF.out j ad cap w1 hjl h1 hv
      have HBA : Hid (bagAt wq (HH j).1 (BG j)) := bagAt_below hbag hbw
      obtain ⟨⟨af, acol⟩, hag⟩ : ∃ z, AG j = z := ⟨_, rfl⟩
      rw [hag] at z1 z2 KFj HF1 hfn
      obtain ⟨bg, hbg⟩ : ∃ z, BG j = z := ⟨_, rfl⟩
      rw [hbg] at z3 KFj HF1 HBA hbl
      obtain ⟨⟨h1, h2, h3⟩, hhh⟩ : ∃ z, HH j = z := ⟨_, rfl⟩
      rw [hhh] at z3 HBA
      obtain ⟨⟨fk, fv, fs⟩, hfc⟩ : ∃ z, figT af gn bg = z := ⟨_, rfl⟩
      dsimp only at z1 z2 z3 KFj HF1 HBA hfn
      have HFC : Hid (figT af gn bg = ⟨fk, fv, fs⟩) := hfc
      rw [hfc] at KFj HF1
      unfold celV at KFj
      dsimp only at KFj
      obtain ⟨bl, hbl2⟩ : ∃ z, bg.length = z := ⟨_, rfl⟩
      have HBL : Hid (bg.length = bl) := hbl2
      rw [hbl2] at z3 KFj hbl
      have HF2 : Hid (hd ++ fg.take (j + 1) = (hd ++ fg.take j) ++ [⟨fk, fv, fs⟩]) := by show _ = _; rw [HF1, List.append_assoc]
      have HRLE : Hid ((hd ++ fg.take j).length ≤ 1000000) := by show _ ≤ _; rw [List.length_append, HHN.out, List.length_take]; omega
      have j1 : (0 : Int) ≤ (j : Int) := by omega
      have j2 : (j : Int) < (n12 : Int) := by omega
      have lhb : hb < wq.heap.size := World.block_lt_of_cell? _ _ z3
      clear hag hbg hhh hfc HF1 y1 y2 y3 hbl2 hbag
      by_cases hf1 : af = 1
      · subst hf1
        have hc : fk = 2 ∧ fv = gn ∧ fs = ⟨#[]⟩ := by
          have := HFC.out
          unfold figT at this
          rw [if_pos rfl] at this
          injection this with a b c
          exact ⟨a.symm, b.symm, c.symm⟩
        obtain ⟨rfl, rfl, rfl⟩ := hc
        go_wp2_with (at_builtin; refine append_cell rfl (.tmp 26) (.tmp 30) rfl U.heap.size u5 (hd ++ fg.take j) rfl wq HRV.out ⟨2, fv, ⟨#[]⟩⟩ wq.heap.size rfl rfl HRLE.out hsq ?_; intro v2 w3 hown3 hgrow3)
        have hbn := below_appendV hbq hsq HRV.out hgrow3
        go_roundw
        case rel => exact ⟨j + 1, by omega, by go_num, by rw [HF2.out]; exact hown3, hbn⟩
        case measure => simp [intOf]; omega
      · have hf1' : (af == 1) = false := by simpa using hf1
        go_wp2
        go_loopw [7, 8] (fun vv i wz => ∃ (k : Nat) (L : ch.PL), k ≤ bl ∧ i = .int .i64 k ∧ ch.MV wz wq.heap.size vv L ∧ ch.outOf L = cntsOf (bg.take k) ∧ Below wq.heap.size wq wz) (fun _ i _ => bl - (intOf i).toNat)
        case atStart => exact ⟨0, [], Nat.zero_le _, rfl, ⟨Nat.le_refl _, World.ownsRow_nil _ _ _ _, fun p hp => (by cases hp)⟩, rfl, Below.refl _ _⟩
        case round =>
          rename World => wz
          obtain ⟨k, L, hk, rfl, hmv, hLo, hbz⟩ := hrel
          have HMV : Hid (ch.MV wz wq.heap.size u7 L) := hmv
          have HLO : Hid (ch.outOf L = cntsOf (bg.take k)) := hLo
          have hLl : L.length = k := by
            have e := congrArg List.length hLo
            rw [ch.out_len, cntsOf_len, List.length_take, HBL.out] at e
            omega
          have hlow : wq.heap.size ≤ wz.heap.size := hmv.low
          have t12 := cell_later hbz m12
          have t1 := cell_later hbz m1
          have t2 := cell_later hbz m2
          have t3 := cell_later hbz z3
          have tz1 := cell_later hbz z1
          have tz2 := cell_later hbz z2
          clear hmv hLo
          by_cases hkl : k < bl
          · obtain ⟨tb, to, et, x1, x2, x3, x4⟩ := HBA.out k (by rw [HBL.out]; exact hkl)
            have HCT := cntsOf_take bg k (by rw [HBL.out]; exact hkl)
            subst et
            obtain ⟨⟨⟨ck, cn, cs⟩, cm⟩, hx⟩ : ∃ z, bg.getD k default = z := ⟨_, rfl⟩
            rw [hx] at x1 x2 x3 x4 HCT
            dsimp only at x1 x2 x3 x4
            have HC2 : Hid (cntsOf (bg.take (k + 1)) = cntsOf (bg.take k) ++ [⟨[⟨ck, cn, cs⟩], cm⟩]) := HCT
            have b1 := cell_later hbz x1
            have b2 := cell_later hbz x2
            have b3 := cell_later hbz x3
            have b4 := cell_later hbz x4
            have ltb : tb < wq.heap.size := World.block_lt_of_cell? _ _ x1
            have HL1 : Hid ((wz.drew.alloc (.cells #[.int .i64 ck, .int .i64 cn, .string cs] 68)).ownsRow wq.heap.size 71 2 u7 k (ch.flatP L)) := by
              have := HMV.out.own
              rw [hLl] at this
              exact World.ownsRow.alloc (show wz.drew.ownsRow _ _ _ _ _ _ from this) _
            have HNE : Hid (u7.ownBlock ≠ some (w.heap.size + 1) ∧ u7.ownBlock ≠ some hb ∧ u7.ownBlock ≠ some tb) := by
              refine ⟨fun h => ?_, fun h => ?_, fun h => ?_⟩ <;> (have := (ch.own_lt HMV.out.own h).1; omega)
            have i1 : (0 : Int) ≤ (k : Int) := by omega
            have i2 : (k : Int) < (bl : Int) := by omega
            have hbA : Below wz.heap.size wz (wz.drew.alloc (.cells #[.int .i64 ck, .int .i64 cn, .string cs] 68)) := (Below.refl _ _).drew.alloc (by simp) _
            have hbB : Below wz.heap.size wz ((wz.drew.alloc (.cells #[.int .i64 ck, .int .i64 cn, .string cs] 68)).alloc (.cells #[.slice (some ⟨wz.heap.size, 0, none⟩) 1 1, .int .i64 cm] 71)) := hbA.alloc (by simp) _
            clear hx HCT x1 x2 x3 x4
            go_wp2
            go_region_held3 (fun w' => w'.cell? ⟨w.heap.size + 1, 2, none⟩ = some (.slice (some ⟨hb, ho, none⟩) n12 ybc) ∧ w'.cell? ⟨hb, ho + j, none⟩ = some (.slice (some ⟨tb, to, none⟩) bl h3) ∧ w'.cell? ⟨tb, to + k * 4, none⟩ = some (.int .i64 ck) ∧ w'.cell? ⟨tb, to + k * 4 + 1, none⟩ = some (.int .i64 cn) ∧ w'.cell? ⟨tb, to + k * 4 + 1 + 1, none⟩ = some (.string cs) ∧ w'.cell? ⟨tb, to + k * 4 + 3, none⟩ = some (.int .i64 cm)) (first | exact ⟨farC hgrow8 (cell_later hbA t2) HNE.out.1, farC hgrow8 (cell_later hbA t3) HNE.out.2.1, farC hgrow8 (cell_later hbA b1) HNE.out.2.2, farC hgrow8 (cell_later hbA b2) HNE.out.2.2, farC hgrow8 (cell_later hbA b3) HNE.out.2.2, farC hgrow8 (cell_later hbA b4) HNE.out.2.2⟩ | exact ⟨cell_later hbA t2, cell_later hbA t3, cell_later hbA b1, cell_later hbA b2, cell_later hbA b3, cell_later hbA b4⟩ | exact ⟨cell_later hbB t2, cell_later hbB t3, cell_later hbB b1, cell_later hbB b2, cell_later hbB b3, cell_later hbB b4⟩ | go_keep)
              (first
                | (refine step_appCn (by rfl) (.tmp 42) (.tmp 63) (by rfl) wq.heap.size u7 k (ch.flatP L) (.slice (some ⟨wz.heap.size, 0, none⟩) 1 1) cm (wz.drew.alloc (.cells #[.int .i64 ck, .int .i64 cn, .string cs] 68)) (wz.heap.size + 1) (by simp) HL1.out (by omega) (by simp; omega) rfl (by simp [Act.eval, Act.put]) (by simp [Act.eval, Act.put]) ?_; intro g8 cap8 w8 hown8 hgrow8 hat8 hlt8))
            all_goals
              have hsn := MV_snoc (rc := 1) (r := [⟨ck, cn, cs⟩]) (m := cm) (cap := cap8) HMV.out hbA (row_one_new wz.drew ⟨ck, cn, cs⟩ 68) (fun b hb => by cases hb; simp) (by rw [flatP_snoc, hLl]; exact hown8) hgrow8 hat8
              have HSN : Hid (ch.MV w8 wq.heap.size (.slice (some ⟨g8, 0, none⟩) (k + 1) cap8) (L ++ [(.slice (some ⟨wz.drew.heap.size, 0, none⟩) 1 1, ⟨[⟨ck, cn, cs⟩], cm⟩)]) ∧ Below wq.heap.size wq w8) := by
                have h1 := hsn.1
                rw [hLl] at h1
                exact ⟨h1, hbz.trans (hsn.2.mono (Nat.le_refl _))⟩
              clear hsn
              go_wp2
              go_roundw
              case rel => exact ⟨k + 1, _, by omega, by go_num, HSN.out.1, by rw [HC2.out, ← HLO.out]; simp [ch.outOf], HSN.out.2⟩
              case measure => simp [intOf]; omega
          · have hke : k = bl := by omega
            subst hke
            obtain ⟨ad, cap', hu, _⟩ := ch.MV_len HMV.out
            rw [hLl] at hu
            subst hu
            have HVW : Hid (ch.viewAt wz ad (cntsOf bg)) := by have := ch.MV_view HMV.out; rw [HLO.out, ← HBL.out, List.take_length] at this; exact this
            have KF3 : Hid (∀ cap, _) := fun cap => KFj.out ad cap wz hf1 HVW.out
            have HRZ : Hid (ownV wz U.heap.size u5 (hd ++ fg.take j)) := ownV_below HRV.out hbz
            have hbUz : Below U.heap.size U wz := hbq.trans (hbz.mono hsq)
            clear hLl
            go_wp2_with (first | (go_at_call 79; refine (KF3.out _).mono ?_; rintro e w5 ⟨rfl, hb5⟩; have HR5 : Hid (ownV w5 U.heap.size u5 (hd ++ fg.take j)) := ownV_below HRZ.out hb5; have hbU5 : Below U.heap.size U w5 := hbUz.trans (hb5.mono hbUz.size)) | (at_builtin; refine append_cell rfl (.tmp 65) (.tmp 75) rfl U.heap.size u5 (hd ++ fg.take j) rfl w5 HR5.out ⟨fk, fv, fs⟩ w5.heap.size rfl rfl HRLE.out hbU5.size ?_; intro v2 w3 hown3 hgrow3))
            have hbn := below_appendV hbU5 hbU5.size HR5.out hgrow3
            go_roundw
            case rel => exact ⟨j + 1, by omega, by go_num, by rw [HF2.out]; exact hown3, hbn⟩
            case measure => simp [intOf]; omega
    · have hje : j = n12 := by omega
      subst hje
      have HRE : Hid (ownV wq U.heap.size u5 (hd ++ fg)) := by have := HRV.out; rw [HFE.out] at this; exact this
      obtain ⟨ad5, cap5, hv5⟩ := ownV_form HRE.out
      subst hv5
      go_wp2
      go_ret
      exact ⟨⟨ad5, cap5, rfl, World.ownsRow.mono HRE.out (by omega)⟩, hbw⟩
end Go.Proofs.YtbfbgdinhiglaaaGreat.gr
