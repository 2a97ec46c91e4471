import Derived.Test.YtbfbgdinhiglaaaGreatS29
import Derived.Test.YtbfbgdinhiglaaaGreatS19
import Derived.Test.YtbfbgdinhiglaaaGreatMgBatI
namespace Go.Proofs.YtbfbgdinhiglaaaGreat.gr
open Go.ChangeShapes Go.WideShapes Go.ChangeAt Go.RowKit
open vl pl bt
set_option linter.unusedVariables false
set_option linter.unusedSimpArgs false
attribute [local go_sem] Oper.semAt_some
theorem mkE_behind {wr w6 : World} {base rl c6 : Nat} {ad6 : Option Addr} {row : List Cel} {nn : Int} {u : Value} {L : List GO} (h : OG wr base u L) (hb : Below wr.heap.size wr w6) (hv : ownV w6 wr.heap.size (.slice ad6 rl c6) row) : Est (w6.alloc (.cells #[.slice ad6 rl c6, .int .i64 nn, .slice none 0 0] 53)) base (mkE w6.heap.size (.slice ad6 rl c6) row nn (.slice none 0 0) [] u L) := by
 have h0 : Est wr base (bagsE (.slice none 0 0) [] (headO u L :: L.flatMap GO.all)) := Est_none h _ _
 have h1 : Est w6 base (rowOw (.slice ad6 rl c6) row :: bagsE (.slice none 0 0) [] (headO u L :: L.flatMap GO.all)) := Est_new (x := rowOw (.slice ad6 rl c6) row) h0 hb (World.ownsRow.mono hv h.low) (fun g hg => (ch.own_lt hv hg).1)
 exact Est_new (x := boxO w6.heap.size (.slice ad6 rl c6) nn (.slice none 0 0)) h1 (bR.alloc nR _) (own_box _ _ _ _ _ _ h1.low) (fun g hg => by cases hg; exact Nat.le_refl _)
theorem mkE_ahead {wr w5 w6 : World} {base rl c6 : Nat} {ad6 : Option Addr} {row : List Cel} {nn : Int} {u : Value} {L : List GO} (h : OG wr base u L) (hb5 : Below (wr.heap.size + 1) (wr.alloc (.cells #[.slice none 0 0, .int .i64 0, .slice none 0 0] 53)) w5) (hb : Below w5.heap.size w5 w6) (hv : ownV w6 w5.heap.size (.slice ad6 rl c6) row) : Est (((w6.setCell ⟨wr.heap.size, 0, none⟩ (.slice ad6 rl c6)).setCell ⟨wr.heap.size, 1, none⟩ (.int .i64 nn)).setCell ⟨wr.heap.size, 2, none⟩ (.slice none 0 0)) base (mkE wr.heap.size (.slice ad6 rl c6) row nn (.slice none 0 0) [] u L) := by
 have h0 : Est wr base (bagsE (.slice none 0 0) [] (headO u L :: L.flatMap GO.all)) := Est_none h _ _
 have h1 : Est (wr.alloc (.cells #[.slice none 0 0, .int .i64 0, .slice none 0 0] 53)) base (boxO wr.heap.size (.slice none 0 0) 0 (.slice none 0 0) :: bagsE (.slice none 0 0) [] (headO u L :: L.flatMap GO.all)) := Est_new (x := boxO wr.heap.size (.slice none 0 0) 0 (.slice none 0 0)) h0 (bR.alloc nR _) (own_box _ _ _ _ _ _ h.low) (fun g hg => by cases hg; exact Nat.le_refl _)
 have h2 := Est_below h1 (w' := w5) (by simpa using hb5)
 have h3 : Est w6 base (rowOw (.slice ad6 rl c6) row :: boxO wr.heap.size (.slice none 0 0) 0 (.slice none 0 0) :: bagsE (.slice none 0 0) [] (headO u L :: L.flatMap GO.all)) := Est_new (x := rowOw (.slice ad6 rl c6) row) h2 hb (World.ownsRow.mono hv h2.low) (fun g hg => (ch.own_lt hv hg).1)
 have h4 := Est_perm h3 (List.Perm.swap _ _ _)
 exact Est_set (j := 2) (Est_set (j := 1) (Est_set (j := 0) h4 (by omega) (.slice ad6 rl c6)) (by omega) (.int .i64 nn)) (by omega) (.slice none 0 0)
theorem own_after {w6 w9 : World} {o : Obj} {row : Option Nat} {X off : Nat} {u : Value} (hg : (w6.alloc o).grownBy w9 row) (hx : ∀ K, row = some K → K ≠ X) (hc : w6.cell? ⟨X, off, none⟩ = some u) (hf : w6.frozen? ⟨X, off, none⟩ = false) : w9.cell? ⟨X, off, none⟩ = some u ∧ w9.frozen? ⟨X, off, none⟩ = false := by
 have lx : X < w6.heap.size := World.block_lt_of_cell? _ _ hc
 have h1 : w9.heap[X]? = w6.heap[X]? := by
  rw [hg.block X (by simp; omega) (fun e => hx X e.symm rfl)]
  exact Below.heap_alloc _ _ _ lx
 exact ⟨by rw [← hc]; simp only [World.cell?, h1], by rw [← hf]; simp only [World.frozen?, h1]⟩
theorem box_after {wr w6 : World} {T : TypeId} (hb : Below (wr.drew.alloc (.cells #[.slice none 0 0, .int .i64 0, .slice none 0 0] T)).heap.size (wr.drew.alloc (.cells #[.slice none 0 0, .int .i64 0, .slice none 0 0] T)) w6) : w6.cell? ⟨wr.heap.size, 0, none⟩ = some (.slice none 0 0) ∧ w6.cell? ⟨wr.heap.size, 1, none⟩ = some (.int .i64 0) ∧ w6.cell? ⟨wr.heap.size, 2, none⟩ = some (.slice none 0 0) ∧ ∀ j, w6.frozen? ⟨wr.heap.size, j, none⟩ = false := by
 refine ⟨cL hb (by go_simp), cL hb (by go_simp), cL hb (by go_simp), fun j => ?_⟩
 rw [hb.frozen (p := ⟨wr.heap.size, j, none⟩) (by simp)]
 have h : (wr.drew.alloc (.cells #[.slice none 0 0, .int .i64 0, .slice none 0 0] T)).heap[wr.heap.size]? = some (.cells #[.slice none 0 0, .int .i64 0, .slice none 0 0] T (0, 0)) := by show (wr.heap.push _)[wr.heap.size]? = _; simp
 simp only [World.frozen?, h]
 rfl
set_option maxRecDepth 100000 in
set_option maxHeartbeats 8000000 in
theorem rown_any (a : Option Addr) (cap : Nat) (xs : List GX) (gs : List Grp) (w : World) (hgs : gsAt w a xs gs) (hn : gs.length ≤ 1000000) (hbd : ∀ g ∈ gs, g.row.length ≤ 1000 ∧ g.bags.length ≤ 1000 ∧ ∀ l ∈ g.bags, l.length ≤ 1073741824) :
 Calls Tryz.prog 42 #[.slice a gs.length cap] w fun e w' => (∃ ad c L, e = .returned (.slice ad L.length c) ∧ OG w' w.heap.size (.slice ad L.length c) L ∧ L.map GO.grp = gs) ∧ Below w.heap.size w w' := by
 obtain ⟨iHT, aHT, bHT, cHT, dHT⟩ := info_parts infoT
 obtain ⟨iHG, aHG, bHG, cHG, dHG⟩ := info_parts infoG
 obtain ⟨iHB, aHB, bHB, cHB, dHB⟩ := info_parts infoBg
 have HT : Hid (Tryz.prog.info? 82 = some iHT ∧ iHT.zero = some (.agg #[.int .i64 0, .int .i64 0, .string ⟨#[]⟩, .int .i64 0]) ∧ iHT.size = 4 ∧ iHT.bytes = 40) := ⟨aHT, bHT, cHT, dHT⟩
 have HG : Hid (Tryz.prog.info? 53 = some iHG ∧ iHG.zero = some (.agg #[.slice none 0 0, .int .i64 0, .slice none 0 0]) ∧ iHG.size = 3 ∧ iHG.bytes = 56) := ⟨aHG, bHG, cHG, dHG⟩
 have HB : Hid (Tryz.prog.info? 61 = some iHB ∧ iHB.zero = some (.slice none 0 0) ∧ iHB.size = 1 ∧ iHB.bytes = 24) := ⟨aHB, bHB, cHB, dHB⟩
 clear aHT bHT cHT dHT aHG bHG cHG dHG aHB bHB cHB dHB
 have HGS : Hid (gsAt w a xs gs) := hgs
 have HBD : Hid (∀ i, i < gs.length → (gs.getD i default).row.length ≤ 1000 ∧ (gs.getD i default).bags.length ≤ 1000 ∧ ∀ l ∈ (gs.getD i default).bags, l.length ≤ 1073741824) := fun i hi => hbd _ (by rw [List.getD_eq_getElem?_getD, List.getElem?_eq_getElem hi]; exact List.getElem_mem hi)
 have HTK : Hid (∀ i, i < gs.length → gs.take (i + 1) = gs.take i ++ [gs.getD i default]) := fun i hi => by
  show _ = _
  rw [List.take_succ_eq_append_getElem hi, List.getD_eq_getElem?_getD, List.getElem?_eq_getElem hi]; rfl
 obtain ⟨n, hne⟩ : ∃ z, gs.length = z := ⟨_, rfl⟩
 have HN : Hid (gs.length = n) := hne
 rw [hne] at hn HBD HTK ⊢
 clear hgs hbd hne
 go_enter Tryz.func42, Tryz.ntmps42
 go_wp2
 go_loopw [3, 4] (fun u t wr => ∃ (i : Nat) (L : List GO), i ≤ n ∧ t = .int .i64 i ∧ Hid (OG wr w.heap.size u L) ∧ Hid (L.map GO.grp = gs.take i) ∧ Below w.heap.size w wr) (fun _ t _ => n - (intOf t).toNat)
 case atStart => exact ⟨0, [], Nat.zero_le _, rfl, ⟨Nat.le_refl _, fun y hy => by
  rcases List.mem_cons.1 hy with rfl | hy
  ·exact World.ownsRow_nil _ _ _ _
  ·exact absurd hy List.not_mem_nil, List.pairwise_cons.2 ⟨fun y hy => absurd hy List.not_mem_nil, List.Pairwise.nil⟩⟩, by rfl, bR⟩
 case round =>
  obtain ⟨i, L, hi, rfl, HOL, HLM, hbr⟩ := hrel
  by_cases hlt : i < n
  ·obtain ⟨b, o, e, x1, x2, x3⟩ := HGS.out.cells i (by rw [HN.out]; exact hlt)
   have hea := HGS.out.each i (by rw [HN.out]; exact hlt)
   have hbdi := HBD.out i hlt
   have HT1 := HTK.out i hlt
   subst e
   obtain ⟨gg, hgg⟩ : ∃ z, gs.getD i default = z := ⟨_, rfl⟩
   obtain ⟨⟨yr, yrc, yb, ybc, yh⟩, hyy⟩ : ∃ z, xs.getD i default = z := ⟨_, rfl⟩
   rw [hgg] at x1 x2 x3 hea hbdi HT1
   rw [hyy] at x1 x3 hea
   dsimp only at x1 x3
   have q1 := cL hbr x1
   have q2 := cL hbr x2
   have q3 := cL hbr x3
   have HEA : Hid (gAt w ⟨yr, yrc, yb, ybc, yh⟩ gg) := hea
   have HBI : Hid (gg.row.length ≤ 1000 ∧ gg.bags.length ≤ 1000 ∧ ∀ l ∈ gg.bags, l.length ≤ 1073741824) := hbdi
   have HT2 : Hid (gs.take (i + 1) = gs.take i ++ [gg]) := HT1
   have i1 : (0 : Int) ≤ (i : Int) := by omega
   have i2 : (i : Int) < (n : Int) := by omega
   have KC0 : ∀ w1, Below w.heap.size w w1 → Calls Tryz.prog 65 #[.slice yr gg.row.length yrc] w1 fun e w' => (∃ ad c, e = .returned (.slice ad gg.row.length c) ∧ ownV w' w1.heap.size (.slice ad gg.row.length c) gg.row) ∧ Below w1.heap.size w1 w' := fun w1 hb => ch.copy_any yr yrc gg.row w1 (vl.rowAt_below HEA.out.row hb) (by have := HBI.out.1; omega)
   obtain ⟨rl, hrl⟩ : ∃ z, gg.row.length = z := ⟨_, rfl⟩
   obtain ⟨nn, hnn⟩ : ∃ z, gg.n = z := ⟨_, rfl⟩
   obtain ⟨bl, hbl⟩ : ∃ z, gg.bags.length = z := ⟨_, rfl⟩
   have HRL : Hid (gg.row.length = rl ∧ gg.n = nn ∧ gg.bags.length = bl) := ⟨hrl, hnn, hbl⟩
   rw [hrl] at q1 KC0
   rw [hnn] at q2
   rw [hbl] at q3
   have KC : Hid _ := KC0
   have hbl1 : bl ≤ 1000 := by rw [← hbl]; exact HBI.out.2.1
   have lb : b < wr.heap.size := World.block_lt_of_cell? _ _ q1
   clear x1 x2 x3 hea hbdi HT1 hgg hyy hrl hnn hbl KC0
   go_upto_region 5 with fail
   go_cut [5] (fun p wc => ∃ (X : Nat) (ad6 : Option Addr) (c6 : Nat), p = .pointer (some ⟨X, 0, none⟩) ∧ wr.heap.size ≤ X ∧ Hid (Est wc w.heap.size (mkE X (.slice ad6 rl c6) gg.row nn (.slice none 0 0) [] u3 L)) ∧ Below wr.heap.size wr wc)
   case first =>
    go_region_law (go_simp; go_at_call 65; first
     | (refine (KC.out _ hbr.drew).mono ?_; rintro e w6 ⟨⟨ad6, c6, rfl, hov⟩, hb6⟩; have hb60 : Below wr.heap.size wr w6 := bR.drew.trans hb6; have HOV : Hid (ownV w6 wr.heap.size (.slice ad6 rl c6) gg.row) := hov; have q2 := cL hb60 q2; have lb6 : b < w6.heap.size := World.block_lt_of_cell? _ _ q2)
     | (refine (KC.out _ (hbr.drew.alloc hbr.size _)).mono ?_; rintro e w6 ⟨⟨ad6, c6, rfl, hov⟩, hb6⟩; have HBX := box_after hb6; have k0 := HBX.1; have k1 := HBX.2.1; have k2 := HBX.2.2.1; have kf0 := HBX.2.2.2 0; have kf1 := HBX.2.2.2 1; have kf2 := HBX.2.2.2 2; clear HBX; have q2 := cL hb6 (cL (bR.alloc nR _) (cL bR.drew q2)); have lb6 : b < w6.heap.size := World.block_lt_of_cell? _ _ q2; have lx6 : wr.heap.size < w6.heap.size := World.block_lt_of_cell? _ _ k0; have HOV : Hid _ := hov))
    all_goals
     go_wp2
     go_meet
     first
      | exact ⟨w6.heap.size, ad6, c6, rfl, hb60.size, mkE_behind HOL.out hb60 HOV.out, hb60.alloc hb60.size _⟩
      | exact ⟨wr.heap.size, ad6, c6, rfl, Nat.le_refl _, mkE_ahead HOL.out bR.drew hb6 HOV.out, (((((Below.refl wr.heap.size wr).alloc nR _).drew.trans (hb6.mono (by simp))).setCell nR _).setCell nR _).setCell nR _⟩
   case rest =>
    obtain ⟨X, ad6, c6, rfl, hX, HE5, hb5⟩ := hcut
    rename World => W5
    clear KC q1 q2
    go_wp2
    go_loopw [6] (fun t wq => ∃ (j : Nat) (bs : List (Value × List Tal)) (bv : Value), j ≤ bl ∧ t = .int .i64 j ∧ Hid (Est wq w.heap.size (mkE X (.slice ad6 rl c6) gg.row nn bv bs u3 L)) ∧ Hid (bs.map (·.2) = gg.bags.take j) ∧ Hid (∀ K, bv.ownBlock = some K → wr.heap.size ≤ K) ∧ Below wr.heap.size wr wq) (fun t _ => bl - (intOf t).toNat)
    case atStart => exact ⟨0, [], .slice none 0 0, Nat.zero_le _, rfl, HE5, by rfl, (fun K hK => by cases hK), hb5⟩
    case round =>
     clear HE5 hb5
     rename World => wq
     obtain ⟨j, bs, bv, hj, rfl, HEB, HBM, HKB, hbq⟩ := hrel
     have hbs : bs.length = j := by
      have := congrArg List.length HBM.out
      rw [List.length_map, List.length_take, HRL.out.2.2] at this
      omega
     have hown : wq.ownsRow w.heap.size 61 1 bv bs.length (bs.map (·.1)) := HEB.out.own (⟨bv, 61, 1, bs.length, bs.map (fun b : Value × List Tal => b.1)⟩ : Own1) (by unfold mkE bagsE; simp)
     have ev := own_is hown
     obtain ⟨ba, hba⟩ : ∃ z, adOf bv = z := ⟨_, rfl⟩
     obtain ⟨bc, hbc⟩ : ∃ z, cpOf bv = z := ⟨_, rfl⟩
     rw [hba, hbc, hbs] at ev
     rw [hbs] at hown
     clear hba hbc
     subst ev
     have HOWN : Hid (wq.ownsRow w.heap.size 61 1 (.slice ba j bc) j (bs.map (·.1))) := hown
     have hbw : Below w.heap.size w wq := hbr.trans (hbq.mono hbr.size)
     have r3 := cL hbq q3
     obtain ⟨k0, k1, k2, kf⟩ := mkE_cells HEB.out
     have lx : X < wq.heap.size := World.block_lt_of_cell? _ _ k0
     have lbq : b < wq.heap.size := World.block_lt_of_cell? _ _ r3
     have hsq := hbq.size
     clear hown
     by_cases hjl : j < bl
     ·obtain ⟨hb, ho, ey, z1⟩ := HEA.out.hs j (by rw [HEA.out.len, HRL.out.2.2]; exact hjl)
      have hln := HEA.out.hl j (by rw [HRL.out.2.2]; exact hjl)
      have hbg := HEA.out.bag j (by rw [HRL.out.2.2]; exact hjl)
      dsimp only at ey z1 hln hbg
      rw [hln] at z1
      subst ey
      have HTJ : Hid (gg.bags.take (j + 1) = gg.bags.take j ++ [gg.bags.getD j []]) := by
       show _ = _
       have hjb : j < gg.bags.length := by rw [HRL.out.2.2]; exact hjl
       rw [List.take_succ_eq_append_getElem hjb, List.getD_eq_getElem?_getD, List.getElem?_eq_getElem hjb]; rfl
      have hll : (gg.bags.getD j []).length ≤ 1073741824 := HBI.out.2.2 _ (by
       have hjb : j < gg.bags.length := by rw [HRL.out.2.2]; exact hjl
       rw [List.getD_eq_getElem?_getD, List.getElem?_eq_getElem hjb]; exact List.getElem_mem hjb)
      obtain ⟨l, hl⟩ : ∃ z, gg.bags.getD j [] = z := ⟨_, rfl⟩
      obtain ⟨⟨ta, tx, tc⟩, hth⟩ : ∃ z, yh.getD j (none, 0, 0) = z := ⟨_, rfl⟩
      rw [hl] at z1 hbg hll HTJ
      rw [hth] at z1 hbg
      dsimp only at z1 hbg
      have q4 := cL hbw z1
      have hbg2 := bagAt_below hbg (hbw.drew)
      obtain ⟨ca, cc, w6, hr6, hown6, hb6⟩ := run_clone0 wq.drew 61 61 82 iHT (.agg #[.int .i64 0, .int .i64 0, .string ⟨#[]⟩, .int .i64 0]) 4 40 Tryz.underlying61 HT.out.1 HT.out.2.1 HT.out.2.2.1 HT.out.2.2.2 rfl (by decide) ta l.length tc (talCells l) (talLen l) (cellsAt_tal hbg2 (fun e => by subst e; exact none_empty hbg2)) (tal_one l) (by omega) (by omega)
      have HW6 : Hid (w6.ownsRow wq.heap.size 82 4 (.slice ca l.length cc) l.length (talCells l)) := hown6
      have hb6q : Below wq.heap.size wq w6 := bR.drew.trans hb6
      obtain ⟨ln, hlne⟩ : ∃ z, l.length = z := ⟨_, rfl⟩
      have HLE : Hid (l.length = ln) := hlne
      rw [hlne] at q4 hr6
      have HR6 : Hid ((Builtin.append_ #[61, 61] 61 #[.slice (some ⟨wq.heap.size, 0, none⟩) 0 0, .slice ta ln tc]).run Tryz.prog (wq.drew.alloc (.cells #[] 82)) = .ok (.slice ca ln cc) w6) := hr6
      have HOB : Hid ((w6.alloc (.cells #[.slice ca ln cc] 61)).ownsRow w.heap.size 61 1 (.slice ba j bc) j (bs.map (·.1))) := ch.own_below HOWN.out (hb6q.alloc hb6q.size _)
      have m2 := cL hb6q k2
      have mf : w6.frozen? ⟨X, 2, none⟩ = false := by rw [hb6q.frozen (p := ⟨X, 2, none⟩) lx]; exact kf 2
      have i3 : (0 : Int) ≤ (j : Int) := by omega
      have i4 : (j : Int) < (bl : Int) := by omega
      have lowq := HEB.out.low
      have hs6 := hb6q.size
      have lx6 : X < w6.heap.size := by omega
      have lhb : hb < wq.heap.size := World.block_lt_of_cell? _ _ q4
      have HXB : Hid (∀ K, (Value.slice ba j bc).ownBlock = some K → K ≠ X) := fun K hK e => by
       have hp := HEB.out.two
       unfold mkE at hp
       have h1 := (List.pairwise_cons.1 hp).1 (⟨.slice ba j bc, 61, 1, bs.length, bs.map (·.1)⟩ : Own1) (by unfold bagsE; simp)
       exact h1 X rfl (by rw [← e]; exact hK)
      clear hr6 hl hth z1 hbg hbg2 hown6 hlne hln hll hb6 k0 k1 HOWN HOL
      go_upto_block 3 with fail
      go_cut [] (fun wc => ∃ bv', Hid (Est wc w.heap.size (mkE X (.slice ad6 rl c6) gg.row nn bv' (bs ++ [(.slice ca ln cc, l)]) u3 L)) ∧ Hid (∀ K, bv'.ownBlock = some K → wr.heap.size ≤ K) ∧ Below wr.heap.size wr wc)
      case first =>
       go_wp2_with fail
       go_region_law (first
        | (refine step_append_runI rfl (.tmp 37) (.tmp 45) 61 61 rfl (.slice (some ⟨wq.heap.size, 0, none⟩) 0 0) (.slice ta ln tc) (by simp [Act.eval, Act.put]) (by simp [Act.eval, Act.put]) HR6.out ?_)
        | (refine step_append_lies _ rfl (.tmp 36) (.tmp 47) 51 rfl w.heap.size 61 iHB (.slice none 0 0) 1 24 Tryz.underlying51 HB.out.1 HB.out.2.1 HB.out.2.2.1 HB.out.2.2.2 rfl (by decide) (.slice ba j bc) j (bs.map (·.1)) (by simp [Act.eval, Act.put]) HOB.out ⟨w6.heap.size, 0, none⟩ 1 1 [.slice ca ln cc] (by simp [Act.eval, Act.put]) rfl (cell_new1 _ _ _ rfl) (by intro u hu; simp at hu; subst hu; rfl) (by decide) (by unfold maxLen; omega) (by omega) (by simp; omega) (w6.heap.size + 1) (by simp) ?_; intro g9 cap9 w9 hown9 hgrow9 hat9 hlt9; have m9 := own_after hgrow9 HXB.out m2 mf; have lx9 : X < w9.heap.size := World.block_lt_of_cell? _ _ m9.1; have m91 := m9.1; have m92 := m9.2; clear m9))
       all_goals
        go_wp2
        go_meet
        refine ⟨.slice (some ⟨g9, 0, none⟩) (j + 1) cap9, ?_, ?_, ?_⟩
        ·have hb6a : Below wq.heap.size wq (w6.alloc (.cells #[.slice ca ln cc] 61)) := hb6q.alloc hb6q.size _
         refine mkE_app HEB.out hb6a ?_ hgrow9.size (fun k hk hne => hgrow9.block k hk (fun e => hne e.symm)) (by rw [hbs]; exact hown9) (fun g hg => by cases hg; rcases hat9 with h | h; exact .inl h; exact .inr (by simp; omega))
         have h := ch.own_below HW6.out ((Below.refl w6.heap.size w6).alloc nR (.cells #[.slice ca ln cc] 61))
         rw [HLE.out] at h ⊢
         exact h
        ·intro K hK
         cases hK
         rcases hat9 with h | h
         ·exact HKB.out _ h
         ·show wr.heap.size ≤ g9; omega
        ·exact (((hbq.trans (hb6q.mono hsq)).alloc (by omega) _).grown hgrow9 (by simp; omega) (fun k hk => HKB.out k hk)).setCell hX _
      case rest =>
       obtain ⟨bv9, HE9, HK9, hb9⟩ := hcut
       have HM9 : Hid ((bs ++ [((.slice ca ln cc : Value), l)]).map (·.2) = gg.bags.take (j + 1)) := by
        show _ = _
        rw [List.map_append, HBM.out, HTJ.out]; rfl
       clear HR6 HOB m2 mf HEB HW6 q4 r3 k2 kf
       go_wp2
       go_roundw
       case rel => exact ⟨j + 1, _, bv9, by omega, by go_num, HE9, HM9, HK9, hb9⟩
       case measure => simp [intOf]; omega
     ·have hje : j = bl := by omega
      subst hje
      have hLi : L.length = i := by
       have := congrArg List.length HLM.out
       rw [List.length_map, List.length_take, HN.out] at this
       omega
      have HUO : Hid (wq.ownsRow w.heap.size 53 3 u3 L.length (gcells L)) := HEB.out.own (headO u3 L) (by unfold mkE bagsE; simp)
      have ev2 := own_is HUO.out
      obtain ⟨ua, hua⟩ : ∃ z, adOf u3 = z := ⟨_, rfl⟩
      obtain ⟨uc, huc⟩ : ∃ z, cpOf u3 = z := ⟨_, rfl⟩
      rw [hua, huc, hLi] at ev2
      rw [hLi] at HUO
      clear hua huc
      subst ev2
      have HOU : Hid ((wq.alloc (.cells #[.slice ad6 rl c6, .int .i64 nn, .slice ba j bc] 53)).ownsRow w.heap.size 53 3 (.slice ua i uc) i (gcells L)) := World.ownsRow.alloc HUO.out _
      have HCN : Hid (∀ q v, ([.slice ad6 rl c6, .int .i64 nn, .slice ba j bc] : List Value)[q]? = some v → (wq.alloc (.cells #[.slice ad6 rl c6, .int .i64 nn, .slice ba j bc] 53)).cell? ((⟨wq.heap.size, 0, none⟩ : Addr).add q) = some v) := fun q v hv => by
       match q, hv with
       | 0, hv => simp at hv; subst hv; rw [ch.add_at]; go_simp
       | 1, hv => simp at hv; subst hv; rw [ch.add_at]; go_simp
       | 2, hv => simp at hv; subst hv; rw [ch.add_at]; go_simp
       | q + 3, hv => simp at hv
      have lowq := HEB.out.low
      have HUL : Hid (∀ K, (Value.slice ua i uc).ownBlock = some K → w.heap.size ≤ K) := fun K hK => (ch.own_lt HUO.out hK).1
      clear HUO
      go_wp2_with (at_builtin; refine wpList_append_lies _ rfl (.tmp 50) (.tmp 52) 26 rfl w.heap.size 53 iHG (.agg #[.slice none 0 0, .int .i64 0, .slice none 0 0]) 3 56 Tryz.underlying26 HG.out.1 HG.out.2.1 HG.out.2.2.1 HG.out.2.2.2 rfl (by decide) (.slice ua i uc) i (gcells L) rfl HOU.out ⟨wq.heap.size, 0, none⟩ 1 1 [.slice ad6 rl c6, .int .i64 nn, .slice ba j bc] rfl rfl HCN.out (by intro u hu; simp at hu; rcases hu with rfl | rfl | rfl <;> rfl) (by decide) (by unfold maxLen; omega) (by omega) (by simp; omega) (wq.heap.size + 1) (by simp) ?_; intro g9 cap9 w9 hown9 hgrow9 hat9 hlt9)
      have HFIN : Hid (OG w9 w.heap.size (.slice (some ⟨g9, 0, none⟩) (i + 1) cap9) (L ++ [⟨.slice ad6 rl c6, gg.row, nn, .slice ba j bc, bs⟩])) :=
       mkE_end HEB.out (by have := hgrow9.size; simp at this; omega) (fun k hk hne => by rw [hgrow9.block k (by simp; omega) (fun e => hne e.symm)]; exact Below.heap_alloc _ _ _ hk) (by rw [hLi]; exact hown9) (fun g hg => by cases hg; rcases hat9 with h | h; exact .inl h; exact .inr (by show wq.heap.size ≤ g9; omega))
      have HMAP : Hid ((L ++ [(⟨.slice ad6 rl c6, gg.row, nn, .slice ba j bc, bs⟩ : GO)]).map GO.grp = gs.take (i + 1)) := by
       show _ = _
       rw [List.map_append, HLM.out, HT2.out]
       congr 1
       show [(⟨gg.row, nn, bs.map (·.2)⟩ : Grp)] = [gg]
       rw [HBM.out, List.take_of_length_le (by rw [HRL.out.2.2]; exact Nat.le_refl _), ← HRL.out.2.1]
      have hb9 : Below w.heap.size w w9 := (hbw.alloc lowq _).grown hgrow9 (by simp; omega) (fun k hk => HUL.out k hk)
      go_wp2
      go_roundw
      case rel => exact ⟨i + 1, _, by omega, by go_num, HFIN, HMAP, hb9⟩
      case measure => simp [intOf]; omega
  ·have hie : i = n := by omega
   subst hie
   have HLG : Hid (L.map GO.grp = gs) := by show _ = _; rw [HLM.out, List.take_of_length_le (by rw [HN.out]; exact Nat.le_refl _)]
   have ev := own_is HOL.out.head
   obtain ⟨ua, hua⟩ : ∃ z, adOf u3 = z := ⟨_, rfl⟩
   obtain ⟨uc, huc⟩ : ∃ z, cpOf u3 = z := ⟨_, rfl⟩
   rw [hua, huc] at ev
   clear hua huc
   subst ev
   obtain ⟨ll, hll⟩ : ∃ z, L.length = z := ⟨_, rfl⟩
   have HLL : Hid (L.length = ll) := hll
   rw [hll] at HOL ⊢
   clear hll
   go_wp2
   go_ret
   exact ⟨⟨ua, uc, L, by rw [HLL.out]; rfl, by rw [HLL.out]; exact HOL.out, HLG.out⟩, hbr⟩
def cntsOf (l : List Tal) : List ch.Cnt := l.map fun t => ⟨[t.1], t.2⟩
theorem cntsOf_take (l : List Tal) (k : Nat) (h : k < l.length) : cntsOf (l.take (k + 1)) = cntsOf (l.take k) ++ [⟨[(l.getD k default).1], (l.getD k default).2⟩] := by
 unfold cntsOf
 rw [List.take_succ_eq_append_getElem h, List.map_append, List.getD_eq_getElem?_getD, List.getElem?_eq_getElem h]; rfl
theorem cntsOf_len (l : List Tal) : (cntsOf l).length = l.length := by unfold cntsOf; simp
theorem cntsOf_mem {l : List Tal} {c : ch.Cnt} (h : c ∈ cntsOf l) : ∃ t ∈ l, c = ⟨[t.1], t.2⟩ := by
 unfold cntsOf at h
 obtain ⟨t, ht, rfl⟩ := List.mem_map.1 h
 exact ⟨t, ht, rfl⟩
theorem bagOf_cnts (l : List Tal) : bagOf 0 (cntsOf l) = l := by
 unfold bagOf cntsOf
 rw [List.map_map]
 exact (List.map_congr_left (g := id) (fun t _ => rfl)).trans (List.map_id l)
theorem figC_cnts (fn n : Int) (l : List Tal) (h : fn ≠ 1) : figC (fn, 0) (cntsOf l) = figT fn n l := by
 rw [← figT_of]
 dsimp only
 rw [show (0 : Int).toNat = 0 from rfl, bagOf_cnts]
 unfold figT
 rw [if_neg h, if_neg h]
theorem row_one_new (w : World) (c : Cel) (t : TypeId) : vl.rowAt (w.alloc (.cells #[.int .i64 c.k, .int .i64 c.n, .string c.s] t)) (some ⟨w.heap.size, 0, none⟩) [c] := by
 intro i hi
 have h0 : i = 0 := by simpa using hi
 subst h0
 refine ⟨_, _, rfl, ?_, ?_, ?_⟩ <;> go_simp
theorem step_appCn {ops : Array Oper} {o : Oper} {a : Act} {K : Act → World → Prop} {Q : Exit → Act → World → Prop} {E : Prop} (hgd : o.guard = none) (s x : Operand)
 (hop : o.op = .call { callee := .builtin .append, args := #[s, x], argTypes := #[27, 27] })
 (base : Nat) (v : Value) (n : Nat) (xs : List Value) (rv : Value) (m : Int) (w1 : World) (B : Nat) (hB : w1.heap.size = B) (ho : w1.ownsRow base 71 2 v n xs) (hl : n ≤ 1073741824) (hb : base ≤ w1.heap.size) (h1 : rv.oneCell' = true)
 (hs : a.eval s = v) (hx : a.eval x = .slice (some ⟨B, 0, none⟩) 1 1)
 (h : ∀ g cap2 w2, w2.ownsRow base 71 2 (.slice (some ⟨g, 0, none⟩) (n + 1) cap2) (n + 1) (xs ++ [rv, .int .i64 m]) → (w1.alloc (.cells #[rv, .int .i64 m] 71)).grownBy w2 v.ownBlock → (v.ownBlock = some g ∨ g = w1.heap.size + 1) → g < w2.heap.size → K (a.put o.dst (.slice (some ⟨g, 0, none⟩) (n + 1) cap2)) w2) :
 if Region.wanted o (yielded ops a.tmps) = true then Oper.wp Tryz.prog o a (w1.alloc (.cells #[rv, .int .i64 m] 71)) K Q else E := by
 subst hB
 obtain ⟨i0, hi, hz0, hz1, hz2⟩ := info_parts ch.infoC
 exact step_append_lies _ hgd s x 27 hop base 71 i0 (.agg #[.slice none 0 0, .int .i64 0]) 2 32 Tryz.underlying27 hi hz0 hz1 hz2 rfl (by decide) v n xs hs
  (World.ownsRow.alloc ho _) ⟨w1.heap.size, 0, none⟩ 1 1 [rv, .int .i64 m] hx rfl (cell_two_new _ _ _ _) (by intro u hu; simp at hu; rcases hu with rfl | rfl; exact h1; rfl) (by decide) (by unfold maxLen; omega) (by omega) (by simp; omega) (w1.heap.size + 1) (by simp) h
set_option maxRecDepth 100000 in
set_option maxHeartbeats 16000000 in
theorem rowOf_any (p : Pln) (x : PA) (y : GX) (g : Grp) (w : World) (hp : planAt w p x) (hga : gAt w y g) (hok : okG p g) (ma : p.aggs.length ≤ 4) (hag : ∀ j, j < p.aggs.length → 1 ≤ (p.aggs.getD j (0, 0)).1 ∧ (p.aggs.getD j (0, 0)).1 ≤ 4)
 (hsum : ∀ j, j < p.aggs.length → (p.aggs.getD j (0, 0)).1 = 2 → ∀ t ∈ g.bags.getD j [], t.1.k = 0 ∨ t.1.k = 2) :
 Calls Tryz.prog 36 #[planV p x, grpV y g] w fun e w' => (∃ ad c, e = .returned (.slice ad (g.row ++ figsG p g).length c) ∧ ownV w' w.heap.size (.slice ad (g.row ++ figsG p g).length c) (g.row ++ figsG p g)) ∧ Below w.heap.size w w' := by
 have HFT : Hid (∀ j, j < p.aggs.length → (figsG p g).take (j + 1) = (figsG p g).take j ++ [figT (p.aggs.getD j (0, 0)).1 g.n (g.bags.getD j [])]) := fun j h => figsG_take p g j h
 have HFL : Hid ((figsG p g).length = p.aggs.length) := figsG_len p g
 have HAG : Hid (∀ j, j < p.aggs.length → ∃ b off, x.a = some ⟨b, off, none⟩ ∧ w.cell? ⟨b, off + j * 2, none⟩ = some (.int .i64 (p.aggs.getD j (0, 0)).1) ∧ w.cell? ⟨b, off + j * 2 + 1, none⟩ = some (.int .i64 (p.aggs.getD j (0, 0)).2)) := hp.a
 have HFN : Hid (∀ j, j < p.aggs.length → 1 ≤ (p.aggs.getD j (0, 0)).1 ∧ (p.aggs.getD j (0, 0)).1 ≤ 4) := hag
 have hbl := hok.bl
 have hrl := hok.rl
 have HB : Hid (∀ j, j < p.aggs.length → (g.bags.getD j []).length ≤ 1073741824 ∧ (∃ hb ho, y.b = some ⟨hb, ho, none⟩ ∧ w.cell? ⟨hb, ho + j, none⟩ = some (.slice (y.hs.getD j (none, 0, 0)).1 (g.bags.getD j []).length (y.hs.getD j (none, 0, 0)).2.2)) ∧ bagAt w (y.hs.getD j (none, 0, 0)).1 (g.bags.getD j [])) := fun j hj => by
  have hj2 : j < g.bags.length := by rw [hbl]; exact hj
  obtain ⟨b1, o1, e1, z1⟩ := hga.hs j (by rw [hga.len]; exact hj2)
  rw [hga.hl j hj2] at z1
  exact ⟨hok.tl _ (by rw [List.getD_eq_getElem?_getD, List.getElem?_eq_getElem hj2]; exact List.getElem_mem hj2), ⟨b1, o1, e1, z1⟩, hga.bag j hj2⟩
 have KF : Hid (∀ j ad cap w1, j < p.aggs.length → (p.aggs.getD j (0, 0)).1 ≠ 1 → ch.viewAt w1 ad (cntsOf (g.bags.getD j [])) → Calls Tryz.prog 79 #[.agg #[.int .i64 (p.aggs.getD j (0, 0)).1, .int .i64 0], .slice ad (g.bags.getD j []).length cap] w1 fun e w' => e = .returned (celV (figT (p.aggs.getD j (0, 0)).1 g.n (g.bags.getD j []))) ∧ Below w1.heap.size w1 w') := fun j ad cap w1 hj h1 hv => by
  have := rfigure_any ad cap (cntsOf (g.bags.getD j [])) ((p.aggs.getD j (0, 0)).1, 0) w1 (by rw [cntsOf_len]; exact (HB.out j hj).1) hv (hag j hj) (fun _ => ⟨Int.le_refl _, fun c hc => by obtain ⟨t, _, rfl⟩ := cntsOf_mem hc; show 0 < 1; omega⟩) (fun c hc => by obtain ⟨t, _, rfl⟩ := cntsOf_mem hc; show 1 ≤ _; omega) (fun h2 c hc => by obtain ⟨t, ht, rfl⟩ := cntsOf_mem hc; exact hsum j hj h2 t ht)
  rw [figC_cnts _ g.n _ h1, cntsOf_len] at this
  exact this
 have KC : Hid (∀ w1, Below w.heap.size w w1 → Calls Tryz.prog 65 #[.slice y.r g.row.length y.rc] w1 fun e w' => (∃ ad c, e = .returned (.slice ad g.row.length c) ∧ ownV w' w1.heap.size (.slice ad g.row.length c) g.row) ∧ Below w1.heap.size w1 w') := fun w1 hb => ch.copy_any _ _ _ w1 (vl.rowAt_below hga.row hb) (by omega)
 obtain ⟨fg, hfg⟩ : ∃ z, figsG p g = z := ⟨_, rfl⟩
 rw [hfg] at HFT HFL ⊢
 clear hfg hp hga hok hag hsum
 unfold grpV
 obtain ⟨hd, gn, bags⟩ := g
 obtain ⟨yr, yrc, yb, ybc, yhs⟩ := y
 dsimp only at HFT HB KF KC hrl hbl ⊢
 obtain ⟨BG, hBG⟩ : ∃ f : Nat → List Tal, ∀ j, bags.getD j [] = f j := ⟨_, fun _ => rfl⟩
 obtain ⟨HH, hHH⟩ : ∃ f : Nat → Option Addr × Nat × Nat, ∀ j, yhs.getD j (none, 0, 0) = f j := ⟨_, fun _ => rfl⟩
 simp only [hBG] at HFT HB KF
 simp only [hHH] at HB
 obtain ⟨hn, hhn⟩ : ∃ z, hd.length = z := ⟨_, rfl⟩
 have HHN : Hid (hd.length = hn) := hhn
 rw [hhn] at KC hrl ⊢
 rw [hbl]
 clear hbl hhn hBG hHH
 obtain ⟨kind, mode, low, high, size, limit, left, right, lkeys, rkeys, grouped, group, aggs⟩ := p
 obtain ⟨la, lc, rr, rc, lk, lkc, rk, rkc, ga, gc, ag, ac⟩ := x
 unfold planV
 dsimp only at HFT HFL HAG HFN HB KF ma ⊢
 obtain ⟨n6, h6⟩ : ∃ n, left.length = n := ⟨_, rfl⟩
 obtain ⟨n7, h7⟩ : ∃ n, right.length = n := ⟨_, rfl⟩
 obtain ⟨n8, h8⟩ : ∃ n, lkeys.length = n := ⟨_, rfl⟩
 obtain ⟨n9, h9⟩ : ∃ n, rkeys.length = n := ⟨_, rfl⟩
 obtain ⟨n11, h11⟩ : ∃ n, group.length = n := ⟨_, rfl⟩
 obtain ⟨n12, h12⟩ : ∃ n, aggs.length = n := ⟨_, rfl⟩
 simp only [h6, h7, h8, h9, h11, h12] at HFT HFL HAG HFN HB KF ma ⊢
 obtain ⟨AG, e9⟩ : ∃ f : Nat → Int × Int, ∀ j, aggs.getD j (0, 0) = f j := ⟨_, fun _ => rfl⟩
 simp only [e9] at HFT HAG HFN HB KF
 clear h6 h7 h8 h9 h11 h12 e9
 have HFE : Hid (fg.take n12 = fg) := by show _ = _; rw [← HFL.out, List.take_length]
 go_enter Tryz.func36, Tryz.ntmps36
 go_wp2_with fail
 generalize hV : (World.alloc (World.alloc w _) _) = U
 have hb0 : Below w.heap.size w U := by rw [← hV]; exact (bR.alloc nR _).alloc (by simp) _
 have hsU : U.heap.size = w.heap.size + 2 := by subst hV; simp
 have s12 : U.cell? ⟨w.heap.size, 12, none⟩ = some (.slice ag n12 ac) := by subst hV; go_simp
 have k1 : U.cell? ⟨w.heap.size + 1, 1, none⟩ = some (.int .i64 gn) := by subst hV; go_simp
 have k2 : U.cell? ⟨w.heap.size + 1, 2, none⟩ = some (.slice yb n12 ybc) := by subst hV; go_simp
 clear hV
 refine (KC.out _ hb0).mono ?_
 rintro e w1 ⟨⟨ad1, c1, rfl, hown1⟩, hb1⟩
 have HO1 : Hid (ownV w1 U.heap.size (.slice ad1 hn c1) hd) := hown1
 clear hown1 KC
 go_wp2
 go_loopw [5, 6] (fun rv i wq => ∃ j : Nat, j ≤ n12 ∧ i = .int .i64 j ∧ ownV wq U.heap.size rv (hd ++ fg.take j) ∧ Below U.heap.size U wq) (fun _ i _ => n12 - (intOf i).toNat)
 case atStart => exact ⟨0, Nat.zero_le _, rfl, by simpa using HO1.out, hb1⟩
 case round =>
  rename World => wq
  obtain ⟨j, hj, rfl, hrv, hbq⟩ := hrel
  have HRV : Hid (ownV wq U.heap.size u5 (hd ++ fg.take j)) := hrv
  have hsq := hbq.size
  have m12 := cL hbq s12
  have m1 := cL hbq k1
  have m2 := cL hbq k2
  have hbw : Below w.heap.size w wq := hb0.trans (hbq.mono hb0.size)
  have lq : w.heap.size + 1 < wq.heap.size := World.block_lt_of_cell? _ _ m1
  clear hrv
  by_cases hjl : j < n12
  ·obtain ⟨ab, ao, e, y1, y2⟩ := HAG.out j hjl
   obtain ⟨hbl, ⟨hb, ho, e2, y3⟩, hbag⟩ := HB.out j hjl
   have HF1 := HFT.out j hjl
   have hfn := HFN.out j hjl
   subst e
   subst e2
   have z1 := cL hbw y1
   have z2 := cL hbw y2
   have z3 := cL hbw y3
   have KFj : Hid (∀ ad cap w1, (AG j).1 ≠ 1 → ch.viewAt w1 ad (cntsOf (BG j)) → _) := fun ad cap w1 h1 hv => KF.out j ad cap w1 hjl h1 hv
   have HBA : Hid (bagAt wq (HH j).1 (BG j)) := bagAt_below hbag hbw
   obtain ⟨⟨af, acol⟩, hag⟩ : ∃ z, AG j = z := ⟨_, rfl⟩
   rw [hag] at z1 z2 KFj HF1 hfn
   obtain ⟨bg, hbg⟩ : ∃ z, BG j = z := ⟨_, rfl⟩
   rw [hbg] at z3 KFj HF1 HBA hbl
   obtain ⟨⟨h1, h2, h3⟩, hhh⟩ : ∃ z, HH j = z := ⟨_, rfl⟩
   rw [hhh] at z3 HBA
   obtain ⟨⟨fk, fv, fs⟩, hfc⟩ : ∃ z, figT af gn bg = z := ⟨_, rfl⟩
   dsimp only at z1 z2 z3 KFj HF1 HBA hfn
   have HFC : Hid (figT af gn bg = ⟨fk, fv, fs⟩) := hfc
   rw [hfc] at KFj HF1
   unfold celV at KFj
   dsimp only at KFj
   obtain ⟨bl, hbl2⟩ : ∃ z, bg.length = z := ⟨_, rfl⟩
   have HBL : Hid (bg.length = bl) := hbl2
   rw [hbl2] at z3 KFj hbl
   have HF2 : Hid (hd ++ fg.take (j + 1) = (hd ++ fg.take j) ++ [⟨fk, fv, fs⟩]) := by show _ = _; rw [HF1, List.append_assoc]
   have HRLE : Hid ((hd ++ fg.take j).length ≤ 1000000) := by show _ ≤ _; rw [List.length_append, HHN.out, List.length_take]; omega
   have j1 : (0 : Int) ≤ (j : Int) := by omega
   have j2 : (j : Int) < (n12 : Int) := by omega
   have lhb : hb < wq.heap.size := World.block_lt_of_cell? _ _ z3
   clear hag hbg hhh hfc HF1 y1 y2 y3 hbl2 hbag
   by_cases hf1 : af = 1
   ·subst hf1
    have hc : fk = 2 ∧ fv = gn ∧ fs = ⟨#[]⟩ := by
     have := HFC.out
     unfold figT at this
     rw [if_pos rfl] at this
     injection this with a b c
     exact ⟨a.symm, b.symm, c.symm⟩
    obtain ⟨rfl, rfl, rfl⟩ := hc
    go_wp2_with (at_builtin; refine append_cell rfl (.tmp 26) (.tmp 30) rfl U.heap.size u5 (hd ++ fg.take j) rfl wq HRV.out ⟨2, fv, ⟨#[]⟩⟩ wq.heap.size rfl rfl HRLE.out hsq ?_; intro v2 w3 hown3 hgrow3)
    have hbn := below_appendV hbq hsq HRV.out hgrow3
    go_roundw
    case rel => exact ⟨j + 1, by omega, by go_num, by rw [HF2.out]; exact hown3, hbn⟩
    case measure => simp [intOf]; omega
   ·have hf1' : (af == 1) = false := by simpa using hf1
    go_wp2
    go_loopw [7, 8] (fun vv i wz => ∃ (k : Nat) (L : ch.PL), k ≤ bl ∧ i = .int .i64 k ∧ ch.MV wz wq.heap.size vv L ∧ ch.outOf L = cntsOf (bg.take k) ∧ Below wq.heap.size wq wz) (fun _ i _ => bl - (intOf i).toNat)
    case atStart => exact ⟨0, [], Nat.zero_le _, rfl, ⟨Nat.le_refl _, World.ownsRow_nil _ _ _ _, fun p hp => (by cases hp)⟩, rfl, bR⟩
    case round =>
     rename World => wz
     obtain ⟨k, L, hk, rfl, hmv, hLo, hbz⟩ := hrel
     have HMV : Hid (ch.MV wz wq.heap.size u7 L) := hmv
     have HLO : Hid (ch.outOf L = cntsOf (bg.take k)) := hLo
     have hLl : L.length = k := by
      have e := congrArg List.length hLo
      rw [ch.out_len, cntsOf_len, List.length_take, HBL.out] at e
      omega
     have hlow : wq.heap.size ≤ wz.heap.size := hmv.low
     have t12 := cL hbz m12
     have t1 := cL hbz m1
     have t2 := cL hbz m2
     have t3 := cL hbz z3
     have tz1 := cL hbz z1
     have tz2 := cL hbz z2
     clear hmv hLo
     by_cases hkl : k < bl
     ·obtain ⟨tb, tO, et, x1, x2, x3, x4⟩ := HBA.out k (by rw [HBL.out]; exact hkl)
      have HCT := cntsOf_take bg k (by rw [HBL.out]; exact hkl)
      subst et
      obtain ⟨⟨⟨ck, cn, cs⟩, cm⟩, hx⟩ : ∃ z, bg.getD k default = z := ⟨_, rfl⟩
      rw [hx] at x1 x2 x3 x4 HCT
      dsimp only at x1 x2 x3 x4
      have HC2 : Hid (cntsOf (bg.take (k + 1)) = cntsOf (bg.take k) ++ [⟨[⟨ck, cn, cs⟩], cm⟩]) := HCT
      have b1 := cL hbz x1
      have b2 := cL hbz x2
      have b3 := cL hbz x3
      have b4 := cL hbz x4
      have ltb : tb < wq.heap.size := World.block_lt_of_cell? _ _ x1
      have HL1 : Hid ((wz.drew.alloc (.cells #[.int .i64 ck, .int .i64 cn, .string cs] 68)).ownsRow wq.heap.size 71 2 u7 k (ch.flatP L)) := by
       have := HMV.out.own
       rw [hLl] at this
       exact World.ownsRow.alloc (show wz.drew.ownsRow _ _ _ _ _ _ from this) _
      have HNE : Hid (u7.ownBlock ≠ some (w.heap.size + 1) ∧ u7.ownBlock ≠ some hb ∧ u7.ownBlock ≠ some tb) := by
       refine ⟨fun h => ?_, fun h => ?_, fun h => ?_⟩ <;> (have := (ch.own_lt HMV.out.own h).1; omega)
      have i1 : (0 : Int) ≤ (k : Int) := by omega
      have i2 : (k : Int) < (bl : Int) := by omega
      have hbA : Below wz.heap.size wz (wz.drew.alloc (.cells #[.int .i64 ck, .int .i64 cn, .string cs] 68)) := bR.drew.alloc (by simp) _
      have hbB : Below wz.heap.size wz ((wz.drew.alloc (.cells #[.int .i64 ck, .int .i64 cn, .string cs] 68)).alloc (.cells #[.slice (some ⟨wz.heap.size, 0, none⟩) 1 1, .int .i64 cm] 71)) := hbA.alloc (by simp) _
      clear hx HCT x1 x2 x3 x4
      go_wp2
      go_region_held3 (fun w' => w'.cell? ⟨w.heap.size + 1, 2, none⟩ = some (.slice (some ⟨hb, ho, none⟩) n12 ybc) ∧ w'.cell? ⟨hb, ho + j, none⟩ = some (.slice (some ⟨tb, tO, none⟩) bl h3) ∧ w'.cell? ⟨tb, tO + k * 4, none⟩ = some (.int .i64 ck) ∧ w'.cell? ⟨tb, tO + k * 4 + 1, none⟩ = some (.int .i64 cn) ∧ w'.cell? ⟨tb, tO + k * 4 + 1 + 1, none⟩ = some (.string cs) ∧ w'.cell? ⟨tb, tO + k * 4 + 3, none⟩ = some (.int .i64 cm)) (first | exact ⟨farC hgrow8 (cL hbA t2) HNE.out.1, farC hgrow8 (cL hbA t3) HNE.out.2.1, farC hgrow8 (cL hbA b1) HNE.out.2.2, farC hgrow8 (cL hbA b2) HNE.out.2.2, farC hgrow8 (cL hbA b3) HNE.out.2.2, farC hgrow8 (cL hbA b4) HNE.out.2.2⟩ | exact ⟨cL hbA t2, cL hbA t3, cL hbA b1, cL hbA b2, cL hbA b3, cL hbA b4⟩ | exact ⟨cL hbB t2, cL hbB t3, cL hbB b1, cL hbB b2, cL hbB b3, cL hbB b4⟩ | go_keep)
       (first
        | (refine step_appCn (by rfl) (.tmp 42) (.tmp 63) (by rfl) wq.heap.size u7 k (ch.flatP L) (.slice (some ⟨wz.heap.size, 0, none⟩) 1 1) cm (wz.drew.alloc (.cells #[.int .i64 ck, .int .i64 cn, .string cs] 68)) (wz.heap.size + 1) (by simp) HL1.out (by omega) (by simp; omega) rfl (by simp [Act.eval, Act.put]) (by simp [Act.eval, Act.put]) ?_; intro g8 cap8 w8 hown8 hgrow8 hat8 hlt8))
      all_goals
       have hsn := MV_snoc (rc := 1) (r := [⟨ck, cn, cs⟩]) (m := cm) (cap := cap8) HMV.out hbA (row_one_new wz.drew ⟨ck, cn, cs⟩ 68) (fun b hb => by cases hb; simp) (by rw [flatP_snoc, hLl]; exact hown8) hgrow8 hat8
       have HSN : Hid (ch.MV w8 wq.heap.size (.slice (some ⟨g8, 0, none⟩) (k + 1) cap8) (L ++ [(.slice (some ⟨wz.drew.heap.size, 0, none⟩) 1 1, ⟨[⟨ck, cn, cs⟩], cm⟩)]) ∧ Below wq.heap.size wq w8) := by
        have h1 := hsn.1
        rw [hLl] at h1
        exact ⟨h1, hbz.trans (hsn.2.mono nR)⟩
       clear hsn
       go_wp2
       go_roundw
       case rel => exact ⟨k + 1, _, by omega, by go_num, HSN.out.1, by rw [HC2.out, ← HLO.out]; simp [ch.outOf], HSN.out.2⟩
       case measure => simp [intOf]; omega
     ·have hke : k = bl := by omega
      subst hke
      obtain ⟨ad, cap', hu, _⟩ := ch.MV_len HMV.out
      rw [hLl] at hu
      subst hu
      have HVW : Hid (ch.viewAt wz ad (cntsOf bg)) := by have := ch.MV_view HMV.out; rw [HLO.out, ← HBL.out, List.take_length] at this; exact this
      have KF3 : Hid (∀ cap, _) := fun cap => KFj.out ad cap wz hf1 HVW.out
      have HRZ : Hid (ownV wz U.heap.size u5 (hd ++ fg.take j)) := ownV_below HRV.out hbz
      have hbUz : Below U.heap.size U wz := hbq.trans (hbz.mono hsq)
      clear hLl
      go_wp2_with (first | (go_at_call 79; refine (KF3.out _).mono ?_; rintro e w5 ⟨rfl, hb5⟩; have HR5 : Hid (ownV w5 U.heap.size u5 (hd ++ fg.take j)) := ownV_below HRZ.out hb5; have hbU5 : Below U.heap.size U w5 := hbUz.trans (hb5.mono hbUz.size)) | (at_builtin; refine append_cell rfl (.tmp 65) (.tmp 75) rfl U.heap.size u5 (hd ++ fg.take j) rfl w5 HR5.out ⟨fk, fv, fs⟩ w5.heap.size rfl rfl HRLE.out hbU5.size ?_; intro v2 w3 hown3 hgrow3))
      have hbn := below_appendV hbU5 hbU5.size HR5.out hgrow3
      go_roundw
      case rel => exact ⟨j + 1, by omega, by go_num, by rw [HF2.out]; exact hown3, hbn⟩
      case measure => simp [intOf]; omega
  ·have hje : j = n12 := by omega
   subst hje
   have HRE : Hid (ownV wq U.heap.size u5 (hd ++ fg)) := by have := HRV.out; rw [HFE.out] at this; exact this
   obtain ⟨ad5, cap5, hv5⟩ := ownV_form HRE.out
   subst hv5
   go_wp2
   go_ret
   exact ⟨⟨ad5, cap5, rfl, World.ownsRow.mono HRE.out (by omega)⟩, hbw⟩
end Go.Proofs.YtbfbgdinhiglaaaGreat.gr
