import Derived.Test.YtbfbgdinhiglaaaGreatS25
import Derived.Test.YtbfbgdinhiglaaaGreatS19
import Derived.Test.YtbfbgdinhiglaaaGreatS20
import Derived.Test.YtbfbgdinhiglaaaGreatS9
namespace Go.Proofs.YtbfbgdinhiglaaaGreat.gr
open Go.ChangeShapes Go.WideShapes Go.ChangeAt Go.RowKit
open vl pl bt
set_option linter.unusedVariables false
set_option linter.unusedSimpArgs false
attribute [local go_sem] Oper.semAt_some
theorem cel_one : ∀ (l : List Cel), ∀ u ∈ celCells l, u.oneCell' = true := fun l u hu => by
 unfold celCells at hu
 obtain ⟨t, _, ht⟩ := List.mem_flatMap.1 hu
 simp at ht
 rcases ht with rfl | rfl | rfl <;> rfl
set_option maxRecDepth 100000 in
set_option maxHeartbeats 8000000 in
theorem copied_any (a : Option Addr) (cap : Nat) (xs : List GX) (gs : List Grp) (w : World) (hgs : gsAt w a xs gs) (hn : gs.length ≤ 1000000) (hbd : ∀ g ∈ gs, g.row.length ≤ 1000 ∧ g.bags.length ≤ 1000 ∧ ∀ l ∈ g.bags, l.length ≤ 1073741824) :
 Calls Tryz.prog 38 #[.slice a gs.length cap] w fun e w' => (∃ ad c L, e = .returned (.slice ad L.length c) ∧ OG w' w.heap.size (.slice ad L.length c) L ∧ L.map GO.grp = gs) ∧ Below w.heap.size w w' := by
 obtain ⟨iHT, aHT, bHT, cHT, dHT⟩ := info_parts infoT
 obtain ⟨iHG, aHG, bHG, cHG, dHG⟩ := info_parts infoG
 obtain ⟨iHB, aHB, bHB, cHB, dHB⟩ := info_parts infoBg
 obtain ⟨iHV, aHV, bHV, cHV, dHV⟩ := info_parts Tryz.infoV
 have HT : Hid (Tryz.prog.info? 82 = some iHT ∧ iHT.zero = some (.agg #[.int .i64 0, .int .i64 0, .string ⟨#[]⟩, .int .i64 0]) ∧ iHT.size = 4 ∧ iHT.bytes = 40) := ⟨aHT, bHT, cHT, dHT⟩
 have HG : Hid (Tryz.prog.info? 53 = some iHG ∧ iHG.zero = some (.agg #[.slice none 0 0, .int .i64 0, .slice none 0 0]) ∧ iHG.size = 3 ∧ iHG.bytes = 56) := ⟨aHG, bHG, cHG, dHG⟩
 have HB : Hid (Tryz.prog.info? 61 = some iHB ∧ iHB.zero = some (.slice none 0 0) ∧ iHB.size = 1 ∧ iHB.bytes = 24) := ⟨aHB, bHB, cHB, dHB⟩
 have HV : Hid (Tryz.prog.info? 68 = some iHV ∧ iHV.zero = some (.agg #[.int .i64 0, .int .i64 0, .string ⟨#[]⟩]) ∧ iHV.size = 3 ∧ iHV.bytes = 32) := ⟨aHV, bHV, cHV, dHV⟩
 clear aHT bHT cHT dHT aHG bHG cHG dHG aHB bHB cHB dHB aHV bHV cHV dHV
 have HGS : Hid (gsAt w a xs gs) := hgs
 have HBD : Hid (∀ i, i < gs.length → (gs.getD i default).row.length ≤ 1000 ∧ (gs.getD i default).bags.length ≤ 1000 ∧ ∀ l ∈ (gs.getD i default).bags, l.length ≤ 1073741824) := fun i hi => hbd _ (by rw [List.getD_eq_getElem?_getD, List.getElem?_eq_getElem hi]; exact List.getElem_mem hi)
 have HTK : Hid (∀ i, i < gs.length → gs.take (i + 1) = gs.take i ++ [gs.getD i default]) := fun i hi => by
  show _ = _
  rw [List.take_succ_eq_append_getElem hi, List.getD_eq_getElem?_getD, List.getElem?_eq_getElem hi]; rfl
 obtain ⟨n, hne⟩ : ∃ z, gs.length = z := ⟨_, rfl⟩
 have HN : Hid (gs.length = n) := hne
 rw [hne] at hn HBD HTK ⊢
 clear hgs hbd hne
 obtain ⟨w0, hmk0, hown0, hgrow0⟩ := run_make_own (P := Tryz.prog) w w.heap.size 26 53 iHG (.agg #[.slice none 0 0, .int .i64 0, .slice none 0 0]) 3 Tryz.underlying26 HG.out.1 HG.out.2.1 HG.out.2.2.1 .i64 .i64 n (by rw [HG.out.2.2.2]; omega) (by unfold maxLen; omega) nR
 have hb00 : Below w.heap.size w w0 := bR.grown hgrow0 nR (fun k hk => by cases hk)
 have HO0 : Hid (OG w0 w.heap.size (.slice (some ⟨w.heap.size, 0, none⟩) 0 n) []) := ⟨hb00.size, fun y hy => by
  rcases List.mem_cons.1 hy with rfl | hy
  ·exact hown0
  ·exact absurd hy List.not_mem_nil, List.pairwise_cons.2 ⟨fun y hy => absurd hy List.not_mem_nil, List.Pairwise.nil⟩⟩
 clear hown0 hgrow0
 go_enter Tryz.func38, Tryz.ntmps38
 go_wp2
 go_loopw [3, 14] (fun u t wr => ∃ (i : Nat) (L : List GO), i ≤ n ∧ t = .int .i64 i ∧ Hid (OG wr w.heap.size u L) ∧ Hid (L.map GO.grp = gs.take i) ∧ Below w.heap.size w wr) (fun _ t _ => n - (intOf t).toNat)
 case atStart => exact ⟨0, [], Nat.zero_le _, rfl, HO0, by rfl, hb00⟩
 case round =>
  clear HO0 hmk0 hb00
  obtain ⟨i, L, hi, rfl, HOL, HLM, hbr⟩ := hrel
  by_cases hlt : i < n
  ·obtain ⟨b, o, e, x1, x2, x3⟩ := HGS.out.cells i (by rw [HN.out]; exact hlt)
   have hea := HGS.out.each i (by rw [HN.out]; exact hlt)
   have hbdi := HBD.out i hlt
   have HT1 := HTK.out i hlt
   subst e
   obtain ⟨gg, hgg⟩ : ∃ z, gs.getD i default = z := ⟨_, rfl⟩
   obtain ⟨⟨yr, yrc, yb, ybc, yh⟩, hyy⟩ : ∃ z, xs.getD i default = z := ⟨_, rfl⟩
   rw [hgg] at x1 x2 x3 hea hbdi HT1
   rw [hyy] at x1 x3 hea
   dsimp only at x1 x3
   have q1 := cL hbr x1
   have q2 := cL hbr x2
   have q3 := cL hbr x3
   have HEA : Hid (gAt w ⟨yr, yrc, yb, ybc, yh⟩ gg) := hea
   have HBI : Hid (gg.row.length ≤ 1000 ∧ gg.bags.length ≤ 1000 ∧ ∀ l ∈ gg.bags, l.length ≤ 1073741824) := hbdi
   have HT2 : Hid (gs.take (i + 1) = gs.take i ++ [gg]) := HT1
   have i1 : (0 : Int) ≤ (i : Int) := by omega
   have i2 : (i : Int) < (n : Int) := by omega
   obtain ⟨rl, hrl⟩ : ∃ z, gg.row.length = z := ⟨_, rfl⟩
   obtain ⟨nn, hnn⟩ : ∃ z, gg.n = z := ⟨_, rfl⟩
   obtain ⟨bl, hbl⟩ : ∃ z, gg.bags.length = z := ⟨_, rfl⟩
   have HRL : Hid (gg.row.length = rl ∧ gg.n = nn ∧ gg.bags.length = bl) := ⟨hrl, hnn, hbl⟩
   rw [hrl] at q1
   rw [hnn] at q2
   rw [hbl] at q3
   have hbl1 : bl ≤ 1000 := by rw [← hbl]; exact HBI.out.2.1
   clear x1 x2 x3 hea hbdi HT1 hgg hyy hrl hnn hbl
   obtain ⟨w5, hmk5, hown5, hgrow5⟩ := run_make_own (P := Tryz.prog) (wr.alloc (.cells #[.slice yr rl yrc, .int .i64 nn, .slice yb bl ybc] 53)) (wr.alloc (.cells #[.slice yr rl yrc, .int .i64 nn, .slice yb bl ybc] 53)).heap.size 51 61 iHB (.slice none 0 0) 1 Tryz.underlying51 HB.out.1 HB.out.2.1 HB.out.2.2.1 .i64 .i64 bl (by rw [HB.out.2.2.2]; omega) (by unfold maxLen; omega) nR
   have hbA : Below wr.heap.size wr (wr.alloc (.cells #[.slice yr rl yrc, .int .i64 nn, .slice yb bl ybc] 53)) := bR.alloc nR _
   have hb5 : Below (wr.alloc (.cells #[.slice yr rl yrc, .int .i64 nn, .slice yb bl ybc] 53)).heap.size (wr.alloc (.cells #[.slice yr rl yrc, .int .i64 nn, .slice yb bl ybc] 53)) w5 := bR.grown hgrow5 nR (fun k hk => by cases hk)
   have c0 : (wr.alloc (.cells #[.slice yr rl yrc, .int .i64 nn, .slice yb bl ybc] 53)).cell? ⟨wr.heap.size, 0, none⟩ = some (.slice yr rl yrc) := by go_simp
   have c1 : (wr.alloc (.cells #[.slice yr rl yrc, .int .i64 nn, .slice yb bl ybc] 53)).cell? ⟨wr.heap.size, 1, none⟩ = some (.int .i64 nn) := by go_simp
   have c2 : (wr.alloc (.cells #[.slice yr rl yrc, .int .i64 nn, .slice yb bl ybc] 53)).cell? ⟨wr.heap.size, 2, none⟩ = some (.slice yb bl ybc) := by go_simp
   have d0 := cL hb5 c0
   have d1 := cL hb5 c1
   have d2 := cL hb5 c2
   have hb5r : Below wr.heap.size wr w5 := hbA.trans (hb5.mono hbA.size)
   have HE5 : Hid (Est w5 w.heap.size (bagsE (.slice (some ⟨(wr.alloc (.cells #[.slice yr rl yrc, .int .i64 nn, .slice yb bl ybc] 53)).heap.size, 0, none⟩) 0 bl) [] (headO u3 L :: L.flatMap GO.all))) :=
    Est_new (x := ⟨.slice (some ⟨(wr.alloc (.cells #[.slice yr rl yrc, .int .i64 nn, .slice yb bl ybc] 53)).heap.size, 0, none⟩) 0 bl, 61, 1, 0, []⟩) (w := (wr.alloc (.cells #[.slice yr rl yrc, .int .i64 nn, .slice yb bl ybc] 53))) (Est_below HOL.out hbA) hb5 (World.ownsRow.mono hown5 (by have := HOL.out.low; exact Nat.le_trans this hbA.size)) (fun g hg => by cases hg; exact Nat.le_refl _)
   clear c0 c1 c2 hown5 hgrow5
   go_wp2
   have hsz5 : (wr.alloc (.cells #[.slice yr rl yrc, .int .i64 nn, .slice yb bl ybc] 53)).heap.size = wr.heap.size + 1 := by simp
   rw [hsz5] at HE5
   have hb5v : Below (wr.heap.size + 1) (wr.alloc (.cells #[.slice yr rl yrc, .int .i64 nn, .slice yb bl ybc] 53)) w5 := by rw [← hsz5]; exact hb5
   have c0 : (wr.alloc (.cells #[.slice yr rl yrc, .int .i64 nn, .slice yb bl ybc] 53)).cell? ⟨wr.heap.size, 0, none⟩ = some (.slice yr rl yrc) := by go_simp
   have c1 : (wr.alloc (.cells #[.slice yr rl yrc, .int .i64 nn, .slice yb bl ybc] 53)).cell? ⟨wr.heap.size, 1, none⟩ = some (.int .i64 nn) := by go_simp
   generalize hVV : (wr.alloc (.cells #[.slice yr rl yrc, .int .i64 nn, .slice yb bl ybc] 53)) = VV at hb5v c0 c1 hsz5 hbA
   clear hmk5 hb5 hb5r d0 d1 d2
   go_loopw [6, 25] (fun bv t wq => ∃ (j : Nat) (bs : List (Value × List Tal)), j ≤ bl ∧ t = .int .i64 j ∧ Hid (Est wq w.heap.size (bagsE bv bs (headO u3 L :: L.flatMap GO.all))) ∧ Hid (bs.map (·.2) = gg.bags.take j) ∧ Hid (∀ K, bv.ownBlock = some K → wr.heap.size + 1 ≤ K) ∧ Below (wr.heap.size + 1) VV wq) (fun _ t _ => bl - (intOf t).toNat)
   case atStart => exact ⟨0, [], Nat.zero_le _, rfl, HE5, by rfl, fun K hK => by cases hK; exact Nat.le_refl _, hb5v⟩
   case round =>
    clear HE5 hb5v
    rename World => wq
    obtain ⟨j, bs, hj, rfl, HEB, HBM, HKB, hbq⟩ := hrel
    have hbs : bs.length = j := by
     have := congrArg List.length HBM.out
     rw [List.length_map, List.length_take, HRL.out.2.2] at this
     omega
    have hown := HEB.out.own _ (List.mem_cons_self ..)
    have ev := own_is hown
    dsimp only at ev
    obtain ⟨ba, hba⟩ : ∃ z, adOf u6 = z := ⟨_, rfl⟩
    obtain ⟨bc, hbc⟩ : ∃ z, cpOf u6 = z := ⟨_, rfl⟩
    rw [hba, hbc, hbs] at ev
    clear hba hbc hown
    subst ev
    have hbrq : Below wr.heap.size wr wq := hbA.trans (hbq.mono (Nat.le_succ _))
    have hbw : Below w.heap.size w wq := hbr.trans (hbrq.mono hbr.size)
    by_cases hjl : j < bl
    ·obtain ⟨hb, ho, ey, z1⟩ := HEA.out.hs j (by rw [HEA.out.len, HRL.out.2.2]; exact hjl)
     have hln := HEA.out.hl j (by rw [HRL.out.2.2]; exact hjl)
     have hbg := HEA.out.bag j (by rw [HRL.out.2.2]; exact hjl)
     dsimp only at ey z1 hln hbg
     rw [hln] at z1
     subst ey
     have HTJ : Hid (gg.bags.take (j + 1) = gg.bags.take j ++ [gg.bags.getD j []]) := by
      show _ = _
      have hjb : j < gg.bags.length := by rw [HRL.out.2.2]; exact hjl
      rw [List.take_succ_eq_append_getElem hjb, List.getD_eq_getElem?_getD, List.getElem?_eq_getElem hjb]; rfl
     have hll : (gg.bags.getD j []).length ≤ 1073741824 := HBI.out.2.2 _ (by
      have hjb : j < gg.bags.length := by rw [HRL.out.2.2]; exact hjl
      rw [List.getD_eq_getElem?_getD, List.getElem?_eq_getElem hjb]; exact List.getElem_mem hjb)
     obtain ⟨l, hl⟩ : ∃ z, gg.bags.getD j [] = z := ⟨_, rfl⟩
     obtain ⟨⟨ta, tx, tc⟩, hth⟩ : ∃ z, yh.getD j (none, 0, 0) = z := ⟨_, rfl⟩
     rw [hl] at z1 hbg hll HTJ
     rw [hth] at z1 hbg
     dsimp only at z1 hbg
     have q4 := cL hbw z1
     have hbg2 := bagAt_below hbg hbw
     obtain ⟨ca, cc, w6, hr6, hown6, hb6⟩ := run_clone wq 61 61 82 iHT (.agg #[.int .i64 0, .int .i64 0, .string ⟨#[]⟩, .int .i64 0]) 4 40 Tryz.underlying61 HT.out.1 HT.out.2.1 HT.out.2.2.1 HT.out.2.2.2 rfl (by decide) ta l.length tc (talCells l) (talLen l) (cellsAt_tal hbg2 (fun e => by subst e; exact none_empty hbg2)) (tal_one l) (by omega) (by omega)
     have HLL : Hid (gg.bags.getD j [] = l) := hl
     have HW6 : Hid (w6.ownsRow wq.heap.size 82 4 (.slice ca l.length cc) l.length (talCells l)) := hown6
     have HB6 : Hid (Below wq.heap.size wq w6) := hb6
     obtain ⟨ln, hlne⟩ : ∃ z, l.length = z := ⟨_, rfl⟩
     have HLE : Hid (l.length = ln) := hlne
     rw [hlne] at q4 hr6
     have HR6 : Hid ((Builtin.append_ #[61, 61] 61 #[.slice none 0 0, .slice ta ln tc]).run Tryz.prog wq = .ok (.slice ca ln cc) w6) := hr6
     clear hr6
     have HOB : Hid ((w6.alloc (.cells #[.slice ca ln cc] 61)).ownsRow w.heap.size 61 1 (.slice ba j bc) j (bs.map (·.1))) := by
      have h := HEB.out.own _ (List.mem_cons_self ..)
      have h2 : wq.ownsRow w.heap.size 61 1 (.slice ba j bc) bs.length (bs.map (·.1)) := h
      rw [hbs] at h2
      exact ch.own_below h2 (hb6.alloc hb6.size _)
     have i3 : (0 : Int) ≤ (j : Int) := by omega
     have i4 : (j : Int) < (bl : Int) := by omega
     have lowq := HEB.out.low
     have hs6 := hb6.size
     clear hl hth z1 hbg hbg2 hown6 hlne hln hll
     go_wp2_with (first
      | (at_builtin; refine Lib.wpList_append_run _ rfl _ _ _ _ rfl _ _ rfl rfl _ _ HR6.out ?_)
      | (at_builtin; refine wpList_append_lies _ rfl (.tmp 29) (.tmp 32) 51 rfl w.heap.size 61 iHB (.slice none 0 0) 1 24 Tryz.underlying51 HB.out.1 HB.out.2.1 HB.out.2.2.1 HB.out.2.2.2 rfl (by decide) (.slice ba j bc) j (bs.map (·.1)) rfl HOB.out ⟨w6.heap.size, 0, none⟩ 1 1 [.slice ca ln cc] rfl rfl (cell_new1 _ _ _ rfl) (by intro u hu; simp at hu; subst hu; rfl) (by decide) (by unfold maxLen; omega) (by omega) (by simp; omega) (w6.heap.size + 1) (by simp) ?_; intro g9 cap9 w9 hown9 hgrow9 hat9 hlt9))
     have hb6a : Below wq.heap.size wq (w6.alloc (.cells #[.slice ca ln cc] 61)) := HB6.out.alloc HB6.out.size _
     have HE9 : Hid (Est w9 w.heap.size (bagsE (.slice (some ⟨g9, 0, none⟩) (j + 1) cap9) (bs ++ [(.slice ca ln cc, l)]) (headO u3 L :: L.flatMap GO.all))) := by
      refine bagsE_app HEB.out hb6a ?_ hgrow9.size (fun k hk hne => hgrow9.block k hk (fun e => hne e.symm)) (by rw [hbs]; exact hown9) (fun g hg => by cases hg; rcases hat9 with h | h; exact .inl h; exact .inr (by simp; omega))
      have h := ch.own_below HW6.out ((Below.refl w6.heap.size w6).alloc nR (.cells #[.slice ca ln cc] 61))
      rw [HLE.out] at h ⊢
      exact h
     have HM9 : Hid ((bs ++ [((.slice ca ln cc : Value), l)]).map (·.2) = gg.bags.take (j + 1)) := by
      show _ = _
      rw [List.map_append, HBM.out, HTJ.out]; rfl
     have hsq : wr.heap.size + 1 ≤ wq.heap.size := by have := hbq.size; omega
     have hbq9 : Below (wr.heap.size + 1) VV w9 := (hbq.trans (hb6a.mono hsq)).grown hgrow9 (Nat.le_trans hsq hb6a.size) (fun k hk => HKB.out k hk)
     have HK9 : Hid (∀ K, (Value.slice (some ⟨g9, 0, none⟩) (j + 1) cap9).ownBlock = some K → wr.heap.size + 1 ≤ K) := fun K hK => by
      cases hK
      rcases hat9 with h | h
      ·exact HKB.out _ h
      ·show wr.heap.size + 1 ≤ g9; omega
     go_wp2
     go_roundw
     case rel => exact ⟨j + 1, _, by omega, by go_num, HE9, HM9, HK9, hbq9⟩
     case measure => simp [intOf]; omega
    ·have hje : j = bl := by omega
     subst hje
     have hlw : wr.heap.size < wr.heap.size + 1 := Nat.lt_succ_self _
     have e0 : wq.cell? ⟨wr.heap.size, 0, none⟩ = some (.slice yr rl yrc) := (hbq.cell (p := ⟨wr.heap.size, 0, none⟩) hlw).trans c0
     have e1 : wq.cell? ⟨wr.heap.size, 1, none⟩ = some (.int .i64 nn) := (hbq.cell (p := ⟨wr.heap.size, 1, none⟩) hlw).trans c1
     have hrow := rowAt_below HEA.out.row (hbw.trans ((Below.refl wq.heap.size wq).drew.mono hbw.size))
     have hrl1 : gg.row.length ≤ 1000 := HBI.out.1
     obtain ⟨va, vc, w7, hr7, hown7, hb7⟩ := run_clone wq.drew 50 50 68 iHV (.agg #[.int .i64 0, .int .i64 0, .string ⟨#[]⟩]) 3 32 Tryz.underlying50 HV.out.1 HV.out.2.1 HV.out.2.2.1 HV.out.2.2.2 rfl (by decide) yr gg.row.length yrc (celCells gg.row) (celCells_len gg.row) (cellsAt_row hrow (fun e => by dsimp only at hrow; rw [e] at hrow; exact none_emptyR hrow)) (cel_one gg.row) (by omega) (by omega)
     have HW7 : Hid (w7.ownsRow wq.heap.size 68 3 (.slice va gg.row.length vc) gg.row.length (celCells gg.row)) := hown7
     have hb7q : Below wq.heap.size wq w7 := bR.drew.trans hb7
     rw [HRL.out.1] at hr7
     have HR7 : Hid ((Builtin.append_ #[50, 50] 50 #[.slice none 0 0, .slice yr rl yrc]).run Tryz.prog wq.drew = .ok (.slice va rl vc) w7) := hr7
     have hLi : L.length = i := by
      have := congrArg List.length HLM.out
      rw [List.length_map, List.length_take, HN.out] at this
      omega
     have ev2 := own_is HOL.out.head
     obtain ⟨ua, hua⟩ : ∃ z, adOf u3 = z := ⟨_, rfl⟩
     obtain ⟨uc, huc⟩ : ∃ z, cpOf u3 = z := ⟨_, rfl⟩
     rw [hua, huc, hLi] at ev2
     clear hua huc hr7 hown7 hrow
     subst ev2
     have f0 := cL hb7q e0
     have f1 := cL hb7q e1
     have HOU : Hid ((w7.alloc (.cells #[.slice va rl vc, .int .i64 nn, .slice ba j bc] 53)).ownsRow w.heap.size 53 3 (.slice ua i uc) i (gcells L)) := by
      have h : wq.ownsRow w.heap.size 53 3 (.slice ua i uc) L.length (gcells L) := HEB.out.own (headO (.slice ua i uc) L) (by unfold bagsE; simp)
      rw [hLi] at h
      exact ch.own_below h (hb7q.alloc hb7q.size _)
     have HCN : Hid (∀ q v, ([.slice va rl vc, .int .i64 nn, .slice ba j bc] : List Value)[q]? = some v → (w7.alloc (.cells #[.slice va rl vc, .int .i64 nn, .slice ba j bc] 53)).cell? ((⟨w7.heap.size, 0, none⟩ : Addr).add q) = some v) := fun q v hv => by
      match q, hv with
      | 0, hv => simp at hv; subst hv; rw [ch.add_at]; go_simp
      | 1, hv => simp at hv; subst hv; rw [ch.add_at]; go_simp
      | 2, hv => simp at hv; subst hv; rw [ch.add_at]; go_simp
      | q + 3, hv => simp at hv
     have UN : Hid (some wr.heap.size ≠ (Value.slice ua i uc).ownBlock) := fun e => by have := (ch.own_lt HOL.out.head e.symm).2; omega
     have HSW : Hid (wr.heap.size + 1 ≤ w7.heap.size) := by have h1 := hbq.size; have h2 := hb7q.size; show _ ≤ _; omega
     have lowq := HEB.out.low
     have hs7 := hb7q.size
     go_wp2
     refine wp_region_held_drew (S := (fun w' => w'.cell? ⟨wr.heap.size, 0, none⟩ = some (.slice yr rl yrc) ∧ w'.cell? ⟨wr.heap.size, 1, none⟩ = some (.int .i64 nn))) (by kernel_rfl) ⟨by go_simp, by go_simp⟩ (fun hH => ?_)
     refine tk 0 35 hH ?_; refine tk 1 36 hH ?_; refine tk 2 37 hH ?_; refine tk 4 39 hH ?_; refine tk 5 40 hH ?_; refine tk 6 41 hH ?_
     refine wpAnyH_ready (rs := [3]) (by kernel_rfl) (by simp) ?_
     refine AllReadyH.cons rfl (fun K hK => ?_) AllReadyH.nil
     refine step_append_runI rfl _ _ 50 50 rfl (.slice none 0 0) (.slice yr rl yrc) (by simp [Act.eval, Act.put]) (by simp [Act.eval, Act.put]) HR7.out ?_
     refine hK.out _ _ ⟨f0, f1⟩ (fun hH => ?_)
     clear hK K
     try simp only [Act.put, sI, sZ, sS]
     refine tk 7 42 hH ?_
     refine wpAnyH_ready (rs := [8]) (by kernel_rfl) (by simp) ?_
     refine AllReadyH.cons rfl (fun K hK => ?_) AllReadyH.nil
     go_simp
     refine hK.out _ _ ⟨cL (bR.alloc nR _) hH.1, cL (bR.alloc nR _) hH.2⟩ (fun hH => ?_)
     clear hK K
     try simp only [Act.put, sI, sZ, sS]
     refine wpAnyH_ready (rs := [9]) (by kernel_rfl) (by simp) ?_
     refine AllReadyH.cons rfl (fun K hK => ?_) AllReadyH.nil
     refine step_append_lies _ rfl (.tmp 35) (.tmp 43) 26 rfl w.heap.size 53 iHG (.agg #[.slice none 0 0, .int .i64 0, .slice none 0 0]) 3 56 Tryz.underlying26 HG.out.1 HG.out.2.1 HG.out.2.2.1 HG.out.2.2.2 rfl (by decide) (.slice ua i uc) i (gcells L) (by simp [Act.eval, Act.put]) HOU.out ⟨w7.heap.size, 0, none⟩ 1 1 [.slice va rl vc, .int .i64 nn, .slice ba j bc] (by simp [Act.eval, Act.put]) rfl HCN.out (by intro u hu; simp at hu; rcases hu with rfl | rfl | rfl <;> rfl) (by decide) (by unfold maxLen; omega) (by omega) (by simp; omega) (w7.heap.size + 1) (by simp) ?_
     intro g9 cap9 w9 hown9 hgrow9 hat9 hlt9
     have hbx : wr.heap.size < (w7.alloc (.cells #[.slice va rl vc, .int .i64 nn, .slice ba j bc] 53)).heap.size := by have := HSW.out; simp; omega
     refine hK.out _ _ ⟨(hgrow9.cell_far (⟨wr.heap.size, 0, none⟩ : Addr) hbx UN.out).trans hH.1, (hgrow9.cell_far (⟨wr.heap.size, 1, none⟩ : Addr) hbx UN.out).trans hH.2⟩ (fun hH => ?_)
     clear hK K
     try simp only [Act.put, sI, sZ, sS]
     refine tk 10 3 hH ?_
     refine wpAnyH_done (by kernel_rfl) ?_ _
     have hb7a : Below wq.heap.size wq (w7.alloc (.cells #[.slice va rl vc, .int .i64 nn, .slice ba j bc] 53)) := hb7q.alloc hb7q.size _
     have HFIN : Hid (OG w9 w.heap.size (.slice (some ⟨g9, 0, none⟩) (i + 1) cap9) (L ++ [⟨.slice va rl vc, gg.row, nn, .slice ba j bc, bs⟩])) := by
      refine OG.app HEB.out hb7a ?_ hgrow9.size (fun k hk hne => hgrow9.block k hk (fun e => hne e.symm)) (by rw [hLi]; exact hown9) (fun g hg => by cases hg; rcases hat9 with h | h; exact .inl h; exact .inr (by simp; omega))
      have h := ch.own_below HW7.out ((Below.refl w7.heap.size w7).alloc nR (.cells #[.slice va rl vc, .int .i64 nn, .slice ba j bc] 53))
      rw [HRL.out.1] at h ⊢
      exact h
     have HMAP : Hid ((L ++ [(⟨.slice va rl vc, gg.row, nn, .slice ba j bc, bs⟩ : GO)]).map GO.grp = gs.take (i + 1)) := by
      show _ = _
      rw [List.map_append, HLM.out, HT2.out]
      congr 1
      show [(⟨gg.row, nn, bs.map (·.2)⟩ : Grp)] = [gg]
      rw [HBM.out, ← HRL.out.2.2, List.take_length, ← HRL.out.2.1]
     have hbE : Below w.heap.size w w9 := (hbw.trans (hb7a.mono hbw.size)).grown hgrow9 (Nat.le_trans hbw.size hb7a.size) (fun k hk => (ch.own_lt HOU.out hk).1)
     clear hown9 hgrow9 hat9
     go_wp2
     go_roundw
     case rel => exact ⟨i + 1, _, by omega, by go_num, HFIN, HMAP, hbE⟩
     case measure => simp [intOf]; omega
  ·have hie : i = n := by omega
   subst hie
   have HLG : Hid (L.map GO.grp = gs) := by show _ = _; rw [HLM.out, ← HN.out, List.take_length]
   have ev := own_is HOL.out.head
   obtain ⟨ad9, had⟩ : ∃ z, adOf u3 = z := ⟨_, rfl⟩
   obtain ⟨cp9, hcp⟩ : ∃ z, cpOf u3 = z := ⟨_, rfl⟩
   rw [had, hcp] at ev
   clear had hcp
   subst ev
   go_wp2
   go_ret
   exact ⟨⟨ad9, cp9, L, rfl, HOL.out, HLG.out⟩, hbr⟩
set_option maxHeartbeats 1000000 in
theorem equalV_any (a1 a2 : Option Addr) (c1 c2 : Nat) (r1 r2 : List Cel) (w : World) (h1 : vl.rowAt w a1 r1) (h2 : vl.rowAt w a2 r2) (l1 : r1.length ≤ 9223372036854775807) (l2 : r2.length ≤ 9223372036854775807) :
 Calls Tryz.prog 88 #[.slice a1 r1.length c1, .slice a2 r2.length c2] w fun e w' => e = .returned (.bool (decide (r1 = r2))) ∧ Below w.heap.size w w' := by
 by_cases hl : r1.length = r2.length
 ·obtain ⟨len, hlen⟩ : ∃ len, r1.length = len := ⟨_, rfl⟩
  have hlen2 : r2.length = len := by omega
  rw [hlen] at l1
  have HR : Hid (r1.length = len) := hlen
  have HR2 : Hid (r2.length = len) := hlen2
  rw [hlen, hlen2]
  clear hl l2 hlen hlen2
  go_enter Tryz.func88, Tryz.ntmps88
  go_wp2
  go_loopw [13] (fun i wr => ∃ k : Nat, k ≤ len ∧ i = .int .i64 k ∧ Below w.heap.size w wr ∧ r1.take k = r2.take k) (fun i _ => len - (intOf i).toNat)
  case atStart => exact ⟨0, Nat.zero_le _, rfl, bR, rfl⟩
  case round =>
   obtain ⟨k, hk, rfl, hnx, hall⟩ := hrel
   have HA : Hid (r1.take k = r2.take k) := hall
   clear hall
   by_cases hlt : k < len
   ·obtain ⟨b1, o1, e1, x1, x2, x3⟩ := h1 k (by rw [HR.out]; exact hlt)
    obtain ⟨b2, o2, e2, y1, y2, y3⟩ := h2 k (by rw [HR2.out]; exact hlt)
    subst e1 e2
    have q1 := cL hnx x1
    have q2 := cL hnx x2
    have q3 := cL hnx x3
    have p1 := cL hnx y1
    have p2 := cL hnx y2
    have p3 := cL hnx y3
    clear x1 x2 x3 y1 y2 y3 h1 h2
    obtain ⟨⟨ka, na, sa⟩, hca⟩ : ∃ c, r1.getD k default = c := ⟨_, rfl⟩
    obtain ⟨⟨kb, nb, sb⟩, hcb⟩ : ∃ c, r2.getD k default = c := ⟨_, rfl⟩
    rw [hca] at q1 q2 q3
    rw [hcb] at p1 p2 p3
    have HCA : Hid (r1.getD k default = ⟨ka, na, sa⟩) := hca
    have HCB : Hid (r2.getD k default = ⟨kb, nb, sb⟩) := hcb
    clear hca hcb
    dsimp only at q1 q2 q3 p1 p2 p3
    have i1 : (0 : Int) ≤ (k : Int) := by omega
    have i2 : (k : Int) < (len : Int) := by omega
    by_cases t1 : ka = kb
    ·by_cases t2 : na = nb
     ·by_cases t3 : sa.toList = sb.toList
      ·have t3' : sa = sb := ByteArray.ext (Array.ext' (by rwa [Lib.toList_data, Lib.toList_data] at t3))
       clear t3
       subst t1 t2 t3'
       go_wp2
       go_quiet (fail)
       go_wp2
       go_roundw
       case rel => exact ⟨k + 1, by omega, by go_num, below_drewN hnx _, take_eq_succ (by rw [HR.out]; exact hlt) (by rw [HR2.out]; exact hlt) HA.out (by rw [HCA.out, HCB.out])⟩
       case measure => simp [intOf]; omega
      ·have hn : Hid (¬ r1 = r2) := fun h => by
        have e1 := HCA.out
        rw [h, HCB.out] at e1
        cases e1
        exact t3 rfl
       go_wp2
       go_quiet (fail)
       go_wp2
       go_ret
       exact ⟨ret_bool (by rw [decide_eq_false hn.out]), below_drewN hnx _⟩
     ·have hn : Hid (¬ r1 = r2) := fun h => by
       have e1 := HCA.out
       rw [h, HCB.out] at e1
       cases e1
       exact t2 rfl
      go_wp2
      go_quiet (fail)
      go_wp2
      go_ret
      exact ⟨ret_bool (by rw [decide_eq_false hn.out]), below_drewN hnx _⟩
    ·have hn : Hid (¬ r1 = r2) := fun h => by
      have e1 := HCA.out
      rw [h, HCB.out] at e1
      cases e1
      exact t1 rfl
     go_wp2
     go_quiet (fail)
     go_wp2
     go_ret
     exact ⟨ret_bool (by rw [decide_eq_false hn.out]), below_drewN hnx _⟩
   ·have hn : Hid (r1 = r2) := by
     show r1 = r2
     have h := HA.out
     rwa [List.take_of_length_le (by rw [HR.out]; omega), List.take_of_length_le (by rw [HR2.out]; omega)] at h
    go_wp2
    go_ret
    exact ⟨ret_bool (by rw [decide_eq_true hn.out]), hnx⟩
 ·have hn : Hid (¬ r1 = r2) := fun h => hl (by rw [h])
  have hl' : ((r1.length : Int) == (r2.length : Int)) = false := by simp; omega
  go_enter Tryz.func88, Tryz.ntmps88
  go_wp2
  go_ret
  exact ⟨ret_bool (by rw [decide_eq_false hn.out]), bR⟩
theorem rowAt_take {w : World} {a : Option Addr} {r : List Cel} (h : vl.rowAt w a r) (k : Nat) : vl.rowAt w a (r.take k) := fun i hi => by
 rw [List.length_take] at hi
 obtain ⟨b, o, e, x⟩ := h i (by omega)
 refine ⟨b, o, e, ?_⟩
 have e2 : (r.take k).getD i default = r.getD i default := by rw [List.getD_eq_getElem?_getD, List.getElem?_take, if_pos (by omega), ← List.getD_eq_getElem?_getD]
 rw [e2]
 exact x
set_option maxRecDepth 100000 in
set_option maxHeartbeats 4000000 in
theorem first_both (size wb wo wn wc nb no nn nc : Nat) (ra1 ra2 : Option Addr) (rc1 rc2 : Nat) (r1 r2 : List Cel) (w : World) (c1 : w.cell? ⟨wb, wo, none⟩ = some (.slice ra1 r1.length rc1)) (c2 : w.cell? ⟨nb, no, none⟩ = some (.slice ra2 r2.length rc2)) (h1 : vl.rowAt w ra1 r1) (h2 : vl.rowAt w ra2 r2) (l1 : size ≤ r1.length) (l2 : size ≤ r2.length) (k1 : r1.length ≤ rc1) (k2 : r2.length ≤ rc2) (m1 : r1.length ≤ 1000) (m2 : r2.length ≤ 1000) (hw : 0 < wn) (hn : 0 < nn) :
 Calls Tryz.prog 87 #[.int .i64 size, .slice (some ⟨wb, wo, none⟩) wn wc, .slice (some ⟨nb, no, none⟩) nn nc] w fun e w' => e = .returned (.int .i64 (cmpRows (r1.take size) (r2.take size))) ∧ Below w.heap.size w w' := by
 have KR : Hid (∀ w1, Below w.heap.size w w1 → Calls Tryz.prog 76 #[.slice ra1 size rc1, .slice ra2 size rc2] w1 fun e w' => e = .returned (.int .i64 (cmpRows (r1.take size) (r2.take size))) ∧ Below w1.heap.size w1 w') := fun w1 hb => by
  have := vl.rows_any ra1 ra2 rc1 rc2 (r1.take size) (r2.take size) w1 (vl.rowAt_below (rowAt_take h1 size) hb) (vl.rowAt_below (rowAt_take h2 size) hb) (by rw [List.length_take]; omega) (by rw [List.length_take]; omega)
  rw [List.length_take, List.length_take, Nat.min_eq_left l1, Nat.min_eq_left l2] at this
  exact this
 obtain ⟨R, hR⟩ : ∃ z, cmpRows (r1.take size) (r2.take size) = z := ⟨_, rfl⟩
 obtain ⟨n1, e1⟩ : ∃ z, r1.length = z := ⟨_, rfl⟩
 obtain ⟨n2, e2⟩ : ∃ z, r2.length = z := ⟨_, rfl⟩
 rw [hR] at KR ⊢
 rw [e1] at c1 l1 k1 m1
 rw [e2] at c2 l2 k2 m2
 clear hR e1 e2 h1 h2
 have i1 : ((wn : Int) == 0) = false := by rw [beq_eq_false_iff_ne]; omega
 have i2 : ((nn : Int) == 0) = false := by rw [beq_eq_false_iff_ne]; omega
 have i3 : (0 : Int) < (wn : Int) := by omega
 have i4 : (0 : Int) < (nn : Int) := by omega
 have i5 : (0 : Int) ≤ (size : Int) := by omega
 have i6 : (size : Int) ≤ (rc1 : Int) := by omega
 have i7 : (size : Int) ≤ (rc2 : Int) := by omega
 go_enter Tryz.func87, Tryz.ntmps87
 go_wp2
 go_region_held3 (fun w' => w'.cell? ⟨wb, wo, none⟩ = some (.slice ra1 n1 rc1) ∧ w'.cell? ⟨nb, no, none⟩ = some (.slice ra2 n2 rc2)) (first | exact ⟨cL hy c1, cL hy c2⟩ | go_keep)
  (first | (go_at_call 76; refine (KR.out _ bR.drew).mono ?_; rintro e y ⟨rfl, hbY⟩; have hy : Below w.heap.size w y := bR.drew.trans hbY))
 all_goals
  go_wp2
  go_ret
  exact ⟨rfl, hy⟩
end Go.Proofs.YtbfbgdinhiglaaaGreat.gr
