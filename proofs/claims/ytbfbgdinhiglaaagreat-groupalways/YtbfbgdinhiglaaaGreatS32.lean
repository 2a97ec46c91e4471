import Derived.Test.YtbfbgdinhiglaaaGreatS31
import Derived.Test.YtbfbgdinhiglaaaGreatS21
import Derived.Test.YtbfbgdinhiglaaaGreatS27
import Derived.Test.YtbfbgdinhiglaaaGreatGrpToldA
/- copied, walked. -/
namespace Go.Proofs.YtbfbgdinhiglaaaGreat.gr
open Go.ChangeShapes Go.WideShapes Go.ChangeAt Go.RowKit
open vl pl bt
set_option linter.unusedVariables false
set_option linter.unusedSimpArgs false
attribute [local go_sem] Oper.semAt_some
theorem cel_one : ∀ (l : List Cel), ∀ u ∈ celCells l, u.oneCell' = true := fun l u hu => by
  unfold celCells at hu
  obtain ⟨t, _, ht⟩ := List.mem_flatMap.1 hu
  simp at ht
  rcases ht with rfl | rfl | rfl <;> rfl
set_option maxRecDepth 100000 in
set_option maxHeartbeats 8000000 in
theorem copied_any (a : Option Addr) (cap : Nat) (xs : List GX) (gs : List Grp) (w : World) (hgs : gsAt w a xs gs) (hn : gs.length ≤ 1000000) (hbd : ∀ g ∈ gs, g.row.length ≤ 1000 ∧ g.bags.length ≤ 1000 ∧ ∀ l ∈ g.bags, l.length ≤ 1073741824) :
    Calls Tryz.prog 38 #[.slice a gs.length cap] w fun e w' => (∃ ad c L, e = .returned (.slice ad L.length c) ∧ OG w' w.heap.size (.slice ad L.length c) L ∧ L.map GO.grp = gs) ∧ Below w.heap.size w w' := by
  obtain ⟨iHT, aHT, bHT, cHT, dHT⟩ := info_parts infoT
  obtain ⟨iHG, aHG, bHG, cHG, dHG⟩ := info_parts infoG
  obtain ⟨iHB, aHB, bHB, cHB, dHB⟩ := info_parts infoBg
  obtain ⟨iHV, aHV, bHV, cHV, dHV⟩ := info_parts Tryz.infoV
  have HT : Hid (Tryz.prog.info? 82 = some iHT ∧ iHT.zero = some (.agg #[.int .i64 0, .int .i64 0, .string ⟨#[]⟩, .int .i64 0]) ∧ iHT.size = 4 ∧ iHT.bytes = 40) := ⟨aHT, bHT, cHT, dHT⟩
  have HG : Hid (Tryz.prog.info? 53 = some iHG ∧ iHG.zero = some (.agg #[.slice none 0 0, .int .i64 0, .slice none 0 0]) ∧ iHG.size = 3 ∧ iHG.bytes = 56) := ⟨aHG, bHG, cHG, dHG⟩
  have HB : Hid (Tryz.prog.info? 61 = some iHB ∧ iHB.zero = some (.slice none 0 0) ∧ iHB.size = 1 ∧ iHB.bytes = 24) := ⟨aHB, bHB, cHB, dHB⟩
  have HV : Hid (Tryz.prog.info? 68 = some iHV ∧ iHV.zero = some (.agg #[.int .i64 0, .int .i64 0, .string ⟨#[]⟩]) ∧ iHV.size = 3 ∧ iHV.bytes = 32) := ⟨aHV, bHV, cHV, dHV⟩
  clear aHT bHT cHT dHT aHG bHG cHG dHG aHB bHB cHB dHB aHV bHV cHV dHV
  have HGS : Hid (gsAt w a xs gs) := hgs
  have HBD : Hid (∀ i, i < gs.length → (gs.getD i default).row.length ≤ 1000 ∧ (gs.getD i default).bags.length ≤ 1000 ∧ ∀ l ∈ (gs.getD i default).bags, l.length ≤ 1073741824) := fun i hi => hbd _ (by rw [List.getD_eq_getElem?_getD, List.getElem?_eq_getElem hi]; exact List.getElem_mem hi)
  have HTK : Hid (∀ i, i < gs.length → gs.take (i + 1) = gs.take i ++ [gs.getD i default]) := fun i hi => by
    show _ = _
    rw [List.take_succ_eq_append_getElem hi, List.getD_eq_getElem?_getD, List.getElem?_eq_getElem hi]; rfl
  obtain ⟨n, hne⟩ : ∃ z, gs.length = z := ⟨_, rfl⟩
  have HN : Hid (gs.length = n) := hne
  rw [hne] at hn HBD HTK ⊢
  clear hgs hbd hne
  obtain ⟨w0, hmk0, hown0, hgrow0⟩ := run_make_own (P := Tryz.prog) w w.heap.size 26 53 iHG (.agg #[.slice none 0 0, .int .i64 0, .slice none 0 0]) 3 Tryz.underlying26 HG.out.1 HG.out.2.1 HG.out.2.2.1 .i64 .i64 n (by rw [HG.out.2.2.2]; omega) (by unfold maxLen; omega) (Nat.le_refl _)
  have hb00 : Below w.heap.size w w0 := (Below.refl _ _).grown hgrow0 (Nat.le_refl _) (fun k hk => by cases hk)
  have HO0 : Hid (OG w0 w.heap.size (.slice (some ⟨w.heap.size, 0, none⟩) 0 n) []) := ⟨hb00.size, fun y hy => by
    rcases List.mem_cons.1 hy with rfl | hy
    · exact hown0
    · exact absurd hy List.not_mem_nil, List.pairwise_cons.2 ⟨fun y hy => absurd hy List.not_mem_nil, List.Pairwise.nil⟩⟩
  clear hown0 hgrow0
  go_enter Tryz.func38, Tryz.ntmps38
  go_wp2
  go_loopw [3, 14] (fun u t wr => ∃ (i : Nat) (L : List GO), i ≤ n ∧ t = .int .i64 i ∧ Hid (OG wr w.heap.size u L) ∧ Hid (L.map GO.grp = gs.take i) ∧ Below w.heap.size w wr) (fun _ t _ => n - (intOf t).toNat)
  case atStart => exact ⟨0, [], Nat.zero_le _, rfl, HO0, by rfl, hb00⟩
  case round =>
    clear HO0 hmk0 hb00
    obtain ⟨i, L, hi, rfl, HOL, HLM, hbr⟩ := hrel
    by_cases hlt : i < n
    · obtain ⟨b, o, e, x1, x2, x3⟩ := HGS.out.cells i (by rw [HN.out]; exact hlt)
      have hea := HGS.out.each i (by rw [HN.out]; exact hlt)
      have hbdi := HBD.out i hlt
      have HT1 := HTK.out i hlt
      subst e
      obtain ⟨gg, hgg⟩ : ∃ z, gs.getD i default = z := ⟨_, rfl⟩
      obtain ⟨⟨yr, yrc, yb, ybc, yh⟩, hyy⟩ : ∃ z, xs.getD i default = z := ⟨_, rfl⟩
      rw [hgg] at x1 x2 x3 hea hbdi HT1
      rw [hyy] at x1 x3 hea
      dsimp only at x1 x3
      have q1 := cell_later hbr x1
      have q2 := cell_later hbr x2
      have q3 := cell_later hbr x3
      have HEA : Hid (gAt w ⟨yr, yrc, yb, ybc, yh⟩ gg) := hea
      have HBI : Hid (gg.row.length ≤ 1000 ∧ gg.bags.length ≤ 1000 ∧ ∀ l ∈ gg.bags, l.length ≤ 1073741824) := hbdi
      have HT2 : Hid (gs.take (i + 1) = gs.take i ++ [gg]) := HT1
      have i1 : (0 : Int) ≤ (i : Int) := by omega
      have i2 : (i : Int) < (n : Int) := by omega
      obtain ⟨rl, hrl⟩ : ∃ z, gg.row.length = z := ⟨_, rfl⟩
      obtain ⟨nn, hnn⟩ : ∃ z, gg.n = z := ⟨_, rfl⟩
      obtain ⟨bl, hbl⟩ : ∃ z, gg.bags.length = z := ⟨_, rfl⟩
      have HRL : Hid (gg.row.length = rl ∧ gg.n = nn ∧ gg.bags.length = bl) := ⟨hrl, hnn, hbl⟩
      rw [hrl] at q1
      rw [hnn] at q2
      rw [hbl] at q3
      have hbl1 : bl ≤ 1000 := by rw [← hbl]; exact HBI.out.2.1
      clear x1 x2 x3 hea hbdi HT1 hgg hyy hrl hnn hbl
      obtain ⟨w5, hmk5, hown5, hgrow5⟩ := run_make_own (P := Tryz.prog) (wr.alloc (.cells #[.slice yr rl yrc, .int .i64 nn, .slice yb bl ybc] 53)) (wr.alloc (.cells #[.slice yr rl yrc, .int .i64 nn, .slice yb bl ybc] 53)).heap.size 51 61 iHB (.slice none 0 0) 1 Tryz.underlying51 HB.out.1 HB.out.2.1 HB.out.2.2.1 .i64 .i64 bl (by rw [HB.out.2.2.2]; omega) (by unfold maxLen; omega) (Nat.le_refl _)
      have hbA : Below wr.heap.size wr (wr.alloc (.cells #[.slice yr rl yrc, .int .i64 nn, .slice yb bl ybc] 53)) := (Below.refl _ _).alloc (Nat.le_refl _) _
      have hb5 : Below (wr.alloc (.cells #[.slice yr rl yrc, .int .i64 nn, .slice yb bl ybc] 53)).heap.size (wr.alloc (.cells #[.slice yr rl yrc, .int .i64 nn, .slice yb bl ybc] 53)) w5 := (Below.refl _ _).grown hgrow5 (Nat.le_refl _) (fun k hk => by cases hk)
      have c0 : (wr.alloc (.cells #[.slice yr rl yrc, .int .i64 nn, .slice yb bl ybc] 53)).cell? ⟨wr.heap.size, 0, none⟩ = some (.slice yr rl yrc) := by go_simp
      have c1 : (wr.alloc (.cells #[.slice yr rl yrc, .int .i64 nn, .slice yb bl ybc] 53)).cell? ⟨wr.heap.size, 1, none⟩ = some (.int .i64 nn) := by go_simp
      have c2 : (wr.alloc (.cells #[.slice yr rl yrc, .int .i64 nn, .slice yb bl ybc] 53)).cell? ⟨wr.heap.size, 2, none⟩ = some (.slice yb bl ybc) := by go_simp
      have d0 := cell_later hb5 c0
      have d1 := cell_later hb5 c1
      have d2 := cell_later hb5 c2
      have hb5r : Below wr.heap.size wr w5 := hbA.trans (hb5.mono hbA.size)
      have HE5 : Hid (Est w5 w.heap.size (bagsE (.slice (some ⟨(wr.alloc (.cells #[.slice yr rl yrc, .int .i64 nn, .slice yb bl ybc] 53)).heap.size, 0, none⟩) 0 bl) [] (headO u3 L :: L.flatMap GO.all))) :=
        Est_new (x := ⟨.slice (some ⟨(wr.alloc (.cells #[.slice yr rl yrc, .int .i64 nn, .slice yb bl ybc] 53)).heap.size, 0, none⟩) 0 bl, 61, 1, 0, []⟩) (w := (wr.alloc (.cells #[.slice yr rl yrc, .int .i64 nn, .slice yb bl ybc] 53))) (Est_below HOL.out hbA) hb5 (World.ownsRow.mono hown5 (by have := HOL.out.low; exact Nat.le_trans this hbA.size)) (fun g hg => by cases hg; exact Nat.le_refl _)
      clear c0 c1 c2 hown5 hgrow5
      go_wp2
      have hsz5 : (wr.alloc (.cells #[.slice yr rl yrc, .int .i64 nn, .slice yb bl ybc] 53)).heap.size = wr.heap.size + 1 := by simp
      rw [hsz5] at HE5
      have hb5v : Below (wr.heap.size + 1) (wr.alloc (.cells #[.slice yr rl yrc, .int .i64 nn, .slice yb bl ybc] 53)) w5 := by rw [← hsz5]; exact hb5
      have c0 : (wr.alloc (.cells #[.slice yr rl yrc, .int .i64 nn, .slice yb bl ybc] 53)).cell? ⟨wr.heap.size, 0, none⟩ = some (.slice yr rl yrc) := by go_simp
      have c1 : (wr.alloc (.cells #[.slice yr rl yrc, .int .i64 nn, .slice yb bl ybc] 53)).cell? ⟨wr.heap.size, 1, none⟩ = some (.int .i64 nn) := by go_simp
      generalize hVV : (wr.alloc (.cells #[.slice yr rl yrc, .int .i64 nn, .slice yb bl ybc] 53)) = VV at hb5v c0 c1 hsz5 hbA
      clear hmk5 hb5 hb5r d0 d1 d2
      go_loopw [6, 25] (fun bv t wq => ∃ (j : Nat) (bs : List (Value × List Tal)), j ≤ bl ∧ t = .int .i64 j ∧ Hid (Est wq w.heap.size (bagsE bv bs (headO u3 L :: L.flatMap GO.all))) ∧ Hid (bs.map (·.2) = gg.bags.take j) ∧ Hid (∀ K, bv.ownBlock = some K → wr.heap.size + 1 ≤ K) ∧ Below (wr.heap.size + 1) VV wq) (fun _ t _ => bl - (intOf t).toNat)
      case atStart => exact ⟨0, [], Nat.zero_le _, rfl, HE5, by rfl, fun K hK => by cases hK; exact Nat.le_refl _, hb5v⟩
      case round =>
        clear HE5 hb5v
        rename World => wq
        obtain ⟨j, bs, hj, rfl, HEB, HBM, HKB, hbq⟩ := hrel
        have hbs : bs.length = j := by
          have := congrArg List.length HBM.out
          rw [List.length_map, List.length_take, HRL.out.2.2] at this
          omega
        have hown := HEB.out.own _ (List.mem_cons_self ..)
        have ev := own_is hown
        dsimp only at ev
        obtain ⟨ba, hba⟩ : ∃ z, adOf u6 = z := ⟨_, rfl⟩
        obtain ⟨bc, hbc⟩ : ∃ z, cpOf u6 = z := ⟨_, rfl⟩
        rw [hba, hbc, hbs] at ev
        clear hba hbc hown
        subst ev
        have hbrq : Below wr.heap.size wr wq := hbA.trans (hbq.mono (Nat.le_succ _))
        have hbw : Below w.heap.size w wq := hbr.trans (hbrq.mono hbr.size)
        by_cases hjl : j < bl
        · obtain ⟨hb, ho, ey, z1⟩ := HEA.out.hs j (by rw [HEA.out.len, HRL.out.2.2]; exact hjl)
          have hln := HEA.out.hl j (by rw [HRL.out.2.2]; exact hjl)
          have hbg := HEA.out.bag j (by rw [HRL.out.2.2]; exact hjl)
          dsimp only at ey z1 hln hbg
          rw [hln] at z1
          subst ey
          have HTJ : Hid (gg.bags.take (j + 1) = gg.bags.take j ++ [gg.bags.getD j []]) := by
            show _ = _
            have hjb : j < gg.bags.length := by rw [HRL.out.2.2]; exact hjl
            rw [List.take_succ_eq_append_getElem hjb, List.getD_eq_getElem?_getD, List.getElem?_eq_getElem hjb]; rfl
          have hll : (gg.bags.getD j []).length ≤ 1073741824 := HBI.out.2.2 _ (by
            have hjb : j < gg.bags.length := by rw [HRL.out.2.2]; exact hjl
            rw [List.getD_eq_getElem?_getD, List.getElem?_eq_getElem hjb]; exact List.getElem_mem hjb)
          obtain ⟨l, hl⟩ : ∃ z, gg.bags.getD j [] = z := ⟨_, rfl⟩
          obtain ⟨⟨ta, tx, tc⟩, hth⟩ : ∃ z, yh.getD j (none, 0, 0) = z := ⟨_, rfl⟩
          rw [hl] at z1 hbg hll HTJ
          rw [hth] at z1 hbg
          dsimp only at z1 hbg
          have q4 := cell_later hbw z1
          have hbg2 := bagAt_below hbg hbw
          obtain ⟨ca, cc, w6, hr6, hown6, hb6⟩ := run_clone wq 61 61 82 iHT (.agg #[.int .i64 0, .int .i64 0, .string ⟨#[]⟩, .int .i64 0]) 4 40 Tryz.underlying61 HT.out.1 HT.out.2.1 HT.out.2.2.1 HT.out.2.2.2 rfl (by decide) ta l.length tc (talCells l) (talLen l) (cellsAt_tal hbg2 (fun e => by subst e; exact none_empty hbg2)) (tal_one l) (by omega) (by omega)
          have HLL : Hid (gg.bags.getD j [] = l) := hl
          have HW6 : Hid (w6.ownsRow wq.heap.size 82 4 (.slice ca l.length cc) l.length (talCells l)) := hown6
          have HB6 : Hid (Below wq.heap.size wq w6) := hb6
          obtain ⟨ln, hlne⟩ : ∃ z, l.length = z := ⟨_, rfl⟩
          have HLE : Hid (l.length = ln) := hlne
          rw [hlne] at q4 hr6
          have HR6 : Hid ((Builtin.append_ #[61, 61] 61 #[.slice none 0 0, .slice ta ln tc]).run Tryz.prog wq = .ok (.slice ca ln cc) w6) := hr6
          clear hr6
          have HOB : Hid ((w6.alloc (.cells #[.slice ca ln cc] 61)).ownsRow w.heap.size 61 1 (.slice ba j bc) j (bs.map (·.1))) := by
            have h := HEB.out.own _ (List.mem_cons_self ..)
            have h2 : wq.ownsRow w.heap.size 61 1 (.slice ba j bc) bs.length (bs.map (·.1)) := h
            rw [hbs] at h2
            exact ch.own_below h2 (hb6.alloc hb6.size _)
          have i3 : (0 : Int) ≤ (j : Int) := by omega
          have i4 : (j : Int) < (bl : Int) := by omega
          have lowq := HEB.out.low
          have hs6 := hb6.size
          clear hl hth z1 hbg hbg2 hown6 hlne hln hll
          go_wp2_with (first
            | (at_builtin; refine Lib.wpList_append_run _ rfl _ _ _ _ rfl _ _ rfl rfl _ _ HR6.out ?_)
            | (at_builtin; refine wpList_append_lies _ rfl (.tmp 29) (.tmp 32) 51 rfl w.heap.size 61 iHB (.slice none 0 0) 1 24 Tryz.underlying51 HB.out.1 HB.out.2.1 HB.out.2.2.1 HB.out.2.2.2 rfl (by decide) (.slice ba j bc) j (bs.map (·.1)) rfl HOB.out ⟨w6.heap.size, 0, none⟩ 1 1 [.slice ca ln cc] rfl rfl (cell_new1 _ _ _ rfl) (by intro u hu; simp at hu; subst hu; rfl) (by decide) (by unfold maxLen; omega) (by omega) (by simp; omega) (w6.heap.size + 1) (by simp) ?_; intro g9 cap9 w9 hown9 hgrow9 hat9 hlt9))
          have hb6a : Below wq.heap.size wq (w6.alloc (.cells #[.slice ca ln cc] 61)) := HB6.out.alloc HB6.out.size _
          have HE9 : Hid (Est w9 w.heap.size (bagsE (.slice (some ⟨g9, 0, none⟩) (j + 1) cap9) (bs ++ [(.slice ca ln cc, l)]) (headO u3 L :: L.flatMap GO.all))) := by
            refine bagsE_app HEB.out hb6a ?_ hgrow9.size (fun k hk hne => hgrow9.block k hk (fun e => hne e.symm)) (by rw [hbs]; exact hown9) (fun g hg => by cases hg; rcases hat9 with h | h; exact .inl h; exact .inr (by simp; omega))
            have h := ch.own_below HW6.out ((Below.refl w6.heap.size w6).alloc (Nat.le_refl _) (.cells #[.slice ca ln cc] 61))
            rw [HLE.out] at h ⊢
            exact h
          have HM9 : Hid ((bs ++ [((.slice ca ln cc : Value), l)]).map (·.2) = gg.bags.take (j + 1)) := by
            show _ = _
            rw [List.map_append, HBM.out, HTJ.out]; rfl
          have hsq : wr.heap.size + 1 ≤ wq.heap.size := by have := hbq.size; omega
          have hbq9 : Below (wr.heap.size + 1) VV w9 := (hbq.trans (hb6a.mono hsq)).grown hgrow9 (Nat.le_trans hsq hb6a.size) (fun k hk => HKB.out k hk)
          have HK9 : Hid (∀ K, (Value.slice (some ⟨g9, 0, none⟩) (j + 1) cap9).ownBlock = some K → wr.heap.size + 1 ≤ K) := fun K hK => by
            cases hK
            rcases hat9 with h | h
            · exact HKB.out _ h
            · show wr.heap.size + 1 ≤ g9; omega
          go_wp2
          go_roundw
          case rel => exact ⟨j + 1, _, by omega, by go_num, HE9, HM9, HK9, hbq9⟩
          case measure => simp [intOf]; omega
        · have hje : j = bl := by omega
          subst hje
          have hlw : wr.heap.size < wr.heap.size + 1 := Nat.lt_succ_self _
          have e0 : wq.cell? ⟨wr.heap.size, 0, none⟩ = some (.slice yr rl yrc) := (hbq.cell (p := ⟨wr.heap.size, 0, none⟩) hlw).trans c0
          have e1 : wq.cell? ⟨wr.heap.size, 1, none⟩ = some (.int .i64 nn) := (hbq.cell (p := ⟨wr.heap.size, 1, none⟩) hlw).trans c1
          have hrow := rowAt_below HEA.out.row (hbw.trans ((Below.refl wq.heap.size wq).drew.mono hbw.size))
          have hrl1 : gg.row.length ≤ 1000 := HBI.out.1
          obtain ⟨va, vc, w7, hr7, hown7, hb7⟩ := run_clone wq.drew 50 50 68 iHV (.agg #[.int .i64 0, .int .i64 0, .string ⟨#[]⟩]) 3 32 Tryz.underlying50 HV.out.1 HV.out.2.1 HV.out.2.2.1 HV.out.2.2.2 rfl (by decide) yr gg.row.length yrc (celCells gg.row) (celCells_len gg.row) (cellsAt_row hrow (fun e => by dsimp only at hrow; rw [e] at hrow; exact none_emptyR hrow)) (cel_one gg.row) (by omega) (by omega)
          have HW7 : Hid (w7.ownsRow wq.heap.size 68 3 (.slice va gg.row.length vc) gg.row.length (celCells gg.row)) := hown7
          have hb7q : Below wq.heap.size wq w7 := (Below.refl _ _).drew.trans hb7
          rw [HRL.out.1] at hr7
          have HR7 : Hid ((Builtin.append_ #[50, 50] 50 #[.slice none 0 0, .slice yr rl yrc]).run Tryz.prog wq.drew = .ok (.slice va rl vc) w7) := hr7
          have hLi : L.length = i := by
            have := congrArg List.length HLM.out
            rw [List.length_map, List.length_take, HN.out] at this
            omega
          have ev2 := own_is HOL.out.head
          obtain ⟨ua, hua⟩ : ∃ z, adOf u3 = z := ⟨_, rfl⟩
          obtain ⟨uc, huc⟩ : ∃ z, cpOf u3 = z := ⟨_, rfl⟩
          rw [hua, huc, hLi] at ev2
          clear hua huc hr7 hown7 hrow
          subst ev2
          have f0 := cell_later hb7q e0
          have f1 := cell_later hb7q e1
          have HOU : Hid ((w7.alloc (.cells #[.slice va rl vc, .int .i64 nn, .slice ba j bc] 53)).ownsRow w.heap.size 53 3 (.slice ua i uc) i (gcells L)) := by
            have h : wq.ownsRow w.heap.size 53 3 (.slice ua i uc) L.length (gcells L) := HEB.out.own (headO (.slice ua i uc) L) (by unfold bagsE; simp)
            rw [hLi] at h
            exact ch.own_below h (hb7q.alloc hb7q.size _)
          have HCN : Hid (∀ q v, ([.slice va rl vc, .int .i64 nn, .slice ba j bc] : List Value)[q]? = some v → (w7.alloc (.cells #[.slice va rl vc, .int .i64 nn, .slice ba j bc] 53)).cell? ((⟨w7.heap.size, 0, none⟩ : Addr).add q) = some v) := fun q v hv => by
            match q, hv with
            | 0, hv => simp at hv; subst hv; rw [ch.add_at]; go_simp
            | 1, hv => simp at hv; subst hv; rw [ch.add_at]; go_simp
            | 2, hv => simp at hv; subst hv; rw [ch.add_at]; go_simp
            | q + 3, hv => simp at hv
          have UN : Hid (some wr.heap.size ≠ (Value.slice ua i uc).ownBlock) := fun e => by have := (ch.own_lt HOL.out.head e.symm).2; omega
          have HSW : Hid (wr.heap.size + 1 ≤ w7.heap.size) := by have h1 := hbq.size; have h2 := hb7q.size; show _ ≤ _; omega
          have lowq := HEB.out.low
          have hs7 := hb7q.size
          go_wp2
          refine wp_region_held_drew (S := (fun w' => w'.cell? ⟨wr.heap.size, 0, none⟩ = some (.slice yr rl yrc) ∧ w'.cell? ⟨wr.heap.size, 1, none⟩ = some (.int .i64 nn))) (by kernel_rfl) ⟨by go_simp, by go_simp⟩ (fun hHeld => ?_)
          refine takeJ 0 (some 35) hHeld ?_
          refine takeJ 1 (some 36) hHeld ?_
          refine takeJ 2 (some 37) hHeld ?_
          refine takeJ 4 (some 39) hHeld ?_
          refine takeJ 5 (some 40) hHeld ?_
          refine takeJ 6 (some 41) hHeld ?_
          refine wpAnyH_ready (rs := [3]) (by kernel_rfl) (by simp) ?_
          refine AllReadyH.cons rfl (fun K hK => ?_) AllReadyH.nil
          refine step_append_runI rfl _ _ 50 50 rfl (.slice none 0 0) (.slice yr rl yrc) (by simp [Act.eval, Act.put]) (by simp [Act.eval, Act.put]) HR7.out ?_
          refine hK.out _ _ ⟨f0, f1⟩ (fun hHeld => ?_)
          clear hK K
          try simp only [Act.put, List.setIfInBounds_toArray, List.set_cons_zero, List.set_cons_succ]
          refine takeJ 7 (some 42) hHeld ?_
          refine wpAnyH_ready (rs := [8]) (by kernel_rfl) (by simp) ?_
          refine AllReadyH.cons rfl (fun K hK => ?_) AllReadyH.nil
          go_simp
          refine hK.out _ _ ⟨cell_later ((Below.refl _ _).alloc (Nat.le_refl _) _) hHeld.1, cell_later ((Below.refl _ _).alloc (Nat.le_refl _) _) hHeld.2⟩ (fun hHeld => ?_)
          clear hK K
          try simp only [Act.put, List.setIfInBounds_toArray, List.set_cons_zero, List.set_cons_succ]
          refine wpAnyH_ready (rs := [9]) (by kernel_rfl) (by simp) ?_
          refine AllReadyH.cons rfl (fun K hK => ?_) AllReadyH.nil
          refine step_append_lies _ rfl (.tmp 35) (.tmp 43) 26 rfl w.heap.size 53 iHG (.agg #[.slice none 0 0, .int .i64 0, .slice none 0 0]) 3 56 Tryz.underlying26 HG.out.1 HG.out.2.1 HG.out.2.2.1 HG.out.2.2.2 rfl (by decide) (.slice ua i uc) i (gcells L) (by simp [Act.eval, Act.put]) HOU.out ⟨w7.heap.size, 0, none⟩ 1 1 [.slice va rl vc, .int .i64 nn, .slice ba j bc] (by simp [Act.eval, Act.put]) rfl HCN.out (by intro u hu; simp at hu; rcases hu with rfl | rfl | rfl <;> rfl) (by decide) (by unfold maxLen; omega) (by omega) (by simp; omega) (w7.heap.size + 1) (by simp) ?_
          intro g9 cap9 w9 hown9 hgrow9 hat9 hlt9
          have hbx : wr.heap.size < (w7.alloc (.cells #[.slice va rl vc, .int .i64 nn, .slice ba j bc] 53)).heap.size := by have := HSW.out; simp; omega
          refine hK.out _ _ ⟨(hgrow9.cell_far (⟨wr.heap.size, 0, none⟩ : Addr) hbx UN.out).trans hHeld.1, (hgrow9.cell_far (⟨wr.heap.size, 1, none⟩ : Addr) hbx UN.out).trans hHeld.2⟩ (fun hHeld => ?_)
          clear hK K
          try simp only [Act.put, List.setIfInBounds_toArray, List.set_cons_zero, List.set_cons_succ]
          refine takeJ 10 (some 3) hHeld ?_
          refine wpAnyH_done (by kernel_rfl) ?_ _
          have hb7a : Below wq.heap.size wq (w7.alloc (.cells #[.slice va rl vc, .int .i64 nn, .slice ba j bc] 53)) := hb7q.alloc hb7q.size _
          have HFIN : Hid (OG w9 w.heap.size (.slice (some ⟨g9, 0, none⟩) (i + 1) cap9) (L ++ [⟨.slice va rl vc, gg.row, nn, .slice ba j bc, bs⟩])) := by
            refine OG.app HEB.out hb7a ?_ hgrow9.size (fun k hk hne => hgrow9.block k hk (fun e => hne e.symm)) (by rw [hLi]; exact hown9) (fun g hg => by cases hg; rcases hat9 with h | h; exact .inl h; exact .inr (by simp; omega))
            have h := ch.own_below HW7.out ((Below.refl w7.heap.size w7).alloc (Nat.le_refl _) (.cells #[.slice va rl vc, .int .i64 nn, .slice ba j bc] 53))
            rw [HRL.out.1] at h ⊢
            exact h
          have HMAP : Hid ((L ++ [(⟨.slice va rl vc, gg.row, nn, .slice ba j bc, bs⟩ : GO)]).map GO.grp = gs.take (i + 1)) := by
            show _ = _
            rw [List.map_append, HLM.out, HT2.out]
            congr 1
            show [(⟨gg.row, nn, bs.map (·.2)⟩ : Grp)] = [gg]
            rw [HBM.out, ← HRL.out.2.2, List.take_length, ← HRL.out.2.1]
          have hbE : Below w.heap.size w w9 := (hbw.trans (hb7a.mono hbw.size)).grown hgrow9 (Nat.le_trans hbw.size hb7a.size) (fun k hk => (ch.own_lt HOU.out hk).1)
          clear hown9 hgrow9 hat9
          go_wp2
          go_roundw
          case rel => exact ⟨i + 1, _, by omega, by go_num, HFIN, HMAP, hbE⟩
          case measure => simp [intOf]; omega
    · have hie : i = n := by omega
      subst hie
      have HLG : Hid (L.map GO.grp = gs) := by show _ = _; rw [HLM.out, ← HN.out, List.take_length]
      have ev := own_is HOL.out.head
      obtain ⟨ad9, had⟩ : ∃ z, adOf u3 = z := ⟨_, rfl⟩
      obtain ⟨cp9, hcp⟩ : ∃ z, cpOf u3 = z := ⟨_, rfl⟩
      rw [had, hcp] at ev
      clear had hcp
      subst ev
      go_wp2
      go_ret
      exact ⟨⟨ad9, cp9, L, rfl, HOL.out, HLG.out⟩, hbr⟩
end Go.Proofs.YtbfbgdinhiglaaaGreat.gr
/- Step: what changes make of groups, and the changes that come of that. -/
namespace Go.Proofs.YtbfbgdinhiglaaaGreat.gr
open Go.ChangeShapes Go.WideShapes Go.ChangeAt Go.RowKit
open vl pl bt
set_option linter.unusedVariables false
set_option linter.unusedSimpArgs false
attribute [local go_sem] Oper.semAt_some
/-- a plan in a block of its own -/
def boxP (U : World) (b : Nat) (p : Pln) (x : PA) : Prop := U.cell? ⟨b, 0, none⟩ = some (.int .i64 p.kind) ∧ U.cell? ⟨b, 1, none⟩ = some (.int .i64 p.mode) ∧ U.cell? ⟨b, 2, none⟩ = some (.int .i64 p.low) ∧ U.cell? ⟨b, 3, none⟩ = some (.int .i64 p.high) ∧ U.cell? ⟨b, 4, none⟩ = some (.int .i64 p.size) ∧ U.cell? ⟨b, 5, none⟩ = some (.int .i64 p.limit) ∧ U.cell? ⟨b, 6, none⟩ = some (.slice x.l p.left.length x.lc) ∧ U.cell? ⟨b, 7, none⟩ = some (.slice x.r p.right.length x.rc) ∧ U.cell? ⟨b, 8, none⟩ = some (.slice x.lk p.lkeys.length x.lkc) ∧ U.cell? ⟨b, 9, none⟩ = some (.slice x.rk p.rkeys.length x.rkc) ∧ U.cell? ⟨b, 10, none⟩ = some (.bool p.grouped) ∧ U.cell? ⟨b, 11, none⟩ = some (.slice x.g p.group.length x.gc) ∧ U.cell? ⟨b, 12, none⟩ = some (.slice x.a p.aggs.length x.ac)
theorem box_new (w : World) (p : Pln) (x : PA) (t : TypeId) : boxP (w.alloc (.cells #[.int .i64 p.kind, .int .i64 p.mode, .int .i64 p.low, .int .i64 p.high, .int .i64 p.size, .int .i64 p.limit, .slice x.l p.left.length x.lc, .slice x.r p.right.length x.rc, .slice x.lk p.lkeys.length x.lkc, .slice x.rk p.rkeys.length x.rkc, .bool p.grouped, .slice x.g p.group.length x.gc, .slice x.a p.aggs.length x.ac] t)) w.heap.size p x := by
  unfold boxP
  refine ⟨?_, ?_, ?_, ?_, ?_, ?_, ?_, ?_, ?_, ?_, ?_, ?_, ?_⟩ <;> go_simp
theorem box_later {U U' : World} {b : Nat} {p : Pln} {x : PA} (h : boxP U b p x) (hb : Below U.heap.size U U') : boxP U' b p x := by
  obtain ⟨v0, v1, v2, v3, v4, v5, v6, v7, v8, v9, v10, v11, v12⟩ := h
  exact ⟨cell_later hb v0, cell_later hb v1, cell_later hb v2, cell_later hb v3, cell_later hb v4, cell_later hb v5, cell_later hb v6, cell_later hb v7, cell_later hb v8, cell_later hb v9, cell_later hb v10, cell_later hb v11, cell_later hb v12⟩
theorem box_lt {U : World} {b : Nat} {p : Pln} {x : PA} (h : boxP U b p x) : b < U.heap.size := World.block_lt_of_cell? _ _ h.1
/-- what changes make of groups, in words -/
noncomputable def stepG (p : Pln) (gs : List Grp) (l : List ch.Chg) : Int × List Grp × List ch.Chg :=
  if grpsErr p gs ≠ 0 then (grpsErr p gs, [], []) else if chgsErr p l ≠ 0 then (chgsErr p l, [], []) else if (doAll p gs l).1 ≠ 0 then ((doAll p gs l).1, [], [])
  else (0, (doAll p gs l).2, toldR p.group.length (gs.map fun g => (rowC p g).r) ((doAll p gs l).2.map fun g => (rowC p g).r))
/-- what Step answers -/
def stepRes (R : Int × List Grp × List ch.Chg) (e : Ending) (w' : World) : Prop := (R.1 ≠ 0 ∧ e = .returned (.tuple #[.slice none 0 0, .slice none 0 0, .int .i64 R.1])) ∨ (R.1 = 0 ∧ ∃ ga gc xs ta tc, e = .returned (.tuple #[.slice ga R.2.1.length gc, .slice ta R.2.2.length tc, .int .i64 0]) ∧ gsAt w' ga xs R.2.1 ∧ ch.chgsAt w' ta R.2.2)
theorem rowC_len {p : Pln} {gs : List Grp} (h0 : planErr p = 0) (hg : p.grouped = true) (h : gsR p gs) : ∀ c ∈ gs.map (rowC p), p.group.length ≤ c.r.length ∧ c.r.length ≤ 1000 := fun c hc => by
  obtain ⟨g, hm, rfl⟩ := List.mem_map.1 hc
  have hf := group_few h0 hg
  have := row_len (h.each g hm).1
  have e : (rowC p g).r = g.row ++ figsG p g := rfl
  rw [e, List.length_append, figsG_len]
  omega
theorem map_rowC (p : Pln) (gs : List Grp) : (gs.map (rowC p)).map (·.r) = gs.map fun g => (rowC p g).r := by rw [List.map_map]; rfl
set_option maxRecDepth 100000 in
set_option maxHeartbeats 16000000 in
theorem step_any (p : Pln) (x : PA) (a : Option Addr) (cap : Nat) (xs : List GX) (gs : List Grp) (la : Option Addr) (lcp : Nat) (l : List ch.Chg) (w : World) (hw : wfPlan p) (hp : planAt w p x) (hgs : gsAt w a xs gs) (hwf : ∀ g ∈ gs, wfG g) (hgl : gs.length ≤ 9223372036854775807) (hv : ch.chgsAt w la l) (hwl : ch.wfChgs l) (hll : l.length ≤ 9223372036854775807) :
    Calls Tryz.prog 12 #[planV p x, .slice a gs.length cap, .slice la l.length lcp] w fun e w' => stepRes (stepG p gs l) e w' ∧ Below w.heap.size w w' := by
  have KC : Hid (∀ w1, Below w.heap.size w w1 → Calls Tryz.prog 9 #[planV p x, .slice a gs.length cap] w1 fun e w' => e = .returned (.int .i64 (grpsErr p gs)) ∧ Below w1.heap.size w1 w') := fun w1 hb => check_any p x a cap xs gs w1 hw (planAt_below hp hb) (hgs.below hb) hwf hgl
  have KG : Hid (grpsErr p gs = 0 → ∀ w1, Below w.heap.size w w1 → Calls Tryz.prog 37 #[planV p x, .slice la l.length lcp] w1 fun e w' => e = .returned (.int .i64 (chgsErr p l)) ∧ Below w1.heap.size w1 w') := fun h w1 hb => checkChanges_any p x la lcp l w1 (okG_of h).1 (planAt_below hp hb) (ch.chgsAt_below hv hb) hwl hll
  have KP : Hid (grpsErr p gs = 0 → ∀ w1, Below w.heap.size w w1 → Calls Tryz.prog 38 #[.slice a gs.length cap] w1 fun e w' => (∃ ad c L, e = .returned (.slice ad L.length c) ∧ OG w' w1.heap.size (.slice ad L.length c) L ∧ L.map GO.grp = gs) ∧ Below w1.heap.size w1 w') := fun h w1 hb => by
    obtain ⟨h0, hg, hl, _⟩ := okG_of h
    have hR := gs_right h hwf
    have hf := group_few h0 hg
    refine copied_any a cap xs gs w1 (hgs.below hb) (by omega) (fun g hm => ?_)
    obtain ⟨hr, h1, h2⟩ := hR.each g hm
    refine ⟨by rw [row_len hr]; omega, by rw [hr.bl]; omega, fun t ht => ?_⟩
    obtain ⟨j, hj, rfl⟩ := List.getElem_of_mem ht
    have hb := bag_len (hr.bag j (by rw [← hr.bl]; exact hj)) ⟨by omega, h2⟩
    have e : g.bags.getD j [] = g.bags[j] := by rw [List.getD_eq_getElem?_getD, List.getElem?_eq_getElem hj]; rfl
    rw [e] at hb
    exact hb.1
  have KD : Hid (grpsErr p gs = 0 → chgsErr p l = 0 → ∀ k, k < l.length → ∀ W0 w1 ad c (L : List GO) ra rc, Below w.heap.size w W0 → Below W0.heap.size W0 w1 → OG w1 W0.heap.size (.slice ad L.length c) L → gsR p (L.map GO.grp) → vl.rowAt w ra (l.getD k default).r → Calls Tryz.prog 39 #[planV p x, .slice ad L.length c, .agg #[.int .i64 (l.getD k default).k, .slice ra (l.getD k default).r.length rc]] w1 fun e w' => doRes (doG p (l.getD k default).k (l.getD k default).r (L.map GO.grp)) W0.heap.size e w' ∧ Below W0.heap.size W0 w') := fun h hc k hk W0 w1 ad c L ra rc hb0 hb1 ho hR hr => by
    obtain ⟨h0, hg, _⟩ := okG_of h
    exact do_fits p x W0 w1 hb1 (planAt_below hp hb0) h0 hg ho hR ra rc _ (vl.rowAt_below hr hb0) ((chgs_rows hc hwl).2 k hk).1 _
  have KN : Hid (grpsErr p gs = 0 → chgsErr p l = 0 → ∀ k, k < l.length → ∀ gs1, gsR p gs1 → (doG p (l.getD k default).k (l.getD k default).r gs1).1 = 0 → gsR p (doG p (l.getD k default).k (l.getD k default).r gs1).2) := fun h hc k hk gs1 hR hd => do_right (okG_of h).1 (okG_of h).2.1 ((chgs_rows hc hwl).2 k hk).1 hR hd
  have KR0 : Hid (grpsErr p gs = 0 → ∀ w1, Below w.heap.size w w1 → Calls Tryz.prog 20 #[planV p x, .slice a gs.length cap] w1 fun e w' => (∃ ad c, e = .returned (.slice ad gs.length c) ∧ viewK w' ad (gs.map (rowC p)) ∧ gs.length ≤ c) ∧ Below w1.heap.size w1 w') := fun h w1 hb => rows_right p x a cap xs gs w1 (planAt_below hp hb) (hgs.below hb) h
  have KR1 : Hid (grpsErr p gs = 0 → ∀ w1 ad c xs2 gs2 n2, gs2.length = n2 → gsR p gs2 → Below w.heap.size w w1 → gsAt w1 ad xs2 gs2 → Calls Tryz.prog 20 #[planV p x, .slice ad n2 c] w1 fun e w' => (∃ na nc, e = .returned (.slice na n2 nc) ∧ viewK w' na (gs2.map (rowC p)) ∧ n2 ≤ nc) ∧ Below w1.heap.size w1 w') := fun h w1 ad c xs2 gs2 n2 hn hR hb hg2 => by
    subst hn
    exact rows_right p x ad c xs2 gs2 w1 (planAt_below hp hb) hg2 (gs_err (okG_of h).1 (okG_of h).2.1 hR)
  have KT : Hid (grpsErr p gs = 0 → ∀ gs2 n2 w1 wa wc na nc, gs2.length = n2 → gsR p gs2 → viewK w1 wa (gs.map (rowC p)) → viewK w1 na (gs2.map (rowC p)) → gs.length ≤ wc → n2 ≤ nc → Calls Tryz.prog 40 #[.int .i64 p.group.length, .slice wa gs.length wc, .slice na n2 nc] w1 fun e w' => toldOut (toldR p.group.length (gs.map fun g => (rowC p g).r) (gs2.map fun g => (rowC p g).r)) e w' ∧ Below w1.heap.size w1 w') := fun h gs2 n2 w1 wa wc na nc hn hR h1 h2 h3 h4 => by
    subst hn
    obtain ⟨h0, hg, hl, _⟩ := okG_of h
    have hm := hR.many
    have := told_any p.group.length wa na wc nc (gs.map (rowC p)) (gs2.map (rowC p)) w1 h1 h2 (by rw [List.length_map]; exact h3) (by rw [List.length_map]; exact h4) (rowC_len h0 hg (gs_right h hwf)) (rowC_len h0 hg hR) (by rw [List.length_map]; omega) (by rw [List.length_map]; omega)
    rw [List.length_map, List.length_map, map_rowC, map_rowC] at this
    exact this
  have HS : Hid (grpsErr p gs = 0 → gsR p gs) := fun h => gs_right h hwf
  have HV : Hid (∀ i, i < l.length → ∃ b off ra rc, la = some ⟨b, off, none⟩ ∧ w.cell? ⟨b, off + i * 2, none⟩ = some (.int .i64 (l.getD i default).k) ∧ w.cell? ⟨b, off + i * 2 + 1, none⟩ = some (.slice ra (l.getD i default).r.length rc) ∧ vl.rowAt w ra (l.getD i default).r) := hv
  obtain ⟨R, hR⟩ : ∃ z, stepG p gs l = z := ⟨_, rfl⟩
  have HR : Hid (stepG p gs l = R) := hR
  rw [hR]
  obtain ⟨E, hE⟩ : ∃ z, grpsErr p gs = z := ⟨_, rfl⟩
  have HE : Hid (grpsErr p gs = E) := hE
  obtain ⟨CE, hCE⟩ : ∃ z, chgsErr p l = z := ⟨_, rfl⟩
  have HCE : Hid (chgsErr p l = CE) := hCE
  obtain ⟨gn, hgn⟩ : ∃ z, gs.length = z := ⟨_, rfl⟩
  obtain ⟨n, hn⟩ : ∃ z, l.length = z := ⟨_, rfl⟩
  have HN : Hid (l.length = n) := hn
  rw [hE] at KC KG KP KD KN KR0 KR1 KT HS
  rw [hCE] at KG KD KN
  rw [hgn] at KC KP KR0 KT ⊢
  rw [hn] at KG KD KN HV hll ⊢
  clear hR hE hCE hgn hn hw hp hgs hwf hgl hv hwl
  unfold planV at KC KG KD KR0 KR1 ⊢
  go_enter Tryz.func12, Tryz.ntmps12
  go_wp2_with fail
  generalize hV : (World.alloc w _) = V
  have hb0 : Below w.heap.size w V := by rw [← hV]; exact (Below.refl _ _).alloc (Nat.le_refl _) _
  have HB : Hid (boxP V w.heap.size p x) := by subst hV; exact box_new ..
  clear hV
  refine (KC.out _ hb0).mono ?_
  rintro e w1 ⟨rfl, hb1⟩
  have hbw : Below w.heap.size w w1 := hb0.trans (hb1.mono hb0.size)
  replace HB : Hid (boxP w1 w.heap.size p x) := box_later HB.out hb1
  clear hb1 hb0 KC
  by_cases h0 : E = 0
  rotate_left
  · have hne : (E != 0) = true := by simpa using h0
    have e1 : R = (E, [], []) := by rw [← HR.out]; unfold stepG; rw [if_pos (by rw [HE.out]; exact h0), HE.out]
    subst e1
    go_wp2
    exact bodyPost_ret (v := .tuple #[.slice none 0 0, .slice none 0 0, .int .i64 E]) (by simp [results, Tryz.results12, go_sem]) rfl ⟨.inl ⟨h0, rfl⟩, hbw⟩
  subst h0
  obtain ⟨v0, v1, v2, v3, v4, v5, v6, v7, v8, v9, v10, v11, v12⟩ := HB.out
  go_wp2_with fail
  refine (KG.out (by trivial) _ hbw).mono ?_
  rintro e w2 ⟨rfl, hb2⟩
  have hbw2 : Below w.heap.size w w2 := hbw.trans (hb2.mono hbw.size)
  replace HB : Hid (boxP w2 w.heap.size p x) := box_later HB.out hb2
  clear v0 v1 v2 v3 v4 v5 v6 v7 v8 v9 v10 v11 v12 hb2 hbw KG
  by_cases h1 : CE = 0
  rotate_left
  · have hne : (CE != 0) = true := by simpa using h1
    have e1 : R = (CE, [], []) := by rw [← HR.out]; unfold stepG; rw [if_neg (by simp [HE.out]), if_pos (by rw [HCE.out]; exact h1), HCE.out]
    subst e1
    go_wp2
    exact bodyPost_ret (v := .tuple #[.slice none 0 0, .slice none 0 0, .int .i64 CE]) (by simp [results, Tryz.results12, go_sem]) rfl ⟨.inl ⟨h1, rfl⟩, hbw2⟩
  subst h1
  have HRD : Hid (R = if (doAll p gs l).1 ≠ 0 then ((doAll p gs l).1, [], []) else (0, (doAll p gs l).2, toldR p.group.length (gs.map fun g => (rowC p g).r) ((doAll p gs l).2.map fun g => (rowC p g).r))) := by
    show _ = _
    rw [← HR.out]; unfold stepG; rw [if_neg (by simp [HE.out]), if_neg (by simp [HCE.out])]
  go_wp2_with (go_at_call 38; refine (KP.out (by trivial) _ hbw2).mono ?_; rintro e w3 ⟨⟨ad, c3, L0, rfl, hog, hLg⟩, hb3⟩)
  have HOG : Hid (OG w3 w2.heap.size (.slice ad L0.length c3) L0) := hog
  have HL0 : Hid (L0.map GO.grp = gs) := hLg
  clear hog hLg KP
  go_loopw [11, 32] (fun v t wr => ∃ (k : Nat) (L : List GO) (ad : Option Addr) (c : Nat), k ≤ n ∧ t = .int .i64 k ∧ v = .slice ad L.length c ∧ Hid (OG wr w2.heap.size (.slice ad L.length c) L ∧ gsR p (L.map GO.grp) ∧ doAll p gs l = doAll p (L.map GO.grp) (l.drop k)) ∧ Below w2.heap.size w2 wr) (fun _ t _ => n - (intOf t).toNat)
  case atStart => exact ⟨0, L0, ad, c3, Nat.zero_le _, rfl, rfl, ⟨HOG.out, by rw [HL0.out]; exact HS.out (by trivial), by rw [HL0.out]; rfl⟩, hb3⟩
  case round =>
    obtain ⟨k, L, ad2, c2, hk, rfl, rfl, HI, hbr⟩ := hrel
    have hbx : Below w.heap.size w wr := hbw2.trans (hbr.mono hbw2.size)
    have HBr : Hid (boxP wr w.heap.size p x) := box_later HB.out hbr
    have lw : w.heap.size < wr.heap.size := box_lt HBr.out
    obtain ⟨v0, v1, v2, v3, v4, v5, v6, v7, v8, v9, v10, v11, v12⟩ := HBr.out
    obtain ⟨ln, hln⟩ : ∃ z, L.length = z := ⟨_, rfl⟩
    have HLN : Hid (L.length = ln) := hln
    rw [hln]
    by_cases hkn : k < n
    · obtain ⟨lb, lo, ra, rc, e, x1, x2, x3⟩ := HV.out k hkn
      subst e
      have HRA : Hid (vl.rowAt w ra (l.getD k default).r) := x3
      have HKD := KD.out (by trivial) (by trivial) k hkn w2
      have HKN := KN.out (by trivial) (by trivial) k hkn
      have HDR : Hid (l.drop k = l.getD k default :: l.drop (k + 1)) := drop_at l k (by rw [HN.out]; exact hkn)
      obtain ⟨c, hc⟩ : ∃ z, l.getD k default = z := ⟨_, rfl⟩
      rw [hc] at x1 x2 HRA HKD HKN HDR
      obtain ⟨kd, r⟩ := c
      dsimp only at x1 x2 HRA HKD HKN
      obtain ⟨rn, hrn⟩ : ∃ z, r.length = z := ⟨_, rfl⟩
      rw [hrn] at x2 HKD
      obtain ⟨D, hD⟩ : ∃ z, doG p kd r (L.map GO.grp) = z := ⟨_, rfl⟩
      have HKN2 := HKN _ HI.out.2.1
      have HK2 : Hid (∀ w1, Below w2.heap.size w2 w1 → OG w1 w2.heap.size (.slice ad2 ln c2) L → Calls Tryz.prog 39 #[.agg #[.int .i64 p.kind, .int .i64 p.mode, .int .i64 p.low, .int .i64 p.high, .int .i64 p.size, .int .i64 p.limit, .slice x.l p.left.length x.lc, .slice x.r p.right.length x.rc, .slice x.lk p.lkeys.length x.lkc, .slice x.rk p.rkeys.length x.rkc, .bool p.grouped, .slice x.g p.group.length x.gc, .slice x.a p.aggs.length x.ac], .slice ad2 ln c2, .agg #[.int .i64 kd, .slice ra rn rc]] w1 fun e w' => doRes D w2.heap.size e w' ∧ Below w2.heap.size w2 w') := fun w1 h1 h2 => by
        have := HKD w1 ad2 c2 L ra rc hbw2 h1 (by rw [hln]; exact h2) HI.out.2.1 HRA.out
        rw [hln, hD] at this
        exact this
      have HDA : Hid (doAll p gs l = doAll p (L.map GO.grp) (⟨kd, r⟩ :: l.drop (k + 1)) ∧ doG p kd r (L.map GO.grp) = D ∧ (D.1 = 0 → gsR p D.2)) := ⟨by rw [HI.out.2.2, HDR.out], hD, by rw [← hD]; exact HKN2⟩
      have q1 := cell_later hbx x1
      have q2 := cell_later hbx x2
      have lw2 : lb < wr.heap.size := World.block_lt_of_cell? _ _ q1
      have i1 : (0 : Int) ≤ (k : Int) := by omega
      have i2 : (k : Int) < (n : Int) := by omega
      have HO2 : Hid (OG wr w2.heap.size (.slice ad2 ln c2) L) := by rw [← hln]; exact HI.out.1
      clear hc x1 x2 x3 HKD HKN HKN2 hrn hD hln HDR KD KN KR0 KR1 KT HS HI
      go_wp2_with fail
      refine (HK2.out _ (hbr.alloc hbr.size _) (HO2.out.below ((Below.refl _ _).alloc (Nat.le_refl _) _))).mono ?_
      rintro e w5 ⟨hres, hb5⟩
      obtain ⟨D1, D2⟩ := D
      rcases hres with ⟨hne, rfl⟩ | ⟨h0, ad5, c5, L5, rfl, ho5, hm5⟩
      · have e1 : R = (D1, [], []) := by
          rw [HRD.out, HDA.out.1, doAll_bad (by rw [HDA.out.2.1]; exact hne), HDA.out.2.1]
          exact if_pos hne
        have hne2 : (D1 != 0) = true := by simpa using hne
        subst e1
        dsimp only
        go_wp2
        exact bodyPost_ret (v := .tuple #[.slice none 0 0, .slice none 0 0, .int .i64 D1]) (by simp [results, Tryz.results12, go_sem]) rfl ⟨.inl ⟨hne, rfl⟩, hbw2.trans (hb5.mono hbw2.size)⟩
      · dsimp only at h0 hm5
        subst h0
        have HNX : Hid (OG w5 w2.heap.size (.slice ad5 L5.length c5) L5 ∧ gsR p (L5.map GO.grp) ∧ doAll p gs l = doAll p (L5.map GO.grp) (l.drop (k + 1))) := ⟨ho5, by rw [hm5]; exact HDA.out.2.2 rfl, by rw [HDA.out.1, doAll_ok (by rw [HDA.out.2.1]), HDA.out.2.1, hm5]⟩
        obtain ⟨n5, hn5⟩ : ∃ z, L5.length = z := ⟨_, rfl⟩
        have HN5 : Hid (L5.length = n5) := hn5
        rw [hn5]
        clear ho5 hm5 hn5
        go_wp2
        go_roundw
        case rel => exact ⟨k + 1, L5, ad5, c5, by omega, by go_num, by rw [HN5.out], HNX.out, hb5⟩
        case measure => simp [intOf]; omega
    · have hke : k = n := by omega
      have HG2 : Hid (gsR p (L.map GO.grp) ∧ gsAt wr ad2 (L.map GO.gx) (L.map GO.grp) ∧ (L.map GO.grp).length = ln ∧ R = (0, L.map GO.grp, toldR p.group.length (gs.map fun g => (rowC p g).r) ((L.map GO.grp).map fun g => (rowC p g).r))) := by
        refine ⟨HI.out.2.1, HI.out.1.at, by rw [List.length_map]; exact hln, ?_⟩
        have e1 : doAll p gs l = (0, L.map GO.grp) := by rw [HI.out.2.2, List.drop_of_length_le (by rw [HN.out]; omega)]; rfl
        rw [HRD.out, e1]
        exact if_neg (by simp)
      obtain ⟨g2, hg2⟩ : ∃ z, L.map GO.grp = z := ⟨_, rfl⟩
      obtain ⟨x2, hx2⟩ : ∃ z, L.map GO.gx = z := ⟨_, rfl⟩
      rw [hg2, hx2] at HG2
      have KR0b := KR0.out (by trivial)
      have KR1b := KR1.out (by trivial)
      have KTb := KT.out (by trivial)
      have HKR0 : Hid _ := KR0b
      have HKR1 : Hid _ := KR1b
      have HKT : Hid _ := KTb
      clear hg2 hx2 hln KR0 KR1 KT KR0b KR1b KTb KD KN HS HI HV HRD HOG HL0 hke
      go_wp2
      go_region_held3 (fun w' => w'.cell? ⟨w.heap.size, 0, none⟩ = some (.int .i64 p.kind) ∧ w'.cell? ⟨w.heap.size, 1, none⟩ = some (.int .i64 p.mode) ∧ w'.cell? ⟨w.heap.size, 2, none⟩ = some (.int .i64 p.low) ∧ w'.cell? ⟨w.heap.size, 3, none⟩ = some (.int .i64 p.high) ∧ w'.cell? ⟨w.heap.size, 4, none⟩ = some (.int .i64 p.size) ∧ w'.cell? ⟨w.heap.size, 5, none⟩ = some (.int .i64 p.limit) ∧ w'.cell? ⟨w.heap.size, 6, none⟩ = some (.slice x.l p.left.length x.lc) ∧ w'.cell? ⟨w.heap.size, 7, none⟩ = some (.slice x.r p.right.length x.rc) ∧ w'.cell? ⟨w.heap.size, 8, none⟩ = some (.slice x.lk p.lkeys.length x.lkc) ∧ w'.cell? ⟨w.heap.size, 9, none⟩ = some (.slice x.rk p.rkeys.length x.rkc) ∧ w'.cell? ⟨w.heap.size, 10, none⟩ = some (.bool p.grouped) ∧ w'.cell? ⟨w.heap.size, 11, none⟩ = some (.slice x.g p.group.length x.gc) ∧ w'.cell? ⟨w.heap.size, 12, none⟩ = some (.slice x.a p.aggs.length x.ac)) (first | exact box_later HBr.out hyT | exact box_later HBr.out hyN | exact box_later HBr.out hyM | go_keep)
        (first
          | (go_at_call 40; refine (HKT.out g2 ln _ _ _ _ _ HG2.out.2.2.1 HG2.out.1 (by first | exact vwW | exact viewK_below vwW hbM) (by first | exact vwN | exact viewK_below vwN hbN) hcW hcN).mono ?_; rintro e yT ⟨⟨tb, tcap, rfl, htb⟩, hbT⟩; have hyT : Below wr.heap.size wr yT := by first | exact hyN.trans (hbT.mono hyN.size) | exact hyM.trans (hbT.mono hyM.size))
          | (go_at_call 20; (with_reducible refine (HKR0.out _ (by first | exact hbx.trans (hyM.mono hbx.size) | exact hbx.drew)).mono ?_); rintro e yN ⟨⟨adW, cW, rfl, vwW, hcW⟩, hbN⟩; have hyN : Below wr.heap.size wr yN := by first | exact hyM.trans (hbN.mono hyM.size) | exact (Below.refl _ _).drew.trans hbN)
          | (go_at_call 20; (with_reducible refine (HKR1.out _ ad2 c2 x2 g2 ln HG2.out.2.2.1 HG2.out.1 (by first | exact hbx.trans (hyN.mono hbx.size) | exact hbx.drew) (by first | exact HG2.out.2.1.below hyN | exact HG2.out.2.1.below (Below.refl _ _).drew)).mono ?_); rintro e yM ⟨⟨adN, cN, rfl, vwN, hcN⟩, hbM⟩; have hyM : Below wr.heap.size wr yM := by first | exact hyN.trans (hbM.mono hyN.size) | exact (Below.refl _ _).drew.trans hbM))
      all_goals
        go_wp2
        have e1 := HG2.out.2.2.2
        have hl1 := HG2.out.2.2.1
        refine bodyPost_ret (v := .tuple #[.slice ad2 ln c2, .slice tb (toldR p.group.length (gs.map fun g => (rowC p g).r) (g2.map fun g => (rowC p g).r)).length tcap, .int .i64 0]) (by simp [results, Tryz.results12, go_sem]) rfl ⟨.inr ⟨by rw [e1], ad2, c2, x2, tb, tcap, ?_, ?_, ?_⟩, hbx.trans (hyT.mono hbx.size)⟩
        · rw [e1]; dsimp only; rw [hl1]
        · rw [e1]; exact HG2.out.2.1.below hyT
        · rw [e1]; exact htb
end Go.Proofs.YtbfbgdinhiglaaaGreat.gr
