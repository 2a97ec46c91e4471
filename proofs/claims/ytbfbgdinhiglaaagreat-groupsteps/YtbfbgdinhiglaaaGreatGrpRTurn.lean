import Derived.Test.YtbfbgdinhiglaaaGreatS31
import Derived.Test.YtbfbgdinhiglaaaGreatS22
import Derived.Test.YtbfbgdinhiglaaaGreatS19
import Derived.Test.YtbfbgdinhiglaaaGreatMgChgD
import Derived.Deep.DeepCutAuto
import Derived.Deep.CutBlock
namespace Go.Proofs.YtbfbgdinhiglaaaGreat.gr
open Go.ChangeShapes Go.WideShapes Go.ChangeAt Go.RowKit
open vl pl bt
set_option linter.unusedVariables false
set_option linter.unusedSimpArgs false
attribute [local go_sem] Oper.semAt_some
theorem cmpB_self : ∀ (l : List UInt8), Lib.compareBytes l l = 0
 | [] => rfl
 | a :: l => by
  rw [Lib.compareBytes, if_neg (UInt8.lt_irrefl a), if_neg (UInt8.lt_irrefl a)]
  exact cmpB_self l
theorem rows_self {a : List Cel} (h : ∀ z ∈ a, fineC z) : cmpRows a a = 0 := by
 rw [← cmpB_rows a a h h]
 exact cmpB_self _
theorem cells_self {c : Cel} (h : fineC c) : cmpC c c = 0 := by
 rw [← rows_one]
 exact rows_self (one_fine h)
theorem map_take (L : List GO) (i : Nat) : (L.take i).map GO.grp = (L.map GO.grp).take i := by rw [List.map_take]
theorem map_drop (L : List GO) (i : Nat) : (L.drop i).map GO.grp = (L.map GO.grp).drop i := by rw [List.map_drop]
theorem getD_map (L : List GO) (i : Nat) (h : i < L.length) : (L.map GO.grp).getD i default = (L.getD i default).grp := (getD_mapG L i h).2
theorem getD_inG {L : List GO} {i : Nat} (h : i < L.length) : L.getD i default ∈ L := by rw [List.getD_eq_getElem?_getD, List.getElem?_eq_getElem h]; exact List.getElem_mem h
theorem ret_turn {v : Value} {a b : Int} (h : a = b) : Ending.returned (.tuple #[v, .int .i64 a]) = .returned (.tuple #[v, .int .i64 b]) := by rw [h]
theorem room_behind {w5 w6 : World} {base oc gl na : Nat} {oa : Option Addr} {key : List Cel} {H : Own1} {R : List Own1} (h : Est w5 base (H :: R)) (hb : Below w5.heap.size w5 w6) (hv : ownV w6 w5.heap.size (.slice oa gl oc) key) (hna : na ≤ 4) :
 Est (w6.alloc (.cells (Array.replicate na (.slice none 0 0)) 61)) base (H :: (newGO (.slice oa gl oc) key (.slice (some ⟨w6.heap.size, 0, none⟩) na na) na).rowO :: (newGO (.slice oa gl oc) key (.slice (some ⟨w6.heap.size, 0, none⟩) na na) na).bagsO :: R) := by
 have h1 := Est_new (x := (newGO (.slice oa gl oc) key (.slice (some ⟨w6.heap.size, 0, none⟩) na na) na).rowO) h hb (World.ownsRow.mono hv h.low) (fun g hg => (ch.own_lt hv hg).1)
 have e : (newGO (.slice oa gl oc) key (.slice (some ⟨w6.heap.size, 0, none⟩) na na) na).bagsO = (⟨.slice (some ⟨w6.heap.size, 0, none⟩) na na, 61, 1, na, List.replicate na (.slice none 0 0)⟩ : Own1) := by
  unfold GO.bagsO newGO
  dsimp only
  rw [List.length_replicate, new_map]
 have h2 := Est_new (x := (newGO (.slice oa gl oc) key (.slice (some ⟨w6.heap.size, 0, none⟩) na na) na).bagsO) h1 (bR.alloc nR _) (by rw [e]; exact own_bags h1.low _ na hna) (fun g hg => by rw [e] at hg; cases hg; exact Nat.le_refl _)
 refine Est_perm h2 (perm_of (fun a => ?_))
 simp only [List.count_cons]
 omega
theorem room_ahead {w5 w6 : World} {base oc gl na : Nat} {oa : Option Addr} {key : List Cel} {H : Own1} {R : List Own1} (h : Est w5 base (H :: R)) (hb : Below (w5.alloc (.cells (Array.replicate na (.slice none 0 0)) 61)).heap.size (w5.alloc (.cells (Array.replicate na (.slice none 0 0)) 61)) w6) (hv : ownV w6 (w5.alloc (.cells (Array.replicate na (.slice none 0 0)) 61)).heap.size (.slice oa gl oc) key) (hna : na ≤ 4) :
 Est w6 base (H :: (newGO (.slice oa gl oc) key (.slice (some ⟨w5.heap.size, 0, none⟩) na na) na).rowO :: (newGO (.slice oa gl oc) key (.slice (some ⟨w5.heap.size, 0, none⟩) na na) na).bagsO :: R) := by
 have e : (newGO (.slice oa gl oc) key (.slice (some ⟨w5.heap.size, 0, none⟩) na na) na).bagsO = (⟨.slice (some ⟨w5.heap.size, 0, none⟩) na na, 61, 1, na, List.replicate na (.slice none 0 0)⟩ : Own1) := by
  unfold GO.bagsO newGO
  dsimp only
  rw [List.length_replicate, new_map]
 have h1 := Est_new (x := (newGO (.slice oa gl oc) key (.slice (some ⟨w5.heap.size, 0, none⟩) na na) na).bagsO) h (bR.alloc nR _) (by rw [e]; exact own_bags h.low _ na hna) (fun g hg => by rw [e] at hg; cases hg; exact Nat.le_refl _)
 have h2 := Est_new (x := (newGO (.slice oa gl oc) key (.slice (some ⟨w5.heap.size, 0, none⟩) na na) na).rowO) h1 hb (World.ownsRow.mono hv h1.low) (fun g hg => (ch.own_lt hv hg).1)
 refine Est_perm h2 (perm_of (fun a => ?_))
 simp only [List.count_cons]
 omega
theorem three_cells {w : World} {base g n cap p : Nat} {A B y : List Value} (h : w.ownsRow base 53 3 (.slice (some ⟨g, 0, none⟩) n cap) n (A ++ y ++ B)) (hA : A.length = p * 3) (hy : y.length = 3) :
 (∃ u, w.cell? ⟨g, p * 3, none⟩ = some u) ∧ (∃ u, w.cell? ⟨g, p * 3 + 1, none⟩ = some u) ∧ (∃ u, w.cell? ⟨g, p * 3 + 1 + 1, none⟩ = some u) := by
 have hc := World.ownsRow.cells h (g := g) rfl
 have one : ∀ j, j < 3 → ∃ u, w.cell? ⟨g, p * 3 + j, none⟩ = some u := fun j hj => by
  have hj2 : j < y.length := by omega
  have := hc (p * 3 + j) y[j] (by rw [List.append_assoc, List.getElem?_append_right (by omega), hA, Nat.add_sub_cancel_left, List.getElem?_append_left hj2, List.getElem?_eq_getElem hj2])
  rw [ch.add_at, Nat.zero_add] at this
  exact ⟨_, this⟩
 exact ⟨one 0 (by omega), one 1 (by omega), one 2 (by omega)⟩
theorem new_grp (p : Pln) (rv bv : Value) (key : List Cel) : (newGO rv key bv p.aggs.length).grp = newG p key := by
 unfold newGO GO.grp newG
 dsimp only
 rw [List.map_replicate]
structure midG (p : Pln) (r : List Cel) (d : Int) (D : Int × List Grp) (base : Nat) (E : List Own1) (w : World) (g LN cap i : Nat) (A : List GO) (y : GO) (B : List GO) : Prop where
 eg : EG w base (.slice (some ⟨g, 0, none⟩) LN cap) (A ++ y :: B) E
 at' : A.length = i
 right : grpR p y.grp
 n : 0 ≤ y.n ∧ y.n ≤ 1073741824
 bd : LN ≤ 4096
 low : d = -1 → 1 ≤ y.n
 res : D = restG d p r (A.map GO.grp) y.grp (B.map GO.grp)
set_option maxRecDepth 100000 in
set_option maxHeartbeats 16000000 in
theorem turn_any (p : Pln) (x : PA) (W0 w : World) (hbW : Below W0.heap.size W0 w) (hp : planAt W0 p x) (h0 : planErr p = 0) (hg : p.grouped = true) {ad : Option Addr} {cap : Nat} {L : List GO} (h1 : OG w W0.heap.size (.slice ad L.length cap) L) (hR : gsR p (L.map GO.grp))
 (ra : Option Addr) (rc : Nat) (r : List Cel) (hr : vl.rowAt W0 ra r) (hrF : rowF p r) (kd : Int) (hk1 : 1 ≤ kd) (hk4 : kd ≤ 4) :
 Calls Tryz.prog 43 #[planV p x, .slice ad L.length cap, .agg #[.int .i64 kd, .slice ra r.length rc]] w fun e w' => turnRes (doG p kd r (L.map GO.grp)) W0.heap.size e w' ∧ Below W0.heap.size W0 w' := by
 have hf := group_few h0 hg
 have h8 := row_eight h0 hrF
 have hmany := hR.many
 rw [List.length_map] at hmany
 have hkf := key_fine h0 hrF
 have hkl : (pickR r p.group).length = p.group.length := by unfold pickR; rw [List.length_map]
 have hin := group_in h0
 have KS : Hid (∀ w1, Calls Tryz.prog 89 #[.agg #[.int .i64 kd, .slice ra r.length rc]] w1 fun e w' => e = .returned (.int .i64 (ch.moreOf kd)) ∧ Below w1.heap.size w1 w') := fun w1 => ch.sign_any kd ra r.length rc w1
 have KO : Hid (∀ w1, Below W0.heap.size W0 w1 → Calls Tryz.prog 91 #[planV p x, .slice ra r.length rc] w1 fun e w' => (∃ ad' c', e = .returned (.slice ad' p.group.length c') ∧ ownV w' w1.heap.size (.slice ad' p.group.length c') (pickR r p.group)) ∧ Below w1.heap.size w1 w') := fun w1 hb => by
  refine (groupOf_any p x ra rc r w1 (planAt_below hp hb) (by omega) (by omega) (vl.rowAt_below hr hb) (fun z hz => by have := hin z hz; rw [hrF.len]; exact this)).mono ?_
  rintro e w' ⟨⟨ad', c', rfl, ho⟩, hb2⟩
  rw [hkl] at ho
  exact ⟨⟨ad', c', by rw [hkl], ho⟩, hb2⟩
 have KL : Hid (∀ w1 ka kc, Below w.heap.size w w1 → vl.rowAt w1 ka (pickR r p.group) → Calls Tryz.prog 90 #[.slice ad L.length cap, .slice ka p.group.length kc] w1 fun e w' => e = .returned (.tuple #[.int .i64 (idxG (L.map GO.grp) (pickR r p.group) : Nat), .bool (hasG (L.map GO.grp) (pickR r p.group))]) ∧ Below w1.heap.size w1 w') := fun w1 ka kc hb hk => by
  have h := rplace_any ad ka cap kc (L.map GO.gx) (L.map GO.grp) (pickR r p.group) w1 ((h1.below hb).at) hk (by rw [List.length_map]; omega) (by omega) (fun g hgm => by rw [row_len (hR.each g hgm).1]; omega) (fun g hgm => ⟨fun e => rows_same (hR.each g hgm).1.row hkf.1 e, fun e => by rw [e]; exact rows_self hkf.1⟩)
  rw [List.length_map, hkl] at h
  exact h
 obtain ⟨hm1, hm2⟩ := moreOf_is hk1 hk4
 have hile := idxG_le (L.map GO.grp) (pickR r p.group)
 rw [List.length_map] at hile
 have F5 : Hid (hasG (L.map GO.grp) (pickR r p.group) = true → idxG (L.map GO.grp) (pickR r p.group) < L.length) := fun h => by
  have := (hasG_lt h).1
  rwa [List.length_map] at this
 have F1 : Hid (hasG (L.map GO.grp) (pickR r p.group) = false → ch.moreOf kd = -1 → doG p kd r (L.map GO.grp) = (9, [])) := fun hh hd => do_none (hm1.1 hd) hh
 have F2 : Hid (ch.moreOf kd = 1 → ((hasG (L.map GO.grp) (pickR r p.group) = false ∧ L.length = 4096) ∨ (hasG (L.map GO.grp) (pickR r p.group) = true ∧ (L.getD (idxG (L.map GO.grp) (pickR r p.group)) default).n = 1073741824)) → doG p kd r (L.map GO.grp) = (2, [])) := fun hd hh => by
  refine do_many (fun k => by have := hm1.2 k; omega) ?_
  rcases hh with ⟨a, b⟩ | ⟨a, b⟩
  ·exact .inl ⟨a, by rw [List.length_map]; exact b⟩
  ·exact .inr ⟨a, by rw [getD_map L _ (F5.out a)]; exact b⟩
 have F3 : Hid (hasG (L.map GO.grp) (pickR r p.group) = true → (ch.moreOf kd = 1 → (L.getD (idxG (L.map GO.grp) (pickR r p.group)) default).n < 1073741824) → doG p kd r (L.map GO.grp) = restG (ch.moreOf kd) p r ((L.take (idxG (L.map GO.grp) (pickR r p.group))).map GO.grp) (L.getD (idxG (L.map GO.grp) (pickR r p.group)) default).grp ((L.drop (idxG (L.map GO.grp) (pickR r p.group) + 1)).map GO.grp)) := fun hh hn => by
  rw [map_take, map_drop, ← getD_map L _ (F5.out hh)]
  refine do_rest hk1 hk4 hh (by rw [List.length_map]; exact hmany) (fun k => ?_)
  rw [getD_map L _ (F5.out hh)]
  refine hn ?_
  rcases hm2 with h | h
  ·exact h
  ·exact absurd (hm1.1 h) k
 have F4 : Hid (hasG (L.map GO.grp) (pickR r p.group) = false → ch.moreOf kd = 1 → L.length + 1 ≤ 4096 → doG p kd r (L.map GO.grp) = restG 1 p r ((L.take (idxG (L.map GO.grp) (pickR r p.group))).map GO.grp) (newG p (pickR r p.group)) ((L.drop (idxG (L.map GO.grp) (pickR r p.group))).map GO.grp)) := fun hh hd hm => by
  rw [map_take, map_drop]
  exact do_fresh (fun k => by have := hm1.2 k; omega) hh (by rw [List.length_map]; exact hm)
 have F6 : Hid (∀ y ∈ L, grpR p y.grp ∧ 1 ≤ y.n ∧ y.n ≤ 1073741824) := fun y hy => hR.each y.grp (List.mem_map_of_mem hy)
 have F7 : Hid (grpR p (newG p (pickR r p.group))) := new_right h0 hrF
 have F8 : Hid (∀ j, j < p.aggs.length → (p.aggs.getD j (0, 0)).1 ≠ 1 → fineC (r.getD (p.aggs.getD j (0, 0)).2.toNat default) ∧ 0 ≤ (p.aggs.getD j (0, 0)).2 ∧ (p.aggs.getD j (0, 0)).2.toNat < r.length) := fun j hj hne => ⟨(col_right h0 hg hrF hj hne).1, (col_right h0 hg hrF hj hne).2.2⟩
 have HAG : Hid (∀ j, j < p.aggs.length → ∃ b off, x.a = some ⟨b, off, none⟩ ∧ W0.cell? ⟨b, off + j * 2, none⟩ = some (.int .i64 (p.aggs.getD j (0, 0)).1) ∧ W0.cell? ⟨b, off + j * 2 + 1, none⟩ = some (.int .i64 (p.aggs.getD j (0, 0)).2)) := hp.a
 have HRW : Hid (vl.rowAt W0 ra r) := hr
 have HO : Hid (OG w W0.heap.size (.slice ad L.length cap) L) := h1
 obtain ⟨D, hD⟩ : ∃ z, doG p kd r (L.map GO.grp) = z := ⟨_, rfl⟩
 obtain ⟨d, hd⟩ : ∃ z, ch.moreOf kd = z := ⟨_, rfl⟩
 obtain ⟨i, hi⟩ : ∃ z, idxG (L.map GO.grp) (pickR r p.group) = z := ⟨_, rfl⟩
 obtain ⟨HAS, hh⟩ : ∃ z, hasG (L.map GO.grp) (pickR r p.group) = z := ⟨_, rfl⟩
 obtain ⟨key, hkey⟩ : ∃ z, pickR r p.group = z := ⟨_, rfl⟩
 obtain ⟨n, hn⟩ : ∃ z, L.length = z := ⟨_, rfl⟩
 obtain ⟨rn, hrn⟩ : ∃ z, r.length = z := ⟨_, rfl⟩
 obtain ⟨gl, hgl⟩ : ∃ z, p.group.length = z := ⟨_, rfl⟩
 have HLN : Hid (L.length = n) := hn
 have HRN : Hid (r.length = rn) := hrn
 have HKL : Hid (key.length = gl) := by rw [← hkey, ← hgl]; exact hkl
 rw [hD] at F1 F2 F3 F4 ⊢
 rw [hd] at KS F1 F2 F3 F4 hm2
 rw [hh] at KL F1 F2 F3 F4 F5
 rw [hi] at KL F2 F3 F4 F5 hile
 rw [hkey] at KO KL F4 F7
 rw [hn] at KL F2 F4 F5 HO hmany hile ⊢
 rw [hrn] at KS KO F8 ⊢
 have hgl2 : gl ≤ 8 := by omega
 have hna4 := hf.2
 rw [hgl] at KO KL
 clear hf h8 hkf hkl hin hm1 hp hr h1 hR hrF hk1 hk4 hD hd hi hh hkey hn hrn h0 hg
 unfold planV at KO ⊢
 obtain ⟨na, hna⟩ : ∃ z, p.aggs.length = z := ⟨_, rfl⟩
 have HNA : Hid (p.aggs.length = na) := hna
 have HGL : Hid (p.group.length = gl) := hgl
 rw [hgl] at KO ⊢
 rw [hna] at KO F8 HAG hna4 ⊢
 clear hgl hna
 go_enter Tryz.func43, Tryz.ntmps43
 go_wp2_with fail
 generalize hV : (World.alloc (World.alloc w _) _) = V
 have HEG : Hid (EG V W0.heap.size (.slice ad n cap) L [boxCh (w.heap.size + 1) kd ra rn rc, boxPl w.heap.size p x]) := by
  have h := EG.start HO.out p x kd ra rn rc
  rw [HGL.out, HNA.out] at h
  rw [← hV]
  exact h
 have hbV : Below w.heap.size w V := by rw [← hV]; exact (bR.alloc nR _).alloc (by simp) _
 obtain ⟨E, hE⟩ : ∃ z, [boxCh (w.heap.size + 1) kd ra rn rc, boxPl w.heap.size p x] = z := ⟨_, rfl⟩
 have HE : Hid (boxCh (w.heap.size + 1) kd ra rn rc ∈ E ∧ boxPl w.heap.size p x ∈ E) := by rw [← hE]; exact ⟨List.mem_cons_self .., List.mem_cons_of_mem _ (List.mem_cons_self ..)⟩
 rw [hE] at HEG
 clear hV hE HO
 refine (KS.out _).mono ?_
 rintro e w1 ⟨rfl, hb1⟩
 have hbw1 : Below w.heap.size w w1 := hbV.trans (hb1.mono hbV.size)
 replace HEG : Hid (EG w1 W0.heap.size (.slice ad n cap) L E) := HEG.out.below hb1
 have hWw1 : Below W0.heap.size W0 w1 := hbW.trans (hbw1.mono hbW.size)
 obtain ⟨v0, v1, v2, v3, v4, v5, v6, v7, v8, v9, v10, v11, v12⟩ := boxPl_cells (HEG.out.mem HE.out.2)
 obtain ⟨k0, k1⟩ := boxCh_cells (HEG.out.mem HE.out.1)
 rw [HGL.out] at v11
 rw [HNA.out] at v12
 clear hb1 hbV KS
 go_upto_region 3 with (first
  | (go_at_call 91; refine (KO.out _ hWw1).mono ?_; rintro e w2 ⟨⟨oa, oc, rfl, hov⟩, hb2⟩; have hrow : vl.rowAt w2 oa key := vl.ownV_row (by rw [HKL.out]; exact hov))
  | (go_at_call 90; refine (KL.out _ oa oc (hbw1.trans (hb2.mono hbw1.size)) hrow).mono ?_; rintro e w3 ⟨rfl, hb3⟩))
 have hb13 : Below w1.heap.size w1 w3 := hb2.trans (hb3.mono hb2.size)
 replace HEG : Hid (EG w3 W0.heap.size (.slice ad n cap) L E) := HEG.out.below hb13
 have hW3 : Below W0.heap.size W0 w3 := hWw1.trans (hb13.mono hWw1.size)
 clear v0 v1 v2 v3 v4 v5 v6 v7 v8 v9 v10 v11 v12 k0 k1 hov hrow hb2 hb3 hb13 KL hbw1 hWw1
 obtain ⟨C1, hC1⟩ : ∃ z, (!HAS && decide (d = -1)) = z := ⟨_, rfl⟩
 have HC1 : Hid ((!HAS && decide (d = -1)) = C1) := hC1
 clear hC1
 go_cut [29] (fun b wc => b = .bool C1 ∧ wc = w3)
 case first =>
  cases HAS with
  | false =>
   rcases hm2 with rfl | rfl
   ·go_wp2
    go_meet
    exact ⟨by rw [← HC1.out]; rfl, rfl⟩
   ·go_wp2
    go_meet
    exact ⟨by rw [← HC1.out]; rfl, rfl⟩
  | true =>
   go_wp2
   go_meet
   exact ⟨by rw [← HC1.out]; rfl, rfl⟩
 case rest =>
  obtain ⟨rfl, hw4⟩ := hcut
  subst hw4
  rename World => w3
  cases C1 with
  | true =>
   have hc := HC1.out
   simp only [Bool.and_eq_true, Bool.not_eq_true', decide_eq_true_eq] at hc
   have eD := F1.out hc.1 hc.2
   have HD : Hid (D = (9, [])) := eD
   clear hc eD
   go_wp2
   go_ret2
   exact ⟨.inl ⟨by rw [HD.out]; decide, _, ret_turn (by rw [HD.out])⟩, hW3⟩
  | false =>
   go_upto_region 5 with fail
   obtain ⟨C2, hC2⟩ : ∃ z, ((!HAS && decide (n = 4096)) || (HAS && (decide (d = 1) && decide ((L.getD i default).n = 1073741824)))) = z := ⟨_, rfl⟩
   have HC2 : Hid (((!HAS && decide (n = 4096)) || (HAS && (decide (d = 1) && decide ((L.getD i default).n = 1073741824)))) = C2) := hC2
   clear hC2
   go_cut [52] (fun b wc => b = .bool C2 ∧ wc = w3)
   case first =>
    cases HAS with
    | false =>
     have e1 : ((n : Int) == 4096) = decide (n = 4096) := by rw [Bool.eq_iff_iff]; simp; omega
     by_cases hn4 : n = 4096
     ·have e2 : ((n : Int) == 4096) = true := by rw [e1, decide_eq_true hn4]
      have HX : Hid (C2 = true) := by show _ = _; rw [← HC2.out, decide_eq_true hn4]; rfl
      clear e1 hn4
      go_wp2
      go_meet
      exact ⟨by rw [HX.out], rfl⟩
     ·have e2 : ((n : Int) == 4096) = false := by rw [e1, decide_eq_false hn4]
      have HX : Hid (C2 = false) := by show _ = _; rw [← HC2.out, decide_eq_false hn4]; rfl
      clear e1 hn4
      go_wp2
      go_meet
      exact ⟨by rw [HX.out], rfl⟩
    | true =>
     have hin := F5.out (by trivial)
     obtain ⟨g, hgd⟩ := ad_some (n := n) HEG.out.og (by rw [HLN.out]; omega)
     subst hgd
     have zc := (gcells_at L i (by rw [HLN.out]; exact hin)).2.1
     have hh := HEG.out.og.head
     rw [HLN.out] at hh
     have q1 := own_cell2 hh (i * 3 + 1) _ zc
     obtain ⟨N, hN⟩ : ∃ z, (L.getD i default).n = z := ⟨_, rfl⟩
     rw [hN] at q1 HC2
     have i1 : (0 : Int) ≤ (i : Int) := by omega
     have i2 : (i : Int) < (n : Int) := by omega
     have e1 : (N == 1073741824) = decide (N = 1073741824) := by rw [Bool.eq_iff_iff]; simp
     clear hN zc hh
     rcases hm2 with rfl | rfl
     ·by_cases hn4 : N = 1073741824
      ·have e2 : (N == 1073741824) = true := by rw [e1, decide_eq_true hn4]
       have HX : Hid (C2 = true) := by show _ = _; rw [← HC2.out, decide_eq_true hn4]; rfl
       clear e1 hn4
       go_wp2
       go_meet
       exact ⟨by rw [HX.out], rfl⟩
      ·have e2 : (N == 1073741824) = false := by rw [e1, decide_eq_false hn4]
       have HX : Hid (C2 = false) := by show _ = _; rw [← HC2.out, decide_eq_false hn4]; rfl
       clear e1 hn4
       go_wp2
       go_meet
       exact ⟨by rw [HX.out], rfl⟩
     ·have HX : Hid (C2 = false) := by show _ = _; rw [← HC2.out]; rfl
      go_wp2
      go_meet
      exact ⟨by rw [HX.out], rfl⟩
   case rest =>
    obtain ⟨rfl, hw4⟩ := hcut
    subst hw4
    rename World => w3
    cases C2 with
    | true =>
     have HD : Hid (D = (2, [])) := by
      have hc := HC2.out
      show _ = _
      cases HAS with
      | false =>
       simp at hc
       have hd1 : d = 1 := by
        rcases hm2 with h | h
        ·exact h
        ·have := HC1.out; rw [h] at this; simp at this
       exact F2.out hd1 (.inl ⟨rfl, hc⟩)
      | true =>
       simp at hc
       exact F2.out hc.1 (.inr ⟨rfl, hc.2⟩)
     go_wp2
     go_ret2
     exact ⟨.inl ⟨by rw [HD.out]; decide, _, ret_turn (by rw [HD.out])⟩, hW3⟩
    | false =>
     go_upto_if 55 with fail
     go_cut [1] (fun s wc => ∃ g LN cap2 A y B, s = .slice (some ⟨g, 0, none⟩) LN cap2 ∧ Hid (midG p r d D W0.heap.size E wc g LN cap2 i A y B) ∧ Below W0.heap.size W0 wc)
     case first =>
      cases HAS with
      | true =>
       have hin := F5.out (by trivial)
       obtain ⟨g, hgd⟩ := ad_some (n := n) HEG.out.og (by rw [HLN.out]; omega)
       subst hgd
       have hy := F6.out _ (getD_inG (L := L) (i := i) (by rw [HLN.out]; exact hin))
       have hsp := grp_split L i (by rw [HLN.out]; exact hin)
       have HMID : Hid (midG p r d D W0.heap.size E w3 g n cap i (L.take i) (L.getD i default) (L.drop (i + 1))) := by
        refine ⟨by rw [← hsp]; exact HEG.out, by rw [List.length_take, HLN.out]; omega, hy.1, ⟨by omega, hy.2.2⟩, hmany, fun _ => hy.2.1, F3.out (by trivial) (fun h => ?_)⟩
        have hc := HC2.out
        simp [h] at hc
        have := hy.2.2
        have h3 : (L.getD i default).n ≠ 1073741824 := by simpa [List.getD_eq_getElem?_getD] using hc
        omega
       clear hy hsp
       go_wp2
       go_meet
       exact ⟨g, n, cap, _, _, _, rfl, HMID, hW3⟩
      | false =>
       have hd : d = 1 := by
        rcases hm2 with h | h
        ·exact h
        ·have := HC1.out; rw [h] at this; simp at this
       have hn1 : n + 1 ≤ 4096 := by
        have := HC2.out
        simp at this
        omega
       have HRES := F4.out (by trivial) hd hn1
       have HRES : Hid (D = restG d p r ((L.take i).map GO.grp) (newG p key) ((L.drop i).map GO.grp)) := by rw [hd]; exact HRES
       have HD1 : Hid (d = 1) := hd
       clear hd
       obtain ⟨i0, hi0, hz0, hz1, hz2⟩ := info_parts infoG
       have HI0 : Hid (Tryz.prog.info? 53 = some i0 ∧ i0.zero = some (.agg #[.slice none 0 0, .int .i64 0, .slice none 0 0]) ∧ i0.size = 3 ∧ i0.bytes = 56) := ⟨hi0, hz0, hz1, hz2⟩
       have HO3 : Hid (w3.ownsRow W0.heap.size 53 3 (.slice ad n cap) n (gcells L)) := by
        have h := HEG.out.og.head
        rw [HLN.out] at h
        exact h
       have hlow := HEG.out.low
       have hwp : IntKind.i64.wrap ((i : Int) + 1) = (i : Int) + 1 := by rw [IntKind.wrap_i64]; omega
       have HCN : Hid (∀ q v, ([.slice none 0 0, .int .i64 0, .slice none 0 0] : List Value)[q]? = some v → (w3.alloc (.cells #[.slice none 0 0, .int .i64 0, .slice none 0 0] 53)).cell? ((⟨w3.heap.size, 0, none⟩ : Addr).add q) = some v) := fun q v hv => by
        match q, hv with
        | 0, hv => simp at hv; subst hv; rw [ch.add_at]; go_simp
        | 1, hv => simp at hv; subst hv; rw [ch.add_at]; go_simp
        | 2, hv => simp at hv; subst hv; rw [ch.add_at]; go_simp
        | q + 3, hv => simp at hv
       have HBOX : Hid (∀ w', (∀ {o : Own1}, o ∈ E → o.here w' W0.heap.size) → (w'.cell? ⟨w.heap.size, 0, none⟩ = some (.int .i64 p.kind) ∧ w'.cell? ⟨w.heap.size, 1, none⟩ = some (.int .i64 p.mode) ∧ w'.cell? ⟨w.heap.size, 2, none⟩ = some (.int .i64 p.low) ∧ w'.cell? ⟨w.heap.size, 3, none⟩ = some (.int .i64 p.high) ∧ w'.cell? ⟨w.heap.size, 4, none⟩ = some (.int .i64 p.size) ∧ w'.cell? ⟨w.heap.size, 5, none⟩ = some (.int .i64 p.limit) ∧ w'.cell? ⟨w.heap.size, 6, none⟩ = some (.slice x.l p.left.length x.lc) ∧ w'.cell? ⟨w.heap.size, 7, none⟩ = some (.slice x.r p.right.length x.rc) ∧ w'.cell? ⟨w.heap.size, 8, none⟩ = some (.slice x.lk p.lkeys.length x.lkc) ∧ w'.cell? ⟨w.heap.size, 9, none⟩ = some (.slice x.rk p.rkeys.length x.rkc) ∧ w'.cell? ⟨w.heap.size, 10, none⟩ = some (.bool p.grouped) ∧ w'.cell? ⟨w.heap.size, 11, none⟩ = some (.slice x.g gl x.gc) ∧ w'.cell? ⟨w.heap.size, 12, none⟩ = some (.slice x.a na x.ac)) ∧ w'.cell? ⟨w.heap.size + 1, 1, none⟩ = some (.slice ra rn rc)) := fun w' h => by
        have h1 := boxPl_cells (h HE.out.2)
        unfold boxP at h1
        rw [HGL.out, HNA.out] at h1
        exact ⟨h1, (boxCh_cells (h HE.out.1)).2⟩
       clear hi0 hz0 hz1 hz2 F1 F2 F3 F4 F5 F6 HC1 HC2
       go_wp2_with (at_builtin; refine wpList_append_lies _ rfl (.tmp 56) (.tmp 58) 26 rfl W0.heap.size 53 i0 (.agg #[.slice none 0 0, .int .i64 0, .slice none 0 0]) 3 56 Tryz.underlying26 HI0.out.1 HI0.out.2.1 HI0.out.2.2.1 HI0.out.2.2.2 rfl (by decide) (.slice ad n cap) n (gcells L) rfl (World.ownsRow.alloc HO3.out _) ⟨w3.heap.size, 0, none⟩ 1 1 [.slice none 0 0, .int .i64 0, .slice none 0 0] rfl rfl HCN.out (by intro u hu; simp only [List.mem_cons, List.not_mem_nil, or_false] at hu; rcases hu with rfl | rfl | rfl <;> rfl) (by decide) (by unfold maxLen; omega) (by omega) (by simp; omega) (w3.heap.size + 1) (by simp) ?_; intro g cap4 w4 hown4 hgrow4 hat4 hlt4)
       have hcap4 : n + 1 ≤ cap4 := (own_capN hown4).1
       have hgL := (ch.own_lt hown4 (g := g) rfl).1
       have HE4 : Hid (Est w4 W0.heap.size ((⟨.slice (some ⟨g, 0, none⟩) (n + 1) cap4, 53, 3, n + 1, gcells L ++ [.slice none 0 0, .int .i64 0, .slice none 0 0]⟩ : Own1) :: (L.flatMap GO.all ++ E))) := by
        have h0 : Est w3 W0.heap.size (headO (.slice ad n cap) L :: (L.flatMap GO.all ++ E)) := HEG.out
        refine Est_grow (Est_below h0 (bR.alloc nR _)) hgrow4 hown4 (fun g' hg' => ?_)
        cases hg'
        rcases hat4 with h | h
        ·exact .inl h
        ·right; simp; show _ ≤ g; omega
       have hW4 : Below W0.heap.size W0 w4 := ch.below_app hW3 hlow HO3.out hgrow4
       obtain ⟨bl, hbl2⟩ : ∃ z, n - i = z := ⟨_, rfl⟩
       have hsum : i + bl = n := by omega
       obtain ⟨e2, hf2n, hd2⟩ := backGr g (n + 1) cap4 (i + 1) (by omega) hcap4
       obtain ⟨s2, hf3n, hs2⟩ := backGr g (n + 1) cap4 i (by omega) hcap4
       rw [show n + 1 - (i + 1) = bl by omega] at hf2n
       rw [show n + 1 - i = bl + 1 by omega] at hf3n
       have hf2 : ∀ w, (Instr.sliceAt 26 (.slice (some ⟨g, 0, none⟩) (n + 1) cap4) (some (.int .i64 ((i : Int) + 1))) none none).run Tryz.prog w = .ok (.slice (some e2) bl (cap4 - (i + 1))) w := hf2n
       have hf3 : ∀ w, (Instr.sliceAt 26 (.slice (some ⟨g, 0, none⟩) (n + 1) cap4) (some (.int .i64 (i : Int))) none none).run Tryz.prog w = .ok (.slice (some s2) (bl + 1) (cap4 - i)) w := hf3n
       have hsplit : gcells L = gcells (L.take i) ++ gcells (L.drop i) := by rw [← gcells_app, List.take_append_drop]
       have HTI : Hid ((L.take i).length = i) := by show _ = _; rw [List.length_take, HLN.out]; omega
       have HLA : Hid ((gcells (L.take i)).length = i * 3) := by show _ = _; rw [gcells_len, HTI.out]
       have HLB : Hid ((gcells (L.drop i)).length = bl * 3) := by show _ = _; rw [gcells_len, List.length_drop, HLN.out, hbl2]
       have hone : ∀ u ∈ gcells (L.drop i), u.oneCell' = true := gcells_one _ (fun z hz2 => HEG.out.og.one z (List.mem_of_mem_drop hz2))
       have HROOM : Hid (∀ ty, ∃ w5, (Builtin.copy_ #[26, 26] ty #[.slice (some e2) bl (cap4 - (i + 1)), .slice (some s2) (bl + 1) (cap4 - i)]).run Tryz.prog w4.drew = .ok (goInt bl) w5 ∧ (∃ y5, y5.length = 3 ∧ Est w5 W0.heap.size ((⟨.slice (some ⟨g, 0, none⟩) (n + 1) cap4, 53, 3, n + 1, gcells (L.take i) ++ y5 ++ gcells (L.drop i)⟩ : Own1) :: ((L.take i ++ L.drop i).flatMap GO.all ++ E))) ∧ Below W0.heap.size W0 w5) := fun ty => by
        obtain ⟨w5, h1, ⟨y5, h2, h3⟩, h4, h5, h6⟩ := own_room (w2 := w4.drew) (na := i) (nb := bl) (s := 3) (z := [.slice none 0 0, .int .i64 0, .slice none 0 0]) 26 53 i0 Tryz.underlying26 HI0.out.1 HI0.out.2.2.1 (World.ownsRow.drew (by rw [← hsplit]; exact hown4)) HLA.out HLB.out rfl hsum hone (some e2) (some s2) (cap4 - (i + 1)) (cap4 - i) (fun h => congrArg some (hd2 (by omega))) (fun h => congrArg some (hs2 (by omega))) ty
        refine ⟨w5, h1, ⟨y5, h2, ?_⟩, hW4.drew.trans (h6.mono hgL)⟩
        rw [List.take_append_drop]
        exact Est_frame (Est_below HE4.out bR.drew) (by rw [h4]; exact Nat.le_refl _) (fun b hb hne => h5 b (fun e => hne (by rw [e]; rfl))) h3 (fun g' hg' => .inl hg')
       have hmk := mk_bags na hna4.2
       have HMK : Hid (na ≤ 4) := hna4.2
       clear hf2n hf3n hd2 hs2 hown4 hgrow4 hsplit hat4 hone HE4 HEG HO3 HCN hW4 hW3 hlow
       go_wp2
       go_region_law (first
        | (obtain ⟨w5, hrun5, ⟨y5, hy5, hE5⟩, hW5⟩ := HROOM.out 3; refine step_cpyS (by rfl) (.tmp 63) (.tmp 66) 26 (by rfl) (.slice (some e2) bl (cap4 - (i + 1))) (.slice (some s2) (bl + 1) (cap4 - i)) _ (by simp [Act.eval, Act.put]) (by simp [Act.eval, Act.put]) hrun5 ?_))
       all_goals
        have HY5 : Hid (y5.length = 3) := hy5
        have HE5 : Hid (Est w5 W0.heap.size ((⟨.slice (some ⟨g, 0, none⟩) (n + 1) cap4, 53, 3, n + 1, gcells (L.take i) ++ y5 ++ gcells (L.drop i)⟩ : Own1) :: ((L.take i ++ L.drop i).flatMap GO.all ++ E))) := hE5
        have hbx := HBOX.out w5 (fun {o} ho => HE5.out.own o (List.mem_cons_of_mem _ (List.mem_append.2 (.inr ho))))
        obtain ⟨⟨v0, v1, v2, v3, v4, v5, v6, v7, v8, v9, v10, v11, v12⟩, k1⟩ := hbx
        have HB5 : Hid ((w5.cell? ⟨w.heap.size, 0, none⟩ = some (.int .i64 p.kind) ∧ w5.cell? ⟨w.heap.size, 1, none⟩ = some (.int .i64 p.mode) ∧ w5.cell? ⟨w.heap.size, 2, none⟩ = some (.int .i64 p.low) ∧ w5.cell? ⟨w.heap.size, 3, none⟩ = some (.int .i64 p.high) ∧ w5.cell? ⟨w.heap.size, 4, none⟩ = some (.int .i64 p.size) ∧ w5.cell? ⟨w.heap.size, 5, none⟩ = some (.int .i64 p.limit) ∧ w5.cell? ⟨w.heap.size, 6, none⟩ = some (.slice x.l p.left.length x.lc) ∧ w5.cell? ⟨w.heap.size, 7, none⟩ = some (.slice x.r p.right.length x.rc) ∧ w5.cell? ⟨w.heap.size, 8, none⟩ = some (.slice x.lk p.lkeys.length x.lkc) ∧ w5.cell? ⟨w.heap.size, 9, none⟩ = some (.slice x.rk p.rkeys.length x.rkc) ∧ w5.cell? ⟨w.heap.size, 10, none⟩ = some (.bool p.grouped) ∧ w5.cell? ⟨w.heap.size, 11, none⟩ = some (.slice x.g gl x.gc) ∧ w5.cell? ⟨w.heap.size, 12, none⟩ = some (.slice x.a na x.ac)) ∧ w5.cell? ⟨w.heap.size + 1, 1, none⟩ = some (.slice ra rn rc)) := ⟨⟨v0, v1, v2, v3, v4, v5, v6, v7, v8, v9, v10, v11, v12⟩, k1⟩
        have HBL5 : Hid (∀ {w' : World}, Below w5.heap.size w5 w' → (w'.cell? ⟨w.heap.size, 0, none⟩ = some (.int .i64 p.kind) ∧ w'.cell? ⟨w.heap.size, 1, none⟩ = some (.int .i64 p.mode) ∧ w'.cell? ⟨w.heap.size, 2, none⟩ = some (.int .i64 p.low) ∧ w'.cell? ⟨w.heap.size, 3, none⟩ = some (.int .i64 p.high) ∧ w'.cell? ⟨w.heap.size, 4, none⟩ = some (.int .i64 p.size) ∧ w'.cell? ⟨w.heap.size, 5, none⟩ = some (.int .i64 p.limit) ∧ w'.cell? ⟨w.heap.size, 6, none⟩ = some (.slice x.l p.left.length x.lc) ∧ w'.cell? ⟨w.heap.size, 7, none⟩ = some (.slice x.r p.right.length x.rc) ∧ w'.cell? ⟨w.heap.size, 8, none⟩ = some (.slice x.lk p.lkeys.length x.lkc) ∧ w'.cell? ⟨w.heap.size, 9, none⟩ = some (.slice x.rk p.rkeys.length x.rkc) ∧ w'.cell? ⟨w.heap.size, 10, none⟩ = some (.bool p.grouped) ∧ w'.cell? ⟨w.heap.size, 11, none⟩ = some (.slice x.g gl x.gc) ∧ w'.cell? ⟨w.heap.size, 12, none⟩ = some (.slice x.a na x.ac)) ∧ w'.cell? ⟨w.heap.size + 1, 1, none⟩ = some (.slice ra rn rc)) := fun {w'} hb => HBOX.out w' (fun {o} ho => (Est_below HE5.out hb).own o (List.mem_cons_of_mem _ (List.mem_append.2 (.inr ho))))
        have i1 : (0 : Int) ≤ (i : Int) := by omega
        have i2 : (i : Int) < ((n + 1 : Nat) : Int) := by omega
        have i3 : (i : Int) < (n : Int) + 1 := by omega
        clear hy5 hE5 hrun5 HROOM
        go_upto_region 10 with fail
        refine wp_region_held_drew (S := (fun w' => (w'.cell? ⟨w.heap.size, 0, none⟩ = some (.int .i64 p.kind) ∧ w'.cell? ⟨w.heap.size, 1, none⟩ = some (.int .i64 p.mode) ∧ w'.cell? ⟨w.heap.size, 2, none⟩ = some (.int .i64 p.low) ∧ w'.cell? ⟨w.heap.size, 3, none⟩ = some (.int .i64 p.high) ∧ w'.cell? ⟨w.heap.size, 4, none⟩ = some (.int .i64 p.size) ∧ w'.cell? ⟨w.heap.size, 5, none⟩ = some (.int .i64 p.limit) ∧ w'.cell? ⟨w.heap.size, 6, none⟩ = some (.slice x.l p.left.length x.lc) ∧ w'.cell? ⟨w.heap.size, 7, none⟩ = some (.slice x.r p.right.length x.rc) ∧ w'.cell? ⟨w.heap.size, 8, none⟩ = some (.slice x.lk p.lkeys.length x.lkc) ∧ w'.cell? ⟨w.heap.size, 9, none⟩ = some (.slice x.rk p.rkeys.length x.rkc) ∧ w'.cell? ⟨w.heap.size, 10, none⟩ = some (.bool p.grouped) ∧ w'.cell? ⟨w.heap.size, 11, none⟩ = some (.slice x.g gl x.gc) ∧ w'.cell? ⟨w.heap.size, 12, none⟩ = some (.slice x.a na x.ac)) ∧ w'.cell? ⟨w.heap.size + 1, 1, none⟩ = some (.slice ra rn rc))) (by kernel_rfl) (HBL5.out bR.drew) (fun hH => ?_)
        refine tk 0 68 hH ?_; refine tk 1 69 hH ?_; refine tk 2 70 hH ?_; refine tk 3 71 hH ?_; refine tk 4 72 hH ?_; refine tk 6 74 hH ?_; refine tk 7 75 hH ?_; refine tk 8 76 hH ?_
        refine wpAnyH_ready (rs := [5, 9]) (by kernel_rfl) (by simp) ?_
        refine AllReadyH.cons rfl (fun K hK => ?_) (AllReadyH.cons rfl (fun K hK => ?_) AllReadyH.nil)
        ·go_simp
         refine (KO.out _ hW5.drew).mono ?_
         rintro e w6 ⟨⟨oa, oc, rfl, hov⟩, hb6⟩
         have hb56 : Below w5.heap.size w5 w6 := bR.drew.trans hb6
         go_wp2_with fail
         refine hK.out _ _ (HBL5.out hb56) (fun hH => ?_)
         clear hK K
         try simp only [Act.put, sI, sZ, sS]
         refine wpAnyH_ready (rs := [9]) (by kernel_rfl) (by simp) ?_
         refine AllReadyH.cons rfl (fun K hK => ?_) AllReadyH.nil
         go_simp
         refine hK.out _ _ (HBL5.out (hb56.alloc hb56.size _)) (fun hH => ?_)
         clear hK K
         try simp only [Act.put, sI, sZ, sS]
         have HC7 := room_behind (gl := gl) (na := na) HE5.out hb56 hov HMK.out
         have hW7 : Below W0.heap.size W0 (w6.alloc (.cells (Array.replicate na (.slice none 0 0)) 61)) := (hW5.trans (hb56.mono hW5.size)).alloc (by have := hW5.size; have := hb56.size; omega) _
         obtain ⟨M, hM⟩ : ∃ z, w6.heap.size = z := ⟨_, rfl⟩
         rw [hM] at HC7 ⊢
         generalize (w6.alloc (.cells (Array.replicate na (.slice none 0 0)) 61)) = W7 at HC7 hW7 hH ⊢
         have HC7 : Hid _ := HC7
         clear hM hov hb6 hb56
         have hh7 : W7.ownsRow W0.heap.size 53 3 (.slice (some ⟨g, 0, none⟩) (n + 1) cap4) (n + 1) (gcells (L.take i) ++ y5 ++ gcells (L.drop i)) := HC7.out.own _ (List.mem_cons_self ..)
         obtain ⟨⟨u0, g0⟩, ⟨u1, g1⟩, ⟨u2, g2⟩⟩ := three_cells hh7 HLA.out HY5.out
         have z0 := own_froz hh7 (i * 3)
         have z1 := own_froz hh7 (i * 3 + 1)
         have z2 := own_froz hh7 (i * 3 + 1 + 1)
         have lg7 := (ch.own_lt hh7 (g := g) rfl).2
         have HEGN : Hid (EG (((W7.setCell ⟨g, i * 3, none⟩ (.slice oa gl oc)).setCell ⟨g, i * 3 + 1, none⟩ (.int .i64 0)).setCell ⟨g, i * 3 + 2, none⟩ (.slice (some ⟨M, 0, none⟩) na na)) W0.heap.size (.slice (some ⟨g, 0, none⟩) (n + 1) cap4) (L.take i ++ newGO (.slice oa gl oc) key (.slice (some ⟨M, 0, none⟩) na na) na :: L.drop i) E) := by
          have h := EG.ins HC7.out HY5.out
          rw [HTI.out] at h
          exact h
         have HBN : Hid (Below W0.heap.size W0 (((W7.setCell ⟨g, i * 3, none⟩ (.slice oa gl oc)).setCell ⟨g, i * 3 + 1, none⟩ (.int .i64 0)).setCell ⟨g, i * 3 + 2, none⟩ (.slice (some ⟨M, 0, none⟩) na na))) := ((hW7.setCell (p := ⟨g, i * 3, none⟩) hgL _).setCell (p := ⟨g, i * 3 + 1, none⟩) hgL _).setCell (p := ⟨g, i * 3 + 2, none⟩) hgL _
         clear hh7
         refine tk 10 78 hH ?_; refine tk 11 79 hH ?_
         refine wpAnyH_ready (rs := [12]) (by kernel_rfl) (by simp) ?_
         refine AllReadyH.cons rfl (fun K hK => ?_) AllReadyH.nil
         go_simp
         refine hK.out _ _ (HBOX.out _ HEGN.out.mem) (fun hH => ?_)
         clear hK K hH
         try simp only [Act.put, sI, sZ, sS]
         refine wpAnyH_done (by kernel_rfl) ?_ _
         go_wp2
         go_meet
         refine ⟨g, n + 1, cap4, _, _, _, rfl, ⟨HEGN.out, HTI.out, ?_, ⟨Int.le_refl _, by show (0 : Int) ≤ _; decide⟩, hn1, fun h => ?_, ?_⟩, HBN.out⟩
         ·rw [← HNA.out, new_grp]; exact F7.out
         ·have := HD1.out; omega
         ·rw [← HNA.out, new_grp]; exact HRES.out
        ·go_simp
         have hbA : Below w5.heap.size w5 (w5.drew.alloc (.cells (Array.replicate na (.slice none 0 0)) 61)) := bR.drew.alloc (by simp) _
         refine hK.out _ _ (HBL5.out hbA) (fun hH => ?_)
         clear hK K
         try simp only [Act.put, sI, sZ, sS]
         refine wpAnyH_ready (rs := [5]) (by kernel_rfl) (by simp) ?_
         refine AllReadyH.cons rfl (fun K hK => ?_) AllReadyH.nil
         go_simp
         refine (KO.out _ (hW5.drew.alloc hW5.size _)).mono ?_
         rintro e w6 ⟨⟨oa, oc, rfl, hov⟩, hb6⟩
         have hb56 : Below w5.heap.size w5 w6 := hbA.trans (hb6.mono (by simp))
         go_wp2_with fail
         refine hK.out _ _ (HBL5.out hb56) (fun hH => ?_)
         clear hK K
         try simp only [Act.put, sI, sZ, sS]
         have HC7 := room_ahead (w5 := w5.drew) (gl := gl) (na := na) (Est_below HE5.out bR.drew) hb6 hov HMK.out
         have hW7 : Below W0.heap.size W0 w6 := hW5.trans (hb56.mono hW5.size)
         obtain ⟨M, hM⟩ : ∃ z, w5.heap.size = z := ⟨_, rfl⟩
         have hM2 : w5.drew.heap.size = M := hM
         rw [hM2] at HC7
         rw [hM]
         generalize w6 = W7 at HC7 hW7 hH ⊢
         have HC7 : Hid _ := HC7
         clear hM hM2 hov hb6 hb56
         have hh7 : W7.ownsRow W0.heap.size 53 3 (.slice (some ⟨g, 0, none⟩) (n + 1) cap4) (n + 1) (gcells (L.take i) ++ y5 ++ gcells (L.drop i)) := HC7.out.own _ (List.mem_cons_self ..)
         obtain ⟨⟨u0, g0⟩, ⟨u1, g1⟩, ⟨u2, g2⟩⟩ := three_cells hh7 HLA.out HY5.out
         have z0 := own_froz hh7 (i * 3)
         have z1 := own_froz hh7 (i * 3 + 1)
         have z2 := own_froz hh7 (i * 3 + 1 + 1)
         have lg7 := (ch.own_lt hh7 (g := g) rfl).2
         have HEGN : Hid (EG (((W7.setCell ⟨g, i * 3, none⟩ (.slice oa gl oc)).setCell ⟨g, i * 3 + 1, none⟩ (.int .i64 0)).setCell ⟨g, i * 3 + 2, none⟩ (.slice (some ⟨M, 0, none⟩) na na)) W0.heap.size (.slice (some ⟨g, 0, none⟩) (n + 1) cap4) (L.take i ++ newGO (.slice oa gl oc) key (.slice (some ⟨M, 0, none⟩) na na) na :: L.drop i) E) := by
          have h := EG.ins HC7.out HY5.out
          rw [HTI.out] at h
          exact h
         have HBN : Hid (Below W0.heap.size W0 (((W7.setCell ⟨g, i * 3, none⟩ (.slice oa gl oc)).setCell ⟨g, i * 3 + 1, none⟩ (.int .i64 0)).setCell ⟨g, i * 3 + 2, none⟩ (.slice (some ⟨M, 0, none⟩) na na))) := ((hW7.setCell (p := ⟨g, i * 3, none⟩) hgL _).setCell (p := ⟨g, i * 3 + 1, none⟩) hgL _).setCell (p := ⟨g, i * 3 + 2, none⟩) hgL _
         clear hh7
         refine tk 10 78 hH ?_; refine tk 11 79 hH ?_
         refine wpAnyH_ready (rs := [12]) (by kernel_rfl) (by simp) ?_
         refine AllReadyH.cons rfl (fun K hK => ?_) AllReadyH.nil
         go_simp
         refine hK.out _ _ (HBOX.out _ HEGN.out.mem) (fun hH => ?_)
         clear hK K hH
         try simp only [Act.put, sI, sZ, sS]
         refine wpAnyH_done (by kernel_rfl) ?_ _
         go_wp2
         go_meet
         refine ⟨g, n + 1, cap4, _, _, _, rfl, ⟨HEGN.out, HTI.out, ?_, ⟨Int.le_refl _, by show (0 : Int) ≤ _; decide⟩, hn1, fun h => ?_, ?_⟩, HBN.out⟩
         ·rw [← HNA.out, new_grp]; exact F7.out
         ·have := HD1.out; omega
         ·rw [← HNA.out, new_grp]; exact HRES.out
     case rest =>
      obtain ⟨g, LN, cap2, A, y, B, rfl, HM, hW4⟩ := hcut
      rename World => W4
      clear HEG hW3 F1 F2 F3 F4 F5 F6 F7 HC1 HC2 KO
      have hA := HM.out.at'
      have hLN : LN = (A ++ y :: B).length := by
       have e := own_is HM.out.eg.og.head
       injection e
      have hLN2 : (A ++ y :: B).length = LN := hLN.symm
      have HLL : Hid (LN = A.length + B.length + 1) := by rw [hLN]; show _ = _; simp; omega
      have hiL : i < LN := by rw [HLL.out]; omega
      have hbd := HM.out.bd
      have hyn := HM.out.n
      have hlow := HM.out.low
      have HRES : Hid (D = restG d p r (A.map GO.grp) y.grp (B.map GO.grp)) := HM.out.res
      have HRT : Hid (grpR p y.grp) := HM.out.right
      have HBL : Hid (y.bs.length = na) := by
       have := HM.out.right.bl
       show _ = _
       rw [← HNA.out, ← this]
       simp [GO.grp]
      have hh := HM.out.eg.og.head
      rw [hLN2] at hh
      have eAy : (A ++ y :: B).getD A.length default = y := by simp [List.getD_eq_getElem?_getD]
      have zc := gcells_at (A ++ y :: B) A.length (by simp)
      rw [eAy, hA] at zc
      have q1 := own_cell2 hh (i * 3 + 1) _ zc.2.1
      have f1 := own_froz hh (i * 3 + 1)
      have hgb := ch.own_lt hh (g := g) rfl
      have hyb : ∃ bb bc, y.bv = .slice (some ⟨bb, 0, none⟩) na bc := by
       have h := (HM.out.eg.og.parts (x := y) (by simp)).2.1
       rw [HBL.out] at h
       rcases h.2 with ⟨hv, h0⟩ | ⟨bb, bc, cur, hv, _⟩
       ·omega
       ·exact ⟨bb, bc, hv⟩
      obtain ⟨bb, bc, hyb⟩ := hyb
      have HYB : Hid (y.bv = .slice (some ⟨bb, 0, none⟩) na bc) := hyb
      have i1 : (0 : Int) ≤ (i : Int) := by omega
      have i2 : (i : Int) < (LN : Int) := by omega
      have hPN : Hid (EG (W4.setCell ⟨g, i * 3 + 1, none⟩ (.int .i64 (y.n + d))) W0.heap.size (.slice (some ⟨g, 0, none⟩) LN cap2) (A ++ (⟨y.rv, y.row, y.n + d, y.bv, y.bs⟩ : GO) :: B) E) := by
       have h := HM.out.eg.putN (y.n + d)
       rw [hA] at h
       exact h
      obtain ⟨YN, hYN⟩ : ∃ z, y.n = z := ⟨_, rfl⟩
      have HYN : Hid (y.n = YN) := hYN
      rw [hYN] at q1 hyn hlow hPN
      have hwN : IntKind.i64.wrap (YN + d) = YN + d := by rw [IntKind.wrap_i64]; rcases hm2 with h | h <;> omega
      have HM2 : Hid (d = 1 ∨ d = -1) := hm2
      have HA : Hid (A.length = i) := hA
      have hgL : W0.heap.size ≤ g := hgb.1
      clear hLN hLN2 hh eAy zc hyb hYN hA hgb HM hm2
      go_wp2
      generalize hV5 : (World.setCell W4 _ _) = V5
      have HV5 : Hid (EG V5 W0.heap.size (.slice (some ⟨g, 0, none⟩) LN cap2) (A ++ (⟨y.rv, y.row, YN + d, y.bv, y.bs⟩ : GO) :: B) E) := by rw [← hV5]; exact hPN.out
      have hb5 : Below W0.heap.size W0 V5 := by rw [← hV5]; exact hW4.setCell (p := ⟨g, i * 3 + 1, none⟩) hgL _
      clear hV5 hPN q1 f1 hW4
      go_loopw [11] (fun t wr => ∃ (k : Nat) (bs : List (Value × List Tal)), k ≤ na ∧ t = .int .i64 k ∧ Hid (bsT d p.aggs r k y.bs bs) ∧ Hid (∀ j, j < k → tkB d p.aggs r j (y.bs.getD j (.slice none 0 0, [])).2 = true) ∧ Hid (EG wr W0.heap.size (.slice (some ⟨g, 0, none⟩) LN cap2) (A ++ (⟨y.rv, y.row, YN + d, y.bv, bs⟩ : GO) :: B) E) ∧ Below W0.heap.size W0 wr) (fun t _ => na - (intOf t).toNat)
      case atStart => exact ⟨0, y.bs, Nat.zero_le _, rfl, ⟨rfl, fun j hj => by rw [if_neg (Nat.not_lt_zero j)]⟩, fun j hj => absurd hj (Nat.not_lt_zero j), HV5, hb5⟩
      case round =>
       clear HV5 hb5
       obtain ⟨k, bs, hk, rfl, HBS, HTK, HR, hbr⟩ := hrel
       have hbx := boxPl_cells (HR.out.mem HE.out.2)
       have v12 := hbx.2.2.2.2.2.2.2.2.2.2.2.2
       have k1 := (boxCh_cells (HR.out.mem HE.out.1)).2
       rw [HNA.out] at v12
       have hbsl : bs.length = na := by rw [HBS.out.1, HBL.out]
       clear hbx
       by_cases hkn : k < na
       ·obtain ⟨ab, ao, ea, a0, a1⟩ := HAG.out k hkn
        rw [ea] at v12
        have b0 := cL hbr a0
        have b1 := cL hbr a1
        have lab : ab < W0.heap.size := World.block_lt_of_cell? _ _ a0
        have i3 : (0 : Int) ≤ (k : Int) := by omega
        have i4 : (k : Int) < (na : Int) := by omega
        have HC1 := F8.out k hkn
        obtain ⟨⟨fn, col⟩, hfc⟩ : ∃ z, p.aggs.getD k (0, 0) = z := ⟨_, rfl⟩
        have HFC : Hid (p.aggs.getD k (0, 0) = (fn, col)) := hfc
        rw [hfc] at b0 b1 HC1
        dsimp only at b0 b1 HC1
        clear a0 a1 hfc ea
        by_cases hfn : fn = 1
        ·subst hfn
         have HB1 : Hid (bsT d p.aggs r (k + 1) y.bs bs) := bsT_same HBS.out (by rw [HFC.out])
         have HT1 : Hid (∀ j, j < k + 1 → tkB d p.aggs r j (y.bs.getD j (.slice none 0 0, [])).2 = true) := fun j hj => by
          rcases Nat.lt_or_ge j k with h | h
          ·exact HTK.out j h
          ·have : j = k := by omega
           subst this
           unfold tkB
           rw [HFC.out]
           rfl
         clear HC1
         go_wp2
         go_roundw
         case rel => exact ⟨k + 1, bs, by omega, by go_num, HB1, HT1, HR, hbr⟩
         case measure => simp [intOf]; omega
        ·obtain ⟨hcf, hc0, hc1⟩ := HC1 hfn
         obtain ⟨cl, rfl⟩ := Int.eq_ofNat_of_zero_le hc0
         simp only [Int.toNat_natCast] at hc1 hcf
         obtain ⟨rb, ro, er, y1, y2, y3⟩ := HRW.out cl (by rw [HRN.out]; exact hc1)
         rw [er] at k1
         obtain ⟨⟨ck, cn, cs⟩, hc⟩ : ∃ c, r.getD cl default = c := ⟨_, rfl⟩
         have HC : Hid (r.getD cl default = ⟨ck, cn, cs⟩) := hc
         rw [hc] at y1 y2 y3 hcf
         dsimp only at y1 y2 y3
         have lrb : rb < W0.heap.size := World.block_lt_of_cell? _ _ y1
         have x1 := cL hbr y1
         have x2 := cL hbr y2
         have x3 := cL hbr y3
         have hk2 : k < bs.length := by rw [hbsl]; exact hkn
         have hb2 := HBS.out.2 k (by rw [HBL.out]; exact hkn)
         rw [if_neg (Nat.lt_irrefl k)] at hb2
         obtain ⟨⟨bval, l⟩, hbdef⟩ : ∃ b, bs.getD k (.slice none 0 0, []) = b := ⟨_, rfl⟩
         have hsp : bs = bs.take k ++ (bval, l) :: bs.drop (k + 1) := by rw [← hbdef]; exact split_at bs k _ hk2
         have HBD : Hid (bs.getD k (.slice none 0 0, []) = (bval, l)) := hbdef
         rw [hbdef] at hb2
         dsimp only at hb2
         have hparts := HR.out.og.parts (x := (⟨y.rv, y.row, YN + d, y.bv, bs⟩ : GO)) (by simp)
         have hown : ownT wr W0.heap.size bval l := hparts.2.2 (bval, l) (by rw [hsp]; simp)
         have ebv := own_is hown
         obtain ⟨ta, hta⟩ : ∃ z, adOf bval = z := ⟨_, rfl⟩
         obtain ⟨tc, htc⟩ : ∃ z, cpOf bval = z := ⟨_, rfl⟩
         rw [hta, htc] at ebv
         clear hta htc
         subst ebv
         have hbag : bagJ p k YN l := by
          have h := HRT.out.bag k (by rw [HNA.out]; exact hkn)
          rw [grp_bags y k (by rw [HBL.out]; exact hkn), ← hb2] at h
          have e : y.grp.n = YN := HYN.out
          rw [e] at h
          exact h
         obtain ⟨hl1, hl2⟩ := bag_len hbag ⟨hyn.1, hyn.2⟩
         have KT : Hid (∀ w1, Below wr.heap.size wr w1 → Calls Tryz.prog 92 #[.slice ta l.length tc, .agg #[.int .i64 ck, .int .i64 cn, .string cs], .int .i64 d] w1 fun e w' => tallyRes d l ⟨ck, cn, cs⟩ (.slice ta l.length tc) W0.heap.size w1 e w') := fun w1 hb =>
          tally_any ta tc l ⟨ck, cn, cs⟩ d W0.heap.size w1 (ch.own_below hown hb) (Nat.le_trans hbr.size hb.size) hl1 HM2.out (fun t ht => ⟨fun e => cells_same (hl2 t ht).1 hcf e, fun e => by rw [e]; exact cells_self hcf⟩) (fun t ht => ⟨(hl2 t ht).2.1, by have := (hl2 t ht).2.2; omega⟩)
         have HLB : Hid (l = (y.bs.getD k (.slice none 0 0, [])).2) := hb2
         have hbg := hparts.2.1
         dsimp only at hbg
         rw [HYB.out, hbsl] at hbg
         have t1 : wr.cell? ⟨bb, k, none⟩ = some (.slice ta l.length tc) := own_cell2 hbg k _ (by
          rw [List.getElem?_map, List.getElem?_eq_getElem hk2]
          have e := HBD.out
          rw [List.getD_eq_getElem?_getD, List.getElem?_eq_getElem hk2] at e
          have e2 : bs[k] = (.slice ta l.length tc, l) := e
          rw [e2]; rfl)
         have hbb1 := ch.own_lt hbg (g := bb) rfl
         have tf := own_froz hbg k
         have hh := HR.out.og.head
         have hlen9 : (A ++ (⟨y.rv, y.row, YN + d, y.bv, bs⟩ : GO) :: B).length = LN := by rw [HLL.out]; simp; omega
         rw [hlen9] at hh
         have eAy : (A ++ (⟨y.rv, y.row, YN + d, y.bv, bs⟩ : GO) :: B).getD A.length default = (⟨y.rv, y.row, YN + d, y.bv, bs⟩ : GO) := by simp [List.getD_eq_getElem?_getD]
         have zc := (gcells_at (A ++ (⟨y.rv, y.row, YN + d, y.bv, bs⟩ : GO) :: B) A.length (by simp)).2.2
         rw [eAy, HA.out] at zc
         dsimp only at zc
         have g2 := own_cell2 hh (i * 3 + 2) _ zc
         rw [HYB.out] at g2
         have HSP : Hid (bs = bs.take k ++ (.slice ta l.length tc, l) :: bs.drop (k + 1)) := hsp
         obtain ⟨ln, hln⟩ : ∃ z, l.length = z := ⟨_, rfl⟩
         have HLN2 : Hid (l.length = ln) := hln
         have HOTH : Hid (∀ (w1 w2 : World), Below wr.heap.size wr w1 → (∀ b, b < w1.heap.size → (Value.slice ta ln tc).ownBlock ≠ some b → w2.heap[b]? = w1.heap[b]?) → w2.heap[g]? = w1.heap[g]? ∧ w2.heap[bb]? = w1.heap[bb]? ∧ w2.heap[w.heap.size]? = w1.heap[w.heap.size]? ∧ w2.heap[w.heap.size + 1]? = w1.heap[w.heap.size + 1]?) := fun w1 w2 hb hblk => by
          have hE := HR.out.below hb
          have h3 : ∀ {K : Nat} {o : Own1}, o ∈ (GO.bagsO ⟨y.rv, y.row, YN + d, y.bv, bs⟩ :: headO (.slice (some ⟨g, 0, none⟩) LN cap2) (A ++ (⟨y.rv, y.row, YN + d, y.bv, bs⟩ : GO) :: B) :: E) → o.v.ownBlock = some K → w2.heap[K]? = w1.heap[K]? := fun ho hK => hE.bagOther (b := (.slice ta l.length tc, l)) HSP.out (by rw [hln]; exact hblk) ho hK
          exact ⟨h3 (List.mem_cons_of_mem _ (List.mem_cons_self ..)) rfl, h3 (List.mem_cons_self ..) (by show y.bv.ownBlock = _; rw [HYB.out]; rfl), h3 (List.mem_cons_of_mem _ (List.mem_cons_of_mem _ HE.out.2)) rfl, h3 (List.mem_cons_of_mem _ (List.mem_cons_of_mem _ HE.out.1)) rfl⟩
         have HNB : Hid (bb ≠ g ∧ bb ≠ w.heap.size ∧ bb ≠ w.heap.size + 1) := by
          have hp2 := HR.out.two
          have hpp : ∀ {o : Own1} {K : Nat}, o ∈ headO (.slice (some ⟨g, 0, none⟩) LN cap2) (A ++ (⟨y.rv, y.row, YN + d, y.bv, bs⟩ : GO) :: B) :: E → o.v.ownBlock = some K → bb ≠ K := fun {o} {K} ho hK e => by
           have hperm : Est wr W0.heap.size (GO.bagsO ⟨y.rv, y.row, YN + d, y.bv, bs⟩ :: (headO (.slice (some ⟨g, 0, none⟩) LN cap2) (A ++ (⟨y.rv, y.row, YN + d, y.bv, bs⟩ : GO) :: B) :: (A.flatMap GO.all ++ (GO.rowO ⟨y.rv, y.row, YN + d, y.bv, bs⟩ :: bs.map bagO) ++ B.flatMap GO.all ++ E))) := by
            refine Est_perm HR.out (perm_of (fun a => ?_))
            simp only [List.flatMap_append, List.flatMap_cons, GO.all, List.count_append, List.count_cons]
            omega
           have hap := (List.pairwise_cons.1 hperm.two).1 o (by
            rcases List.mem_cons.1 ho with h | h
            ·rw [h]; exact List.mem_cons_self ..
            ·exact List.mem_cons_of_mem _ (List.mem_append.2 (.inr h)))
           exact hap bb (by show y.bv.ownBlock = _; rw [HYB.out]; rfl) (by rw [e]; exact hK)
          exact ⟨hpp (List.mem_cons_self ..) rfl, hpp (List.mem_cons_of_mem _ HE.out.2) rfl, hpp (List.mem_cons_of_mem _ HE.out.1) rfl⟩
         have n1 := HNB.out.1
         have n2 := HNB.out.2.1
         have n3 := HNB.out.2.2
         have n4 : bb ≠ ab := by omega
         have n5 : bb ≠ rb := by omega
         rw [hln] at KT t1
         have lbb := hbb1.2
         have lbL := hbb1.1
         have lg : g < wr.heap.size := (ch.own_lt hh (g := g) rfl).2
         have lC : w.heap.size < wr.heap.size := World.block_lt_of_cell? _ _ v12
         have lD : w.heap.size + 1 < wr.heap.size := World.block_lt_of_cell? _ _ k1
         have hW0r := hbr.size
         have i5 : (0 : Int) ≤ (cl : Int) := by omega
         have i6 : (cl : Int) < (rn : Int) := by omega
         clear hc y1 y2 y3 hb2 hbdef hsp hparts hown hbag hl1 hl2 hbg hh hlen9 eAy zc hln er HC1 hcf hbb1
         go_upto_region 17 with fail
         refine wp_region_held_drew (S := (fun w' => w'.cell? ⟨g, i * 3 + 2, none⟩ = some (.slice (some ⟨bb, 0, none⟩) na bc) ∧ w'.cell? ⟨w.heap.size + 1, 1, none⟩ = some (.slice (some ⟨rb, ro, none⟩) rn rc) ∧ w'.cell? ⟨w.heap.size, 12, none⟩ = some (.slice (some ⟨ab, ao, none⟩) na x.ac) ∧ w'.cell? ⟨ab, ao + k * 2 + 1, none⟩ = some (.int .i64 (cl : Int)) ∧ w'.cell? ⟨rb, ro + cl * 3, none⟩ = some (.int .i64 ck) ∧ w'.cell? ⟨rb, ro + cl * 3 + 1, none⟩ = some (.int .i64 cn) ∧ w'.cell? ⟨rb, ro + cl * 3 + 1 + 1, none⟩ = some (.string cs))) (by kernel_rfl) ⟨by go_simp, by go_simp, by go_simp, by go_simp, by go_simp, by go_simp, by go_simp⟩ (fun hH => ?_)
         refine tk 0 106 hH ?_; refine tk 1 107 hH ?_; refine tk 2 108 hH ?_; refine tk 3 109 hH ?_; refine tk 4 110 hH ?_; refine tk 5 111 hH ?_; refine tk 6 112 hH ?_; refine tk 7 113 hH ?_; refine tk 8 114 hH ?_; refine tk 9 115 hH ?_; refine tk 10 116 hH ?_; refine tk 11 117 hH ?_; refine tk 12 118 hH ?_; refine tk 14 120 hH ?_; refine tk 15 121 hH ?_; refine tk 16 122 hH ?_; refine tk 17 123 hH ?_; refine tk 18 124 hH ?_; refine tk 19 125 hH ?_; refine tk 20 126 hH ?_; refine tk 21 127 hH ?_; refine tk 22 128 hH ?_; refine tk 23 129 hH ?_; refine tk 24 130 hH ?_
         refine wpAnyH_ready (rs := [13]) (by kernel_rfl) (by simp) ?_
         refine AllReadyH.cons rfl (fun K hK => ?_) AllReadyH.nil
         go_simp
         refine hK.out _ _ hH (fun hH => ?_)
         clear hK K
         try simp only [Act.put, sI, sZ, sS]
         refine wpAnyH_ready (rs := [25]) (by kernel_rfl) (by simp) ?_
         refine AllReadyH.cons rfl (fun K hK => ?_) AllReadyH.nil
         go_simp
         refine (KT.out _ bR.drew).mono ?_
         rintro e w2 ⟨ta2, m2, tc2, rfl, hown2, hsz2, hblk2, hat2, hbel2⟩
         obtain ⟨o1, o2, o3, o4⟩ := HOTH.out wr.drew w2 bR.drew hblk2
         have s1 : w2.cell? ⟨g, i * 3 + 2, none⟩ = some (.slice (some ⟨bb, 0, none⟩) na bc) := (cell_blk2 o1 _).trans g2
         have s2 : w2.cell? ⟨w.heap.size + 1, 1, none⟩ = some (.slice (some ⟨rb, ro, none⟩) rn rc) := (cell_blk2 o4 _).trans k1
         have s3 : w2.cell? ⟨w.heap.size, 12, none⟩ = some (.slice (some ⟨ab, ao, none⟩) na x.ac) := (cell_blk2 o3 _).trans v12
         have s4 : w2.cell? ⟨ab, ao + k * 2 + 1, none⟩ = some (.int .i64 (cl : Int)) := (hbel2.cell (p := ⟨ab, ao + k * 2 + 1, none⟩) lab).trans b1
         have s5 : w2.cell? ⟨rb, ro + cl * 3, none⟩ = some (.int .i64 ck) := (hbel2.cell (p := ⟨rb, ro + cl * 3, none⟩) lrb).trans x1
         have s6 : w2.cell? ⟨rb, ro + cl * 3 + 1, none⟩ = some (.int .i64 cn) := (hbel2.cell (p := ⟨rb, ro + cl * 3 + 1, none⟩) lrb).trans x2
         have s7 : w2.cell? ⟨rb, ro + cl * 3 + 1 + 1, none⟩ = some (.string cs) := (hbel2.cell (p := ⟨rb, ro + cl * 3 + 1 + 1, none⟩) lrb).trans x3
         have s8 : w2.cell? ⟨bb, k, none⟩ = some (.slice ta ln tc) := (cell_blk2 o2 _).trans t1
         have s9 : w2.frozen? ⟨bb, k, none⟩ = false := (World.frozen?_of_block (w := wr.drew) o2).trans tf
         go_wp2_with fail
         refine hK.out _ _ ⟨s1, s2, s3, s4, s5, s6, s7⟩ (fun hH => ?_)
         clear hK K
         try simp only [Act.put, sI, sZ, sS]
         refine tk 26 105 hH ?_; refine tk 27 132 hH ?_; refine tk 28 133 hH ?_; refine tk 29 134 hH ?_
         refine wpAnyH_ready (rs := [30]) (by kernel_rfl) (by simp) ?_
         refine AllReadyH.cons rfl (fun K hK => ?_) AllReadyH.nil
         go_simp
         refine hK.out _ _ ⟨by go_simp, by go_simp, by go_simp, by go_simp, by go_simp, by go_simp, by go_simp⟩ (fun hH => ?_)
         clear hK K
         try simp only [Act.put, sI, sZ, sS]
         refine tk 31 12 hH ?_
         refine wpAnyH_done (by kernel_rfl) ?_ _
         have htk : (bs.take k).length = k := by rw [List.length_take]; omega
         have HEG2 : Hid (EG (w2.setCell ⟨bb, k, none⟩ (.slice ta2 m2 tc2)) W0.heap.size (.slice (some ⟨g, 0, none⟩) LN cap2) (A ++ (⟨y.rv, y.row, YN + d, y.bv, bs.take k ++ (.slice ta2 m2 tc2, talR d l ⟨ck, cn, cs⟩) :: bs.drop (k + 1)⟩ : GO) :: B) E) := by
          have h := (HR.out.below bR.drew).putB (w2 := w2) (x := (⟨y.rv, y.row, YN + d, y.bv, bs⟩ : GO)) (b' := (.slice ta2 m2 tc2, talR d l ⟨ck, cn, cs⟩)) HSP.out HYB.out hsz2 (by rw [HLN2.out]; exact hblk2) hown2 (by rw [HLN2.out]; exact hat2)
          rw [htk] at h
          exact h
         have hbV2 : Below W0.heap.size W0 (w2.setCell ⟨bb, k, none⟩ (.slice ta2 m2 tc2)) := (hbr.drew.trans hbel2).setCell (p := ⟨bb, k, none⟩) lbL _
         have HB1 : Hid (bsT d p.aggs r (k + 1) y.bs (bs.take k ++ (.slice ta2 m2 tc2, talR d l ⟨ck, cn, cs⟩) :: bs.drop (k + 1))) := by
          have h := bsT_next HBS.out (by rw [HBL.out]; exact hkn) (by rw [HFC.out]; exact hfn) (.slice ta2 m2 tc2)
          rw [HBD.out, HFC.out] at h
          dsimp only at h
          rw [Int.toNat_natCast, HC.out] at h
          exact h
         have HKK : Hid (tkB d p.aggs r k (y.bs.getD k (.slice none 0 0, [])).2 = talOk d l ⟨ck, cn, cs⟩) := by
          show _ = _
          unfold tkB
          rw [HFC.out, ← HLB.out]
          dsimp only
          rw [Int.toNat_natCast, HC.out, decide_eq_false hfn, Bool.false_or]
         generalize (w2.setCell ⟨bb, k, none⟩ (.slice ta2 m2 tc2)) = V2 at HEG2 hbV2 ⊢
         obtain ⟨OK, hOK⟩ : ∃ z, talOk d l ⟨ck, cn, cs⟩ = z := ⟨_, rfl⟩
         have HOK : Hid (talOk d l ⟨ck, cn, cs⟩ = OK) := hOK
         rw [hOK]
         clear hown2 hsz2 hblk2 hat2 hbel2 o1 o2 o3 o4 s1 s2 s3 s4 s5 s6 s7 s8 s9 hOK KT HOTH t1 tf g2 k1 v12 b0 b1 x1 x2 x3 HR hbr
         cases OK with
         | false =>
          have HD : Hid (D = (9, [])) := by
           show _ = _
           have hd : d = -1 := by
            rcases HM2.out with h | h
            ·exfalso
             have h2 := HOK.out
             unfold talOk at h2
             rw [h] at h2
             simp at h2
            ·exact h
           have hno : mayG p r y.grp = false := by
            refine may_not (by rw [HBL.out, HNA.out]) (j := k) (by rw [HNA.out]; exact hkn) ?_
            rw [← hd, HKK.out]; exact HOK.out
           rw [HRES.out, hd]
           unfold restG
           rw [if_neg (by decide), if_pos hno]
          go_wp2
          go_ret2
          exact ⟨.inl ⟨by rw [HD.out]; decide, _, ret_turn (by rw [HD.out])⟩, hbV2⟩
         | true =>
          have HT1 : Hid (∀ j, j < k + 1 → tkB d p.aggs r j (y.bs.getD j (.slice none 0 0, [])).2 = true) := fun j hj => by
           rcases Nat.lt_or_ge j k with h | h
           ·exact HTK.out j h
           ·have : j = k := by omega
            subst this
            rw [HKK.out]; exact HOK.out
          go_wp2
          go_roundw
          case rel => exact ⟨k + 1, _, by omega, by go_num, HB1, HT1, HEG2, hbV2⟩
          case measure => simp [intOf]; omega
       ·have hke : k = na := by omega
        have hh := HR.out.og.head
        have hlen9 : (A ++ (⟨y.rv, y.row, YN + d, y.bv, bs⟩ : GO) :: B).length = LN := by rw [HLL.out]; simp; omega
        rw [hlen9] at hh
        have eAy : (A ++ (⟨y.rv, y.row, YN + d, y.bv, bs⟩ : GO) :: B).getD A.length default = (⟨y.rv, y.row, YN + d, y.bv, bs⟩ : GO) := by simp [List.getD_eq_getElem?_getD]
        have zc := (gcells_at (A ++ (⟨y.rv, y.row, YN + d, y.bv, bs⟩ : GO) :: B) A.length (by simp)).2.1
        rw [eAy, HA.out] at zc
        dsimp only at zc
        have g1 := own_cell2 hh (i * 3 + 1) _ zc
        have HBS2 : Hid (bsT d p.aggs r p.aggs.length y.bs bs) := by rw [HNA.out, ← hke]; exact HBS.out
        have HTK2 : Hid (∀ j, j < p.aggs.length → tkB d p.aggs r j (y.bs.getD j (.slice none 0 0, [])).2 = true) := by rw [HNA.out, ← hke]; exact HTK.out
        have HBL2 : Hid (y.bs.length = p.aggs.length) := by show _ = _; rw [HBL.out, HNA.out]
        have hcap := own_capN hh
        have HOW : Hid (wr.ownsRow W0.heap.size 53 3 (.slice (some ⟨g, 0, none⟩) LN cap2) LN (gcells A ++ [y.rv, .int .i64 (YN + d), y.bv] ++ gcells B)) := by
         have e : gcells (A ++ (⟨y.rv, y.row, YN + d, y.bv, bs⟩ : GO) :: B) = gcells A ++ [y.rv, .int .i64 (YN + d), y.bv] ++ gcells B := by rw [gcells_app, List.append_assoc]; rfl
         rw [e] at hh
         exact hh
        clear hh hlen9 eAy zc HBS HTK HBL k1 HAG HRW F8 hke
        by_cases hz : YN + d = 0
        ·have hd : d = -1 := by rcases HM2.out with h | h <;> omega
         have HD : Hid (D = (0, (A ++ B).map GO.grp)) := by
          show _ = _
          have hmy : mayG p r y.grp = true := may_of HBL2.out (by rw [← hd]; exact HTK2.out)
          rw [HRES.out, hd]
          unfold restG
          have e : y.grp.n - 1 = 0 := by have e2 : y.grp.n = YN := HYN.out; rw [e2]; omega
          rw [if_neg (by decide), if_neg (by rw [hmy]; decide), if_pos e, List.map_append]
         have hone : ∀ u ∈ gcells B, u.oneCell' = true := gcells_one B (fun z hz2 => HR.out.og.one z (List.mem_append.2 (.inr (List.mem_cons_of_mem _ hz2))))
         obtain ⟨i0, hii, hz0, hz1, hz2⟩ := info_parts infoG
         obtain ⟨m, hm⟩ : ∃ z, LN - (i + 1) = z := ⟨_, rfl⟩
         have hnm : LN = i + 1 + m := by omega
         have hBm : B.length = m := by have := HLL.out; have := HA.out; omega
         have HLA : Hid ((gcells A).length = i * 3) := by show _ = _; rw [gcells_len, HA.out]
         have HLC : Hid ((gcells B).length = m * 3) := by show _ = _; rw [gcells_len, hBm]
         obtain ⟨aq, had⟩ : ∃ a : Addr, (if cap2 = i + 1 then (⟨g, 0, none⟩ : Addr) else ⟨g, (i + 1) * 3, none⟩) = a := ⟨_, rfl⟩
         have hA2 : (if cap2 = i + 1 then some (⟨g, 0, none⟩ : Addr) else some ⟨g, (i + 1) * 3, none⟩) = some aq := by rw [← had]; split <;> rfl
         obtain ⟨w5, yy, hrun5, hown5, hyl, hs5, hb5, hbel5⟩ := own_out (w := wr.drew) (n := LN) (ch.own_below HOW.out bR.drew) 26 i0 Tryz.underlying26 hii hz1 26 i m HLA.out rfl HLC.out hnm hone aq (fun h => by rw [← had]; exact if_neg (by omega)) (cap2 - (i + 1))
         have hABl : (A ++ B).length = i + m := by rw [List.length_append, HA.out, hBm]
         have HF : Hid (OG w5 W0.heap.size (.slice (some ⟨g, 0, none⟩) (A ++ B).length cap2) (A ++ B) ∧ Below W0.heap.size W0 w5 ∧ (A ++ B).length = i + m) := by
          refine ⟨?_, hbr.drew.trans (hbel5.mono hgL), hABl⟩
          refine HR.out.del (by rw [hs5]; exact Nat.le_refl _) (fun b hb hne => hb5 b (fun e => hne (by rw [e]; rfl))) ?_ (fun g' hg' => .inl hg')
          have h1 := ch.own_front hown5 (i + m) (by omega)
          have e5 : ((gcells A ++ gcells B ++ yy).take ((i + m) * 3)) = gcells (A ++ B) := by
           rw [List.take_append_of_le_length (by rw [List.length_append, HLA.out, HLC.out]; omega), List.take_of_length_le (by rw [List.length_append, HLA.out, HLC.out]; omega), gcells_app]
          rw [e5] at h1
          rw [hABl]
          exact h1
         have HR1 : Hid ((Builtin.append_ #[26, 26] 26 #[.slice (some ⟨g, 0, none⟩) i cap2, .slice (some aq) m (cap2 - (i + 1))]).run Tryz.prog wr.drew = .ok (.slice (some ⟨g, 0, none⟩) (i + m) cap2) w5) := hrun5
         have mixed : Tryz.prog.follows .mixedOrders = true := by kernel_rfl
         have hc1 := hcap.1
         have hc2 := hcap.2
         have e4 : (i : Int) + 1 ≤ (LN : Int) := by omega
         have e5 : (LN : Int) ≤ (cap2 : Int) := by omega
         have e6 : ((i : Int) + 1).toNat = i + 1 := by omega
         have e7 : (0 : Int) ≤ (i : Int) + 1 := by omega
         have e8 : (i : Int) ≤ (LN : Int) := by omega
         have e9 : i ≤ LN := by omega
         have e10 : LN - (i + 1) = m := hm
         have e11 : i ≤ cap2 := by omega
         have e12 : (i : Int) ≤ (cap2 : Int) := by omega
         have hwp : IntKind.i64.wrap ((i : Int) + 1) = (i : Int) + 1 := by rw [IntKind.wrap_i64]; unfold maxLen at hc2; omega
         have hz' : (YN + d == 0) = true := by simpa using hz
         clear had hrun5 hown5 hs5 hb5 hbel5 hyl hz0 hz1 hz2 hii hm hnm hd hone HR HOW hbr hABl hBm
         go_wp2
         go_region_law_o (refine step_append_runI rfl _ _ 26 26 rfl (.slice (some ⟨g, 0, none⟩) i cap2) (.slice (some aq) m (cap2 - (i + 1))) (by simp [Act.eval, Act.put]) (by simp [Act.eval, Act.put, hA2, e10]) HR1.out ?_)
         go_wp2
         go_ret2
         exact ⟨.inr ⟨by rw [HD.out], some ⟨g, 0, none⟩, cap2, A ++ B, by rw [HF.out.2.2]; rfl, HF.out.1, by rw [HD.out]⟩, HF.out.2.1⟩
        ·have HD : Hid (D.1 = 0 ∧ (A ++ (⟨y.rv, y.row, YN + d, y.bv, bs⟩ : GO) :: B).map GO.grp = D.2) := by
          have e2 : y.grp.n = YN := HYN.out
          rcases HM2.out with hd | hd
          ·have e3 : D = (0, A.map GO.grp ++ comeG p r y.grp :: B.map GO.grp) := by
            rw [HRES.out, hd]; unfold restG; rw [if_pos rfl]
           rw [e3]
           refine ⟨rfl, ?_⟩
           have hb := HBS2.out
           rw [hd] at hb
           have e4 := bsT_come hb HBL2.out
           rw [List.map_append, List.map_cons]
           congr 2
           unfold comeG GO.grp
           dsimp only
           rw [e4, hd, HYN.out]
          ·have hmy : mayG p r y.grp = true := may_of HBL2.out (by rw [← hd]; exact HTK2.out)
           have e3 : D = (0, A.map GO.grp ++ goG p r y.grp :: B.map GO.grp) := by
            rw [HRES.out, hd]; unfold restG; rw [if_neg (by decide), if_neg (by rw [hmy]; decide), if_neg (by rw [e2]; omega)]
           rw [e3]
           refine ⟨rfl, ?_⟩
           have hb := HBS2.out
           rw [hd] at hb
           have e4 := bsT_go hb HBL2.out (by rw [← hd]; exact HTK2.out)
           rw [List.map_append, List.map_cons]
           congr 2
           unfold goG GO.grp
           dsimp only
           rw [e4, hd, HYN.out]
           rfl
         have hz' : (YN + d == 0) = false := by simpa using hz
         have HLE : Hid ((A ++ (⟨y.rv, y.row, YN + d, y.bv, bs⟩ : GO) :: B).length = LN) := by show _ = _; rw [HLL.out]; simp; omega
         go_wp2
         go_ret2
         exact ⟨.inr ⟨HD.out.1, some ⟨g, 0, none⟩, cap2, _, by rw [HLE.out]; rfl, by rw [HLE.out]; exact HR.out.og, HD.out.2⟩, hbr⟩
end Go.Proofs.YtbfbgdinhiglaaaGreat.gr
